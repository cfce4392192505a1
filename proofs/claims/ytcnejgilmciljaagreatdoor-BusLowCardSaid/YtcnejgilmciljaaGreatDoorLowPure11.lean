/-
  Ports that are the same but for what is secret: what is answered, and what becomes of them.
-/
import Derived.Test.YtcnejgilmciljaaGreatDoorB8
import Derived.Test.YtcnejgilmciljaaGreatDoorLoop11
set_option linter.unusedSimpArgs false
set_option linter.unusedVariables false
namespace Go.Proofs.YtcnejgilmciljaaGreatDoor
open Go.RowKit Go.PlainAid

def byteI (x : Int) : Prop := 0 ≤ x ∧ x ≤ 255
theorem byte_of {x : Int} (h : byteI x) : ∃ a : BitVec 8, x = u8 a := u8_of x h.1 (by have := h.2; omega)
theorem bv_or_of (a b t : BitVec 8) (h : a &&& ~~~t = b &&& ~~~t) : a ||| t = b ||| t := by
  have e : ∀ x : BitVec 8, x ||| t = (x &&& ~~~t) ||| t := fun x => by
    ext i hi
    simp only [BitVec.getElem_or, BitVec.getElem_and, BitVec.getElem_not]
    cases x[i] <;> cases t[i] <;> rfl
  rw [e a, e b, h]
theorem bv_turn (v t x : BitVec 8) : (v ^^^ (t &&& x)) &&& ~~~t = v &&& ~~~t := by
  ext i hi
  simp only [BitVec.getElem_xor, BitVec.getElem_and, BitVec.getElem_not]
  cases v[i] <;> cases t[i] <;> cases x[i] <;> rfl
theorem bv_ones (x : BitVec 8) : x ||| 255#8 = 255#8 := by
  ext i hi
  simp only [BitVec.getElem_or]
  have : (255#8)[i] = true := by
    have : 255#8 = BitVec.allOnes 8 := by decide
    rw [this, BitVec.getElem_allOnes]
  rw [this, Bool.or_true]
theorem or_of_alike {a b t : Int} (ha : byteI a) (hb : byteI b) (ht : byteI t) (h : bits .andNot .u8 a t = bits .andNot .u8 b t) : bits .or .u8 a t = bits .or .u8 b t := by
  obtain ⟨a, rfl⟩ := byte_of ha
  obtain ⟨b, rfl⟩ := byte_of hb
  obtain ⟨t, rfl⟩ := byte_of ht
  rw [u8_andNot, u8_andNot, u8_inj] at h
  rw [u8_or, u8_or, bv_or_of a b t h]
theorem or_ones {a b : Int} (ha : byteI a) (hb : byteI b) : bits .or .u8 a 255 = bits .or .u8 b 255 := by
  obtain ⟨a, rfl⟩ := byte_of ha
  obtain ⟨b, rfl⟩ := byte_of hb
  rw [← u8_ones, u8_or, u8_or, bv_ones, bv_ones]
/-- The other one's byte: other secret bits. -/
structure TurnR (v t v' : Int) : Prop where
  b : byteI v'
  z : t = 0 → v' = v
  e : bits .andNot .u8 v t = bits .andNot .u8 v' t
theorem turn_same {v t : Int} (hv : byteI v) : TurnR v t v := ⟨hv, fun _ => rfl, rfl⟩
theorem turn_xor {v t x : Int} (hv : byteI v) (ht : byteI t) (hx : byteI x) : TurnR v t (bits .xor .u8 v (bits .and .u8 t x)) := by
  obtain ⟨v, rfl⟩ := byte_of hv
  obtain ⟨t, rfl⟩ := byte_of ht
  obtain ⟨x, rfl⟩ := byte_of hx
  rw [u8_and, u8_xor]
  refine ⟨⟨u8_lo _, by have := u8_hi (v ^^^ t &&& x); omega⟩, fun h => ?_, ?_⟩
  · rw [← u8_zero, u8_inj] at h
    subst h
    rw [u8_inj]
    simp
  · rw [u8_andNot, u8_andNot, bv_turn]
/-- The same but for what is secret, and all of it bytes. -/
structure LowB (S T : Po) : Prop where
  pub : S.pub = T.pub
  sec : S.sec.length = T.sec.length
  out : S.out = T.out
  kept : AlikeL S.kept T.kept
  cyc : S.cyc = T.cyc
  told : S.told = T.told
  b1 : ∀ x ∈ S.sec, byteI x
  b2 : ∀ x ∈ T.sec, byteI x
  b3 : ∀ x ∈ S.kept, byteI x.1 ∧ byteI x.2
  b4 : ∀ x ∈ T.kept, byteI x.1 ∧ byteI x.2
theorem LowB.r {S T : Po} (h : LowB S T) : LowR S T := ⟨h.pub, h.sec, h.out, h.kept, by unfold Po.log; rw [h.cyc, h.told]⟩
theorem AlikeL.symm {l m : List (Int × Int)} (h : AlikeL l m) : AlikeL m l := ⟨h.len.symm, fun j a b h1 h2 => by obtain ⟨e1, e2⟩ := h.at_ j b a h2 h1; exact ⟨e1.symm, e2.symm⟩⟩
theorem LowR.symm {S T : Po} (h : LowR S T) : LowR T S := ⟨h.pub.symm, h.sec.symm, h.out.symm, h.kept.symm, h.log.symm⟩
theorem byte_zero : byteI 0 := ⟨by decide, by decide⟩
theorem head_byte {l : List Int} (h : ∀ x ∈ l, byteI x) : byteI (l.headD 0) := by
  cases l with
  | nil => exact byte_zero
  | cons x r => exact h x (by simp)
theorem lastK_mem {l : List (Int × Int)} (h : ∀ x ∈ l, byteI x.1 ∧ byteI x.2) : byteI (lastB l).1 ∧ byteI (lastB l).2 := by
  unfold lastB
  by_cases hl : l = []
  · subst hl; exact ⟨byte_zero, byte_zero⟩
  · rw [List.getLastD_eq_getLast?, List.getLast?_eq_some_getLast hl]
    exact h _ (List.getLast_mem hl)
theorem lastK_alike {l m : List (Int × Int)} (h : AlikeL l m) : alikeB (lastB l) (lastB m) := by
  by_cases hl : l.length = 0
  · have e1 : l = [] := List.length_eq_zero_iff.1 hl
    have e2 : m = [] := List.length_eq_zero_iff.1 (by rw [← h.len]; exact hl)
    rw [e1, e2]; exact ⟨rfl, rfl⟩
  · obtain ⟨n, hn⟩ : ∃ n, l.length = n + 1 := ⟨l.length - 1, by omega⟩
    have hm : m.length = n + 1 := by rw [← h.len]; exact hn
    rw [lastK_snoc l n hn, lastK_snoc m n hm]
    exact h.at_ n _ _ (List.getElem?_eq_getElem (by omega)) (List.getElem?_eq_getElem (by omega))
theorem low_read {S T : Po} (h : LowB S T) (reg : Int) : (rdPo S reg).2.1 = (rdPo T reg).2.1 ∧ (rdPo S reg).2.2 = (rdPo T reg).2.2 ∧ bits .or .u8 (rdPo S reg).1 (rdPo S reg).2.1 = bits .or .u8 (rdPo T reg).1 (rdPo T reg).2.1 ∧ ((rdPo S reg).2.1 ≠ 0 → reg = 1 ∨ reg = 3) := by
  unfold rdPo
  split
  · exact ⟨rfl, rfl, by rw [h.pub], fun h => absurd rfl h⟩
  · split
    · rename_i e
      exact ⟨rfl, rfl, or_ones (head_byte h.b1) (head_byte h.b2), fun _ => .inl e⟩
    · split
      · exact ⟨rfl, rfl, by rw [h.out], fun h => absurd rfl h⟩
      · split
        · rename_i e
          have hk := lastK_alike h.kept
          have h1 := lastK_mem h.b3
          have h2 := lastK_mem h.b4
          refine ⟨hk.1, rfl, ?_, fun _ => .inr e⟩
          dsimp only
          rw [← hk.1]
          exact or_of_alike h1.1 h2.1 h1.2 (by rw [hk.2, hk.1])
        · split
          · exact ⟨rfl, rfl, by rw [h.told], fun h => absurd rfl h⟩
          · exact ⟨rfl, rfl, rfl, fun h => absurd rfl h⟩
theorem low_readS {S T : Po} (h : LowB S T) (reg : Int) : LowB (readS S reg) (readS T reg) := by
  obtain ⟨h1, h2, h3, h4, h5, h6, h7, h8, h9, h10⟩ := h
  unfold readS
  split
  · exact ⟨by dsimp only; rw [h1], h2, h3, h4, h5, h6, h7, h8, h9, h10⟩
  · split
    · exact ⟨h1, by dsimp only; rw [List.length_tail, List.length_tail, h2], h3, h4, h5, h6, fun x hx => h7 x (List.mem_of_mem_tail hx), fun x hx => h8 x (List.mem_of_mem_tail hx), h9, h10⟩
    · exact ⟨h1, h2, h3, h4, h5, h6, h7, h8, h9, h10⟩
theorem alike_snoc {l m : List (Int × Int)} (h : AlikeL l m) {a b : Int × Int} (hab : alikeB a b) : AlikeL (l ++ [a]) (m ++ [b]) := by
  refine ⟨by rw [List.length_append, List.length_append, h.len]; rfl, fun j x y hx hy => ?_⟩
  by_cases hj : j < l.length
  · rw [List.getElem?_append_left hj] at hx
    rw [List.getElem?_append_left (by rw [← h.len]; exact hj)] at hy
    exact h.at_ j x y hx hy
  · rw [List.getElem?_append_right (by omega)] at hx
    rw [List.getElem?_append_right (by rw [← h.len]; omega), ← h.len] at hy
    obtain ⟨k, hk⟩ : ∃ k, j - l.length = k := ⟨_, rfl⟩
    rw [hk] at hx hy
    match k, hx, hy with
    | 0, hx, hy =>
      obtain rfl : a = x := by simpa using hx
      obtain rfl : b = y := by simpa using hy
      exact hab
    | k + 1, hx, _ => simp at hx
theorem low_writeE {S T : Po} (h : LowB S T) (reg t : Int) : writeE S reg t = writeE T reg t := by
  unfold writeE
  rw [h.out, h.kept.len, h.told]
theorem low_writeS {S T : Po} (h : LowB S T) (reg v t cy v' : Int) (hv : byteI v) (ht : byteI t) (hr : TurnR v t v') (hd : ¬ (reg = 4 ∧ t ≠ 0)) : LowB (wrPo S reg v t cy) (wrPo T reg v' t cy) := by
  have hE := low_writeE h reg t
  unfold wrPo
  rw [← hE]
  obtain ⟨h1, h2, h3, h4, h5, h6, h7, h8, h9, h10⟩ := h
  split
  · exact ⟨h1, h2, h3, h4, h5, h6, h7, h8, h9, h10⟩
  · rename_i hz
    split
    · rename_i e
      have ht0 : t = 0 := by
        by_cases h0 : t = 0
        · exact h0
        · exfalso
          apply hz
          have := ht.1
          unfold writeE
          rw [if_neg (by omega), if_pos (by omega)]
          decide
      exact ⟨h1, h2, by dsimp only; rw [h3, hr.z ht0], h4, h5, h6, h7, h8, h9, h10⟩
    · split
      · refine ⟨h1, h2, h3, alike_snoc h4 ⟨rfl, hr.e⟩, h5, h6, h7, h8, fun x hx => ?_, fun x hx => ?_⟩
        · rcases List.mem_append.1 hx with hx | hx
          · exact h9 x hx
          · obtain rfl : x = (v, t) := by simpa using hx
            exact ⟨hv, ht⟩
        · rcases List.mem_append.1 hx with hx | hx
          · exact h10 x hx
          · obtain rfl : x = (v', t) := by simpa using hx
            exact ⟨hr.b, ht⟩
      · split
        · rename_i e
          have ht0 : t = 0 := by
            by_cases h0 : t = 0
            · exact h0
            · exact absurd ⟨e, h0⟩ hd
          exact ⟨h1, h2, h3, h4, by dsimp only; rw [h5], by dsimp only; rw [h6, hr.z ht0], h7, h8, h9, h10⟩
        · exact ⟨h1, h2, h3, h4, h5, h6, h7, h8, h9, h10⟩
/-- Two of the program's ports, apart, above what was there. -/
structure TwoI (N : Nat) (W0 : World) (pb qb : Nat) (S T : Po) (F G F2 G2 : Nat → Prop) (w : World) : Prop where
  p : PO pb S F G w
  q : PO qb T F2 G2 w
  apt : Apart F G F2 G2
  bel : Below N W0 w
  lowF : ∀ k, F k → N ≤ k
  lowQ : ∀ k, F2 k → N ≤ k
section
variable {N pb qb : Nat} {S T S' T' : Po} {F G F2 G2 F' G' : Nat → Prop} {W0 w u : World}
theorem TwoI.symm (h : TwoI N W0 pb qb S T F G F2 G2 w) : TwoI N W0 qb pb T S F2 G2 F G w := ⟨h.q, h.p, h.apt.symm, h.bel, h.lowQ, h.lowF⟩
theorem TwoI.below (h : TwoI N W0 pb qb S T F G F2 G2 w) (hN : N ≤ W0.heap.size) (hb : Below w.heap.size w u) : TwoI N W0 pb qb S T F G F2 G2 u :=
  ⟨(PO.frm _ _).below h.p hb, (PO.frm _ _).below h.q hb, h.apt, h.bel.trans (hb.mono (Nat.le_trans hN h.bel.size)), h.lowF, h.lowQ⟩
theorem TwoI.move (h : TwoI N W0 pb qb S T F G F2 G2 w) (hN : N ≤ W0.heap.size) (hM : Mv F G F' G' w u) (hP : PO pb S' F' G' u) : TwoI N W0 pb qb S' T F' G' F2 G2 u := by
  have hz := h.bel.size
  exact ⟨hP, hM.stay (PO.frm _ _) h.q h.apt, hM.apart (PO.frm _ _) h.q h.apt, hM.lowB h.bel h.lowF hN, fun k hk => (hM.f k hk).elim (h.lowF k) (fun h1 => by omega), h.lowQ⟩
theorem TwoI.moveQ (h : TwoI N W0 pb qb S T F G F2 G2 w) (hN : N ≤ W0.heap.size) (hM : Mv F2 G2 F' G' w u) (hP : PO qb T' F' G' u) : TwoI N W0 pb qb S T' F G F' G' u := (h.symm.move hN hM hP).symm
theorem TwoI.newF (h : TwoI N W0 pb qb S T F G F2 G2 w) {k : Nat} (hk : w.heap.size ≤ k) : ¬ F k := fun hf => by have := (PO.frm _ _).lt h.p k ((PO.frm _ _).sub h.p k hf); omega
theorem TwoI.newQ (h : TwoI N W0 pb qb S T F G F2 G2 w) {k : Nat} (hk : w.heap.size ≤ k) : ¬ F2 k := h.symm.newF hk
end
end Go.Proofs.YtcnejgilmciljaaGreatDoor
