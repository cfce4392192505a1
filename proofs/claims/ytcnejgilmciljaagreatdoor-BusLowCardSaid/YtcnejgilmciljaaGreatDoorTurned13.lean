/-
  Buses that are the same but for secrets: what is answered, and what becomes of them; the bus of a setup whose secrets are others.
  BusLow: two buses in a law's loop; a byte whose secret bits are others.
  BusLow: a setup whose secrets are others, as the law makes it; a byte whose secret bits are others.
-/
import Derived.Test.YtcnejgilmciljaaGreatDoorDevs13
import Derived.Test.YtcnejgilmciljaaGreatDoorLowPure11
import Derived.Test.YtcnejgilmciljaaGreatDoorProgw10
import Derived.Test.YtcnejgilmciljaaGreatDoorPlanXD
set_option linter.unusedSimpArgs false
set_option linter.unusedVariables false
namespace Go.Proofs.YtcnejgilmciljaaGreatDoor
open Go.RowKit Go.PlainAid

theorem sameI_iff (a b : Int × Int) : sameI a b = true ↔ a.2 = b.2 ∧ bits .andNot .u8 a.1 a.2 = bits .andNot .u8 b.1 b.2 := by unfold sameI; simp
theorem turn_sameI {v t v' : Int} (h : TurnR v t v') : sameI (v, t) (v', t) = true := (sameI_iff _ _).2 ⟨rfl, h.e⟩
theorem bv_andNot_ones (x : BitVec 8) : x &&& ~~~255#8 = 0#8 := by
  have : ~~~255#8 = 0#8 := by decide
  rw [this]
  ext i hi
  simp
theorem andNot_ones {a b : Int} (ha : byteI a) (hb : byteI b) : bits .andNot .u8 a 255 = bits .andNot .u8 b 255 := by
  obtain ⟨a, rfl⟩ := byte_of ha
  obtain ⟨b, rfl⟩ := byte_of hb
  rw [← u8_ones, u8_andNot, u8_andNot, bv_andNot_ones, bv_andNot_ones]
theorem turn_swap {v t x : Int} (hv : byteI v) (ht : byteI t) (hx : byteI x) : TurnR v t (bits .xor .u8 v (bits .and .u8 x t)) := by
  have h := turn_xor hv ht hx
  obtain ⟨t, rfl⟩ := byte_of ht
  obtain ⟨x, rfl⟩ := byte_of hx
  rw [u8_and, BitVec.and_comm] at h
  rw [u8_and]
  exact h
theorem xor_byte {v x : Int} (hv : byteI v) (hx : byteI x) : byteI (bits .xor .u8 v x) := by
  obtain ⟨v, rfl⟩ := byte_of hv
  obtain ⟨x, rfl⟩ := byte_of hx
  rw [u8_xor]
  exact ⟨u8_lo _, by have := u8_hi (v ^^^ x); omega⟩
theorem low_readI {S T : Po} (h : LowB S T) (reg : Int) : sameI ((rdPo S reg).1, (rdPo S reg).2.1) ((rdPo T reg).1, (rdPo T reg).2.1) = true := by
  unfold rdPo
  split
  · rw [h.pub]; exact sameI_refl _
  · split
    · exact (sameI_iff _ _).2 ⟨rfl, andNot_ones (head_byte h.b1) (head_byte h.b2)⟩
    · split
      · rw [h.out]; exact sameI_refl _
      · split
        · have hk := lastK_alike h.kept
          exact (sameI_iff _ _).2 hk
        · split
          · rw [h.told]; exact sameI_refl _
          · exact sameI_refl _
/-- The same but for secrets, at every address. -/
def SamF (M N : Int → Int × Int) : Prop := ∀ k : Int, sameI (M k) (N k) = true
theorem SamF.set {M N : Int → Int × Int} (h : SamF M N) (a : Int) {x y : Int × Int} (hx : sameI x y = true) : SamF (setM M a x) (setM N a y) := fun k => by
  unfold setM
  split
  · exact hx
  · exact h k
structure LowX (B C : Bs) : Prop where
  m : SamF B.M C.M
  s : LowB B.S C.S
  t : B.T = C.T
  w : B.W = C.W
  n : B.n = C.n
theorem LowX.q {B C : Bs} (h : LowX B C) : LowQ B C := ⟨(sameM_iff _ _).2 fun k _ => h.m k, h.s.r, h.t, h.w, h.n⟩
theorem LowX.rd {B C : Bs} (h : LowX B C) (a : Int) : sameI ((rdB (memV B.M) B.T B.S B.W a).1, (rdB (memV B.M) B.T B.S B.W a).2.1) ((rdB (memV C.M) C.T C.S C.W a).1, (rdB (memV C.M) C.T C.S C.W a).2.1) = true ∧ (rdB (memV B.M) B.T B.S B.W a).2.2 = (rdB (memV C.M) C.T C.S C.W a).2.2 := by
  rw [rdB_err, rdB_err]
  refine ⟨?_, rfl⟩
  unfold rdB
  rw [h.t, h.w]
  split
  · exact sameI_refl _
  · split
    · show sameI (memV B.M a) (memV C.M a) = true
      unfold memV
      split
      · exact h.m a
      · exact sameI_refl _
    · split
      · exact sameI_refl _
      · split
        · exact low_readI h.s _
        · split <;> exact sameI_refl _
theorem LowX.read {B C : Bs} (h : LowX B C) (a : Int) : LowX (rdQ B a) (rdQ C a) := by
  unfold rdQ
  split
  · exact h
  · refine ⟨h.m, ?_, by rw [h.t], h.w, by rw [h.n]⟩
    show LowB (rdPs B.S a) (rdPs C.S a)
    unfold rdPs
    split
    · exact low_readS h.s _
    · exact h.s
theorem wrB_sink {S : Po} {a t : Int} (h0 : 0 ≤ a) (h1 : a ≤ 65535) (hd : devB a = true) (hp : ¬ (32772 ≤ a ∧ a < 32777)) (ht : 0 ≤ t) (hz : (wrB S a t).2 = 0) : t = 0 := by
  unfold wrB at hz
  rw [if_neg (by omega)] at hz
  by_cases h : sinkB a t = true
  · rw [if_pos h] at hz; cases hz
  · unfold sinkB at h
    rw [hd] at h
    simp at h
    unfold devB at hd
    simp at hd
    omega
theorem LowX.wr {B C : Bs} (h : LowX B C) (a t : Int) : wrB B.S a t = wrB C.S a t := by
  unfold wrB
  rw [low_writeE h.s]
theorem LowX.write {B C : Bs} (h : LowX B C) (a v t v' : Int) (hv : byteI v) (ht : byteI t) (hr : TurnR v t v') (hd : ¬ (a = 32776 ∧ t ≠ 0)) : LowX (wrQ B a v t) (wrQ C a v' t) := by
  unfold wrQ
  rw [← h.wr]
  by_cases hz : (wrB B.S a t).2 ≠ 0
  · rw [if_pos hz, if_pos hz]; exact h
  · rw [if_neg hz, if_neg hz]
    have hz0 : (wrB B.S a t).2 = 0 := by simpa using hz
    have hb : 0 ≤ a ∧ a ≤ 65535 := by
      by_cases hc : a < 0 ∨ 65535 < a
      · unfold wrB at hz0; rw [if_pos hc] at hz0; cases hz0
      · omega
    have hdev : devB a = true → ¬ (32772 ≤ a ∧ a < 32777) → v' = v := fun h1 h2 => hr.z (wrB_sink hb.1 hb.2 h1 h2 ht.1 hz0)
    refine ⟨?_, ?_, ?_, ?_, by rw [h.n]⟩
    · show SamF (wrM B.M a v t) (wrM C.M a v' t)
      unfold wrM
      split
      · exact h.m.set a (turn_sameI hr)
      · exact h.m
    · show LowB (wrPs B.S a v t B.n) (wrPs C.S a v' t C.n)
      rw [← h.n]
      unfold wrPs
      split
      · exact low_writeS h.s _ v t _ v' hv ht hr (by omega)
      · exact h.s
    · show tickT (wrT B.T a v) = tickT (wrT C.T a v')
      rw [← h.t]
      unfold wrT
      split
      · rw [hdev (by unfold devB; simp; omega) (by omega)]
      · rfl
    · show wrWh B.W a v = wrWh C.W a v'
      rw [← h.w]
      unfold wrWh
      split
      · rw [hdev (by unfold devB; simp; omega) (by omega)]
      · rfl
/-- A setup whose secrets are others. -/
def turnC (by_ : Int) (x : Ck) : Ck := ⟨x.a, x.l.map (fun b => bits .xor .u8 b (bits .and .u8 by_ x.t)), x.t⟩
def turnS (by_ : Int) (s : Su) : Su := ⟨s.cs.map (turnC by_), s.T, s.pub, s.sec.map (fun b => bits .xor .u8 b by_)⟩
def Su.By (s : Su) : Prop := (∀ x ∈ s.cs, (∀ b ∈ x.l, byteI b) ∧ byteI x.t) ∧ ∀ b ∈ s.sec, byteI b
theorem ckM_at (M : Int → Int × Int) (x : Ck) (k : Int) : ckM M x k = if h : onlyB x.a (lastA x.a x.l.length) = true ∧ x.a ≤ k ∧ k < x.a + x.l.length then (x.l[(k - x.a).toNat]'(by omega), x.t) else M k := by
  unfold ckM loadMp
  by_cases hO : onlyB x.a (lastA x.a x.l.length) = true
  · rw [if_pos hO]
    by_cases hl : 0 < x.l.length
    · rw [if_pos ⟨rfl, hl⟩]
      unfold labelMp
      have e : lastA x.a x.l.length = x.a + x.l.length - 1 := by unfold lastA; rw [if_neg (by omega)]
      rw [e] at hO
      rw [if_pos hO]
      dsimp only
      rw [labelM_at, loadM_at]
      by_cases hk : x.a ≤ k ∧ k < x.a + x.l.length
      · rw [if_pos (by omega), dif_pos hk, dif_pos ⟨by rw [e]; exact hO, hk⟩]
      · rw [if_neg (by omega), dif_neg hk, dif_neg (fun h => hk h.2)]
    · rw [if_neg (fun h => hl h.2)]
      dsimp only
      rw [loadM_at, dif_neg (by omega), dif_neg (by omega)]
  · rw [if_neg hO, if_neg (fun h => by cases h.1), dif_neg (fun h => hO h.1)]
theorem ckM_low {M N : Int → Int × Int} (h : SamF M N) {by_ : Int} (hb : byteI by_) {x : Ck} (hx : (∀ b ∈ x.l, byteI b) ∧ byteI x.t) : SamF (ckM M x) (ckM N (turnC by_ x)) := fun k => by
  rw [ckM_at, ckM_at]
  have el : (turnC by_ x).l.length = x.l.length := by unfold turnC; simp
  have ea : (turnC by_ x).a = x.a := rfl
  by_cases hk : onlyB x.a (lastA x.a x.l.length) = true ∧ x.a ≤ k ∧ k < x.a + x.l.length
  · rw [dif_pos hk, dif_pos (by rw [el, ea]; exact hk)]
    have hm : (x.l[(k - x.a).toNat]'(by omega)) ∈ x.l := List.getElem_mem _
    have e : (turnC by_ x).l[(k - (turnC by_ x).a).toNat]'(by rw [el, ea]; omega) = bits .xor .u8 (x.l[(k - x.a).toNat]'(by omega)) (bits .and .u8 by_ x.t) := by
      unfold turnC
      simp
    rw [e]
    exact turn_sameI (turn_swap (hx.1 _ hm) hx.2 hb)
  · rw [dif_neg hk, dif_neg (by rw [el, ea]; exact hk)]
    exact h k
theorem cksM_low {by_ : Int} (hb : byteI by_) : ∀ (cs : List Ck) {M N : Int → Int × Int}, SamF M N → (∀ x ∈ cs, (∀ b ∈ x.l, byteI b) ∧ byteI x.t) → SamF (cksM cs M) (cksM (cs.map (turnC by_)) N)
  | [], M, N, h, _ => h
  | x :: r, M, N, h, hx => cksM_low hb r (ckM_low h hb (hx x (by simp))) (fun y hy => hx y (by simp [hy]))
theorem lowX_set {s : Su} (hs : s.By) {by_ : Int} (hb : byteI by_) : LowX (suQ s) (suQ (turnS by_ s)) := by
  refine ⟨cksM_low hb s.cs (fun k => sameI_refl _) hs.1, ⟨rfl, ?_, rfl, alikeL_refl _, rfl, rfl, hs.2, ?_, fun x hx => absurd hx (List.not_mem_nil), fun x hx => absurd hx (List.not_mem_nil)⟩, rfl, rfl, rfl⟩
  · show s.sec.length = (s.sec.map _).length
    rw [List.length_map]
  · intro x hx
    obtain ⟨y, hy, rfl⟩ := List.mem_map.1 hx
    exact xor_byte (hs.2 y hy) hb
theorem turnS_few (by_ : Int) (s : Su) : fewS (turnS by_ s) = fewS s := by
  unfold fewS turnS
  dsimp only
  rw [List.length_map, List.length_map, List.all_map]
  congr 2
  funext x
  unfold fewC turnC
  simp
end Go.Proofs.YtcnejgilmciljaaGreatDoor
set_option linter.unusedSimpArgs false
set_option linter.unusedVariables false
namespace Go.Proofs.YtcnejgilmciljaaGreatDoor
open Go.RowKit Go.PlainAid

/-- Two buses, apart, above what was there. -/
structure TwoB (BO : Nat → Bs → Thing) (N : Nat) (w : World) (bb cb : Nat) (B C : Bs) (F G F2 G2 : Nat → Prop) (u : World) : Prop where
  o : BO bb B F G u
  q : BO cb C F2 G2 u
  apt : Apart F G F2 G2
  b : Below w.heap.size w u
  f : ∀ k, F k → N ≤ k
  f2 : ∀ k, F2 k → N ≤ k
section
variable {BO : Nat → Bs → Thing} {N bb cb : Nat} {B C B' C' : Bs} {F G F2 G2 F' G' : Nat → Prop} {w u v : World}
theorem TwoB.symm (h : TwoB BO N w bb cb B C F G F2 G2 u) : TwoB BO N w cb bb C B F2 G2 F G u := ⟨h.q, h.o, h.apt.symm, h.b, h.f2, h.f⟩
theorem TwoB.below (K : BusK BO) (h : TwoB BO N w bb cb B C F G F2 G2 u) (hb : Below u.heap.size u v) : TwoB BO N w bb cb B C F G F2 G2 v :=
  ⟨(K.frm _ _).below h.o hb, (K.frm _ _).below h.q hb, h.apt, Below.trans h.b (hb.mono h.b.size), h.f, h.f2⟩
theorem TwoB.move (K : BusK BO) (h : TwoB BO N w bb cb B C F G F2 G2 u) (hN : w.heap.size ≤ N) (hN2 : N ≤ u.heap.size) (ho : BO bb B' F' G' v) (hM : Mv F G F' G' u v) : TwoB BO N w bb cb B' C F' G' F2 G2 v :=
  ⟨ho, hM.stay (K.frm _ _) h.q h.apt, hM.apart (K.frm _ _) h.q h.apt, hM.lowB h.b (fun k hk => by have := h.f k hk; omega) (Nat.le_refl _), hM.low h.f hN2, h.f2⟩
theorem TwoB.moveC (K : BusK BO) (h : TwoB BO N w bb cb B C F G F2 G2 u) (hN : w.heap.size ≤ N) (hN2 : N ≤ u.heap.size) (ho : BO cb C' F' G' v) (hM : Mv F2 G2 F' G' u v) : TwoB BO N w bb cb B C' F G F' G' v := (h.symm.move K hN hN2 ho hM).symm
theorem TwoB.laid (h : TwoB BO N w bb cb B C F G F2 G2 u) (hL : Laid w) : Laid u := hL.keep (h.b.block 0 hL.lt)
theorem TwoB.new (K : BusK BO) (h : TwoB BO N w bb cb B C F G F2 G2 u) {k : Nat} (hk : u.heap.size ≤ k) : ¬ F k := fun hf => by
  have := (K.frm _ _).lt h.o k ((K.frm _ _).sub h.o k hf); omega
theorem TwoB.newC (K : BusK BO) (h : TwoB BO N w bb cb B C F G F2 G2 u) {k : Nat} (hk : u.heap.size ≤ k) : ¬ F2 k := h.symm.new K hk
end
/-- A call as it lies in the law's row. -/
def OpL (g o : Nat) (b : Bool) (a v t : Int) (W : World) : Prop := W.cell? ⟨g, o, none⟩ = some (.bool b) ∧ W.cell? ⟨g, o + 1, none⟩ = some (.int .i64 a) ∧ W.cell? ⟨g, o + 2, none⟩ = some (.int .u8 v) ∧ W.cell? ⟨g, o + 3, none⟩ = some (.int .u8 t)
theorem OpL.below {g o : Nat} {b : Bool} {a v t : Int} {w u : World} (h : OpL g o b a v t w) (hb : Below w.heap.size w u) : OpL g o b a v t u := ⟨kc hb h.1, kc hb h.2.1, kc hb h.2.2.1, kc hb h.2.2.2⟩
theorem OpL.fr {g o : Nat} {b : Bool} {a v t : Int} {H : Nat → Prop} {w u : World} (h : OpL g o b a v t w) (hf : Fr H w u) (hn : ¬ H g) : OpL g o b a v t u := ⟨hf.cell h.1 hn, hf.cell h.2.1 hn, hf.cell h.2.2.1 hn, hf.cell h.2.2.2 hn⟩
section
variable {P : Program} {ops : Array Oper} {S : Bool → World → Prop} {K : Act → Prop} {o : Oper} {r : List Oper} {a : Act} {kx m : Nat} {v : Value}
/-- A call that yields v, and turns nothing. -/
theorem PlanX.call {f : FuncId} {args : Array Value} (hmk : m ≠ kx) (hw : Region.wanted o (yielded ops a.tmps) = true)
    (hv : ∀ b w, S b w → (execOp a.eval o).run P w = .ok (.enter f args) w) (hc : ∀ b w, S b w → Calls P f args w fun e w' => e = .returned v ∧ S b w')
    (h : PlanX (OwesX P ops S kx) K (m + 1) r (a.put o.dst v)) : PlanX (OwesX P ops S kx) K m (o :: r) a :=
  ⟨v, fun b _ => by
    rw [show decide (m = kx) = false from decide_eq_false hmk, Bool.or_false]
    exact .inl ⟨hw, fun w hS => by rw [hv b w hS]; exact hc b w hS⟩, h⟩
end
end Go.Proofs.YtcnejgilmciljaaGreatDoor
set_option linter.unusedSimpArgs false
set_option linter.unusedVariables false
namespace Go.Proofs.YtcnejgilmciljaaGreatDoor
open Go.RowKit Go.PlainAid

set_option maxRecDepth 100000 in
theorem other13_c (v t by_ : Int) (w : World) : Calls Tryz.prog 19 #[.agg #[.int .u8 v, .int .u8 t], .int .u8 by_] w fun e u => e = .returned (.agg #[.int .u8 (bits .xor .u8 v (bits .and .u8 by_ t)), .int .u8 t]) ∧ Below w.heap.size w u := by
  go_enter Tryz.func19, Tryz.ntmps19
  go_wp2
  refine bodyPost_ret (v := .agg #[.int .u8 (bits .xor .u8 v (bits .and .u8 by_ t)), .int .u8 t]) (by simp [results, Tryz.results19, go_sem] <;> first | done | rfl | exact dec_eq Iff.rfl) rfl ⟨rfl, by go_grown⟩
theorem Tryz.infoCk : (Tryz.prog.info? 73).map (fun i => (i.zero, i.size, i.bytes)) = some (some (.agg #[.int .i64 0, .slice none 0 0, .int .u8 0]), 3, 40) := by kernel_rfl
def ckV (x : Ck × Value) : List Value := [.int .i64 x.1.a, x.2, .int .u8 x.1.t]
theorem ckV_len (x : Ck × Value) : (ckV x).length = 3 := rfl
/-- The law's own setup: its two rows that grow. -/
def rT (cs : List (Ck × Value)) (sec : List Int) (a b : Value) : List Rw :=
  [⟨0, 73, 3, cs.length, cs.flatMap ckV, a⟩, ⟨8, 5, 1, sec.length, sec.flatMap bE, b⟩]
theorem rT_off (cs : List (Ck × Value)) (sec : List Int) (a b : Value) (o : Nat) (ho : 1 ≤ o ∧ o ≤ 7) : ∀ (i : Nat) (r : Rw), (rT cs sec a b)[i]? = some r → r.off ≠ o := fun i r hr => by
  match i, hr with
  | 0, hr => cases hr; dsimp only; omega
  | 1, hr => cases hr; dsimp only; omega
  | n + 2, hr => simp [rT] at hr
/-- A chunk's bytes lie where nothing is written. -/
def ElT (N : Nat) (F : Nat → Prop) (w : World) (x : Ck × Value) : Prop := HoldsW bE 1 w x.2 x.1.l ∧ (0 < x.1.l.length → ∀ g, x.2.ownBlock = some g → (N ≤ g ∧ g < w.heap.size) ∧ ¬ F g)
structure Tn (w0 : World) (lv pv sv : Value) (T : Tm) (cs : List (Ck × Value)) (sec : List Int) (a b : Value) (w : World) : Prop where
  hold : Hold (w0.heap.size + 2) (rT cs sec a b) w
  el : ∀ x ∈ cs, ElT (w0.heap.size + 2) (foot (w0.heap.size + 2) (rT cs sec a b)) w x
  lo : ∀ k, foot (w0.heap.size + 2) (rT cs sec a b) k → w0.heap.size + 2 ≤ k
  bel : Below w0.heap.size w0 w
  c : ∀ i v, (suA lv pv sv T)[i]? = some v → w.cell? ⟨w0.heap.size, i, none⟩ = some v
  r : ∀ i v, 1 ≤ i ∧ i ≤ 7 → (suA lv pv sv T)[i]? = some v → w.cell? ⟨w0.heap.size + 2, i, none⟩ = some v
/-- The law's result, ahead of its store: noughts. -/
structure Zr (w0 : World) (w : World) : Prop where
  z : ∀ i v, (suA (.slice none 0 0) (.slice none 0 0) (.slice none 0 0) ⟨0, 0, false, false, false, false⟩)[i]? = some v → w.cell? ⟨w0.heap.size + 1, i, none⟩ = some v
  f : ∀ i, i < 9 → w.frozen? ⟨w0.heap.size + 1, i, none⟩ = false
theorem Zr.fr {w0 w u : World} {H : Nat → Prop} (h : Zr w0 w) (hf : Fr H w u) (hn : ¬ H (w0.heap.size + 1)) : Zr w0 u := ⟨fun i v hv => hf.cell (h.z i v hv) hn, fun i hi => hf.frozen (klt (h.z 0 _ rfl)) (h.f i hi) hn⟩
theorem Zr.below {w0 w u : World} (h : Zr w0 w) (hb : Below w.heap.size w u) : Zr w0 u := h.fr (Fr.ofBelow (F := fun _ => False) hb) (fun f => f)
section
variable {w0 w u : World} {lv pv sv a b a' b' : Value} {T : Tm} {cs cs' : List (Ck × Value)} {sec sec' : List Int}
theorem Tn.hq (h : Tn w0 lv pv sv T cs sec a b w) (hq : Hq (w0.heap.size + 2) (rT cs sec a b) (rT cs' sec' a' b') w u) (hel : ∀ x ∈ cs', ElT (w0.heap.size + 2) (foot (w0.heap.size + 2) (rT cs sec a b)) w x) : Tn w0 lv pv sv T cs' sec' a' b' u := by
  have n0 : ¬ foot (w0.heap.size + 2) (rT cs sec a b) w0.heap.size := fun e => by have := h.lo _ e; omega
  refine ⟨hq.hold, fun x hx => ?_, fun k hk => (hq.ft k hk).elim (h.lo k) (fun h1 => by have := h.hold.lt; omega), hq.fr.toBelow h.bel (fun k hk => by have := h.lo k hk; omega) (Nat.le_refl _), fun i v hv => hq.fr.cell (h.c i v hv) n0, fun i v hi hv => ?_⟩
  · obtain ⟨h1, h2⟩ := hel x hx
    refine ⟨h1.fr hq.fr (fun hl b hb => (h2 (List.length_pos_iff.2 hl) b hb).2), fun hl g hg => ?_⟩
    obtain ⟨⟨h7, h3⟩, h4⟩ := h2 hl g hg
    exact ⟨⟨h7, Nat.lt_of_lt_of_le h3 hq.fr.size⟩, fun hf => (hq.ft g hf).elim h4 (fun h5 => by omega)⟩
  · exact (hq.at_ i (rT_off cs sec a b i hi)).1.trans (h.r i v hi hv)
theorem Tn.below (h : Tn w0 lv pv sv T cs sec a b w) (hb : Below w.heap.size w u) : Tn w0 lv pv sv T cs sec a b u := h.hq ((Hq.refl h.hold).below h.hold hb) h.el
theorem Tn.n1 (h : Tn w0 lv pv sv T cs sec a b w) : ¬ foot (w0.heap.size + 2) (rT cs sec a b) (w0.heap.size + 1) := fun e => by have := h.lo _ e; omega
/-- The law's result is stored: nothing of the rest is turned. -/
theorem Tn.fr1 (h : Tn w0 lv pv sv T cs sec a b w) (hf : Fr (fun k => k = w0.heap.size + 1) w u) : Tn w0 lv pv sv T cs sec a b u := by
  refine ⟨h.hold.fr hf (fun k hk e => h.n1 (e ▸ hk)), fun x hx => ?_, h.lo, hf.toBelow h.bel (fun k hk => by have e : k = w0.heap.size + 1 := hk; omega) (Nat.le_refl _), fun i v hv => hf.cell (h.c i v hv) (fun e => by omega), fun i v hi hv => hf.cell (h.r i v hi hv) (fun e => by omega)⟩
  obtain ⟨h1, h2⟩ := h.el x hx
  refine ⟨h1.fr hf (fun hl b hb e => by have := (h2 (List.length_pos_iff.2 hl) b hb).1; have e' : b = w0.heap.size + 1 := e; omega), fun hl g hg => ?_⟩
  obtain ⟨⟨h7, h3⟩, h4⟩ := h2 hl g hg
  exact ⟨⟨h7, Nat.lt_of_lt_of_le h3 hf.size⟩, h4⟩
theorem ElT.below {N : Nat} {F : Nat → Prop} {x : Ck × Value} (h : ElT N F w x) (hb : Below w.heap.size w u) : ElT N F u x := ⟨h.1.below hb, fun hl g hg => ⟨⟨(h.2 hl g hg).1.1, Nat.lt_of_lt_of_le (h.2 hl g hg).1.2 hb.size⟩, (h.2 hl g hg).2⟩⟩
/-- A chunk more. -/
theorem Tn.ck {v' : Value} {w' : World} {x : Ck × Value} (h : Tn w0 lv pv sv T cs sec a b w) (hb : Below w.heap.size w u) (hx : ElT (w0.heap.size + 2) (foot (w0.heap.size + 2) (rT cs sec a b)) u x)
    (ho : w'.ownsRow 0 73 3 v' (cs.length + 1) (cs.flatMap ckV ++ ckV x)) (hg : Grew u w' a v') : Tn w0 lv pv sv T (cs ++ [x]) sec v' b (w'.setCell ⟨w0.heap.size + 2, 0, none⟩ v') ∧ Fr (foot (w0.heap.size + 2) (rT cs sec a b)) u (w'.setCell ⟨w0.heap.size + 2, 0, none⟩ v') := by
  have h1 := h.below hb
  have hq := Hq.app h1.hold (Below.refl _ _) (i := 0) (r := ⟨0, 73, 3, cs.length, cs.flatMap ckV, a⟩) rfl ho (Nat.le_succ _) (fun j hj => List.getElem?_append_left (by rw [flat_len8 ckV_len]; exact hj)) hg
  refine ⟨h1.hq (cs' := cs ++ [x]) (sec' := sec) (a' := v') (b' := b) ?_ (fun y hy => ?_), hq.fr⟩
  · simpa [rT, List.flatMap_append] using hq
  · rcases List.mem_append.1 hy with hy | hy
    · exact h1.el y hy
    · obtain rfl : y = x := by simpa using hy
      exact hx
/-- A secret byte more. -/
theorem Tn.more {v' : Value} {w' : World} {x : Int} (h : Tn w0 lv pv sv T cs sec a b w) (hb : Below w.heap.size w u)
    (ho : w'.ownsRow 0 5 1 v' (sec.length + 1) (sec.flatMap bE ++ bE x)) (hg : Grew u w' b v') : Tn w0 lv pv sv T cs (sec ++ [x]) a v' (w'.setCell ⟨w0.heap.size + 2, 8, none⟩ v') ∧ Fr (foot (w0.heap.size + 2) (rT cs sec a b)) u (w'.setCell ⟨w0.heap.size + 2, 8, none⟩ v') := by
  have h1 := h.below hb
  have hq := Hq.app h1.hold (Below.refl _ _) (i := 1) (r := ⟨8, 5, 1, sec.length, sec.flatMap bE, b⟩) rfl ho (Nat.le_succ _) (fun j hj => List.getElem?_append_left (by rw [flat_len8 bE_len]; exact hj)) hg
  refine ⟨h1.hq (cs' := cs) (sec' := sec ++ [x]) (a' := a) (b' := v') ?_ h1.el, hq.fr⟩
  simpa [rT, List.flatMap_append] using hq
/-- What Turned answers holds the turned setup. -/
theorem Tn.ins (h : Tn w0 lv pv sv T cs sec a b w) {s : Su} (hp : HoldsW bE 1 w0 pv s.pub) (hs : s = ⟨cs.map Prod.fst, T, s.pub, sec⟩) (hcl : cs.length ≤ 9223372036854775807)
    (hck : ∀ x ∈ cs, (-9223372036854775808 ≤ x.1.a ∧ x.1.a ≤ 9223372036854775807) ∧ (∀ b ∈ x.1.l, 0 ≤ b ∧ b ≤ 255) ∧ x.1.l.length ≤ 9223372036854775807 ∧ 0 ≤ x.1.t ∧ x.1.t ≤ 255)
    (hpb : (∀ b ∈ s.pub, 0 ≤ b ∧ b ≤ 255) ∧ s.pub.length ≤ 9223372036854775807) (hsb : (∀ b ∈ sec, 0 ≤ b ∧ b ≤ 255) ∧ sec.length ≤ 9223372036854775807) : InS w.heap.size w a pv b s := by
  have ho := (h.hold.own 0 _ rfl).1
  have ho2 := (h.hold.own 1 _ rfl).1
  dsimp only at ho ho2
  rw [hs] at hp hpb ⊢
  dsimp only at hp hpb ⊢
  refine ⟨?_, by simpa using hcl, fun x hx => ?_, ⟨hp.below h.bel, hpb⟩, ⟨HoldsW.own bE_len ho2, hsb⟩⟩
  · rcases HoldsW.own ckV_len ho with ⟨h1, h2⟩ | ⟨g, o, cap, e, hcap, hcell⟩
    · exact .inl ⟨h1, by rw [h2]; rfl⟩
    · by_cases h0 : cs = []
      · subst h0; exact .inl ⟨⟨_, _, e⟩, rfl⟩
      refine .inr ⟨g, o, cap, by simpa using e, by simpa using hcap, ?_, fun j x hx => ?_⟩
      · obtain ⟨y, r, rfl⟩ := List.exists_cons_of_ne_nil h0
        exact klt (hcell 0 y rfl 0 _ rfl)
      · rw [List.getElem?_map] at hx
        obtain ⟨⟨x', xv⟩, hx2, rfl⟩ := Option.map_eq_some_iff.1 hx
        have he := h.el _ (List.mem_of_getElem? hx2)
        exact ⟨xv, hcell j _ hx2 0 _ rfl, hcell j _ hx2 1 _ rfl, hcell j _ hx2 2 _ rfl, he.1, fun hl b hb => (he.2 hl b hb).1.2⟩
  · obtain ⟨y, hy, rfl⟩ := List.mem_map.1 hx
    exact hck y hy
/-- Ahead of the first chunk. -/
theorem Tn.start (hW : w = ((w0.alloc (Obj.cells (suA lv pv sv T) 27)).alloc (Obj.cells #[.slice none 0 0, .int .i64 0, .int .i64 0, .bool false, .bool false, .bool false, .bool false, .slice none 0 0, .slice none 0 0] 27)).alloc (Obj.cells #[.slice none 0 0, .int .i64 T.l, .int .i64 T.c, .bool T.r, .bool T.a, .bool T.s, .bool T.g, pv, .slice none 0 0] 27)) :
    Tn w0 lv pv sv T [] [] (.slice none 0 0) (.slice none 0 0) w ∧ Zr w0 w := by
  unfold suA at *
  have hz : w.heap.size = w0.heap.size + 3 := by rw [hW]; simp
  refine ⟨⟨⟨by omega, fun i r hr => ?_, fun i r hr => ?_, fun i j r q hr hq hij => ?_⟩, fun x hx => absurd hx (List.not_mem_nil), fun k hk => ?_, by rw [hW]; go_grown, fun i v hv => ?_, fun i v hi hv => ?_⟩, fun i v hv => ?_, fun i hi => ?_⟩
  · match i, hr with
    | 0, hr => cases hr; exact ⟨by rw [hW]; go_simp; first | done | rfl, by rw [hW]; go_simp⟩
    | 1, hr => cases hr; exact ⟨by rw [hW]; go_simp; first | done | rfl, by rw [hW]; go_simp⟩
    | n + 2, hr => simp [rT] at hr
  · match i, hr with
    | 0, hr => cases hr; exact ⟨⟨rfl, .inl ⟨rfl, rfl⟩⟩, by simp [Value.ownBlock]⟩
    | 1, hr => cases hr; exact ⟨⟨rfl, .inl ⟨rfl, rfl⟩⟩, by simp [Value.ownBlock]⟩
    | n + 2, hr => simp [rT] at hr
  · match i, j, hr, hq with
    | 0, 0, _, _ => exact absurd rfl hij
    | 1, 1, _, _ => exact absurd rfl hij
    | 0, 1, hr, hq => cases hr; cases hq; exact ⟨by decide, fun b hb => by simp [Value.ownBlock] at hb⟩
    | 1, 0, hr, hq => cases hr; cases hq; exact ⟨by decide, fun b hb => by simp [Value.ownBlock] at hb⟩
    | n + 2, _, hr, _ => simp [rT] at hr
    | 0, n + 2, _, hq => simp [rT] at hq
    | 1, n + 2, _, hq => simp [rT] at hq
  · rcases hk with rfl | ⟨r, hr, he⟩
    · exact Nat.le_refl _
    · simp only [rT, List.mem_cons, List.not_mem_nil, or_false] at hr
      rcases hr with rfl | rfl <;> simp [Value.ownBlock] at he
  · have e1 : (w0.alloc (Obj.cells #[lv, .int .i64 T.l, .int .i64 T.c, .bool T.r, .bool T.a, .bool T.s, .bool T.g, pv, sv] 27)).cell? ⟨w0.heap.size, i, none⟩ = some v := by
      rw [cell_of_row _ _ _ _ _ _ (heap_alloc_new w0 (.cells #[lv, .int .i64 T.l, .int .i64 T.c, .bool T.r, .bool T.a, .bool T.s, .bool T.g, pv, sv] 27))]
      exact hv
    rw [hW]
    exact kc ((Below.refl _ _).alloc (Nat.le_refl _) _) (kc ((Below.refl _ _).alloc (Nat.le_refl _) _) e1)
  · rw [hW]
    match i, hi, hv with
    | 1, _, hv => cases hv; go_simp; first | done | rfl
    | 2, _, hv => cases hv; go_simp; first | done | rfl
    | 3, _, hv => cases hv; go_simp; first | done | rfl
    | 4, _, hv => cases hv; go_simp; first | done | rfl
    | 5, _, hv => cases hv; go_simp; first | done | rfl
    | 6, _, hv => cases hv; go_simp; first | done | rfl
    | 7, _, hv => cases hv; go_simp; first | done | rfl
    | 0, hi, _ => omega
    | n + 8, hi, _ => omega
  · rw [hW]
    match i, hv with
    | 0, hv => cases hv; go_simp; first | done | rfl
    | 1, hv => cases hv; go_simp; first | done | rfl
    | 2, hv => cases hv; go_simp; first | done | rfl
    | 3, hv => cases hv; go_simp; first | done | rfl
    | 4, hv => cases hv; go_simp; first | done | rfl
    | 5, hv => cases hv; go_simp; first | done | rfl
    | 6, hv => cases hv; go_simp; first | done | rfl
    | 7, hv => cases hv; go_simp; first | done | rfl
    | 8, hv => cases hv; go_simp; first | done | rfl
    | n + 9, hv => simp [suA] at hv
  · rw [hW]; go_simp
end
end Go.Proofs.YtcnejgilmciljaaGreatDoor
