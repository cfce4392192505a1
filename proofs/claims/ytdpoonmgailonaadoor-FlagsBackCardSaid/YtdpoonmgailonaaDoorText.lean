/-
  A register's letters, as the program writes them.
-/
import Derived.Test.YtdpoonmgailonaaDoorRegs
import Derived.Lib.OthersKept
import Derived.Laws.Cover4
import Derived.PlainAid
import Derived.OwnWalk
set_option linter.unusedSimpArgs false
set_option linter.unusedVariables false
namespace Go.Proofs.YtdpoonmgailonaaDoor
open Go.RowKit

/-- The great letters, from the bit 7 down, as bytes and as numbers. -/
abbrev ltrs : ByteArray := ⟨#[78, 86, 79, 66, 68, 73, 90, 67]⟩
def lt (k : Nat) : Int := [78, 86, 79, 66, 68, 73, 90, 67].getD k 0
theorem lt_lo (k : Nat) (h : k < 8) : 65 ≤ lt k := by
  have : ∀ k : Fin 8, 65 ≤ lt k.val := by decide
  exact this ⟨k, h⟩
theorem lt_hi (k : Nat) (h : k < 8) : lt k ≤ 90 := by
  have : ∀ k : Fin 8, lt k.val ≤ 90 := by decide
  exact this ⟨k, h⟩
theorem dec_l (k : Nat) (h : k < 8) : (((Utf8.decode ltrs k).1 : Nat) : Int) = lt k ∧ (Utf8.decode ltrs k).2 = 1 := by
  have : ∀ k : Fin 8, (((Utf8.decode ltrs k.val).1 : Nat) : Int) = lt k.val ∧ (Utf8.decode ltrs k.val).2 = 1 := by decide +kernel
  exact this ⟨k, h⟩
/-- The letter at place k of a register's text. -/
def letD (x t : BitVec 8) (k : Nat) : Int := letR (lt k) (getI x (7 - k)) (getI t (7 - k))
theorem letD_lo (x t : BitVec 8) (k : Nat) (h : k < 8) : 63 ≤ letD x t k := by
  have := lt_lo k h
  unfold letD letR; split
  · omega
  · split <;> omega
theorem letD_hi (x t : BitVec 8) (k : Nat) (h : k < 8) : letD x t k ≤ 122 := by
  have := lt_hi k h
  unfold letD letR; split
  · omega
  · split <;> omega
def runes (x t : BitVec 8) (k : Nat) : List Int := (List.range k).map (letD x t)
theorem runes_succ (x t : BitVec 8) (k : Nat) : runes x t (k + 1) = runes x t k ++ [letD x t k] := by
  unfold runes; rw [List.range_succ, List.map_append]; rfl
/-- A register's letters. -/
def txtTo (x t : BitVec 8) (k : Nat) : ByteArray := runesBytes (runes x t k)
def txt (x t : BitVec 8) : ByteArray := txtTo x t 8

theorem own_kept {base : Nat} {e : TypeId} {size : Nat} {v : Value} {n : Nat} {xs : List Value} {W w1 : World} (h : W.ownsRow base e size v n xs) (hb : Below W.heap.size W w1) : w1.ownsRow base e size v n xs := by
  refine ⟨h.1, ?_⟩
  rcases h.2 with hn | ⟨g, cap, cur, rfl, hbg, hgg, rest⟩
  · exact .inl hn
  · exact .inr ⟨g, cap, cur, rfl, hbg, (hb.block g (Array.getElem?_eq_some_iff.1 hgg).1).trans hgg, rest⟩
theorem own_iter {base : Nat} {e : TypeId} {size : Nat} {v : Value} {n : Nat} {xs : List Value} {W : World} (h : W.ownsRow base e size v n xs) {k : Nat} (hk : k < base) (s : ByteArray) (p : Nat) : (W.iterAt k s p).ownsRow base e size v n xs := by
  refine ⟨h.1, ?_⟩
  rcases h.2 with hn | ⟨g, cap, cur, rfl, hbg, hgg, rest⟩
  · exact .inl hn
  · exact .inr ⟨g, cap, cur, rfl, hbg, (Lib.iterAt_other W k g s p (by omega)).trans hgg, rest⟩
theorem iter_kept {W w1 : World} {k : Nat} {o : Obj} (h : W.heap[k]? = some o) (hb : Below W.heap.size W w1) : w1.heap[k]? = some o :=
  (hb.block k (Array.getElem?_eq_some_iff.1 h).1).trans h
theorem iter_cell {W : World} {k b o : Nat} {s : ByteArray} {p : Nat} {v : Value} (h : W.cell? ⟨b, o, none⟩ = some v) (hk : b ≠ k) : (W.iterAt k s p).cell? ⟨b, o, none⟩ = some v :=
  (World.cell?_of_block (w := W) (Lib.iterAt_other W k b s p hk)).trans h
theorem Tryd.infoR : (Tryd.prog.info? 21).map (fun i => (i.zero, i.size, i.bytes)) = some (some (.int .i32 0), 1, 4) := by kernel_rfl

/-- What stands at the head of Text's round k. -/
structure TextMid (x t : BitVec 8) (w : World) (p k : Nat) (v : Value) (wr : World) : Prop where
  hk : k ≤ 8
  it : wr.heap[w.heap.size + 1]? = some (.stringIter ltrs p)
  own : wr.ownsRow (w.heap.size + 1 + 1) 21 1 v k ((runes x t k).map (Value.int .i32))
  a0 : wr.cell? ⟨w.heap.size, 0, none⟩ = some (B8 x)
  a1 : wr.cell? ⟨w.heap.size, 1, none⟩ = some (B8 t)
  sz : w.heap.size + 1 + 1 ≤ wr.heap.size
  hB : Below w.heap.size w wr
theorem TextMid.below {x t : BitVec 8} {w : World} {p k : Nat} {v : Value} {W u : World} (h : TextMid x t w p k v W) (hb : Below W.heap.size W u) : TextMid x t w p k v u where
  hk := h.hk
  it := iter_kept h.it hb
  own := own_kept h.own hb
  a0 := kc hb h.a0
  a1 := kc hb h.a1
  sz := Nat.le_trans h.sz hb.size
  hB := kb h.hB hb

theorem TextMid.step {x t : BitVec 8} {w : World} {k : Nat} {v : Value} {W : World} (h : TextMid x t w k k v W) (hlt : k < 8) : TextMid x t w (k + 1) k v (W.iterAt (w.heap.size + 1) ltrs (k + 1)) where
  hk := h.hk
  it := Lib.iterAt_heap W (w.heap.size + 1) ltrs k (k + 1) h.it
  own := own_iter h.own (k := w.heap.size + 1) (by omega) ltrs (k + 1)
  a0 := iter_cell (k := w.heap.size + 1) (s := ltrs) (p := k + 1) h.a0 (by omega)
  a1 := iter_cell (k := w.heap.size + 1) (s := ltrs) (p := k + 1) h.a1 (by omega)
  sz := by rw [Lib.iterAt_size]; exact h.sz
  hB := Lib.below_iterAt h.hB (k := w.heap.size + 1) (by omega) ltrs (k + 1)
/-- Behind the append. -/
theorem TextMid.grown {x t : BitVec 8} {w : World} {p k : Nat} {v v' : Value} {W w' : World} (h : TextMid x t w p k v W) (hlt : k < 8) (hown : w'.ownsRow (w.heap.size + 1 + 1) 21 1 v' (k + 1) ((runes x t k).map (Value.int .i32) ++ [.int .i32 (letD x t k)]))
    (hg : W.grownBy w' v.ownBlock) : TextMid x t w p (k + 1) v' w' where
  hk := by omega
  it := by
    rw [hg.block _ (by have := h.sz; omega) (fun e => by have := h.own.lt _ e.symm; omega)]
    exact h.it
  own := by rw [runes_succ, List.map_append]; exact hown
  a0 := (World.cell?_of_block (w := W) (hg.block _ (by have := h.sz; show w.heap.size < _; omega) (fun e => by have := h.own.lt _ e.symm; dsimp only at this; omega))).trans h.a0
  a1 := (World.cell?_of_block (w := W) (hg.block _ (by have := h.sz; show w.heap.size < _; omega) (fun e => by have := h.own.lt _ e.symm; dsimp only at this; omega))).trans h.a1
  sz := Nat.le_trans h.sz hg.size
  hB := h.hB.grown hg (by have := h.sz; omega) (fun k hk => by have := h.own.lt _ hk; omega)

set_option maxHeartbeats 2000000 in
set_option maxRecDepth 100000 in
theorem text_c (x t : BitVec 8) (w : World) : Calls Tryd.prog 20 #[TB x t] w fun e w' => e = .returned (.string (txt x t)) ∧ Below w.heap.size w w' := by
  obtain ⟨i0, hi, hz0, hz1, hz2⟩ := info_parts Tryd.infoR
  go_enter Tryd.func20, Tryd.ntmps20
  go_wp2
  go_loopw [3] (fun v wr => ∃ k : Nat, TextMid x t w k k v wr) (fun _ wr => 8 - wr.iterPos (w.heap.size + 1))
  case atStart =>
    refine ⟨0, by omega, ?_, World.ownsRow_nil _ _ _ _, ?_, ?_, ?_, ?_⟩
    all_goals unfold World.iter
    · have := heap_alloc_new (w.alloc (Obj.cells #[.int .u8 (u8 x), .int .u8 (u8 t)] 23)) (.stringIter ltrs 0)
      simpa using this
    · go_simp
    · go_simp
    · simp
    · exact ((Below.refl _ w).alloc (Nat.le_refl _) _).alloc (by simp) _
  case round =>
    obtain ⟨k, hm⟩ := hrel
    by_cases hlt : k < 8
    · have hnx : ∀ ty, (Instr.next (.pointer (some ⟨w.heap.size + 1, 0, none⟩)) true ty).run Tryd.prog wr = .ok (.tuple #[.bool true, .int .i64 k, .int .i32 (lt k)]) (wr.iterAt (w.heap.size + 1) ltrs (k + 1)) := fun ty => by
        rw [Lib.run_next_any_at wr _ ltrs k ty hm.it (by show k < 8; exact hlt), (dec_l k hlt).1, (dec_l k hlt).2]
      obtain ⟨W, hW⟩ : ∃ W, wr.iterAt (w.heap.size + 1) ltrs (k + 1) = W := ⟨_, rfl⟩
      have hm' := hm.step hlt
      rw [hW] at hnx hm'
      have hit := hm.it
      clear hW hm
      have a0 := hm'.a0
      have a1 := hm'.a1
      have hlo := lt_lo k hlt
      have hhi := lt_hi k hlt
      go_wp2_with (first
        | (go_at_call 8; refine (get_i x t _ _).mono ?_; rintro _ w1 ⟨rfl, hb1⟩; have hm1 := hm'.below hb1)
        | (go_at_call 31; refine (letter_c (lt k) _ _ hlo hhi _).mono ?_; rintro _ w2 ⟨rfl, hb2⟩; have hm2 := hm1.below hb2)
        | (at_builtin; refine wpList_append_own _ rfl _ _ 53 rfl (w.heap.size + 1 + 1) 21 i0 (.int .i32 0) 1 4 Tryd.underlying53 hi hz0 hz1 hz2 rfl (by decide) _ _ _ rfl (hm2.own.alloc _) ⟨w2.heap.size, 0, none⟩ 1 1 [.int .i32 (letD x t k)] rfl rfl ?c1 ?c2 ?c3 ?c4 ?c5 ?_))
      case c1 =>
        intro j u hj
        match j, hj with
        | 0, hj => simp at hj; subst hj; unfold letD; go_simp
      case c2 => intro u hu; simp at hu; subst hu; rfl
      case c3 => unfold maxLen; omega
      case c4 => omega
      case c5 => have := hm2.sz; simp; omega
      · intro v' w' hown' hg _
        have R := (hm2.below (Below.alloc (Below.refl _ _) (Nat.le_refl _) _)).grown hlt hown' hg
        clear hown' hg hm' hm1 hm2 hnx
        go_wp2
        go_roundw
        case rel => exact ⟨k + 1, R⟩
        case measure =>
          rw [iterPos_of R.it, iterPos_of hit]
          omega
    · have hk8 : k = 8 := by have := hm.hk; omega
      subst hk8
      have hnx : ∀ ty, (Instr.next (.pointer (some ⟨w.heap.size + 1, 0, none⟩)) true ty).run Tryd.prog wr = .ok (.tuple #[.bool false]) wr := fun ty => by
        rw [Lib.run_next_end_at wr _ ltrs 8 ty hm.it (by show ¬ 8 < 8; omega)]
      have hB := hm.hB
      obtain ⟨g, cap, rfl, hown⟩ : ∃ g cap, u3 = .slice (some ⟨g, 0, none⟩) 8 cap ∧ wr.ownsRow (w.heap.size + 1 + 1) 21 1 (.slice (some ⟨g, 0, none⟩) 8 cap) 8 ((runes x t 8).map (Value.int .i32)) := by
        have h := hm.own
        rcases h.2 with ⟨_, h0⟩ | ⟨g, cap, cur, rfl, _⟩
        · cases h0
        · exact ⟨g, cap, rfl, h⟩
      have hcv : (convert 53 9 (.slice (some ⟨g, 0, none⟩) 8 cap)).run Tryd.prog wr = .ok (.string (txt x t)) wr := by
        have hl : (runes x t 8).length = 8 := by simp [runes]
        have h := run_convert_runes (P := Tryd.prog) wr 53 9 21 ⟨g, 0, none⟩ 8 cap (runes x t 8) (by omega) Tryd.underlying53 Tryd.underlying21 Tryd.underlying9 (fun j hj => by
          have := hown.cells (g := g) rfl j (.int .i32 ((runes x t 8).getD j 0)) (by simp [List.getElem?_map, List.getD, List.getElem?_eq_getElem hj])
          exact this)
        rw [List.take_of_length_le (by omega)] at h
        exact h
      clear hown hm
      go_wp2
      go_ret
      exact ⟨rfl, hB⟩
end Go.Proofs.YtdpoonmgailonaaDoor
