/-
  Layer 6, what is general: texts as lists of bytes, slices of a call's own, bytes by their kinds.
-/
import Derived.Test.YtcplegelppfdeaaDoorRows
import Derived.Test.YtcplegelppfdeaaDoorLawKit
import Derived.Test.YtcplegelppfdeaaDoorPlanA
import Derived.Test.YtcplegelppfdeaaDoorPlanT
import Derived.Test.YtcplegelppfdeaaDoorHeld
import Derived.Test.YtcplegelppfdeaaDoorScope
import Derived.WalkKit
import Derived.WalkSpells
import Derived.WalkLawsBesides
import Derived.IntWalk
import Derived.Handy
import Derived.PlainAid
import Derived.Lib.Hide
import Derived.Lib.OthersKept
import Derived.Lib.IndexLaws
import Derived.Laws.OwnMore
import Derived.OwnWalk
import Derived.Deep.LoopGhost
set_option linter.unusedSimpArgs false
set_option linter.unusedVariables false
namespace Go.Proofs.YtcplegelppfdeaaDoor
open Go.RowKit Go.PlainAid

/-- A cell, and that it is not frozen; two cells. -/
def CF (w : World) (b o : Nat) (v : Value) : Prop := w.cell? ⟨b, o, none⟩ = some v ∧ w.frozen? ⟨b, o, none⟩ = false
def CC (w : World) (b o o' : Nat) (v v' : Value) : Prop := w.cell? ⟨b, o, none⟩ = some v ∧ w.cell? ⟨b, o', none⟩ = some v'
theorem ap0 {a b : Nat} (h : a < b) : ¬ (a = b) ∧ ¬ (a = b + 1) ∧ a < b + 1 ∧ ¬ (a = b + 1 + 1) ∧ a < b + 1 + 1 := by omega
theorem ap1 {a b : Nat} (h : a + 1 < b) : ¬ (a + 1 = b) ∧ a < b := by omega
theorem ap1f {a b : Nat} (h : a + 1 < b) : ¬ (a + 1 = b) ∧ ¬ (a = b) ∧ a < b ∧ ¬ (a = b + 1) ∧ a < b + 1 := by omega
theorem ret_i64 {a b : Int} (h : a = b) : Ending.returned (.int .i64 a) = .returned (.int .i64 b) := by rw [h]
theorem ret_bool {a b : Bool} (h : a = b) : Ending.returned (.bool a) = .returned (.bool b) := by rw [h]
theorem dec_eqs {p q : Prop} [Decidable p] [Decidable q] (h : p ↔ q) : decide p = decide q := by simp only [h]
/-- A text of letters. -/
abbrev txB (l : List UInt8) : ByteArray := ⟨l.toArray⟩
theorem txB_append (a b : List UInt8) : txB a ++ txB b = txB (a ++ b) := by
  apply ByteArray.ext
  simp
theorem txB_toList (l : List UInt8) : (txB l).toList = l := by rw [ByteArray.toList_eq]
theorem txB_size (l : List UInt8) : (txB l).size = l.length := by show l.toArray.size = _; simp
theorem txB_extract (l : List UInt8) (i j : Nat) : (txB l).extract i j = txB ((l.take j).drop i) := by
  apply ByteArray.ext
  rw [ByteArray.data_extract]
  show l.toArray.extract i j = ((l.take j).drop i).toArray
  rw [List.extract_toArray, List.extract_eq_take_drop]
  rw [List.drop_take]
/-- A byte as an integer; the byte at a place, a line end behind the last one. -/
def bI (b : UInt8) : Int := (b.toNat : Int)
theorem bI_lo (b : UInt8) : 0 ≤ bI b := by unfold bI; omega
theorem bI_hi (b : UInt8) : bI b ≤ 255 := by unfold bI; have := b.toNat_lt; omega
theorem bI_beq (b c : UInt8) : (bI b == bI c) = (b == c) := by
  unfold bI
  rw [Bool.eq_iff_iff, beq_iff_eq, beq_iff_eq]
  constructor
  · intro h; exact UInt8.toNat_inj.1 (by omega)
  · intro h; rw [h]
theorem bI_eq (b c : UInt8) (C : Int) (hc : bI c = C) : (bI b == C) = (b == c) := by rw [← hc]; exact bI_beq b c
def at8 (l : List UInt8) (k : Nat) : UInt8 := l.getD k 10
theorem at8_get (l : List UInt8) (k : Nat) (h : k < l.length) : at8 l k = l[k] := by
  unfold at8; rw [List.getD_eq_getElem?_getD, List.getElem?_eq_getElem h]; rfl
theorem at8_some (l : List UInt8) (k : Nat) (h : k < l.length) : l[k]? = some (at8 l k) := by
  rw [at8_get l k h, List.getElem?_eq_getElem h]
theorem at8_end (l : List UInt8) (k : Nat) (h : l.length ≤ k) : at8 l k = 10 := by
  unfold at8; rw [List.getD_eq_getElem?_getD, List.getElem?_eq_none h]; rfl
theorem at8_drop (l : List UInt8) (j k : Nat) : at8 (l.drop j) k = at8 l (j + k) := by
  unfold at8; rw [List.getD_eq_getElem?_getD, List.getD_eq_getElem?_getD, List.getElem?_drop]
theorem ix_l (l : List UInt8) (k : Nat) (h : k < l.length) (i : Int) (hi : i = (k : Int)) (W : World) : (Instr.index 9 (.string (txB l)) (.int .i64 i)).run Tryd.prog W = .ok (.int .u8 (bI (at8 l k))) W := by
  subst hi
  rw [run_index_string _ _ _ _ _ Tryd.underlying9, dif_pos (by rw [txB_size]; omega), at8_get l k h]
  simp
  rfl
theorem own_form {w : World} {B size n : Nat} {e : TypeId} {v : Value} {xs : List Value} (h : w.ownsRow B e size v n xs) : ∃ p c, v = .slice p n c := by
  rcases h.2 with ⟨h1, h2⟩ | ⟨g, cap, cur, h1, _⟩
  · exact ⟨none, 0, by rw [h1, h2]⟩
  · exact ⟨_, _, h1⟩
theorem own_below {w u : World} {B size n : Nat} {e : TypeId} {v : Value} {xs : List Value} (h : w.ownsRow B e size v n xs) (hB : Below w.heap.size w u) : u.ownsRow B e size v n xs := by
  refine ⟨h.1, ?_⟩
  rcases h.2 with h2 | ⟨g, cap, cur, h1, h2, h3, r⟩
  · exact .inl h2
  · exact .inr ⟨g, cap, cur, h1, h2, (hB.block g (Array.getElem?_eq_some_iff.1 h3).1).trans h3, r⟩
theorem own_low {w : World} {B B' size n : Nat} {e : TypeId} {v : Value} {xs : List Value} (h : w.ownsRow B e size v n xs) (hB : B' ≤ B) : w.ownsRow B' e size v n xs := by
  refine ⟨h.1, ?_⟩
  rcases h.2 with h2 | ⟨g, cap, cur, h1, h2, r⟩
  · exact .inl h2
  · exact .inr ⟨g, cap, cur, h1, by omega, r⟩
section
variable {P : Program} {w : World}
theorem wpList_append_row {ops : Array Oper} {rest : List Oper} {o : Oper} {a : Act} {Q : Exit → Act → World → Prop} (hgd : o.guard = none) (s x : Operand) (t : TypeId)
    (ho : o.op = .call { callee := .builtin .append, args := #[s, x], argTypes := #[t, t] })
    (base : Nat) (e : TypeId) (i : TypeInfo) (z : Value) (size bytes : Nat) (ht : P.underlying t = some (.slice e)) (hi : P.info? e = some i) (hz : i.zero = some z)
    (hsize : i.size = size) (hby : i.bytes = bytes) (hzs : z.cells.size = size) (hsz : 0 < size)
    (v : Value) (n : Nat) (xs : List Value) (hs : a.eval s = v) (hown : w.ownsRow base e size v n xs)
    (base2 : Nat) (X : Value) (m : Nat) (news : List Value) (hx : a.eval x = X) (hX : w.ownsRow base2 e size X m news) (h1 : ∀ u ∈ news, u.oneCell' = true)
    (h63 : n + m ≤ maxLen) (hbytes : (n + m) * bytes ≤ 140737488355328) (hbase : base ≤ w.heap.size)
    (h : ∀ v' w', w'.ownsRow base e size v' (n + m) (xs ++ news) → w.grownBy w' v.ownBlock → wpList P ops Q rest (a.put o.dst v') w') : wpList P ops Q (o :: rest) a w := by
  rcases hX.2 with ⟨rfl, rfl⟩ | ⟨g, cap, cur, rfl, hb, hg, hnc, hcm, hcs, htk⟩
  · obtain rfl : news = [] := by have := hX.1; simpa using this
    refine wpList_plain hgd fun K hK => ?_
    have hr := run_append_owned_none (P := P) (w := w) base t o.type e i size ht hi v n xs hown
    unfold Oper.wp execOp
    simp only [ho, resolve, invoke, builtin, Sem.run_bind, Sem.run_pure, Result.andThen_ok, List.map_toArray, List.map_cons, List.map_nil, hs, hx, hr]
    exact hK _ _ (h v w (by simpa using hown) (World.grownBy.refl _ _))
  · exact wpList_append_own _ hgd s x t ho base e i z size bytes ht hi hz hsize hby hzs hsz v n xs hs hown ⟨g, 0, none⟩ m cap news hx hX.1 (hX.cells (g := g) rfl) h1 h63 hbytes hbase fun v' w' h2 h3 _ => h v' w' h2 h3
end
/-- Behind a call that wrote one old block alone, what another one holds. -/
theorem kg {W U : World} {A b o : Nat} {v : Value} (hg : W.grownBy U (some A)) (hne : b ≠ A) (h : W.cell? ⟨b, o, none⟩ = some v) : U.cell? ⟨b, o, none⟩ = some v :=
  hg.cell h (by simpa using hne)
theorem kgf {W U : World} {A b o : Nat} (hg : W.grownBy U (some A)) (hne : b ≠ A) (hlt : b < W.heap.size) (h : W.frozen? ⟨b, o, none⟩ = false) : U.frozen? ⟨b, o, none⟩ = false :=
  (World.frozen?_of_block (w := W) (hg.block b hlt (by simpa using hne))).trans h
/-- What holds of the bytes one by one holds of each. -/
theorem all_bytes (p : UInt8 → Bool) (h : (List.range 256).all (fun n => p (UInt8.ofNat n)) = true) (b : UInt8) : p b = true := by
  have := List.all_eq_true.1 h b.toNat (List.mem_range.2 b.toNat_lt)
  simpa using this
end Go.Proofs.YtcplegelppfdeaaDoor
