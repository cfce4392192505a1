/-
  Layer 6: the text of tokens, by lists; by the program.
-/
import Derived.Test.YtbnmibkmddhniaaDoorTextq
import Derived.Test.YtbnmibkmddhniaaDoorAwake6
import Derived.Shelf.Strings.BuilderK
set_option linter.unusedSimpArgs false
set_option linter.unusedVariables false
namespace Go.Proofs.YtbnmibkmddhniaaDoor
open Go.RowKit Go.PlainAid

def sepL (p : Option Int) (k : Int) : List UInt8 := match p with
  | some q => if q ≠ 4 ∧ k ≠ 4 then [32] else []
  | none => []
/-- The text of tokens, or the first error. -/
def joinR : List Tk → Option Int → List UInt8 → List UInt8 × Int
  | [], _, acc => (acc, 0)
  | x :: r, p, acc => if textE x.k x.t x.n ≠ 0 then ([], textE x.k x.t x.n) else joinR r (some x.k) (acc ++ sepL p x.k ++ textL x.k x.t x.n)
def prevK (l : List Tk) (k : Nat) : Option Int := if k = 0 then none else (l[k - 1]?).map (·.k)
theorem prevK_next (l : List Tk) (k : Nat) (x : Tk) (h : l[k]? = some x) : prevK l (k + 1) = some x.k := by
  unfold prevK
  rw [if_neg (by omega), Nat.add_sub_cancel, h]
  rfl
theorem sepL_len (p : Option Int) (k : Int) : (sepL p k).length ≤ 1 := by
  unfold sepL
  split
  · split <;> simp
  · simp
def ren167 : Go.Shelf.Ren := ⟨fun | 167 => 22 | n => Tryd.lays105_ren.f n, Tryd.lays105_ren.t, Tryd.lays105_ren.g⟩
theorem lays167 : Go.Proofs.Lays.n167 Tryd.prog ren167 := {
  mixed := by kernel_rfl
  f167 := by kernel_rfl
  f240 := by kernel_rfl
  f276 := by kernel_rfl
  t0 := Tryd.lays105.t0
  a0 := Tryd.lays105.a0
  z0 := Tryd.lays105.z0
  v0 := Tryd.lays105.v0
  t4 := Tryd.lays105.t4
  a4 := Tryd.lays105.a4
  z4 := Tryd.lays105.z4
  v4 := Tryd.lays105.v4
  t5 := Tryd.lays105.t5
  a5 := Tryd.lays105.a5
  z5 := Tryd.lays105.z5
  v5 := Tryd.lays105.v5
  t9 := Tryd.lays105.t9
  a9 := Tryd.lays105.a9
  z9 := Tryd.lays105.z9
  v9 := Tryd.lays105.v9
  t20 := Tryd.lays105.t20
  a20 := Tryd.lays105.a20
  z20 := Tryd.lays105.z20
  v20 := Tryd.lays105.v20
  t37 := Tryd.lays105.t37
  a37 := Tryd.lays105.a37
  z37 := Tryd.lays105.z37
  v37 := Tryd.lays105.v37
  t70 := Tryd.lays105.t70
  a70 := Tryd.lays105.a70
  z70 := Tryd.lays105.z70
  v70 := Tryd.lays105.v70
  t72 := Tryd.lays105.t72
  a72 := Tryd.lays105.a72
  z72 := Tryd.lays105.z72
  v72 := Tryd.lays105.v72
  t75 := Tryd.lays105.t75
  a75 := Tryd.lays105.a75
  z75 := Tryd.lays105.z75
  v75 := Tryd.lays105.v75
  t164 := Tryd.lays105.t164
  a164 := Tryd.lays105.a164
  z164 := Tryd.lays105.z164
  v164 := Tryd.lays105.v164 }
theorem extra167 : Builder.Extra Tryd.prog ren167 := {
  sizeBuilder := by kernel_rfl
  liesBuilder := by kernel_rfl
  t5 := Tryd.underlying5
  a5 := Tryd.isAgg5
  z5 := Tryd.sizeOf5
  v5 := Tryd.zeroValue5
  infoByte := by kernel_rfl
  cellsByte := by kernel_rfl
  sizeByte := by kernel_rfl
  neB5 := by decide }
theorem builder_below {T e : TypeId} {B b : Nat} {bs : List Value} {w u : World} (h : Lib.IsBuilderF T e B b bs w) (hb : Below w.heap.size w u) : Lib.IsBuilderF T e B b bs u := by
  have one : ∀ p, Lib.BuilderAtF T e B b p bs w → Lib.BuilderAtF T e B b p bs u := fun p h => by
    have hlt := h.lt
    obtain ⟨hB, v, hbk, hown, hne⟩ := h
    refine ⟨hB, v, (hb.block b hlt).trans hbk, ⟨hown.1, ?_⟩, hne⟩
    rcases hown.2 with hn | ⟨g, cap, cur, fz, hv, h1, hg, rest⟩
    · exact .inl hn
    · exact .inr ⟨g, cap, cur, fz, hv, h1, (hb.block g (Array.getElem?_eq_some_iff.1 hg).1).trans hg, rest⟩
  rcases h with h | h
  · exact .inl (one _ h)
  · exact .inr (one _ h)
theorem Tryd.writes (B b : Nat) (l s : List UInt8) (w : World) (h : Lib.IsBuilderF 58 5 B b (Lib.byteCells l) w) (hlen : l.length + s.length ≤ 140737488355328) (hBw : B ≤ w.heap.size) :
    Calls Tryd.prog 23 #[.pointer (some ⟨b, 0, none⟩), .string (txB s)] w fun e w' => e = .returned (.tuple #[.int .i64 s.length, .nilIface]) ∧ Lib.IsBuilderF 58 5 B b (Lib.byteCells (l ++ s)) w' ∧ Below B w w' := by
  refine (Any.Builder_WriteString_k { Tryd.lays105 with } Tryd.Builder_Extra_105 B b (Lib.byteCells l) (txB s) w h (by rw [Lib.byteCells_length, txB_size]; exact hlen) hBw).mono ?_
  rintro e w' ⟨rfl, h1, h2, _⟩
  have e1 : Lib.byteCells l ++ Lib.strCells (txB s) = Lib.byteCells (l ++ s) := by simp [Lib.byteCells, Lib.strCells]
  rw [e1] at h1
  exact ⟨by rw [txB_size], .inr h1, h2⟩
theorem Tryd.writeb (B b : Nat) (l : List UInt8) (w : World) (h : Lib.IsBuilderF 58 5 B b (Lib.byteCells l) w) (hlen : l.length + 1 ≤ 140737488355328) (hBw : B ≤ w.heap.size) :
    Calls Tryd.prog 22 #[.pointer (some ⟨b, 0, none⟩), .int .u8 32] w fun e w' => e = .returned .nilIface ∧ Lib.IsBuilderF 58 5 B b (Lib.byteCells (l ++ [32])) w' ∧ Below B w w' := by
  refine (Any.Builder_WriteByte_k lays167 extra167 B b (Lib.byteCells l) 32 w h (by rw [Lib.byteCells_length]; exact hlen) hBw).mono ?_
  rintro e w' ⟨rfl, h1, h2, _⟩
  have e1 : Lib.byteCells l ++ [Value.int .u8 32] = Lib.byteCells (l ++ [32]) := by simp [Lib.byteCells]
  rw [e1] at h1
  exact ⟨rfl, .inr h1, h2⟩
end Go.Proofs.YtbnmibkmddhniaaDoor
