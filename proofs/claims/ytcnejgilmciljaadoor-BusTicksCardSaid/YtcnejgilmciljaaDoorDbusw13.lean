/-
  The document's bus: Write (genw13.py writes it); both as things that lie in memory.
-/
import Derived.Test.YtcnejgilmciljaaDoorDbus13
import Derived.Test.YtcnejgilmciljaaDoorPlanXD
import Derived.Test.YtcnejgilmciljaaDoorPlanX
set_option linter.unusedSimpArgs false
set_option linter.unusedVariables false
namespace Go.Proofs.YtcnejgilmciljaaDoor
open Go.RowKit Go.PlainAid

/-- What a Write answers: the rule, the error; what it makes of the parts. -/
def wrB (S : Po) (a t : Int) : Int × Int := if a < 0 ∨ 65535 < a then (0, 10) else if sinkB a t = true then (4, 20) else if 32772 ≤ a ∧ a < 32777 then writeE S (a - 32772) t else (0, 0)
def wrT (T : Tm) (a v : Int) : Tm := if 32768 ≤ a ∧ a < 32772 then writeT T (a - 32768) v else T
def wrPs (S : Po) (a v t n : Int) : Po := if 32772 ≤ a ∧ a < 32777 then wrPo S (a - 32772) v t n else S
def wrWh (W : Wh) (a v : Int) : Wh := if a = 32777 then rollW W v else W
def wrD (B : Bd) (a v t : Int) : Bd := if (wrB B.S a t).2 ≠ 0 then B else ⟨(writeP B.L ⟨a, v, t⟩).2, tickT (wrT B.T a v), wrPs B.S a v t B.n, wrWh B.W a v, B.n + 1⟩
def wrBV (X : Int × Int) : Value := .tuple #[.int .i64 X.1, .int .i64 X.2]
/-- The box of a byte. -/
structure Bx (n : Nat) (v t : Int) (W : World) : Prop where
  c0 : W.cell? ⟨n, 0, none⟩ = some (.int .u8 v)
  c1 : W.cell? ⟨n, 1, none⟩ = some (.int .u8 t)
theorem Bx.fr {n : Nat} {v t : Int} {w u : World} {H : Nat → Prop} (h : Bx n v t w) (hf : Fr H w u) (hn : ¬ H n) : Bx n v t u := ⟨hf.cell h.c0 hn, hf.cell h.c1 hn⟩
theorem Tw.at_ {rb : Nat} {T : Tm} {w u : World} (h : Tw rb 1 T w) (e : ∀ j, kT j → u.cell? ⟨rb, j, none⟩ = w.cell? ⟨rb, j, none⟩ ∧ u.frozen? ⟨rb, j, none⟩ = w.frozen? ⟨rb, j, none⟩) : Tw rb 1 T u :=
  ⟨fun i v hv => by
      have hi : i < 6 := by
        have := (List.getElem?_eq_some_iff.1 hv).1
        simpa [tmV] using this
      exact ((e (1 + i) (by unfold kT; omega)).1).trans (h.c i v hv),
    fun i hi => ((e (1 + i) (by unfold kT; omega)).2).trans (h.f i hi)⟩
theorem Rk.at_ {rb : Nat} {R : Wh} {w u : World} (h : Rk rb R w) (e : ∀ j, kW j → u.cell? ⟨rb, j, none⟩ = w.cell? ⟨rb, j, none⟩ ∧ u.frozen? ⟨rb, j, none⟩ = w.frozen? ⟨rb, j, none⟩) : Rk rb R u :=
  have k : ∀ j, 13 ≤ j ∧ j ≤ 16 → kW j := fun j hj => hj
  ⟨((e 13 (k _ (by omega))).1).trans h.c0, ((e 14 (k _ (by omega))).1).trans h.c1, ((e 15 (k _ (by omega))).1).trans h.c2, ((e 16 (k _ (by omega))).1).trans h.c3,
   ((e 13 (k _ (by omega))).2).trans h.f0, ((e 14 (k _ (by omega))).2).trans h.f1, ((e 15 (k _ (by omega))).2).trans h.f2, ((e 16 (k _ (by omega))).2).trans h.f3⟩
theorem Nn.at_ {rb : Nat} {n : Int} {w u : World} (h : Nn rb n w) (e : u.cell? ⟨rb, 17, none⟩ = w.cell? ⟨rb, 17, none⟩ ∧ u.frozen? ⟨rb, 17, none⟩ = w.frozen? ⟨rb, 17, none⟩) : Nn rb n u := ⟨e.1.trans h.c, e.2.trans h.f⟩
theorem writeP_dev (L : List Pt) (a v t : Int) (h : devB a = true) : (writeP L ⟨a, v, t⟩).2 = L := by
  unfold writeP
  dsimp only
  rw [if_pos h]
  split <;> rfl
theorem wrPo_inputs (S : Po) (reg v t cy : Int) : (wrPo S reg v t cy).pub = S.pub ∧ (wrPo S reg v t cy).sec = S.sec := by
  unfold wrPo
  split
  · exact ⟨rfl, rfl⟩
  · split
    · exact ⟨rfl, rfl⟩
    · split
      · exact ⟨rfl, rfl⟩
      · split <;> exact ⟨rfl, rfl⟩
theorem wrPo_no {S : Po} {reg v t cy : Int} (h : (writeE S reg t).2 ≠ 0) : wrPo S reg v t cy = S := by unfold wrPo; rw [if_pos h]
theorem writeE_zero {S : Po} {reg t : Int} (h : (writeE S reg t).2 = 0) : (writeE S reg t).1 = 0 := by
  unfold writeE at *
  split at h
  · simp at h
  · rename_i h1
    rw [if_neg h1]
    split at h
    · simp at h
    · rename_i h2
      rw [if_neg h2]
      split at h
      · simp at h
      · rename_i h3
        rw [if_neg h3]
end Go.Proofs.YtcnejgilmciljaaDoor
