/-
  The document's bus: its state, what a call answers; Read (genr13.py writes it).
-/
import Derived.Test.YtcnejgilmciljaaDoorDbm13
import Derived.Test.YtcnejgilmciljaaDoorObj11
set_option linter.unusedSimpArgs false
set_option linter.unusedVariables false
namespace Go.Proofs.YtcnejgilmciljaaDoor
open Go.RowKit Go.PlainAid

/-- A bus as the document has it: what was put into memory, the timer, ports, the wheel, the cycles. -/
structure Bd where
  L : List Pt
  T : Tm
  S : Po
  W : Wh
  n : Int
structure Bd.May (B : Bd) : Prop where
  l : B.L.length ≤ 100000
  t : B.T.May
  s : B.S.cyc.length ≤ 100000
  w : B.W.May
  n : 0 ≤ B.n ∧ B.n ≤ 4611686018427387904
/-- What a Read answers, where memory reads so: V, T, the error; what is left of what comes in. -/
def rdB (f : Int → Int × Int) (T : Tm) (S : Po) (W : Wh) (a : Int) : Int × Int × Int :=
  if a < 0 ∨ 65535 < a then (0, 0, 10) else if devB a = false then ((f a).1, (f a).2, 0) else if a < 32772 then (readT T (a - 32768), 0, 0) else if a < 32777 then ((rdPo S (a - 32772)).1, (rdPo S (a - 32772)).2.1, 0) else if a < 32780 then (whB W (a - 32777), 0, 0) else (255, 0, 0)
def rdPs (S : Po) (a : Int) : Po := if 32772 ≤ a ∧ a < 32777 then readS S (a - 32772) else S
def rdD (B : Bd) (a : Int) : Bd := if a < 0 ∨ 65535 < a then B else ⟨B.L, tickT B.T, rdPs B.S a, B.W, B.n + 1⟩
def rdBV (X : Int × Int × Int) : Value := .tuple #[.agg #[.int .u8 X.1, .int .u8 X.2.1], .int .i64 X.2.2]
section
variable {rb : Nat} {B : Bd} {m x y a b c d : Value} {w u v : World}
theorem Rk.fr {R : Wh} {H : Nat → Prop} (h : Rk rb R w) (hf : Fr H w u) (hn : ¬ H rb) : Rk rb R u :=
  ⟨hf.cell h.c0 hn, hf.cell h.c1 hn, hf.cell h.c2 hn, hf.cell h.c3 hn, hf.frozen (klt h.c0) h.f0 hn, hf.frozen (klt h.c0) h.f1 hn, hf.frozen (klt h.c0) h.f2 hn, hf.frozen (klt h.c0) h.f3 hn⟩
theorem Tw.fr {o : Nat} {T : Tm} {H : Nat → Prop} (h : Tw rb o T w) (hf : Fr H w u) (hn : ¬ H rb) : Tw rb o T u :=
  ⟨fun i v hv => hf.cell (h.c i v hv) hn, fun i hi => hf.frozen h.lt (h.f i hi) hn⟩
theorem Nn.fr {n : Int} {H : Nat → Prop} (h : Nn rb n w) (hf : Fr H w u) (hn : ¬ H rb) : Nn rb n u := ⟨hf.cell h.c hn, hf.frozen (klt h.c) h.f hn⟩
end
/-- Blocks of a call's own: what it answers, and what it reckons. -/
structure Loc (nb : Nat) (p q r s : Int) (w : World) : Prop where
  c0 : w.cell? ⟨nb, 0, none⟩ = some (.int .u8 p)
  c1 : w.cell? ⟨nb, 1, none⟩ = some (.int .u8 q)
  d0 : w.cell? ⟨nb + 1, 0, none⟩ = some (.int .u8 r)
  d1 : w.cell? ⟨nb + 1, 1, none⟩ = some (.int .u8 s)
  f0 : w.frozen? ⟨nb, 0, none⟩ = false
  f1 : w.frozen? ⟨nb, 1, none⟩ = false
  g0 : w.frozen? ⟨nb + 1, 0, none⟩ = false
  g1 : w.frozen? ⟨nb + 1, 1, none⟩ = false
theorem Loc.fr {nb : Nat} {p q r s : Int} {w u : World} {H : Nat → Prop} (h : Loc nb p q r s w) (hf : Fr H w u) (h0 : ¬ H nb) (h1 : ¬ H (nb + 1)) : Loc nb p q r s u :=
  ⟨hf.cell h.c0 h0, hf.cell h.c1 h0, hf.cell h.d0 h1, hf.cell h.d1 h1, hf.frozen (klt h.c0) h.f0 h0, hf.frozen (klt h.c0) h.f1 h0, hf.frozen (klt h.d0) h.g0 h1, hf.frozen (klt h.d0) h.g1 h1⟩
theorem Loc.below {nb : Nat} {p q r s : Int} {w u : World} (h : Loc nb p q r s w) (hb : Below w.heap.size w u) : Loc nb p q r s u := h.fr (Fr.ofBelow (F := fun _ => False) hb) (fun f => f) (fun f => f)
theorem readS_subB (S : Po) (reg : Int) : ((readS S reg).pub ≠ [] → S.pub ≠ []) ∧ ((readS S reg).sec ≠ [] → S.sec ≠ []) := by
  unfold readS
  split
  · exact ⟨fun h e => h (by dsimp only; rw [e]; rfl), id⟩
  · split
    · exact ⟨id, fun h e => h (by dsimp only; rw [e]; rfl)⟩
    · exact ⟨id, id⟩
end Go.Proofs.YtcnejgilmciljaaDoor
