/-
  The document's ports: Write.
-/
import Derived.Test.YtcnejgilmciljaaDoorReadr11
import Derived.Deep.DeepCutAuto
set_option linter.unusedSimpArgs false
set_option linter.unusedVariables false
namespace Go.Proofs.YtcnejgilmciljaaDoor
open Go.RowKit Go.PlainAid

theorem Tryd.infoU8 : (Tryd.prog.info? 5).map (fun i => (i.zero, i.size, i.bytes)) = some (some (.int .u8 0), 1, 1) := by kernel_rfl
theorem Tryd.infoBy : (Tryd.prog.info? 23).map (fun i => (i.zero, i.size, i.bytes)) = some (some (.agg #[.int .u8 0, .int .u8 0]), 2, 2) := by kernel_rfl
theorem Tryd.infoInt : (Tryd.prog.info? 3).map (fun i => (i.zero, i.size, i.bytes)) = some (some (.int .i64 0), 1, 8) := by kernel_rfl
/-- What Write answers: the rule, the error. -/
def writeE (S : Po) (reg t : Int) : Int × Int :=
  if ¬ (0 ≤ reg ∧ reg ≤ 4) then (0, 10) else if reg ≤ 2 ∧ 0 < t then (4, 20) else if (reg = 2 ∧ 4096 ≤ S.out.length) ∨ (reg = 3 ∧ 4096 ≤ S.kept.length) ∨ (reg = 4 ∧ 4096 ≤ S.told.length) then (0, 18) else (0, 0)
def wrPo (S : Po) (reg v t cy : Int) : Po :=
  if (writeE S reg t).2 ≠ 0 then S else if reg = 2 then ⟨S.pub, S.sec, S.out ++ [v], S.kept, S.cyc, S.told⟩ else if reg = 3 then ⟨S.pub, S.sec, S.out, S.kept ++ [(v, t)], S.cyc, S.told⟩ else if reg = 4 then ⟨S.pub, S.sec, S.out, S.kept, S.cyc ++ [cy], S.told ++ [v]⟩ else S
def WriteEnd (rb : Nat) (S : Po) (x y a b c d : Value) (reg v t cy : Int) (w : World) : Ending → World → Prop := fun e w' =>
  e = .returned (.tuple #[.int .i64 (writeE S reg t).1, .int .i64 (writeE S reg t).2]) ∧ ∃ a' b' c' d', Hq rb (rD S a b c d) (rD (wrPo S reg v t cy) a' b' c' d') w w' ∧ Dp rb (wrPo S reg v t cy) x y a' b' c' d' w'
theorem Inp.hq {rb o : Nat} {R R' : List Rw} {x : Value} {l : List Int} {w u : World} (h : Inp rb o (foot rb R) x l w) (hq : Hq rb R R' w u) (ho : ∀ (i : Nat) (r : Rw), R[i]? = some r → r.off ≠ o) : Inp rb o (foot rb R') x l u := by
  refine ⟨(hq.at_ o ho).1.trans h.c, (hq.at_ o ho).2.trans h.f, h.h.fr hq.fr h.n, fun hl b hb hf => ?_⟩
  rcases hq.ft b hf with h1 | h1
  · exact h.n hl b hb h1
  · rcases h.h with ⟨_, e⟩ | ⟨g, o', cap, rfl, _, hc⟩
    · exact hl e
    · obtain rfl : g = b := by simpa [Value.ownBlock] using hb
      cases l with
      | nil => exact hl rfl
      | cons z r =>
        have := klt (hc 0 z rfl 0 _ rfl)
        omega
theorem Dp.hq {rb : Nat} {S S' : Po} {x y a b c d a' b' c' d' : Value} {w u : World} (h : Dp rb S x y a b c d w) (hq : Hq rb (rD S a b c d) (rD S' a' b' c' d') w u) (hp : S'.pub = S.pub) (hs : S'.sec = S.sec) : Dp rb S' x y a' b' c' d' u :=
  ⟨hq.hold, by rw [hp]; exact h.p.hq hq (rD_off S a b c d 0 (by omega)), by rw [hs]; exact h.s.hq hq (rD_off S a b c d 1 (by omega))⟩
theorem writeEnd_no {rb : Nat} {S : Po} {x y a b c d : Value} {reg v t cy U E : Int} {w w' : World} (h : writeE S reg t = (U, E)) (hP : wrPo S reg v t cy = S) (hD : Dp rb S x y a b c d w) (hb : Below w.heap.size w w') :
    WriteEnd rb S x y a b c d reg v t cy w (.returned (.tuple #[.int .i64 U, .int .i64 E])) w' := by
  refine ⟨by rw [h], a, b, c, d, ?_⟩
  rw [hP]
  exact ⟨(Hq.refl hD.hold).below hD.hold hb, hD.below hb⟩
theorem two_at {W : World} (T : TypeId) (z z' : Value) : ∀ j u, [z, z'][j]? = some u → (W.alloc (.cells #[z, z'] T)).cell? ((⟨W.heap.size, 0, none⟩ : Addr).add j) = some u := by
  intro j u hu
  rw [Addr.add_lit, Nat.zero_add, cell_of_row _ _ _ _ _ _ (heap_alloc_new W (.cells #[z, z'] T))]
  simpa using hu
theorem one_at {W : World} (T : TypeId) (z : Value) : ∀ j u, [z][j]? = some u → (W.alloc (.cells #[z] T)).cell? ((⟨W.heap.size, 0, none⟩ : Addr).add j) = some u := cell_one_new W z T
/-- What goes out: one more. -/
theorem hold_out {rb : Nat} {S : Po} {a b c d a' : Value} {w U w' : World} {v : Int} (h : Hold rb (rD S a b c d) w) (hb : Below w.heap.size w U) (ho : w'.ownsRow 0 5 1 a' (S.out.length + 1) (S.out.flatMap bE ++ [.int .u8 v])) (hg : Grew U w' a a') :
    Hq rb (rD S a b c d) (rD ⟨S.pub, S.sec, S.out ++ [v], S.kept, S.cyc, S.told⟩ a' b c d) w (w'.setCell ⟨rb, 2, none⟩ a') := by
  have := Hq.app h hb (i := 0) rfl ho (Nat.le_succ _) (fun j hj => List.getElem?_append_left (by rw [flat_len8 bE_len]; exact hj)) hg
  simpa [rD, bE] using this
theorem hold_kept {rb : Nat} {S : Po} {a b c d a' : Value} {w U w' : World} {v t : Int} (h : Hold rb (rD S a b c d) w) (hb : Below w.heap.size w U) (ho : w'.ownsRow 0 23 2 a' (S.kept.length + 1) (S.kept.flatMap kE ++ [.int .u8 v, .int .u8 t])) (hg : Grew U w' b a') :
    Hq rb (rD S a b c d) (rD ⟨S.pub, S.sec, S.out, S.kept ++ [(v, t)], S.cyc, S.told⟩ a a' c d) w (w'.setCell ⟨rb, 3, none⟩ a') := by
  have := Hq.app h hb (i := 1) rfl ho (Nat.le_succ _) (fun j hj => List.getElem?_append_left (by rw [flat_len8 kE_len]; exact hj)) hg
  simpa [rD, kE] using this
theorem hold_cyc {rb : Nat} {S : Po} {a b c d a' : Value} {w U w' : World} {v : Int} (h : Hold rb (rD S a b c d) w) (hb : Below w.heap.size w U) (ho : w'.ownsRow 0 3 1 a' (S.cyc.length + 1) (S.cyc.flatMap cE ++ [.int .i64 v])) (hg : Grew U w' c a') :
    Hq rb (rD S a b c d) (rD ⟨S.pub, S.sec, S.out, S.kept, S.cyc ++ [v], S.told⟩ a b a' d) w (w'.setCell ⟨rb, 4, none⟩ a') := by
  have := Hq.app h hb (i := 2) rfl ho (Nat.le_succ _) (fun j hj => List.getElem?_append_left (by rw [flat_len8 cE_len]; exact hj)) hg
  simpa [rD, cE] using this
theorem hold_told {rb : Nat} {S : Po} {a b c d a' : Value} {w U w' : World} {v : Int} (h : Hold rb (rD S a b c d) w) (hb : Below w.heap.size w U) (ho : w'.ownsRow 0 5 1 a' (S.told.length + 1) (S.told.flatMap bE ++ [.int .u8 v])) (hg : Grew U w' d a') :
    Hq rb (rD S a b c d) (rD ⟨S.pub, S.sec, S.out, S.kept, S.cyc, S.told ++ [v]⟩ a b c a') w (w'.setCell ⟨rb, 5, none⟩ a') := by
  have := Hq.app h hb (i := 3) rfl ho (Nat.le_succ _) (fun j hj => List.getElem?_append_left (by rw [flat_len8 bE_len]; exact hj)) hg
  simpa [rD, bE] using this
theorem writeEnd_ok {rb : Nat} {S S' : Po} {x y a b c d a' b' c' d' : Value} {reg v t cy : Int} {w w' : World} (h : writeE S reg t = (0, 0)) (hP : wrPo S reg v t cy = S') (hD : Dp rb S x y a b c d w) (hq : Hq rb (rD S a b c d) (rD S' a' b' c' d') w w') (hp : S'.pub = S.pub) (hs : S'.sec = S.sec) :
    WriteEnd rb S x y a b c d reg v t cy w (.returned (.tuple #[.int .i64 0, .int .i64 0])) w' := by
  refine ⟨by rw [h], a', b', c', d', ?_⟩
  rw [hP]
  exact ⟨hq, hD.hq hq hp hs⟩
end Go.Proofs.YtcnejgilmciljaaDoor
