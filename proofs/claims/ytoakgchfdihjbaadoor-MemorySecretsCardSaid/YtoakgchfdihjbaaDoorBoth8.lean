/-
  Layer 8's laws: the program's calls beside the document's: they answer alike, and go on telling the same bytes.
-/
import Derived.Test.YtoakgchfdihjbaaDoorLaw8
import Derived.Test.YtoakgchfdihjbaaDoorPlanX
set_option linter.unusedSimpArgs false
set_option linter.unusedVariables false
namespace Go.Proofs.YtoakgchfdihjbaaDoor
open Go.RowKit Go.PlainAid

/-- The bytes and the row tell the same; where no byte lies there is nothing. -/
structure Good (M : Int → Int × Int) (L : List Pt) : Prop where
  co : Corr M L
  out : ∀ a, realB a = false → M a = (0, 0)
  real : ∀ x ∈ L, realB x.a = true
theorem good_zero : Good zeroM [] := ⟨fun a _ => rfl, fun _ _ => rfl, fun x h => by simp at h⟩
theorem Good.snoc {M : Int → Int × Int} {L : List Pt} (h : Good M L) (x : Pt) (hx : realB x.a = true) : Good (setM M x.a (x.v, x.t)) (L ++ [x]) := by
  refine ⟨h.co.snoc x, fun a ha => ?_, fun y hy => ?_⟩
  · unfold setM
    split
    · rename_i e; subst e; rw [hx] at ha; cases ha
    · exact h.out a ha
  · rcases List.mem_append.1 hy with hy | hy
    · exact h.real y hy
    · obtain rfl : y = x := by simpa using hy
      exact hx
theorem Good.load : ∀ (bs : List Int) {M : Int → Int × Int} {L : List Pt} (a : Int), Good M L → (∀ i : Nat, i < bs.length → realB (a + (i : Int)) = true) → Good (loadM M a bs) (L ++ putsP a bs)
  | [], M, L, a, h, _ => by rw [putsP, List.append_nil]; exact h
  | b :: r, M, L, a, h, hr => by
    have h0 : realB a = true := by have := hr 0 (by simp); simpa using this
    have := Good.load r (a + 1) (h.snoc ⟨a, b, 0⟩ h0) (fun i hi => by
      have := hr (i + 1) (by simp; omega)
      rw [show a + 1 + (i : Int) = a + ((i + 1 : Nat) : Int) by omega]
      exact this)
    rw [List.append_assoc] at this
    exact this
theorem Good.label : ∀ (n : Nat) {M : Int → Int × Int} {L : List Pt} (a t : Int), Good M L → (∀ i : Nat, i < n → realB (a + (i : Int)) = true) → Good (labelM n M a t) (labsP n L a t)
  | 0, M, L, a, t, h, _ => h
  | n + 1, M, L, a, t, h, hr => by
    have h0 : realB a = true := by have := hr 0 (by omega); simpa using this
    have e : atP L a = M a := atP_real h.co h0
    rw [labelM, labsP, e]
    refine Good.label n (a + 1) t (h.snoc ⟨a, (M a).1, t⟩ h0) (fun i hi => ?_)
    have := hr (i + 1) (by omega)
    rw [show a + 1 + (i : Int) = a + ((i + 1 : Nat) : Int) by omega]
    exact this
theorem load_both {M : Int → Int × Int} {L : List Pt} (h : Good M L) (a : Int) (bs : List Int) : (loadMp M a bs).1 = (loadP L a bs).1 ∧ Good (loadMp M a bs).2 (loadP L a bs).2 ∧ (loadP L a bs).2.length ≤ L.length + bs.length := by
  have hc : ((!ramB a && !romB a) || (decide ((0 : Int) < (bs.length : Int)) && !oneB a (a + bs.length - 1))) = !onlyB a (lastA a bs.length) := by
    rw [onlyB_eq]
    unfold lastA
    by_cases h0 : bs.length = 0
    · rw [if_pos h0, h0]
      unfold oneB
      cases ramB a <;> cases romB a <;> simp
    · rw [if_neg h0, decide_eq_true (show (0 : Int) < (bs.length : Int) by omega), decide_eq_false (show ¬ (a + (bs.length : Int) - 1 < a) by omega)]
      unfold oneB
      cases ramB a <;> cases romB a <;> simp
  unfold loadMp loadP
  rw [hc]
  cases hO : onlyB a (lastA a bs.length)
  · exact ⟨rfl, h, by simp⟩
  · refine ⟨rfl, ?_, ?_⟩
    · refine h.load bs a fun i hi => ?_
      have hl : lastA a bs.length = a + bs.length - 1 := by unfold lastA; rw [if_neg (by omega)]
      rw [hl] at hO
      rw [onlyB_eq] at hO
      simp only [Bool.not_eq_true', Bool.or_eq_false_iff, Bool.not_eq_false'] at hO
      exact one_real hO.2 (by omega) (by omega)
    · show (L ++ putsP a bs).length ≤ _
      rw [List.length_append, putsP_len]
      omega
theorem label_both {M : Int → Int × Int} {L : List Pt} (h : Good M L) (f t tt : Int) : (labelMp M f t tt).1 = (labelP L f t tt).1 ∧ Good (labelMp M f t tt).2 (labelP L f t tt).2 ∧ (labelP L f t tt).2.length ≤ L.length + (if oneB f t = true then (t - f + 1).toNat else 0) := by
  unfold labelMp labelP
  rw [onlyB_eq]
  cases hO : (decide (t < f) || !oneB f t)
  · refine ⟨rfl, ?_, ?_⟩
    · simp only [Bool.or_eq_false_iff, Bool.not_eq_false', decide_eq_false_iff_not] at hO
      exact h.label _ f tt fun i hi => one_real hO.2 (by omega) (by omega)
    · simp only [Bool.or_eq_false_iff, Bool.not_eq_false', decide_eq_false_iff_not] at hO
      rw [if_pos hO.2]
      show (labsP _ L f tt).length ≤ _
      rw [labsP_len]
      omega
  · exact ⟨rfl, h, by show L.length ≤ _; omega⟩
theorem write_both {M : Int → Int × Int} {L : List Pt} (h : Good M L) (a v t : Int) : (writeM M a v t).1 = (writeP L ⟨a, v, t⟩).1 ∧ Good (writeM M a v t).2 (writeP L ⟨a, v, t⟩).2 ∧ (writeP L ⟨a, v, t⟩).2.length ≤ L.length + 1 := by
  unfold writeM writeP
  rcases kindI_cases a a with ⟨k, h1, _⟩ | ⟨k, h1, _⟩ | ⟨k, h1, _⟩ | ⟨k, h1, _⟩ | ⟨k, h1, h2, h3, h4⟩
  · have hr : 0 ≤ a ∧ a < 32768 := by unfold ramB at h1; simp at h1; omega
    have hd : devB a = false := by unfold devB; simp; omega
    rw [k]
    dsimp only
    rw [hd, h1]
    rw [if_neg (by decide), if_neg (by decide), if_pos rfl, if_neg (by omega), if_neg (by simp), if_pos rfl]
    refine ⟨rfl, h.snoc ⟨a, v, t⟩ (by unfold realB; rw [h1]; rfl), by simp⟩
  · have hr : 32768 ≤ a ∧ a < 32784 := by unfold devB at h1; simp at h1; omega
    rw [k]
    dsimp only
    rw [h1]
    rw [if_neg (by decide), if_pos rfl, if_neg (by omega), if_pos rfl]
    exact ⟨rfl, h, by simp⟩
  · have hd : devB a = false := by unfold devB; simp; omega
    have hm : ramB a = false := by unfold ramB; simp; omega
    rw [k]
    dsimp only
    rw [hd, hm]
    rw [if_neg (by decide), if_neg (by decide), if_neg (by decide), if_neg (by omega), if_neg (by simp), if_neg (by simp)]
    exact ⟨rfl, h, by simp⟩
  · have hr : 49152 ≤ a ∧ a < 65536 := by unfold romB at h1; simp at h1; omega
    have hd : devB a = false := by unfold devB; simp; omega
    have hm : ramB a = false := by unfold ramB; simp; omega
    rw [k]
    dsimp only
    rw [hd, hm]
    rw [if_neg (by decide), if_neg (by decide), if_neg (by decide), if_neg (by omega), if_neg (by simp), if_neg (by simp)]
    exact ⟨rfl, h, by simp⟩
  · have hr : a < 0 ∨ 65535 < a := by
      unfold ramB at h1; unfold devB at h2; unfold romB at h4
      simp at h1 h2 h4
      omega
    rw [k]
    dsimp only
    rw [if_pos rfl, if_pos hr]
    exact ⟨rfl, h, by simp⟩
theorem read_both {M : Int → Int × Int} {L : List Pt} (h : Good M L) (a : Int) : prM M a = readP L a := by
  unfold prM readP
  rcases kindI_cases a a with ⟨k, h1, _⟩ | ⟨k, h1, _⟩ | ⟨k, h1, _⟩ | ⟨k, h1, _⟩ | ⟨k, h1, h2, h3, h4⟩
  · have hr : 0 ≤ a ∧ a < 32768 := by unfold ramB at h1; simp at h1; omega
    have hd : devB a = false := by unfold devB; simp; omega
    rw [k, hd]
    rw [if_neg (by decide), if_neg (by decide), if_neg (by decide), if_neg (by omega), if_neg (by simp), atP_real h.co (by unfold realB; rw [h1]; rfl)]
  · have hr : 32768 ≤ a ∧ a < 32784 := by unfold devB at h1; simp at h1; omega
    rw [k, h1]
    rw [if_neg (by decide), if_pos rfl, if_neg (by omega), if_pos rfl]
  · have hd : devB a = false := by unfold devB; simp; omega
    have hm : ramB a = false := by unfold ramB; simp; omega
    have ho : romB a = false := by unfold romB; simp; omega
    rw [k, hd]
    rw [if_neg (by decide), if_neg (by decide), if_pos rfl, if_neg (by omega), if_neg (by simp)]
    unfold atP
    rw [if_pos ⟨hm, ho⟩]
  · have hr : 49152 ≤ a ∧ a < 65536 := by unfold romB at h1; simp at h1; omega
    have hd : devB a = false := by unfold devB; simp; omega
    rw [k, hd]
    rw [if_neg (by decide), if_neg (by decide), if_neg (by decide), if_neg (by omega), if_neg (by simp), atP_real h.co (by unfold realB; rw [h1]; simp)]
  · have hr : a < 0 ∨ 65535 < a := by
      unfold ramB at h1; unfold devB at h2; unfold romB at h4
      simp at h1 h2 h4
      omega
    rw [k]
    rw [if_pos rfl, if_pos hr]
/-! The frame. -/
/-- All blocks below S0 but two are as they were. -/
structure Fr (bb xb S0 : Nat) (w w' : World) : Prop where
  os : w'.os = w.os
  tape : w'.tape = w.tape
  output : w'.output = w.output
  size : w.heap.size ≤ w'.heap.size
  keep : ∀ b, b < S0 → b ≠ bb → b ≠ xb → w'.heap[b]? = w.heap[b]?
theorem Fr.refl (bb xb S0 : Nat) (w : World) : Fr bb xb S0 w w := ⟨rfl, rfl, rfl, Nat.le_refl _, fun _ _ _ _ => rfl⟩
theorem Fr.trans {bb xb S0 : Nat} {a b c : World} (h : Fr bb xb S0 a b) (g : Fr bb xb S0 b c) : Fr bb xb S0 a c :=
  ⟨g.os.trans h.os, g.tape.trans h.tape, g.output.trans h.output, Nat.le_trans h.size g.size, fun k h1 h2 h3 => (g.keep k h1 h2 h3).trans (h.keep k h1 h2 h3)⟩
theorem Fr.of_grown {bb xb S0 : Nat} {w w' : World} (h : w.grownBy w' (some bb)) (hs : S0 ≤ w.heap.size) : Fr bb xb S0 w w' :=
  ⟨h.os, h.tape, h.output, h.size, fun b h1 h2 _ => h.block b (by omega) (by simpa using h2)⟩
theorem Fr.of_below {bb xb S0 : Nat} {w w' : World} (h : Below w.heap.size w w') (hs : S0 ≤ w.heap.size) : Fr bb xb S0 w w' :=
  ⟨h.os, h.tape, h.output, h.size, fun b h1 _ _ => h.block b (by omega)⟩
theorem Fr.of_kp {bb xb S0 : Nat} {w w' : World} (h : Kp xb S0 w w') : Fr bb xb S0 w w' :=
  ⟨h.below.os, h.below.tape, h.below.output, h.below.size, fun b h1 _ h3 => h.keep b h1 h3⟩
theorem Fr.cell {bb xb S0 : Nat} {w u : World} (h : Fr bb xb S0 w u) {b o : Nat} {v : Value} (hb : b < S0) (h1 : b ≠ bb) (h2 : b ≠ xb) (hc : w.cell? ⟨b, o, none⟩ = some v) : u.cell? ⟨b, o, none⟩ = some v := (World.cell?_of_block (h.keep b hb h1 h2)).trans hc
theorem Fr.frozen {bb xb S0 : Nat} {w u : World} (h : Fr bb xb S0 w u) {b o : Nat} {x : Bool} (hb : b < S0) (h1 : b ≠ bb) (h2 : b ≠ xb) (hc : w.frozen? ⟨b, o, none⟩ = x) : u.frozen? ⟨b, o, none⟩ = x := (World.frozen?_of_block (h.keep b hb h1 h2)).trans hc
theorem Fr.below {bb xb S0 : Nat} {w0 w u : World} (h : Fr bb xb S0 w u) (hB : Below w0.heap.size w0 w) (h1 : w0.heap.size ≤ bb) (h2 : w0.heap.size ≤ xb) (h3 : w0.heap.size ≤ S0) : Below w0.heap.size w0 u :=
  ⟨h.os.trans hB.os, h.tape.trans hB.tape, h.output.trans hB.output, Nat.le_trans hB.size h.size, fun b hb => (h.keep b (by omega) (by omega) (by omega)).trans (hB.block b hb)⟩
/-- Where the two memories lie. -/
structure Spots (mb bb xb S0 : Nat) : Prop where
  m : mb < S0
  b : bb < S0
  x : xb < S0
  xm : xb ≠ mb
  xb : xb ≠ bb
/-- Both memories, as they stand. -/
structure Two (mb bb xb S0 : Nat) (w : World) (M : Int → Int × Int) (L : List Pt) : Prop where
  pm : Pm mb bb w M
  rm : ∃ v, Rm xb S0 w L v
  good : Good M L
  laid : Laid w
theorem Two.below {mb bb xb S0 : Nat} {w u : World} {M : Int → Int × Int} {L : List Pt} (h : Two mb bb xb S0 w M L) (hb : Below w.heap.size w u) : Two mb bb xb S0 u M L := by
  obtain ⟨v, hv⟩ := h.rm
  exact ⟨h.pm.below hb, ⟨v, hv.on hb⟩, h.good, h.laid.below hb⟩
theorem Two.size {mb bb xb S0 : Nat} {w : World} {M : Int → Int × Int} {L : List Pt} (h : Two mb bb xb S0 w M L) : S0 ≤ w.heap.size := by
  obtain ⟨v, hv⟩ := h.rm
  exact hv.sz
/-- The document's row behind a store into the program's bytes. -/
theorem Rm.grown {xb S0 bb : Nat} {w u : World} {L : List Pt} {v : Value} (h : Rm xb S0 w L v) (hg : w.grownBy u (some bb)) (h1 : xb ≠ bb) (h2 : bb < S0) : Rm xb S0 u L v := by
  refine ⟨kg hg h1 h.c0, ?_, kgf hg h1 (klt h.c0) h.fr, h.lt, Nat.le_trans h.sz hg.size⟩
  refine ⟨h.ow.1, ?_⟩
  rcases h.ow.2 with h3 | ⟨g, cap, cur, h3, h4, h5, r⟩
  · exact .inl h3
  · exact .inr ⟨g, cap, cur, h3, h4, (hg.block g (Array.getElem?_eq_some_iff.1 h5).1 (by simpa using fun e : g = bb => by omega)).trans h5, r⟩
theorem HoldsE.grown {α : Type} {enc : α → List Value} {k bb : Nat} {w u : World} {v : Value} {l : List α} (h : HoldsE enc k w v l) (hg : w.grownBy u (Option.some bb)) (hne : 0 < l.length → ∀ g, v.ownBlock = Option.some g → g ≠ bb) : HoldsE enc k u v l := by
  rcases h with h | ⟨g, o, cap, rfl, hc, h⟩
  · exact .inl h
  · refine .inr ⟨g, o, cap, rfl, hc, fun j x hx i y hy => ?_⟩
    have hj : j < l.length := (List.getElem?_eq_some_iff.1 hx).1
    exact kg hg (hne (by omega) g rfl) (h j x hx i y hy)
/-- Behind both calls. -/
theorem Two.next {mb bb xb S0 : Nat} {w u w' : World} {M M' : Int → Int × Int} {L L' : List Pt} (h : Two mb bb xb S0 w M L) (hs : Spots mb bb xb S0) (hg : w.grownBy u (some bb)) (hP : Pm mb bb u M') (hk : Kp xb S0 u w') (hr : ∃ v, Rm xb S0 w' L' v) (hgood : Good M' L') :
    Two mb bb xb S0 w' M' L' ∧ Fr bb xb S0 w w' := by
  have hf : Fr bb xb S0 w w' := (Fr.of_grown hg h.size).trans (Fr.of_kp hk)
  have h0 : (0 : Nat) ≠ xb := fun e => by
    obtain ⟨v, hv⟩ := h.rm
    obtain ⟨t, fr, h1⟩ := h.laid
    have h2 := hv.c0
    rw [← e, cell_of_row w 0 0 areaA t fr h1] at h2
    have h3 := own_form hv.ow
    obtain ⟨p, c, rfl⟩ := h3
    simp [areaA] at h2
  refine ⟨⟨hP.keep (hk.keep mb hs.m (fun e => hs.xm e.symm)) (hk.keep bb hs.b (fun e => hs.xb e.symm)), hr, hgood, ?_⟩, hf⟩
  exact h.laid.keep (hf.keep 0 (by have := hs.m; omega) (fun e => h.pm.nz e.symm) h0)
end Go.Proofs.YtoakgchfdihjbaaDoor
