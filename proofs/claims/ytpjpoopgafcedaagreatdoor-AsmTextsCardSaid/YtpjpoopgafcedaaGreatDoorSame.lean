/-
  Whether two slices hold the same bytes, as the laws ask it.
-/
import Derived.Test.YtpjpoopgafcedaaGreatDoorByts
set_option linter.unusedSimpArgs false
set_option linter.unusedVariables false
namespace Go.Proofs.YtpjpoopgafcedaaGreatDoor
open Go.RowKit Go.PlainAid Go.Joins

/-- A slice that holds these numbers, wherever it lies. -/
def Holds (w : World) (v : Value) (l : List Int) : Prop :=
  (v = .slice none 0 0 ∧ l = []) ∨ ∃ g o cap, v = .slice (some ⟨g, o, none⟩) l.length cap ∧ ∀ j x, l[j]? = some x → w.cell? ⟨g, o + j, none⟩ = some (.int .u8 x)
theorem holds_own {w : World} {base : Nat} {v : Value} {l : List Int} (h : w.ownsRow base 5 1 v l.length (l.map (Value.int .u8))) : Holds w v l := by
  rcases ownsRow_forms h with ⟨rfl, h0⟩ | ⟨g, cap, rfl⟩
  · exact .inl ⟨rfl, List.length_eq_zero_iff.1 h0⟩
  · refine .inr ⟨g, 0, cap, rfl, fun j x hx => ?_⟩
    have := h.cells (g := g) rfl j (.int .u8 x) (by rw [List.getElem?_map, hx]; rfl)
    rw [Addr.add_lit] at this
    exact this
theorem Holds.below {w u : World} {v : Value} {l : List Int} (h : Holds w v l) (hb : Below w.heap.size w u) : Holds u v l := by
  rcases h with h | ⟨g, o, cap, e, h⟩
  · exact .inl h
  · exact .inr ⟨g, o, cap, e, fun j x hx => kc hb (h j x hx)⟩
theorem Holds.at {w : World} {g o cap : Nat} {n : Nat} {l : List Int} (h : Holds w (.slice (some ⟨g, o, none⟩) n cap) l) : n = l.length ∧ ∀ j x, l[j]? = some x → w.cell? ⟨g, o + j, none⟩ = some (.int .u8 x) := by
  rcases h with ⟨h, _⟩ | ⟨g', o', cap', e, h⟩
  · cases h
  · cases e
    exact ⟨rfl, h⟩
theorem Holds.form {w : World} {v : Value} {l : List Int} (h : Holds w v l) : ∃ p c, v = .slice p l.length c ∧ ∀ j x, l[j]? = some x → ∃ g o, p = some ⟨g, o, none⟩ ∧ w.cell? ⟨g, o + j, none⟩ = some (.int .u8 x) := by
  rcases h with ⟨rfl, rfl⟩ | ⟨g, o, cap, rfl, h⟩
  · exact ⟨none, 0, rfl, fun j x hx => by simp at hx⟩
  · exact ⟨_, cap, rfl, fun j x hx => ⟨g, o, rfl, h j x hx⟩⟩
theorem getElem_pair {l : List Int} {k : Nat} (h : k < l.length) : l[k]? = some l[k] := List.getElem?_eq_getElem h
theorem same_ext {l1 l2 : List Int} (hl : l1.length = l2.length) (h : ∀ j, j < l1.length → l1[j]? = l2[j]?) : (l1 == l2) = true := by
  rw [beq_iff_eq]
  apply List.ext_getElem? 
  intro j
  by_cases hj : j < l1.length
  · exact h j hj
  · rw [List.getElem?_eq_none (by omega), List.getElem?_eq_none (by omega)]
set_option maxRecDepth 100000 in
set_option maxHeartbeats 2000000 in
theorem same_c (v1 v2 : Value) (l1 l2 : List Int) (w : World) (h1 : Holds w v1 l1) (h2 : Holds w v2 l2) (hmax : l1.length ≤ 1000000) :
    Calls Tryz.prog 7 #[v1, v2] w fun e w' => e = .returned (.bool (l1 == l2)) ∧ Below w.heap.size w w' := by
  obtain ⟨p1, c1, rfl, H1⟩ := h1.form
  obtain ⟨p2, c2, rfl, H2⟩ := h2.form
  have HH1 := Lib.hid H1
  have HH2 := Lib.hid H2
  clear H1 H2 h1 h2
  cases e : ((l1.length : Int) == (l2.length : Int))
  · have hv : (l1 == l2) = false := by
      rw [beq_eq_false_iff_ne] at e ⊢
      intro h; rw [h] at e; exact e rfl
    have f : ((l1.length : Int) != (l2.length : Int)) = true := by unfold bne; rw [e]; rfl
    rw [hv]
    go_enter Tryz.func7, Tryz.ntmps7
    go_wp2
    go_ret
    exact ⟨rfl, by go_grown⟩
  · have f : ((l1.length : Int) != (l2.length : Int)) = false := by unfold bne; rw [e]; rfl
    have hll : l1.length = l2.length := by rw [beq_iff_eq] at e; omega
    have HL := Lib.hid hll
    clear hll
    obtain ⟨R, hR⟩ : ∃ R, (l1 == l2) = R := ⟨_, rfl⟩
    have HR := Lib.hid hR
    rw [hR]
    clear hR
    go_enter Tryz.func7, Tryz.ntmps7
    go_wp2
    go_loopw [5] (fun i wr => ∃ k : Nat, k ≤ l1.length ∧ i = .int .i64 k ∧ Hid (∀ j, j < k → l1[j]? = l2[j]?) ∧ Below w.heap.size w wr) (fun i _ => l1.length - (intOf i).toNat)
    case atStart => exact ⟨0, by omega, rfl, Lib.hid (fun j h => by omega), Below.refl _ _⟩
    case round =>
      obtain ⟨k, hk, rfl, HN, hB⟩ := hrel
      by_cases hlt : k < l1.length
      · have hd : decide ((k : Int) < (l1.length : Int)) = true := decide_eq_true (by omega)
        have hlt2 : k < l2.length := by rw [← HL.out]; exact hlt
        obtain ⟨g1, o1, rfl, q1⟩ := HH1.out k l1[k] (getElem_pair hlt)
        obtain ⟨g2, o2, rfl, q2⟩ := HH2.out k l2[k] (getElem_pair hlt2)
        have r1 : wr.cell? ⟨g1, o1 + k, none⟩ = some (.int .u8 l1[k]) := (hB.cell (p := ⟨g1, o1 + k, none⟩) (klt q1)).trans q1
        have r2 : wr.cell? ⟨g2, o2 + k, none⟩ = some (.int .u8 l2[k]) := (hB.cell (p := ⟨g2, o2 + k, none⟩) (klt q2)).trans q2
        have hin1 : (0 : Int) ≤ (k : Int) ∧ (k : Int) < (l1.length : Int) := by omega
        have hin2 : (0 : Int) ≤ (k : Int) ∧ (k : Int) < (l2.length : Int) := by omega
        have HE := Lib.hid (show l1[k]? = some l1[k] ∧ l2[k]? = some l2[k] from ⟨getElem_pair hlt, getElem_pair hlt2⟩)
        clear q1 q2
        generalize l1[k] = x1 at *
        generalize l2[k] = x2 at *
        cases e3 : (x1 == x2)
        · have f3 : (x1 != x2) = true := by unfold bne; rw [e3]; rfl
          have HV := Lib.hid (show R = false from by
            rw [← HR.out, beq_eq_false_iff_ne]
            intro h
            have h3 := HE.out
            have h4 : some x1 = some x2 := by rw [← h3.1, ← h3.2, h]
            rw [Option.some.inj h4] at e3
            simp at e3)
          go_wp2
          go_region
          all_goals go_wp2
          go_ret
          exact ⟨by rw [HV.out]; rfl, hB.drew⟩
        · have f3 : (x1 != x2) = false := by unfold bne; rw [e3]; rfl
          have HS := Lib.hid (fun (j : Nat) (hj : j < k + 1) => show l1[j]? = l2[j]? from by
            by_cases e : j = k
            · rw [e, HE.out.1, HE.out.2, beq_iff_eq.1 e3]
            · exact HN.out j (by omega))
          have w1 : IntKind.i64.wrap ((k : Int) + 1) = (k : Int) + 1 := IntWalk.i64_in _ (by omega)
          go_wp2
          go_region
          all_goals go_wp2
          go_roundw
          case rel => exact ⟨k + 1, by omega, by go_num, HS, hB.drew⟩
          case measure => simp [intOf]; omega
      · have hk8 : k = l1.length := by omega
        have hd : decide ((k : Int) < (l1.length : Int)) = false := decide_eq_false (by omega)
        have HV := Lib.hid (show R = true from by rw [← HR.out]; exact same_ext HL.out (fun j hj => HN.out j (by omega)))
        go_wp2
        go_ret
        exact ⟨by rw [HV.out]; rfl, hB⟩
end Go.Proofs.YtpjpoopgafcedaaGreatDoor
