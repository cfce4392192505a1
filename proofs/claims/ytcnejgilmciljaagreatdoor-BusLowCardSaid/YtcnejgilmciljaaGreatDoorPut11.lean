/-
  The program's put, of each kind.
-/
import Derived.Test.YtcnejgilmciljaaGreatDoorReadp11
set_option linter.unusedSimpArgs false
set_option linter.unusedVariables false
namespace Go.Proofs.YtcnejgilmciljaaGreatDoor
open Go.RowKit Go.PlainAid

set_option maxRecDepth 100000 in
theorem full_b (n : Nat) (p : Option Addr) (c : Nat) (w : World) : Calls Tryz.prog 122 #[.slice p n c] w fun e w' => e = .returned (.bool (decide (4096 ≤ n))) ∧ Below w.heap.size w w' := by
  by_cases h : 4096 ≤ n
  · have h1 : (4096 : Int) ≤ (n : Int) := by omega
    rw [decide_eq_true h]
    go_enter Tryz.func122, Tryz.ntmps122
    go_wp2
    go_ret
    exact ⟨rfl, by go_grown⟩
  · have h1 : ¬ (4096 : Int) ≤ (n : Int) := by omega
    rw [decide_eq_false h]
    go_enter Tryz.func122, Tryz.ntmps122
    go_wp2
    go_ret
    exact ⟨rfl, by go_grown⟩
set_option maxRecDepth 100000 in
set_option maxHeartbeats 2000000 in
/-- What goes out, where there is no room, and where there is. -/
theorem put_b_no (pb o n c : Nat) (p : Option Addr) (hn : 4096 ≤ n) (w : World) (hc : w.cell? ⟨pb, o, none⟩ = some (.slice p n c)) (X : Int) :
    Calls Tryz.prog 115 #[.pointer (some ⟨pb, o, none⟩), (.int .u8 X)] w fun e w' => e = .returned (.int .i64 18) ∧ Below w.heap.size w w' := by
  have HF := Lib.hid (fun W => full_b n p c W)
  rw [decide_eq_true hn] at HF
  have hlt := klt hc
  obtain ⟨q1, q2, q3, q4, q5⟩ := ap0 hlt
  clear hn
  go_enter Tryz.func115, Tryz.ntmps115
  go_wp2_with fail
  refine (HF.out _).mono ?_
  rintro _ u ⟨rfl, hb⟩
  have hB : Below w.heap.size w u := by first | exact hb | exact kb ((Below.refl _ _).alloc (Nat.le_refl _) _) hb
  clear hb hc
  go_wp2
  go_ret
  exact ⟨rfl, hB⟩
set_option maxRecDepth 100000 in
set_option maxHeartbeats 2000000 in
theorem put_b_ok (pb o i : Nat) (R : List Rw) (l : List (Int)) (v : Value) (hr : R[i]? = some ⟨o, 5, 1, l.length, l.flatMap bE, v⟩) (hn : l.length < 4096) (w : World) (h : Hold pb R w) (X : Int) :
    Calls Tryz.prog 115 #[.pointer (some ⟨pb, o, none⟩), (.int .u8 X)] w fun e w' => e = .returned (.int .i64 0) ∧ ∃ v', Hq pb R (R.set i ⟨o, 5, 1, (l ++ [X]).length, (l ++ [X]).flatMap bE, v'⟩) w w' := by
  have hown := (h.own i _ hr).1
  have hsep := (h.own i _ hr).2
  obtain ⟨hc, hf⟩ := h.cell i _ hr
  have hlt := h.lt
  dsimp only at hown hc hf hsep
  obtain ⟨p, c, rfl⟩ := own_form hown
  have HH := Lib.hid h
  have HR := Lib.hid hr
  have HD := Lib.hid hsep
  obtain ⟨n, hln⟩ : ∃ n, l.length = n := ⟨_, rfl⟩
  have HO := Lib.hid hown
  rw [hln] at hc hn HO HD
  have HL := Lib.hid hln
  have HF := Lib.hid (fun W => full_b n p c W)
  rw [decide_eq_false (by omega)] at HF
  obtain ⟨i0, hi, hz0, hz1, hz2⟩ := info_parts Tryz.infoU8
  clear h hr hown hsep hln
  go_enter Tryz.func115, Tryz.ntmps115
  go_wp2_with fail
  refine (HF.out _).mono ?_
  rintro _ u ⟨rfl, hb⟩
  have hB := Lib.hid hb
  have hcu := kc hb hc
  have hfu := kfz hb hlt hf
  have hlu := klt hcu
  have HOu := Lib.hid (own_below HO.out hb)
  clear hb hc hf
  go_wp2_with (at_builtin; refine wpList_append_f _ rfl _ _ 25 rfl 5 i0 _ 1 1 Tryz.underlying25 hi hz0 hz1 hz2 rfl (by decide) _ n (l.flatMap bE) rfl ?c0 ⟨_, 0, none⟩ 1 1 (bE X) rfl rfl ?c1 ?c2 ?c3 ?c4 ?_)
  case c0 => exact Below.ownRow ((Below.refl _ _).alloc (Nat.le_refl _) _) HOu.out
  (try case c1 => exact one_at _ _)
  case c2 => exact bE_one X
  case c3 => unfold maxLen; omega
  case c4 => omega
  intro v2 w2 hown2 hg2
  obtain ⟨p2, c2, rfl⟩ := own_form hown2
  have hcs : w2.cell? ⟨pb, o, none⟩ = some (.slice p n c) := hg2.cell HD.out (by go_simp)
  have hfs : w2.frozen? ⟨pb, o, none⟩ = false := hg2.frozen HD.out (by simp; omega) (by go_simp)
  have HG := Lib.hid (And.intro (hg2.base (kb hB.out ((Below.refl u.heap.size u).alloc (Nat.le_refl _) _))) (And.intro hown2 hg2))
  clear hown2 hg2 hcu hfu
  go_wp2
  go_ret
  have hq := Hq.app HH.out HG.out.1 HR.out (by (try dsimp only); exact HG.out.2.1) (by (try dsimp only); rw [HL.out]; omega) (fun j hj => List.getElem?_append_left (by rw [flat_len8 bE_len]; exact hj)) (by (try dsimp only); rw [HL.out]; exact HG.out.2.2)
  refine ⟨rfl, .slice p2 (n + 1) c2, ?_⟩
  simpa [List.flatMap_append, HL.out] using hq
set_option maxRecDepth 100000 in
theorem full_k (n : Nat) (p : Option Addr) (c : Nat) (w : World) : Calls Tryz.prog 123 #[.slice p n c] w fun e w' => e = .returned (.bool (decide (4096 ≤ n))) ∧ Below w.heap.size w w' := by
  by_cases h : 4096 ≤ n
  · have h1 : (4096 : Int) ≤ (n : Int) := by omega
    rw [decide_eq_true h]
    go_enter Tryz.func123, Tryz.ntmps123
    go_wp2
    go_ret
    exact ⟨rfl, by go_grown⟩
  · have h1 : ¬ (4096 : Int) ≤ (n : Int) := by omega
    rw [decide_eq_false h]
    go_enter Tryz.func123, Tryz.ntmps123
    go_wp2
    go_ret
    exact ⟨rfl, by go_grown⟩
set_option maxRecDepth 100000 in
set_option maxHeartbeats 2000000 in
/-- What goes out, where there is no room, and where there is. -/
theorem put_k_no (pb o n c : Nat) (p : Option Addr) (hn : 4096 ≤ n) (w : World) (hc : w.cell? ⟨pb, o, none⟩ = some (.slice p n c)) (X : Int × Int) :
    Calls Tryz.prog 116 #[.pointer (some ⟨pb, o, none⟩), .agg #[.int .u8 X.1, .int .u8 X.2]] w fun e w' => e = .returned (.int .i64 18) ∧ Below w.heap.size w w' := by
  have HF := Lib.hid (fun W => full_k n p c W)
  rw [decide_eq_true hn] at HF
  have hlt := klt hc
  obtain ⟨q1, q2, q3, q4, q5⟩ := ap0 hlt
  clear hn
  go_enter Tryz.func116, Tryz.ntmps116
  go_wp2_with fail
  refine (HF.out _).mono ?_
  rintro _ u ⟨rfl, hb⟩
  have hB : Below w.heap.size w u := by first | exact hb | exact kb ((Below.refl _ _).alloc (Nat.le_refl _) _) hb
  clear hb hc
  go_wp2
  go_ret
  exact ⟨rfl, hB⟩
set_option maxRecDepth 100000 in
set_option maxHeartbeats 2000000 in
theorem put_k_ok (pb o i : Nat) (R : List Rw) (l : List (Int × Int)) (v : Value) (hr : R[i]? = some ⟨o, 49, 2, l.length, l.flatMap kE, v⟩) (hn : l.length < 4096) (w : World) (h : Hold pb R w) (X : Int × Int) :
    Calls Tryz.prog 116 #[.pointer (some ⟨pb, o, none⟩), .agg #[.int .u8 X.1, .int .u8 X.2]] w fun e w' => e = .returned (.int .i64 0) ∧ ∃ v', Hq pb R (R.set i ⟨o, 49, 2, (l ++ [X]).length, (l ++ [X]).flatMap kE, v'⟩) w w' := by
  obtain ⟨X0, X1⟩ := X
  have hown := (h.own i _ hr).1
  have hsep := (h.own i _ hr).2
  obtain ⟨hc, hf⟩ := h.cell i _ hr
  have hlt := h.lt
  dsimp only at hown hc hf hsep ⊢
  obtain ⟨p, c, rfl⟩ := own_form hown
  have HH := Lib.hid h
  have HR := Lib.hid hr
  have HD := Lib.hid hsep
  obtain ⟨n, hln⟩ : ∃ n, l.length = n := ⟨_, rfl⟩
  have HO := Lib.hid hown
  rw [hln] at hc hn HO HD
  have HL := Lib.hid hln
  have HF := Lib.hid (fun W => full_k n p c W)
  rw [decide_eq_false (by omega)] at HF
  obtain ⟨i0, hi, hz0, hz1, hz2⟩ := info_parts Tryz.infoBy
  obtain ⟨q1, q2, q3, q4, q5⟩ := ap0 hlt
  clear h hr hown hsep hln
  go_enter Tryz.func116, Tryz.ntmps116
  go_wp2_with fail
  refine (HF.out _).mono ?_
  rintro _ u ⟨rfl, hb⟩
  have hz := hb.size
  simp only [World.size_alloc] at hz
  have HB0 := Lib.hid (kb ((Below.refl _ w).alloc (Nat.le_refl _) _) hb)
  have hcu := kc HB0.out hc
  have hfu := kfz HB0.out hlt hf
  have hlu := klt hcu
  have HOu := Lib.hid (own_below HO.out HB0.out)
  have b0 : u.cell? ⟨w.heap.size, 0, none⟩ = some (.int .u8 X0) := kc hb (by go_simp; first | done | rfl)
  have b1 : u.cell? ⟨w.heap.size, 1, none⟩ = some (.int .u8 X1) := kc hb (by go_simp; first | done | rfl)
  have hws : w.heap.size < u.heap.size := by omega
  have HBu := Lib.hid (Below.refl u.heap.size u)
  clear hb hc hf hz
  go_wp2_with fail
  go_region_law (first
    | (refine step_append_f rfl (.tmp 12) (.tmp 14) 40 rfl 49 i0 _ 2 2 Tryz.underlying40 hi hz0 hz1 hz2 rfl (by decide) (.slice p n c) n (l.flatMap kE) (by simp [Act.eval, Act.put]) (Below.ownRow (by go_grown) HOu.out) ⟨_, 0, none⟩ 1 1 (kE (X0, X1)) (by simp [Act.eval, Act.put] <;> rfl) rfl (two_at _ _ _) (kE_one _) (by unfold maxLen; omega) (by omega) ?_
       intro v' w' hown' hg
       obtain ⟨p', cp', rfl⟩ := own_form hown'
       have hcs : w'.cell? ⟨pb, o, none⟩ = some (.slice p n c) := hg.cell HD.out (by go_simp)
       have hfs : w'.frozen? ⟨pb, o, none⟩ = false := hg.frozen HD.out (by simp; omega) (by go_simp)
       have HG := Lib.hid (And.intro (hg.base (N := u.heap.size) (w := u) (by go_grown)) (And.intro hown' hg))
       clear hown' hg))
  all_goals
    go_wp2
    go_ret
    have hq := Hq.app HH.out (kb HB0.out HG.out.1) HR.out (by (try dsimp only); exact HG.out.2.1) (by (try dsimp only); rw [HL.out]; omega) (fun j hj => List.getElem?_append_left (by rw [flat_len8 kE_len]; exact hj)) (by (try dsimp only); rw [HL.out]; exact HG.out.2.2)
    refine ⟨rfl, .slice p' (n + 1) cp', ?_⟩
    simpa [List.flatMap_append, HL.out] using hq
set_option maxRecDepth 100000 in
theorem full_e (n : Nat) (p : Option Addr) (c : Nat) (w : World) : Calls Tryz.prog 124 #[.slice p n c] w fun e w' => e = .returned (.bool (decide (4096 ≤ n))) ∧ Below w.heap.size w w' := by
  by_cases h : 4096 ≤ n
  · have h1 : (4096 : Int) ≤ (n : Int) := by omega
    rw [decide_eq_true h]
    go_enter Tryz.func124, Tryz.ntmps124
    go_wp2
    go_ret
    exact ⟨rfl, by go_grown⟩
  · have h1 : ¬ (4096 : Int) ≤ (n : Int) := by omega
    rw [decide_eq_false h]
    go_enter Tryz.func124, Tryz.ntmps124
    go_wp2
    go_ret
    exact ⟨rfl, by go_grown⟩
set_option maxRecDepth 100000 in
set_option maxHeartbeats 2000000 in
/-- What goes out, where there is no room, and where there is. -/
theorem put_e_no (pb o n c : Nat) (p : Option Addr) (hn : 4096 ≤ n) (w : World) (hc : w.cell? ⟨pb, o, none⟩ = some (.slice p n c)) (X : Int × Int) :
    Calls Tryz.prog 117 #[.pointer (some ⟨pb, o, none⟩), .agg #[.int .i64 X.1, .int .u8 X.2]] w fun e w' => e = .returned (.int .i64 18) ∧ Below w.heap.size w w' := by
  have HF := Lib.hid (fun W => full_e n p c W)
  rw [decide_eq_true hn] at HF
  have hlt := klt hc
  obtain ⟨q1, q2, q3, q4, q5⟩ := ap0 hlt
  clear hn
  go_enter Tryz.func117, Tryz.ntmps117
  go_wp2_with fail
  refine (HF.out _).mono ?_
  rintro _ u ⟨rfl, hb⟩
  have hB : Below w.heap.size w u := by first | exact hb | exact kb ((Below.refl _ _).alloc (Nat.le_refl _) _) hb
  clear hb hc
  go_wp2
  go_ret
  exact ⟨rfl, hB⟩
set_option maxRecDepth 100000 in
set_option maxHeartbeats 2000000 in
theorem put_e_ok (pb o i : Nat) (R : List Rw) (l : List (Int × Int)) (v : Value) (hr : R[i]? = some ⟨o, 109, 2, l.length, l.flatMap eE, v⟩) (hn : l.length < 4096) (w : World) (h : Hold pb R w) (X : Int × Int) :
    Calls Tryz.prog 117 #[.pointer (some ⟨pb, o, none⟩), .agg #[.int .i64 X.1, .int .u8 X.2]] w fun e w' => e = .returned (.int .i64 0) ∧ ∃ v', Hq pb R (R.set i ⟨o, 109, 2, (l ++ [X]).length, (l ++ [X]).flatMap eE, v'⟩) w w' := by
  obtain ⟨X0, X1⟩ := X
  have hown := (h.own i _ hr).1
  have hsep := (h.own i _ hr).2
  obtain ⟨hc, hf⟩ := h.cell i _ hr
  have hlt := h.lt
  dsimp only at hown hc hf hsep ⊢
  obtain ⟨p, c, rfl⟩ := own_form hown
  have HH := Lib.hid h
  have HR := Lib.hid hr
  have HD := Lib.hid hsep
  obtain ⟨n, hln⟩ : ∃ n, l.length = n := ⟨_, rfl⟩
  have HO := Lib.hid hown
  rw [hln] at hc hn HO HD
  have HL := Lib.hid hln
  have HF := Lib.hid (fun W => full_e n p c W)
  rw [decide_eq_false (by omega)] at HF
  obtain ⟨i0, hi, hz0, hz1, hz2⟩ := info_parts Tryz.infoEn
  obtain ⟨q1, q2, q3, q4, q5⟩ := ap0 hlt
  clear h hr hown hsep hln
  go_enter Tryz.func117, Tryz.ntmps117
  go_wp2_with fail
  refine (HF.out _).mono ?_
  rintro _ u ⟨rfl, hb⟩
  have hz := hb.size
  simp only [World.size_alloc] at hz
  have HB0 := Lib.hid (kb ((Below.refl _ w).alloc (Nat.le_refl _) _) hb)
  have hcu := kc HB0.out hc
  have hfu := kfz HB0.out hlt hf
  have hlu := klt hcu
  have HOu := Lib.hid (own_below HO.out HB0.out)
  have b0 : u.cell? ⟨w.heap.size, 0, none⟩ = some (.int .i64 X0) := kc hb (by go_simp; first | done | rfl)
  have b1 : u.cell? ⟨w.heap.size, 1, none⟩ = some (.int .u8 X1) := kc hb (by go_simp; first | done | rfl)
  have hws : w.heap.size < u.heap.size := by omega
  have HBu := Lib.hid (Below.refl u.heap.size u)
  clear hb hc hf hz
  go_wp2_with fail
  go_region_law (first
    | (refine step_append_f rfl (.tmp 12) (.tmp 14) 104 rfl 109 i0 _ 2 16 Tryz.underlying104 hi hz0 hz1 hz2 rfl (by decide) (.slice p n c) n (l.flatMap eE) (by simp [Act.eval, Act.put]) (Below.ownRow (by go_grown) HOu.out) ⟨_, 0, none⟩ 1 1 (eE (X0, X1)) (by simp [Act.eval, Act.put] <;> rfl) rfl (two_at _ _ _) (eE_one _) (by unfold maxLen; omega) (by omega) ?_
       intro v' w' hown' hg
       obtain ⟨p', cp', rfl⟩ := own_form hown'
       have hcs : w'.cell? ⟨pb, o, none⟩ = some (.slice p n c) := hg.cell HD.out (by go_simp)
       have hfs : w'.frozen? ⟨pb, o, none⟩ = false := hg.frozen HD.out (by simp; omega) (by go_simp)
       have HG := Lib.hid (And.intro (hg.base (N := u.heap.size) (w := u) (by go_grown)) (And.intro hown' hg))
       clear hown' hg))
  all_goals
    go_wp2
    go_ret
    have hq := Hq.app HH.out (kb HB0.out HG.out.1) HR.out (by (try dsimp only); exact HG.out.2.1) (by (try dsimp only); rw [HL.out]; omega) (fun j hj => List.getElem?_append_left (by rw [flat_len8 eE_len]; exact hj)) (by (try dsimp only); rw [HL.out]; exact HG.out.2.2)
    refine ⟨rfl, .slice p' (n + 1) cp', ?_⟩
    simpa [List.flatMap_append, HL.out] using hq
end Go.Proofs.YtcnejgilmciljaaGreatDoor
