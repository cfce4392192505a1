/-
  The program's timer: mayBe, has, control, Write.
  The program's timer: bits, Read.
  The program's timer: After.
-/
import Derived.Test.YtcnejgilmciljaaDoorBits10
import Derived.Test.YtcnejgilmciljaaDoorHeld
set_option linter.unusedSimpArgs false
set_option linter.unusedVariables false
namespace Go.Proofs.YtcnejgilmciljaaDoor
open Go.RowKit Go.PlainAid

def mayI (n : Int) : Bool := decide (0 ≤ n) && decide (n ≤ 65535)
set_option maxRecDepth 100000 in
theorem maybe_c (n : Int) (w : World) : Calls Tryd.prog 40 #[.int .i64 n] w fun e w' => e = .returned (.bool (mayI n)) ∧ Below w.heap.size w w' := by
  unfold mayI
  by_cases h1 : 0 ≤ n
  case neg =>
    rw [show decide (0 ≤ n) = false by simpa using h1, Bool.false_and]
    go_enter Tryd.func40, Tryd.ntmps40
    go_wp2
    go_ret
    exact ⟨rfl, by go_grown⟩
  rw [show decide (0 ≤ n) = true by simpa using h1, Bool.true_and]
  go_enter Tryd.func40, Tryd.ntmps40
  go_wp2
  all_goals
    go_ret
    exact ⟨by simp [*], by go_grown⟩
set_option maxRecDepth 100000 in
theorem has0_c (v : Int) (hv : 0 ≤ v ∧ v ≤ 255) (w : World) : Calls Tryd.prog 89 #[.int .u8 v, .int .i64 0] w fun e w' => e = .returned (.bool (onT v 1)) ∧ Below w.heap.size w w' := by
  have e := on1 v hv
  generalize onT v 1 = R at *
  go_enter Tryd.func89, Tryd.ntmps89
  go_wp2
  go_ret
  exact ⟨rfl, by go_grown⟩
set_option maxRecDepth 100000 in
theorem has1_c (v : Int) (hv : 0 ≤ v ∧ v ≤ 255) (w : World) : Calls Tryd.prog 89 #[.int .u8 v, .int .i64 1] w fun e w' => e = .returned (.bool (onT v 2)) ∧ Below w.heap.size w w' := by
  have e := on2 v hv
  generalize onT v 2 = R at *
  go_enter Tryd.func89, Tryd.ntmps89
  go_wp2
  go_ret
  exact ⟨rfl, by go_grown⟩
set_option maxRecDepth 100000 in
theorem has2_c (v : Int) (hv : 0 ≤ v ∧ v ≤ 255) (w : World) : Calls Tryd.prog 89 #[.int .u8 v, .int .i64 2] w fun e w' => e = .returned (.bool (onT v 4)) ∧ Below w.heap.size w w' := by
  have e := on4 v hv
  generalize onT v 4 = R at *
  go_enter Tryd.func89, Tryd.ntmps89
  go_wp2
  go_ret
  exact ⟨rfl, by go_grown⟩
set_option maxRecDepth 100000 in
theorem control_c (v : Int) (hv : 0 ≤ v ∧ v ≤ 255) (tb o : Nat) (x : Tm) (w : World) (h : Tw tb o x w) : Calls Tryd.prog 75 #[.pointer (some ⟨tb, o, none⟩), .int .u8 v] w (TmEnd tb o (.tuple #[]) (ctlT x v) w) := by
  have HH0 := Lib.hid (fun W => has0_c v hv W)
  have HH1 := Lib.hid (fun W => has1_c v hv W)
  have HH2 := Lib.hid (fun W => has2_c v hv W)
  unfold ctlT
  generalize onT v 1 = R at *
  generalize onT v 2 = A at *
  generalize onT v 4 = S at *
  have HP := Lib.hid h.start
  have hlt := h.lt
  obtain ⟨l, c, r, a, s, g⟩ := x
  dsimp only at *
  clear h
  cases R
  all_goals
    go_enter Tryd.func75, Tryd.ntmps75
    go_wp2_with fail
    ((with_reducible refine (HH0.out _).mono ?_); rintro _ u1 ⟨rfl, hb⟩)
    have hz := hb.size
    (try simp only [World.size_alloc, World.size_setCell, World.size_drew] at hz)
    have hB' : Below w.heap.size w u1 := by
        refine kb ?_ hb
        go_grown
    clear hb hz
    have hB := hB'; clear hB'
    have hsz := hB.size
    go_wp2_with fail
    ((with_reducible refine (HH1.out _).mono ?_); rintro _ u2 ⟨rfl, hb⟩)
    have hz := hb.size
    (try simp only [World.size_alloc, World.size_setCell, World.size_drew] at hz)
    have hB' : Below w.heap.size w u2 := by
        refine kb ?_ hb
        go_grown
    clear hB hsz
    clear hb hz
    have hB := hB'; clear hB'
    have hsz := hB.size
    go_wp2_with fail
    ((with_reducible refine (HH2.out _).mono ?_); rintro _ u3 ⟨rfl, hb⟩)
    have hz := hb.size
    (try simp only [World.size_alloc, World.size_setCell, World.size_drew] at hz)
    have hB' : Below w.heap.size w u3 := by
        refine kb ?_ hb
        go_grown
    clear hB hsz
    clear hb hz
    have hB := hB'; clear hB'
    have hsz := hB.size
    have HP3 := Lib.hid (HP.out.below hlt hB)
    obtain ⟨h0, h1, h2, h3, h4, h5⟩ := HP3.out.t.cells
    dsimp only at h0 h1 h2 h3 h4 h5
    have f1 := HP3.out.t.f 1 (by omega)
    have f2 := HP3.out.t.f 2 (by omega)
    have f3 := HP3.out.t.f 3 (by omega)
    have f4 := HP3.out.t.f 4 (by omega)
    go_wp2
    go_end0
    first
    | exact ⟨rfl, (((HP3.out.setR _).setA _).setS _).setC l⟩
    | exact ⟨rfl, ((HP3.out.setR _).setA _).setS _⟩
set_option maxRecDepth 100000 in
theorem writen_t (reg v : Int) (w : World) : Calls Tryd.prog 69 #[.pointer none, .int .i64 reg, .int .u8 v] w fun e w' => e = .returned (.int .i64 2) ∧ Below w.heap.size w w' := by
  go_enter Tryd.func69, Tryd.ntmps69
  go_wp2
  go_ret
  exact ⟨rfl, by go_grown⟩
set_option maxRecDepth 100000 in
set_option maxHeartbeats 1000000 in
theorem writep_t (reg v : Int) (hv : 0 ≤ v ∧ v ≤ 255) (tb o : Nat) (x : Tm) (hm : x.May) (w : World) (h : Tw tb o x w) : Calls Tryd.prog 69 #[.pointer (some ⟨tb, o, none⟩), .int .i64 reg, .int .u8 v] w (TmEnd tb o (.int .i64 (regE reg)) (writeT x reg v) w) := by
  have HC := Lib.hid (control_c v hv tb o x w h)
  obtain ⟨h0, h1, h2, h3, h4, h5⟩ := h.cells
  have f0 := h.f 0 (by omega)
  rw [Nat.add_zero] at f0
  have f5 := h.f 5 (by omega)
  have HP := Lib.hid h.start
  obtain ⟨l, c, r, a, s, g⟩ := x
  obtain ⟨m1, m2⟩ := hm
  dsimp only at *
  clear h
  rcases reg_cases reg with rfl | rfl | rfl | rfl | ⟨n0, n1, n2, n3⟩
  · have e : writeT ⟨l, c, r, a, s, g⟩ 0 v = ⟨l / 256 * 256 + v, c, r, a, s, g⟩ := rfl
    rw [e]
    have eb := low_byte l v m1 hv
    generalize l / 256 * 256 + v = N at *
    go_enter Tryd.func69, Tryd.ntmps69
    go_wp2
    go_ret
    exact ⟨rfl, HP.out.setL _⟩
  · have e : writeT ⟨l, c, r, a, s, g⟩ 1 v = ⟨l % 256 + 256 * v, c, r, a, s, g⟩ := rfl
    rw [e]
    have eb := high_byte l v m1 hv
    generalize l % 256 + 256 * v = N at *
    go_enter Tryd.func69, Tryd.ntmps69
    go_wp2
    go_ret
    exact ⟨rfl, HP.out.setL _⟩
  · have e : writeT ⟨l, c, r, a, s, g⟩ 2 v = ctlT ⟨l, c, r, a, s, g⟩ v := rfl
    rw [e]
    generalize ctlT ⟨l, c, r, a, s, g⟩ v = Y at *
    clear e
    go_enter Tryd.func69, Tryd.ntmps69
    go_wp2_with fail
    refine HC.out.mono ?_
    rintro _ u ⟨rfl, hT⟩
    have HT := Lib.hid hT
    clear hT
    go_wp2
    go_ret
    exact ⟨rfl, HT.out⟩
  · have e : writeT ⟨l, c, r, a, s, g⟩ 3 v = ⟨l, c, r, a, s, false⟩ := rfl
    rw [e]
    go_enter Tryd.func69, Tryd.ntmps69
    go_wp2
    go_ret
    exact ⟨rfl, HP.out.setG _⟩
  · have e : writeT ⟨l, c, r, a, s, g⟩ reg v = ⟨l, c, r, a, s, g⟩ := by unfold writeT; rw [if_neg n0, if_neg n1, if_neg n2, if_neg n3]
    have eE : regE reg = 10 := by unfold regE; rw [if_neg (by omega)]
    rw [e, eE]
    have d0 : (reg == 0) = false := by simpa using n0
    have d1 : (reg == 1) = false := by simpa using n1
    have d2 : (reg == 2) = false := by simpa using n2
    have d3 : (reg == 3) = false := by simpa using n3
    clear n0 n1 n2 n3 e eE
    go_enter Tryd.func69, Tryd.ntmps69
    go_wp2
    go_ret
    exact ⟨rfl, HP.out⟩
end Go.Proofs.YtcnejgilmciljaaDoor
set_option linter.unusedSimpArgs false
set_option linter.unusedVariables false
namespace Go.Proofs.YtcnejgilmciljaaDoor
open Go.RowKit Go.PlainAid

set_option maxRecDepth 100000 in
set_option maxHeartbeats 2000000 in
theorem bits3_c (gb : Nat) (r a s : Bool) (w : World) (h0 : w.cell? ⟨gb, 0, none⟩ = some (.bool r)) (h1 : w.cell? ⟨gb, 1, none⟩ = some (.bool a)) (h2 : w.cell? ⟨gb, 2, none⟩ = some (.bool s)) :
    Calls Tryd.prog 74 #[.int .i64 0, .slice (some ⟨gb, 0, none⟩) 3 3] w fun e w' => e = .returned (.int .u8 (ctrlT r a s)) ∧ Below w.heap.size w w' := by
  have e01 : bits .or .u8 0 1 = 1 := by decide
  have e02 : bits .or .u8 0 2 = 2 := by decide
  have e04 : bits .or .u8 0 4 = 4 := by decide
  have e12 : bits .or .u8 1 2 = 3 := by decide
  have e14 : bits .or .u8 1 4 = 5 := by decide
  have e24 : bits .or .u8 2 4 = 6 := by decide
  have e34 : bits .or .u8 3 4 = 7 := by decide
  cases r <;> cases a <;> cases s
  all_goals
    go_enter Tryd.func74, Tryd.ntmps74
    go_wp2_with fail
    refine wp_loop_rounds 4 ?_
    rw [rounds_succ]
    go_wp2_with fail
    rw [rounds_succ]
    go_wp2_with fail
    rw [rounds_succ]
    go_wp2_with fail
    rw [rounds_succ]
    go_wp2
    go_ret
    exact ⟨rfl, by go_grown⟩
set_option maxRecDepth 100000 in
set_option maxHeartbeats 2000000 in
theorem bits1_c (gb : Nat) (g : Bool) (w : World) (h0 : w.cell? ⟨gb, 0, none⟩ = some (.bool g)) :
    Calls Tryd.prog 74 #[.int .i64 7, .slice (some ⟨gb, 0, none⟩) 1 1] w fun e w' => e = .returned (.int .u8 (if g then 128 else 0)) ∧ Below w.heap.size w w' := by
  have e01 : bits .or .u8 0 128 = 128 := by decide
  cases g
  all_goals
    go_enter Tryd.func74, Tryd.ntmps74
    go_wp2_with fail
    refine wp_loop_rounds 2 ?_
    rw [rounds_succ]
    go_wp2_with fail
    rw [rounds_succ]
    go_wp2
    go_ret
    exact ⟨rfl, by go_grown⟩
set_option maxRecDepth 100000 in
theorem readn_t (reg : Int) (w : World) : Calls Tryd.prog 67 #[.pointer none, .int .i64 reg] w fun e w' => e = .returned (.tuple #[.int .u8 0, .int .i64 2]) ∧ Below w.heap.size w w' := by
  go_enter Tryd.func67, Tryd.ntmps67
  go_wp2
  go_ret2
  exact ⟨rfl, by go_grown⟩
set_option maxRecDepth 100000 in
set_option maxHeartbeats 1000000 in
theorem readp_t (reg : Int) (tb o : Nat) (x : Tm) (hm : x.May) (w : World) (h : Tw tb o x w) : Calls Tryd.prog 67 #[.pointer (some ⟨tb, o, none⟩), .int .i64 reg] w fun e w' => e = .returned (.tuple #[.int .u8 (readT x reg), .int .i64 (regE reg)]) ∧ Below w.heap.size w w' := by
  have HB3 := Lib.hid (fun gb r a s W h0 h1 h2 => bits3_c gb r a s W h0 h1 h2)
  have HB1 := Lib.hid (fun gb g W h0 => bits1_c gb g W h0)
  obtain ⟨h0, h1, h2, h3, h4, h5⟩ := h.cells
  obtain ⟨l, c, r, a, s, g⟩ := x
  obtain ⟨m1, m2⟩ := hm
  dsimp only at *
  clear h
  rcases reg_cases reg with rfl | rfl | rfl | rfl | ⟨n0, n1, n2, n3⟩
  · have e : readT ⟨l, c, r, a, s, g⟩ 0 = c % 256 := rfl
    rw [e]
    go_enter Tryd.func67, Tryd.ntmps67
    go_wp2
    go_ret2
    exact ⟨by first | rfl | (simp [regE]; done), by go_grown⟩
  · have e : readT ⟨l, c, r, a, s, g⟩ 1 = c / 256 := rfl
    rw [e]
    have hc : c / 256 % 256 = c / 256 := by omega
    go_enter Tryd.func67, Tryd.ntmps67
    go_wp2
    go_ret2
    exact ⟨by first | rfl | (simp [regE, hc]; done), by go_grown⟩
  · have e : readT ⟨l, c, r, a, s, g⟩ 2 = ctrlT r a s := rfl
    rw [e]
    clear e
    have ht_0 := h0
    have ht_1 := h1
    have ht_2 := h2
    have ht_3 := h3
    have ht_4 := h4
    have hlt := klt h0
    clear h0 h1 h2 h3 h4 h5
    go_enter Tryd.func67, Tryd.ntmps67
    go_wp2_with fail
    refine wp_region_planT 12 (fun w' => w'.cell? ⟨tb, o, none⟩ = some (.int .i64 l) ∧ w'.cell? ⟨tb, o + 1, none⟩ = some (.int .i64 c) ∧ w'.cell? ⟨tb, o + 2, none⟩ = some (.bool r) ∧ w'.cell? ⟨tb, o + 3, none⟩ = some (.bool a) ∧ w'.cell? ⟨tb, o + 4, none⟩ = some (.bool s) ∧ Below w.heap.size w w') (by kernel_rfl) (by kernel_rfl) (by kernel_rfl) (by kernel_rfl) ?_ ?_
    · (try dsimp only)
      refine ⟨?_, ?_, ?_, ?_, ?_, ?_⟩ <;> first | (go_simp; done) | (simp [*]; done) | go_grown
    (try simp only [List.append_eq, List.cons_append, List.nil_append, List.toList_toArray, List.take_succ_cons, List.take_zero, List.drop_succ_cons, List.drop_zero])
    repeat (first
      | (refine Plan.val (v := ?_) ?_ ?_ ?_; rotate_left; (· rfl); (· (intro W hSw; (try dsimp only at hSw); go_simp; all_goals (first | (with_reducible rfl) | (constructor <;> (with_reducible rfl)) | (rw [if_neg (by omega)]; done) | (rw [if_neg (by omega)]; with_reducible rfl)))); (try simp only [Act.put, List.setIfInBounds_toArray, List.set_cons_zero, List.set_cons_succ]))
      | (refine Plan.no ?_ ?_; (· rfl); (try simp only [Act.put, List.setIfInBounds_toArray, List.set_cons_zero, List.set_cons_succ])))
    refine Plan.done ?_
    intro u1 T
    (try dsimp only at T)
    obtain ⟨ht_0, ht_1, ht_2, ht_3, ht_4, hB⟩ := T
    have hsz := hB.size
    have hlt := klt ht_0
    obtain ⟨hnt0, hnt1, hkt1, hnt2, hkt2⟩ := ap0 hlt
    go_wp2_with fail
    ((with_reducible refine (HB3.out _ r a s _ (by go_simp) (by go_simp) (by go_simp)).mono ?_); rintro _ u2 ⟨rfl, hb⟩)
    have hz := hb.size
    (try simp only [World.size_alloc, World.size_setCell, World.size_drew] at hz)
    have hB' : Below w.heap.size w u2 := by
        refine kb ?_ hb
        go_grown
    clear ht_0 ht_1 ht_2 ht_3 ht_4 hB hsz hlt hnt0 hnt1 hkt1 hnt2 hkt2
    clear hb hz
    have hB := hB'; clear hB'
    have hsz := hB.size
    go_wp2
    go_ret2
    exact ⟨by first | rfl | (simp [regE]; done), by go_grown⟩
  · have e : readT ⟨l, c, r, a, s, g⟩ 3 = if g then 128 else 0 := rfl
    rw [e]
    clear e
    have HBg := Lib.hid (fun gb W h0 => HB1.out gb g W h0)
    generalize (if g = true then (128 : Int) else 0) = G at HBg ⊢
    go_enter Tryd.func67, Tryd.ntmps67
    go_wp2_with fail
    refine (HBg.out _ _ (by go_simp)).mono ?_
    rintro _ u ⟨rfl, hb⟩
    have hB : Below w.heap.size w u := ((Below.refl _ _).alloc (Nat.le_refl _) _).trans (hb.mono (by simp))
    clear hb h0 h1 h2 h3 h4 h5
    go_wp2
    go_ret2
    exact ⟨by first | rfl | (simp [regE]; done), by go_grown⟩
  · have e : readT ⟨l, c, r, a, s, g⟩ reg = 0 := by unfold readT; rw [if_neg n0, if_neg n1, if_neg n2, if_neg n3]
    have eE : regE reg = 10 := by unfold regE; rw [if_neg (by omega)]
    rw [e, eE]
    have d0 : (reg == 0) = false := by simpa using n0
    have d1 : (reg == 1) = false := by simpa using n1
    have d2 : (reg == 2) = false := by simpa using n2
    have d3 : (reg == 3) = false := by simpa using n3
    clear n0 n1 n2 n3 e eE
    go_enter Tryd.func67, Tryd.ntmps67
    go_wp2
    go_ret2
    exact ⟨rfl, by go_grown⟩
set_option maxRecDepth 100000 in
theorem writeb_t (reg v : Int) (hr : ¬ (0 ≤ reg ∧ reg ≤ 3)) (tb o : Nat) (w : World) : Calls Tryd.prog 69 #[.pointer (some ⟨tb, o, none⟩), .int .i64 reg, .int .u8 v] w fun e w' => e = .returned (.int .i64 10) ∧ Below w.heap.size w w' := by
  have d0 : (reg == 0) = false := by simp; omega
  have d1 : (reg == 1) = false := by simp; omega
  have d2 : (reg == 2) = false := by simp; omega
  have d3 : (reg == 3) = false := by simp; omega
  clear hr
  go_enter Tryd.func69, Tryd.ntmps69
  go_wp2
  go_ret
  exact ⟨rfl, by go_grown⟩
/-- The calls that write, as a law's walk takes them. -/
theorem tickp_x (tb o : Nat) (x : Tm) (hm : x.May) (w : World) (h : Tw tb o x w) : Calls Tryd.prog 41 #[.pointer (some ⟨tb, o, none⟩)] w fun e w' => e = .returned (.tuple #[]) ∧ w.grownBy w' (some tb) ∧ Tw tb o (tickT x) w' :=
  (tickp_c tb o x hm w h).mono fun _ _ ⟨h1, h2⟩ => ⟨h1, h2.g, h2.t⟩
theorem writep_x (reg v : Int) (hv : 0 ≤ v ∧ v ≤ 255) (tb o : Nat) (x : Tm) (hm : x.May) (w : World) (h : Tw tb o x w) : Calls Tryd.prog 69 #[.pointer (some ⟨tb, o, none⟩), .int .i64 reg, .int .u8 v] w fun e w' => e = .returned (.int .i64 (regE reg)) ∧ w.grownBy w' (some tb) ∧ Tw tb o (writeT x reg v) w' :=
  (writep_t reg v hv tb o x hm w h).mono fun _ _ ⟨h1, h2⟩ => ⟨h1, h2.g, h2.t⟩
end Go.Proofs.YtcnejgilmciljaaDoor
set_option linter.unusedSimpArgs false
set_option linter.unusedVariables false
namespace Go.Proofs.YtcnejgilmciljaaDoor
open Go.RowKit Go.PlainAid

theorem mayI_iff (n : Int) : mayI n = true ↔ 0 ≤ n ∧ n < 65536 := by
  unfold mayI
  simp only [Bool.and_eq_true, decide_eq_true_eq]
  omega
theorem mayI_not (n : Int) (h : ¬ (0 ≤ n ∧ n < 65536)) : mayI n = false := by
  cases e : mayI n
  · rfl
  · exact absurd ((mayI_iff n).1 e) h
theorem ret_tup6 {l c : Int} {r a s g : Bool} {y : Tm} (h : y = ⟨l, c, r, a, s, g⟩) : Ending.returned (.tuple #[.agg #[.int .i64 l, .int .i64 c, .bool r, .bool a, .bool s, .bool g], .int .i64 0]) = .returned (.tuple #[.agg #[.int .i64 y.l, .int .i64 y.c, .bool y.r, .bool y.a, .bool y.s, .bool y.g], .int .i64 0]) := by rw [h]
set_option maxRecDepth 100000 in
set_option maxHeartbeats 2000000 in
theorem afterp_bad (x : Tm) (n : Int) (h : ¬ (x.May ∧ 0 ≤ n ∧ n ≤ 1099511627776)) (w : World) : Calls Tryd.prog 23 #[.agg #[.int .i64 x.l, .int .i64 x.c, .bool x.r, .bool x.a, .bool x.s, .bool x.g], .int .i64 n] w
    fun e w' => e = .returned (.tuple #[.agg #[.int .i64 0, .int .i64 0, .bool false, .bool false, .bool false, .bool false], .int .i64 10]) ∧ Below w.heap.size w w' := by
  obtain ⟨l, c, r, a, s, g⟩ := x
  unfold Tm.May at h
  dsimp only at h ⊢
  have HL := Lib.hid (fun W => maybe_c l W)
  have HC := Lib.hid (fun W => maybe_c c W)
  by_cases h1 : 0 ≤ l ∧ l < 65536
  case neg =>
    rw [mayI_not l h1] at HL
    clear h h1
    go_enter Tryd.func23, Tryd.ntmps23
    go_wp2_with fail
    refine wp_scope_hid 0 fun C hC => ?_
    go_wp2_with fail
    ((with_reducible refine (HL.out _).mono ?_); rintro _ u1 ⟨rfl, hb⟩)
    have T : CF u1 w.heap.size 0 (.int .i64 l) ∧ CF u1 w.heap.size 1 (.int .i64 c) ∧ CF u1 w.heap.size 2 (.bool r) ∧ CF u1 w.heap.size 3 (.bool a) ∧ CF u1 w.heap.size 4 (.bool s) ∧ CF u1 w.heap.size 5 (.bool g) ∧ CF u1 (w.heap.size + 1) 0 (.int .i64 0) ∧ CF u1 (w.heap.size + 1) 1 (.int .i64 0) ∧ CF u1 (w.heap.size + 1) 2 (.bool false) ∧ CF u1 (w.heap.size + 1) 3 (.bool false) ∧ CF u1 (w.heap.size + 1) 4 (.bool false) ∧ CF u1 (w.heap.size + 1) 5 (.bool false) := by
        refine ⟨⟨?_, ?_⟩, ⟨?_, ?_⟩, ⟨?_, ?_⟩, ⟨?_, ?_⟩, ⟨?_, ?_⟩, ⟨?_, ?_⟩, ⟨?_, ?_⟩, ⟨?_, ?_⟩, ⟨?_, ?_⟩, ⟨?_, ?_⟩, ⟨?_, ?_⟩, ⟨?_, ?_⟩⟩ <;> first | (refine kc hb ?_ <;> (go_simp; first | done | rfl)) | (refine kfz hb ?_ ?_ <;> first | (go_size; done) | (go_simp; done))
    have hz := hb.size
    (try simp only [World.size_alloc, World.size_setCell, World.size_drew] at hz)
    have L : w.heap.size < u1.heap.size ∧ w.heap.size + 1 < u1.heap.size := by omega
    have hB' : Below w.heap.size w u1 := by
        refine kb ?_ hb
        go_grown
    clear hb hz
    obtain ⟨⟨ht_0, ft_0⟩, ⟨ht_1, ft_1⟩, ⟨ht_2, ft_2⟩, ⟨ht_3, ft_3⟩, ⟨ht_4, ft_4⟩, ⟨ht_5, ft_5⟩, ⟨hz_0, fz_0⟩, ⟨hz_1, fz_1⟩, ⟨hz_2, fz_2⟩, ⟨hz_3, fz_3⟩, ⟨hz_4, fz_4⟩, ⟨hz_5, fz_5⟩⟩ := T
    obtain ⟨hlt, hlz⟩ := L
    obtain ⟨hnt0, hnt1, hkt1, hnt2, hkt2⟩ := ap0 hlt
    obtain ⟨hnz0, hkz1⟩ := ap1 hlz
    have hB := hB'; clear hB'
    have hsz := hB.size
    go_wp2
    (try rw [Into.ret])
    refine bodyPost_ret (v := .tuple #[.agg #[.int .i64 0, .int .i64 0, .bool false, .bool false, .bool false, .bool false], .int .i64 10]) (by simp [results, Tryd.results23, go_sem, hz_0, hz_1, hz_2, hz_3, hz_4, hz_5] <;> first | done | rfl) rfl ⟨rfl, by go_grown⟩
  rw [(mayI_iff l).2 h1] at HL
  by_cases h2 : 0 ≤ c ∧ c < 65536
  case neg =>
    rw [mayI_not c h2] at HC
    clear h h1 h2
    go_enter Tryd.func23, Tryd.ntmps23
    go_wp2_with fail
    refine wp_scope_hid 0 fun C hC => ?_
    go_wp2_with fail
    ((with_reducible refine (HL.out _).mono ?_); rintro _ u1 ⟨rfl, hb⟩)
    have T : CF u1 w.heap.size 0 (.int .i64 l) ∧ CF u1 w.heap.size 1 (.int .i64 c) ∧ CF u1 w.heap.size 2 (.bool r) ∧ CF u1 w.heap.size 3 (.bool a) ∧ CF u1 w.heap.size 4 (.bool s) ∧ CF u1 w.heap.size 5 (.bool g) ∧ CF u1 (w.heap.size + 1) 0 (.int .i64 0) ∧ CF u1 (w.heap.size + 1) 1 (.int .i64 0) ∧ CF u1 (w.heap.size + 1) 2 (.bool false) ∧ CF u1 (w.heap.size + 1) 3 (.bool false) ∧ CF u1 (w.heap.size + 1) 4 (.bool false) ∧ CF u1 (w.heap.size + 1) 5 (.bool false) := by
        refine ⟨⟨?_, ?_⟩, ⟨?_, ?_⟩, ⟨?_, ?_⟩, ⟨?_, ?_⟩, ⟨?_, ?_⟩, ⟨?_, ?_⟩, ⟨?_, ?_⟩, ⟨?_, ?_⟩, ⟨?_, ?_⟩, ⟨?_, ?_⟩, ⟨?_, ?_⟩, ⟨?_, ?_⟩⟩ <;> first | (refine kc hb ?_ <;> (go_simp; first | done | rfl)) | (refine kfz hb ?_ ?_ <;> first | (go_size; done) | (go_simp; done))
    have hz := hb.size
    (try simp only [World.size_alloc, World.size_setCell, World.size_drew] at hz)
    have L : w.heap.size < u1.heap.size ∧ w.heap.size + 1 < u1.heap.size := by omega
    have hB' : Below w.heap.size w u1 := by
        refine kb ?_ hb
        go_grown
    clear hb hz
    obtain ⟨⟨ht_0, ft_0⟩, ⟨ht_1, ft_1⟩, ⟨ht_2, ft_2⟩, ⟨ht_3, ft_3⟩, ⟨ht_4, ft_4⟩, ⟨ht_5, ft_5⟩, ⟨hz_0, fz_0⟩, ⟨hz_1, fz_1⟩, ⟨hz_2, fz_2⟩, ⟨hz_3, fz_3⟩, ⟨hz_4, fz_4⟩, ⟨hz_5, fz_5⟩⟩ := T
    obtain ⟨hlt, hlz⟩ := L
    obtain ⟨hnt0, hnt1, hkt1, hnt2, hkt2⟩ := ap0 hlt
    obtain ⟨hnz0, hkz1⟩ := ap1 hlz
    have hB := hB'; clear hB'
    have hsz := hB.size
    go_wp2_with fail
    ((with_reducible refine (HC.out _).mono ?_); rintro _ u2 ⟨rfl, hb⟩)
    have T : CF u2 w.heap.size 0 (.int .i64 l) ∧ CF u2 w.heap.size 1 (.int .i64 c) ∧ CF u2 w.heap.size 2 (.bool r) ∧ CF u2 w.heap.size 3 (.bool a) ∧ CF u2 w.heap.size 4 (.bool s) ∧ CF u2 w.heap.size 5 (.bool g) ∧ CF u2 (w.heap.size + 1) 0 (.int .i64 0) ∧ CF u2 (w.heap.size + 1) 1 (.int .i64 0) ∧ CF u2 (w.heap.size + 1) 2 (.bool false) ∧ CF u2 (w.heap.size + 1) 3 (.bool false) ∧ CF u2 (w.heap.size + 1) 4 (.bool false) ∧ CF u2 (w.heap.size + 1) 5 (.bool false) := by
        refine ⟨⟨?_, ?_⟩, ⟨?_, ?_⟩, ⟨?_, ?_⟩, ⟨?_, ?_⟩, ⟨?_, ?_⟩, ⟨?_, ?_⟩, ⟨?_, ?_⟩, ⟨?_, ?_⟩, ⟨?_, ?_⟩, ⟨?_, ?_⟩, ⟨?_, ?_⟩, ⟨?_, ?_⟩⟩ <;> first | (refine kc hb ?_ <;> (go_simp; first | done | rfl)) | (refine kfz hb ?_ ?_ <;> first | (go_size; done) | (go_simp; done))
    have hz := hb.size
    (try simp only [World.size_alloc, World.size_setCell, World.size_drew] at hz)
    have L : w.heap.size < u2.heap.size ∧ w.heap.size + 1 < u2.heap.size := by omega
    have hB' : Below w.heap.size w u2 := by
        refine kb ?_ hb
        go_grown
    clear ht_0 ft_0 ht_1 ft_1 ht_2 ft_2 ht_3 ft_3 ht_4 ft_4 ht_5 ft_5 hz_0 fz_0 hz_1 fz_1 hz_2 fz_2 hz_3 fz_3 hz_4 fz_4 hz_5 fz_5 hlt hlz hnt0 hnt1 hkt1 hnt2 hkt2 hnz0 hkz1 hB hsz
    clear hb hz
    obtain ⟨⟨ht_0, ft_0⟩, ⟨ht_1, ft_1⟩, ⟨ht_2, ft_2⟩, ⟨ht_3, ft_3⟩, ⟨ht_4, ft_4⟩, ⟨ht_5, ft_5⟩, ⟨hz_0, fz_0⟩, ⟨hz_1, fz_1⟩, ⟨hz_2, fz_2⟩, ⟨hz_3, fz_3⟩, ⟨hz_4, fz_4⟩, ⟨hz_5, fz_5⟩⟩ := T
    obtain ⟨hlt, hlz⟩ := L
    obtain ⟨hnt0, hnt1, hkt1, hnt2, hkt2⟩ := ap0 hlt
    obtain ⟨hnz0, hkz1⟩ := ap1 hlz
    have hB := hB'; clear hB'
    have hsz := hB.size
    go_wp2
    (try rw [Into.ret])
    refine bodyPost_ret (v := .tuple #[.agg #[.int .i64 0, .int .i64 0, .bool false, .bool false, .bool false, .bool false], .int .i64 10]) (by simp [results, Tryd.results23, go_sem, hz_0, hz_1, hz_2, hz_3, hz_4, hz_5] <;> first | done | rfl) rfl ⟨rfl, by go_grown⟩
  rw [(mayI_iff c).2 h2] at HC
  have h3 : n < 0 ∨ 0 ≤ n ∧ 1099511627776 < n := by omega
  clear h h1 h2
  rcases h3 with h3 | ⟨h3, h4⟩
  all_goals
    go_enter Tryd.func23, Tryd.ntmps23
    go_wp2_with fail
    refine wp_scope_hid 0 fun C hC => ?_
    go_wp2_with fail
    ((with_reducible refine (HL.out _).mono ?_); rintro _ u1 ⟨rfl, hb⟩)
    have T : CF u1 w.heap.size 0 (.int .i64 l) ∧ CF u1 w.heap.size 1 (.int .i64 c) ∧ CF u1 w.heap.size 2 (.bool r) ∧ CF u1 w.heap.size 3 (.bool a) ∧ CF u1 w.heap.size 4 (.bool s) ∧ CF u1 w.heap.size 5 (.bool g) ∧ CF u1 (w.heap.size + 1) 0 (.int .i64 0) ∧ CF u1 (w.heap.size + 1) 1 (.int .i64 0) ∧ CF u1 (w.heap.size + 1) 2 (.bool false) ∧ CF u1 (w.heap.size + 1) 3 (.bool false) ∧ CF u1 (w.heap.size + 1) 4 (.bool false) ∧ CF u1 (w.heap.size + 1) 5 (.bool false) := by
        refine ⟨⟨?_, ?_⟩, ⟨?_, ?_⟩, ⟨?_, ?_⟩, ⟨?_, ?_⟩, ⟨?_, ?_⟩, ⟨?_, ?_⟩, ⟨?_, ?_⟩, ⟨?_, ?_⟩, ⟨?_, ?_⟩, ⟨?_, ?_⟩, ⟨?_, ?_⟩, ⟨?_, ?_⟩⟩ <;> first | (refine kc hb ?_ <;> (go_simp; first | done | rfl)) | (refine kfz hb ?_ ?_ <;> first | (go_size; done) | (go_simp; done))
    have hz := hb.size
    (try simp only [World.size_alloc, World.size_setCell, World.size_drew] at hz)
    have L : w.heap.size < u1.heap.size ∧ w.heap.size + 1 < u1.heap.size := by omega
    have hB' : Below w.heap.size w u1 := by
        refine kb ?_ hb
        go_grown
    clear hb hz
    obtain ⟨⟨ht_0, ft_0⟩, ⟨ht_1, ft_1⟩, ⟨ht_2, ft_2⟩, ⟨ht_3, ft_3⟩, ⟨ht_4, ft_4⟩, ⟨ht_5, ft_5⟩, ⟨hz_0, fz_0⟩, ⟨hz_1, fz_1⟩, ⟨hz_2, fz_2⟩, ⟨hz_3, fz_3⟩, ⟨hz_4, fz_4⟩, ⟨hz_5, fz_5⟩⟩ := T
    obtain ⟨hlt, hlz⟩ := L
    obtain ⟨hnt0, hnt1, hkt1, hnt2, hkt2⟩ := ap0 hlt
    obtain ⟨hnz0, hkz1⟩ := ap1 hlz
    have hB := hB'; clear hB'
    have hsz := hB.size
    go_wp2_with fail
    ((with_reducible refine (HC.out _).mono ?_); rintro _ u2 ⟨rfl, hb⟩)
    have T : CF u2 w.heap.size 0 (.int .i64 l) ∧ CF u2 w.heap.size 1 (.int .i64 c) ∧ CF u2 w.heap.size 2 (.bool r) ∧ CF u2 w.heap.size 3 (.bool a) ∧ CF u2 w.heap.size 4 (.bool s) ∧ CF u2 w.heap.size 5 (.bool g) ∧ CF u2 (w.heap.size + 1) 0 (.int .i64 0) ∧ CF u2 (w.heap.size + 1) 1 (.int .i64 0) ∧ CF u2 (w.heap.size + 1) 2 (.bool false) ∧ CF u2 (w.heap.size + 1) 3 (.bool false) ∧ CF u2 (w.heap.size + 1) 4 (.bool false) ∧ CF u2 (w.heap.size + 1) 5 (.bool false) := by
        refine ⟨⟨?_, ?_⟩, ⟨?_, ?_⟩, ⟨?_, ?_⟩, ⟨?_, ?_⟩, ⟨?_, ?_⟩, ⟨?_, ?_⟩, ⟨?_, ?_⟩, ⟨?_, ?_⟩, ⟨?_, ?_⟩, ⟨?_, ?_⟩, ⟨?_, ?_⟩, ⟨?_, ?_⟩⟩ <;> first | (refine kc hb ?_ <;> (go_simp; first | done | rfl)) | (refine kfz hb ?_ ?_ <;> first | (go_size; done) | (go_simp; done))
    have hz := hb.size
    (try simp only [World.size_alloc, World.size_setCell, World.size_drew] at hz)
    have L : w.heap.size < u2.heap.size ∧ w.heap.size + 1 < u2.heap.size := by omega
    have hB' : Below w.heap.size w u2 := by
        refine kb ?_ hb
        go_grown
    clear ht_0 ft_0 ht_1 ft_1 ht_2 ft_2 ht_3 ft_3 ht_4 ft_4 ht_5 ft_5 hz_0 fz_0 hz_1 fz_1 hz_2 fz_2 hz_3 fz_3 hz_4 fz_4 hz_5 fz_5 hlt hlz hnt0 hnt1 hkt1 hnt2 hkt2 hnz0 hkz1 hB hsz
    clear hb hz
    obtain ⟨⟨ht_0, ft_0⟩, ⟨ht_1, ft_1⟩, ⟨ht_2, ft_2⟩, ⟨ht_3, ft_3⟩, ⟨ht_4, ft_4⟩, ⟨ht_5, ft_5⟩, ⟨hz_0, fz_0⟩, ⟨hz_1, fz_1⟩, ⟨hz_2, fz_2⟩, ⟨hz_3, fz_3⟩, ⟨hz_4, fz_4⟩, ⟨hz_5, fz_5⟩⟩ := T
    obtain ⟨hlt, hlz⟩ := L
    obtain ⟨hnt0, hnt1, hkt1, hnt2, hkt2⟩ := ap0 hlt
    obtain ⟨hnz0, hkz1⟩ := ap1 hlz
    have hB := hB'; clear hB'
    have hsz := hB.size
    go_wp2
    (try rw [Into.ret])
    refine bodyPost_ret (v := .tuple #[.agg #[.int .i64 0, .int .i64 0, .bool false, .bool false, .bool false, .bool false], .int .i64 10]) (by simp [results, Tryd.results23, go_sem, hz_0, hz_1, hz_2, hz_3, hz_4, hz_5] <;> first | done | rfl) rfl ⟨rfl, by go_grown⟩
set_option maxRecDepth 100000 in
set_option maxHeartbeats 2000000 in
theorem afterp_c (x : Tm) (n : Int) (hm : x.May) (h0 : 0 ≤ n) (hn : n ≤ 1099511627776) (w : World) : Calls Tryd.prog 23 #[.agg #[.int .i64 x.l, .int .i64 x.c, .bool x.r, .bool x.a, .bool x.s, .bool x.g], .int .i64 n] w
    fun e w' => e = .returned (.tuple #[.agg #[.int .i64 (afterT x n).l, .int .i64 (afterT x n).c, .bool (afterT x n).r, .bool (afterT x n).a, .bool (afterT x n).s, .bool (afterT x n).g], .int .i64 0]) ∧ Below w.heap.size w w' := by
  have HM := Lib.hid hm
  obtain ⟨l, c, r, a, s, g⟩ := x
  obtain ⟨h1, h2⟩ := hm
  dsimp only at h1 h2 ⊢
  have HL := Lib.hid (fun W => maybe_c l W)
  have HC := Lib.hid (fun W => maybe_c c W)
  rw [(mayI_iff l).2 h1] at HL
  rw [(mayI_iff c).2 h2] at HC
  have d1 : decide (n < 0) = false := by simpa using h0
  have d2 : decide (1099511627776 < n) = false := by simpa using hn
  cases r
  · have _k := trivial
    rw [afterT_still _ _ rfl]
    dsimp only
    go_enter Tryd.func23, Tryd.ntmps23
    go_wp2_with fail
    refine wp_scope_hid 0 fun C hC => ?_
    go_wp2_with fail
    ((with_reducible refine (HL.out _).mono ?_); rintro _ u1 ⟨rfl, hb⟩)
    have T : CF u1 w.heap.size 0 (.int .i64 l) ∧ CF u1 w.heap.size 1 (.int .i64 c) ∧ CF u1 w.heap.size 2 (.bool false) ∧ CF u1 w.heap.size 3 (.bool a) ∧ CF u1 w.heap.size 4 (.bool s) ∧ CF u1 w.heap.size 5 (.bool g) ∧ CF u1 (w.heap.size + 1) 0 (.int .i64 0) ∧ CF u1 (w.heap.size + 1) 1 (.int .i64 0) ∧ CF u1 (w.heap.size + 1) 2 (.bool false) ∧ CF u1 (w.heap.size + 1) 3 (.bool false) ∧ CF u1 (w.heap.size + 1) 4 (.bool false) ∧ CF u1 (w.heap.size + 1) 5 (.bool false) := by
        refine ⟨⟨?_, ?_⟩, ⟨?_, ?_⟩, ⟨?_, ?_⟩, ⟨?_, ?_⟩, ⟨?_, ?_⟩, ⟨?_, ?_⟩, ⟨?_, ?_⟩, ⟨?_, ?_⟩, ⟨?_, ?_⟩, ⟨?_, ?_⟩, ⟨?_, ?_⟩, ⟨?_, ?_⟩⟩ <;> first | (refine kc hb ?_ <;> (go_simp; first | done | rfl)) | (refine kfz hb ?_ ?_ <;> first | (go_size; done) | (go_simp; done))
    have hz := hb.size
    (try simp only [World.size_alloc, World.size_setCell, World.size_drew] at hz)
    have L : w.heap.size < u1.heap.size ∧ w.heap.size + 1 < u1.heap.size := by omega
    have hB' : Below w.heap.size w u1 := by
        refine kb ?_ hb
        go_grown
    clear hb hz
    obtain ⟨⟨ht_0, ft_0⟩, ⟨ht_1, ft_1⟩, ⟨ht_2, ft_2⟩, ⟨ht_3, ft_3⟩, ⟨ht_4, ft_4⟩, ⟨ht_5, ft_5⟩, ⟨hz_0, fz_0⟩, ⟨hz_1, fz_1⟩, ⟨hz_2, fz_2⟩, ⟨hz_3, fz_3⟩, ⟨hz_4, fz_4⟩, ⟨hz_5, fz_5⟩⟩ := T
    obtain ⟨hlt, hlz⟩ := L
    obtain ⟨hnt0, hnt1, hkt1, hnt2, hkt2⟩ := ap0 hlt
    obtain ⟨hnz0, hkz1⟩ := ap1 hlz
    have hB := hB'; clear hB'
    have hsz := hB.size
    go_wp2_with fail
    ((with_reducible refine (HC.out _).mono ?_); rintro _ u2 ⟨rfl, hb⟩)
    have T : CF u2 w.heap.size 0 (.int .i64 l) ∧ CF u2 w.heap.size 1 (.int .i64 c) ∧ CF u2 w.heap.size 2 (.bool false) ∧ CF u2 w.heap.size 3 (.bool a) ∧ CF u2 w.heap.size 4 (.bool s) ∧ CF u2 w.heap.size 5 (.bool g) ∧ CF u2 (w.heap.size + 1) 0 (.int .i64 0) ∧ CF u2 (w.heap.size + 1) 1 (.int .i64 0) ∧ CF u2 (w.heap.size + 1) 2 (.bool false) ∧ CF u2 (w.heap.size + 1) 3 (.bool false) ∧ CF u2 (w.heap.size + 1) 4 (.bool false) ∧ CF u2 (w.heap.size + 1) 5 (.bool false) := by
        refine ⟨⟨?_, ?_⟩, ⟨?_, ?_⟩, ⟨?_, ?_⟩, ⟨?_, ?_⟩, ⟨?_, ?_⟩, ⟨?_, ?_⟩, ⟨?_, ?_⟩, ⟨?_, ?_⟩, ⟨?_, ?_⟩, ⟨?_, ?_⟩, ⟨?_, ?_⟩, ⟨?_, ?_⟩⟩ <;> first | (refine kc hb ?_ <;> (go_simp; first | done | rfl)) | (refine kfz hb ?_ ?_ <;> first | (go_size; done) | (go_simp; done))
    have hz := hb.size
    (try simp only [World.size_alloc, World.size_setCell, World.size_drew] at hz)
    have L : w.heap.size < u2.heap.size ∧ w.heap.size + 1 < u2.heap.size := by omega
    have hB' : Below w.heap.size w u2 := by
        refine kb ?_ hb
        go_grown
    clear ht_0 ft_0 ht_1 ft_1 ht_2 ft_2 ht_3 ft_3 ht_4 ft_4 ht_5 ft_5 hz_0 fz_0 hz_1 fz_1 hz_2 fz_2 hz_3 fz_3 hz_4 fz_4 hz_5 fz_5 hlt hlz hnt0 hnt1 hkt1 hnt2 hkt2 hnz0 hkz1 hB hsz
    clear hb hz
    obtain ⟨⟨ht_0, ft_0⟩, ⟨ht_1, ft_1⟩, ⟨ht_2, ft_2⟩, ⟨ht_3, ft_3⟩, ⟨ht_4, ft_4⟩, ⟨ht_5, ft_5⟩, ⟨hz_0, fz_0⟩, ⟨hz_1, fz_1⟩, ⟨hz_2, fz_2⟩, ⟨hz_3, fz_3⟩, ⟨hz_4, fz_4⟩, ⟨hz_5, fz_5⟩⟩ := T
    obtain ⟨hlt, hlz⟩ := L
    obtain ⟨hnt0, hnt1, hkt1, hnt2, hkt2⟩ := ap0 hlt
    obtain ⟨hnz0, hkz1⟩ := ap1 hlz
    have hB := hB'; clear hB'
    have hsz := hB.size
    go_wp2_with fail
    apply wp_label
    go_wp2
    rw [Into.ret]
    refine bodyPost_ret (v := .tuple #[.agg #[.int .i64 l, .int .i64 c, .bool false, .bool a, .bool s, .bool g], .int .i64 0]) (by simp [results, Tryd.results23, go_sem, hz_0, hz_1, hz_2, hz_3, hz_4, hz_5] <;> first | done | rfl) rfl ⟨rfl, by go_grown⟩
  by_cases hc : n ≤ c
  · have _k := trivial
    rw [afterT_down _ n rfl h0 hc]
    dsimp only
    have d3 : decide (c < n) = false := by simpa using hc
    go_enter Tryd.func23, Tryd.ntmps23
    go_wp2_with fail
    refine wp_scope_hid 0 fun C hC => ?_
    go_wp2_with fail
    ((with_reducible refine (HL.out _).mono ?_); rintro _ u1 ⟨rfl, hb⟩)
    have T : CF u1 w.heap.size 0 (.int .i64 l) ∧ CF u1 w.heap.size 1 (.int .i64 c) ∧ CF u1 w.heap.size 2 (.bool true) ∧ CF u1 w.heap.size 3 (.bool a) ∧ CF u1 w.heap.size 4 (.bool s) ∧ CF u1 w.heap.size 5 (.bool g) ∧ CF u1 (w.heap.size + 1) 0 (.int .i64 0) ∧ CF u1 (w.heap.size + 1) 1 (.int .i64 0) ∧ CF u1 (w.heap.size + 1) 2 (.bool false) ∧ CF u1 (w.heap.size + 1) 3 (.bool false) ∧ CF u1 (w.heap.size + 1) 4 (.bool false) ∧ CF u1 (w.heap.size + 1) 5 (.bool false) := by
        refine ⟨⟨?_, ?_⟩, ⟨?_, ?_⟩, ⟨?_, ?_⟩, ⟨?_, ?_⟩, ⟨?_, ?_⟩, ⟨?_, ?_⟩, ⟨?_, ?_⟩, ⟨?_, ?_⟩, ⟨?_, ?_⟩, ⟨?_, ?_⟩, ⟨?_, ?_⟩, ⟨?_, ?_⟩⟩ <;> first | (refine kc hb ?_ <;> (go_simp; first | done | rfl)) | (refine kfz hb ?_ ?_ <;> first | (go_size; done) | (go_simp; done))
    have hz := hb.size
    (try simp only [World.size_alloc, World.size_setCell, World.size_drew] at hz)
    have L : w.heap.size < u1.heap.size ∧ w.heap.size + 1 < u1.heap.size := by omega
    have hB' : Below w.heap.size w u1 := by
        refine kb ?_ hb
        go_grown
    clear hb hz
    obtain ⟨⟨ht_0, ft_0⟩, ⟨ht_1, ft_1⟩, ⟨ht_2, ft_2⟩, ⟨ht_3, ft_3⟩, ⟨ht_4, ft_4⟩, ⟨ht_5, ft_5⟩, ⟨hz_0, fz_0⟩, ⟨hz_1, fz_1⟩, ⟨hz_2, fz_2⟩, ⟨hz_3, fz_3⟩, ⟨hz_4, fz_4⟩, ⟨hz_5, fz_5⟩⟩ := T
    obtain ⟨hlt, hlz⟩ := L
    obtain ⟨hnt0, hnt1, hkt1, hnt2, hkt2⟩ := ap0 hlt
    obtain ⟨hnz0, hkz1⟩ := ap1 hlz
    have hB := hB'; clear hB'
    have hsz := hB.size
    go_wp2_with fail
    ((with_reducible refine (HC.out _).mono ?_); rintro _ u2 ⟨rfl, hb⟩)
    have T : CF u2 w.heap.size 0 (.int .i64 l) ∧ CF u2 w.heap.size 1 (.int .i64 c) ∧ CF u2 w.heap.size 2 (.bool true) ∧ CF u2 w.heap.size 3 (.bool a) ∧ CF u2 w.heap.size 4 (.bool s) ∧ CF u2 w.heap.size 5 (.bool g) ∧ CF u2 (w.heap.size + 1) 0 (.int .i64 0) ∧ CF u2 (w.heap.size + 1) 1 (.int .i64 0) ∧ CF u2 (w.heap.size + 1) 2 (.bool false) ∧ CF u2 (w.heap.size + 1) 3 (.bool false) ∧ CF u2 (w.heap.size + 1) 4 (.bool false) ∧ CF u2 (w.heap.size + 1) 5 (.bool false) := by
        refine ⟨⟨?_, ?_⟩, ⟨?_, ?_⟩, ⟨?_, ?_⟩, ⟨?_, ?_⟩, ⟨?_, ?_⟩, ⟨?_, ?_⟩, ⟨?_, ?_⟩, ⟨?_, ?_⟩, ⟨?_, ?_⟩, ⟨?_, ?_⟩, ⟨?_, ?_⟩, ⟨?_, ?_⟩⟩ <;> first | (refine kc hb ?_ <;> (go_simp; first | done | rfl)) | (refine kfz hb ?_ ?_ <;> first | (go_size; done) | (go_simp; done))
    have hz := hb.size
    (try simp only [World.size_alloc, World.size_setCell, World.size_drew] at hz)
    have L : w.heap.size < u2.heap.size ∧ w.heap.size + 1 < u2.heap.size := by omega
    have hB' : Below w.heap.size w u2 := by
        refine kb ?_ hb
        go_grown
    clear ht_0 ft_0 ht_1 ft_1 ht_2 ft_2 ht_3 ft_3 ht_4 ft_4 ht_5 ft_5 hz_0 fz_0 hz_1 fz_1 hz_2 fz_2 hz_3 fz_3 hz_4 fz_4 hz_5 fz_5 hlt hlz hnt0 hnt1 hkt1 hnt2 hkt2 hnz0 hkz1 hB hsz
    clear hb hz
    obtain ⟨⟨ht_0, ft_0⟩, ⟨ht_1, ft_1⟩, ⟨ht_2, ft_2⟩, ⟨ht_3, ft_3⟩, ⟨ht_4, ft_4⟩, ⟨ht_5, ft_5⟩, ⟨hz_0, fz_0⟩, ⟨hz_1, fz_1⟩, ⟨hz_2, fz_2⟩, ⟨hz_3, fz_3⟩, ⟨hz_4, fz_4⟩, ⟨hz_5, fz_5⟩⟩ := T
    obtain ⟨hlt, hlz⟩ := L
    obtain ⟨hnt0, hnt1, hkt1, hnt2, hkt2⟩ := ap0 hlt
    obtain ⟨hnz0, hkz1⟩ := ap1 hlz
    have hB := hB'; clear hB'
    have hsz := hB.size
    go_wp2_with fail
    apply wp_label
    go_wp2
    rw [Into.ret]
    refine bodyPost_ret (v := .tuple #[.agg #[.int .i64 l, .int .i64 (c - n), .bool true, .bool a, .bool s, .bool g], .int .i64 0]) (by simp [results, Tryd.results23, go_sem, hz_0, hz_1, hz_2, hz_3, hz_4, hz_5] <;> first | done | rfl) rfl ⟨rfl, by go_grown⟩
  have hM0 : 0 ≤ (n - (c + 1)) % (l + 1) := Int.emod_nonneg _ (by omega)
  have hM1 : (n - (c + 1)) % (l + 1) < l + 1 := Int.emod_lt_of_pos _ (by omega)
  rw [afterT_past _ n rfl HM.out (by dsimp only; omega)]
  dsimp only
  have d3 : decide (c < n) = true := by simpa using hc
  have hcn : c < n := by omega
  obtain ⟨M, hM⟩ : ∃ M, (n - (c + 1)) % (l + 1) = M := ⟨_, rfl⟩
  rw [hM] at hM0 hM1 ⊢
  cases a
  · have _k := trivial
    have e : ringT ⟨l, c, true, false, s, g⟩ = ⟨l, 0, false, false, s, true⟩ := rfl
    rw [e, afterT_still _ _ rfl]
    dsimp only
    go_enter Tryd.func23, Tryd.ntmps23
    go_wp2_with fail
    refine wp_scope_hid 1 fun C hC => ?_
    go_wp2_with fail
    ((with_reducible refine (HL.out _).mono ?_); rintro _ u1 ⟨rfl, hb⟩)
    have T : CF u1 w.heap.size 0 (.int .i64 l) ∧ CF u1 w.heap.size 1 (.int .i64 c) ∧ CF u1 w.heap.size 2 (.bool true) ∧ CF u1 w.heap.size 3 (.bool false) ∧ CF u1 w.heap.size 4 (.bool s) ∧ CF u1 w.heap.size 5 (.bool g) ∧ CF u1 (w.heap.size + 1) 0 (.int .i64 0) ∧ CF u1 (w.heap.size + 1) 1 (.int .i64 0) ∧ CF u1 (w.heap.size + 1) 2 (.bool false) ∧ CF u1 (w.heap.size + 1) 3 (.bool false) ∧ CF u1 (w.heap.size + 1) 4 (.bool false) ∧ CF u1 (w.heap.size + 1) 5 (.bool false) := by
        refine ⟨⟨?_, ?_⟩, ⟨?_, ?_⟩, ⟨?_, ?_⟩, ⟨?_, ?_⟩, ⟨?_, ?_⟩, ⟨?_, ?_⟩, ⟨?_, ?_⟩, ⟨?_, ?_⟩, ⟨?_, ?_⟩, ⟨?_, ?_⟩, ⟨?_, ?_⟩, ⟨?_, ?_⟩⟩ <;> first | (refine kc hb ?_ <;> (go_simp; first | done | rfl)) | (refine kfz hb ?_ ?_ <;> first | (go_size; done) | (go_simp; done))
    have hz := hb.size
    (try simp only [World.size_alloc, World.size_setCell, World.size_drew] at hz)
    have L : w.heap.size < u1.heap.size ∧ w.heap.size + 1 < u1.heap.size := by omega
    have hB' : Below w.heap.size w u1 := by
        refine kb ?_ hb
        go_grown
    clear hb hz
    obtain ⟨⟨ht_0, ft_0⟩, ⟨ht_1, ft_1⟩, ⟨ht_2, ft_2⟩, ⟨ht_3, ft_3⟩, ⟨ht_4, ft_4⟩, ⟨ht_5, ft_5⟩, ⟨hz_0, fz_0⟩, ⟨hz_1, fz_1⟩, ⟨hz_2, fz_2⟩, ⟨hz_3, fz_3⟩, ⟨hz_4, fz_4⟩, ⟨hz_5, fz_5⟩⟩ := T
    obtain ⟨hlt, hlz⟩ := L
    obtain ⟨hnt0, hnt1, hkt1, hnt2, hkt2⟩ := ap0 hlt
    obtain ⟨hnz0, hkz1⟩ := ap1 hlz
    have hB := hB'; clear hB'
    have hsz := hB.size
    go_wp2_with fail
    ((with_reducible refine (HC.out _).mono ?_); rintro _ u2 ⟨rfl, hb⟩)
    have T : CF u2 w.heap.size 0 (.int .i64 l) ∧ CF u2 w.heap.size 1 (.int .i64 c) ∧ CF u2 w.heap.size 2 (.bool true) ∧ CF u2 w.heap.size 3 (.bool false) ∧ CF u2 w.heap.size 4 (.bool s) ∧ CF u2 w.heap.size 5 (.bool g) ∧ CF u2 (w.heap.size + 1) 0 (.int .i64 0) ∧ CF u2 (w.heap.size + 1) 1 (.int .i64 0) ∧ CF u2 (w.heap.size + 1) 2 (.bool false) ∧ CF u2 (w.heap.size + 1) 3 (.bool false) ∧ CF u2 (w.heap.size + 1) 4 (.bool false) ∧ CF u2 (w.heap.size + 1) 5 (.bool false) := by
        refine ⟨⟨?_, ?_⟩, ⟨?_, ?_⟩, ⟨?_, ?_⟩, ⟨?_, ?_⟩, ⟨?_, ?_⟩, ⟨?_, ?_⟩, ⟨?_, ?_⟩, ⟨?_, ?_⟩, ⟨?_, ?_⟩, ⟨?_, ?_⟩, ⟨?_, ?_⟩, ⟨?_, ?_⟩⟩ <;> first | (refine kc hb ?_ <;> (go_simp; first | done | rfl)) | (refine kfz hb ?_ ?_ <;> first | (go_size; done) | (go_simp; done))
    have hz := hb.size
    (try simp only [World.size_alloc, World.size_setCell, World.size_drew] at hz)
    have L : w.heap.size < u2.heap.size ∧ w.heap.size + 1 < u2.heap.size := by omega
    have hB' : Below w.heap.size w u2 := by
        refine kb ?_ hb
        go_grown
    clear ht_0 ft_0 ht_1 ft_1 ht_2 ft_2 ht_3 ft_3 ht_4 ft_4 ht_5 ft_5 hz_0 fz_0 hz_1 fz_1 hz_2 fz_2 hz_3 fz_3 hz_4 fz_4 hz_5 fz_5 hlt hlz hnt0 hnt1 hkt1 hnt2 hkt2 hnz0 hkz1 hB hsz
    clear hb hz
    obtain ⟨⟨ht_0, ft_0⟩, ⟨ht_1, ft_1⟩, ⟨ht_2, ft_2⟩, ⟨ht_3, ft_3⟩, ⟨ht_4, ft_4⟩, ⟨ht_5, ft_5⟩, ⟨hz_0, fz_0⟩, ⟨hz_1, fz_1⟩, ⟨hz_2, fz_2⟩, ⟨hz_3, fz_3⟩, ⟨hz_4, fz_4⟩, ⟨hz_5, fz_5⟩⟩ := T
    obtain ⟨hlt, hlz⟩ := L
    obtain ⟨hnt0, hnt1, hkt1, hnt2, hkt2⟩ := ap0 hlt
    obtain ⟨hnz0, hkz1⟩ := ap1 hlz
    have hB := hB'; clear hB'
    have hsz := hB.size
    go_wp2_with fail
    apply wp_label
    go_wp2_with fail
    have HT := Lib.hid (tickp_x w.heap.size 0 ⟨l, 0, true, false, s, g⟩ ⟨h1, by dsimp only; omega⟩)
    ((with_reducible refine (HT.out _ (Tw.mk0 (by go_simp) (by go_simp) (by go_simp) (by go_simp) (by go_simp) (by go_simp) (by go_simp) (by go_simp) (by go_simp) (by go_simp) (by go_simp) (by go_simp))).mono ?_); rintro _ u3 ⟨rfl, hb, hT⟩)
    have hs_u3 := Lib.hid hb
    have T : CF u3 (w.heap.size + 1) 0 (.int .i64 0) ∧ CF u3 (w.heap.size + 1) 1 (.int .i64 0) ∧ CF u3 (w.heap.size + 1) 2 (.bool false) ∧ CF u3 (w.heap.size + 1) 3 (.bool false) ∧ CF u3 (w.heap.size + 1) 4 (.bool false) ∧ CF u3 (w.heap.size + 1) 5 (.bool false) := by
        refine ⟨⟨?_, ?_⟩, ⟨?_, ?_⟩, ⟨?_, ?_⟩, ⟨?_, ?_⟩, ⟨?_, ?_⟩, ⟨?_, ?_⟩⟩ <;> first | (refine kg hb ?_ ?_; (· omega); (· (go_simp; first | done | rfl))) | (refine kgf hb ?_ ?_ ?_; (· omega); (· first | go_size | omega | (simp only [World.size_alloc, World.size_setCell, World.size_drew]; omega)); (· (go_simp; first | done | rfl)))
    have hz := hb.size
    (try simp only [World.size_alloc, World.size_setCell, World.size_drew] at hz)
    have L : w.heap.size + 1 < u3.heap.size := by omega
    have hB' : Below w.heap.size w u3 := by
        refine below_grown2 ?_ hb (by omega)
        go_grown
    clear ht_0 ft_0 ht_1 ft_1 ht_2 ft_2 ht_3 ft_3 ht_4 ft_4 ht_5 ft_5 hz_0 fz_0 hz_1 fz_1 hz_2 fz_2 hz_3 fz_3 hz_4 fz_4 hz_5 fz_5 hlt hlz hnt0 hnt1 hkt1 hnt2 hkt2 hnz0 hkz1 hB hsz
    clear hb hz
    obtain ⟨⟨hz_0, fz_0⟩, ⟨hz_1, fz_1⟩, ⟨hz_2, fz_2⟩, ⟨hz_3, fz_3⟩, ⟨hz_4, fz_4⟩, ⟨hz_5, fz_5⟩⟩ := T
    have hlz := L; clear L
    obtain ⟨hnz0, hnz1, hkz1, hnz2, hkz2⟩ := ap1f hlz
    have hB := hB'; clear hB'
    have hsz := hB.size
    rw [show tickT ⟨l, 0, true, false, s, g⟩ = ⟨l, 0, false, false, s, true⟩ from rfl] at hT
    have hlt3 := hT.lt
    obtain ⟨t0, t1, t2, t3, t4, t5⟩ := hT.at0
    dsimp only at t0 t1 t2 t3 t4 t5
    clear hT
    go_wp2_with fail
    refine wp_goto_hid hC rfl ?_
    go_wp2
    (try rw [Into.ret])
    refine bodyPost_ret (v := .tuple #[.agg #[.int .i64 l, .int .i64 0, .bool false, .bool false, .bool s, .bool true], .int .i64 0]) (by simp [results, Tryd.results23, go_sem, hz_0, hz_1, hz_2, hz_3, hz_4, hz_5] <;> first | done | rfl) rfl ⟨rfl, by go_grown⟩
  · have _k := trivial
    have e : ringT ⟨l, c, true, true, s, g⟩ = ⟨l, l, true, true, s, true⟩ := rfl
    rw [e, afterT_down _ M rfl hM0 (by dsimp only; omega)]
    dsimp only
    have d4 : decide (l < M) = false := by simp; omega
    have hlM : ¬ l < M := by omega
    go_enter Tryd.func23, Tryd.ntmps23
    go_wp2_with fail
    refine wp_scope_hid 1 fun C hC => ?_
    go_wp2_with fail
    ((with_reducible refine (HL.out _).mono ?_); rintro _ u1 ⟨rfl, hb⟩)
    have T : CF u1 w.heap.size 0 (.int .i64 l) ∧ CF u1 w.heap.size 1 (.int .i64 c) ∧ CF u1 w.heap.size 2 (.bool true) ∧ CF u1 w.heap.size 3 (.bool true) ∧ CF u1 w.heap.size 4 (.bool s) ∧ CF u1 w.heap.size 5 (.bool g) ∧ CF u1 (w.heap.size + 1) 0 (.int .i64 0) ∧ CF u1 (w.heap.size + 1) 1 (.int .i64 0) ∧ CF u1 (w.heap.size + 1) 2 (.bool false) ∧ CF u1 (w.heap.size + 1) 3 (.bool false) ∧ CF u1 (w.heap.size + 1) 4 (.bool false) ∧ CF u1 (w.heap.size + 1) 5 (.bool false) := by
        refine ⟨⟨?_, ?_⟩, ⟨?_, ?_⟩, ⟨?_, ?_⟩, ⟨?_, ?_⟩, ⟨?_, ?_⟩, ⟨?_, ?_⟩, ⟨?_, ?_⟩, ⟨?_, ?_⟩, ⟨?_, ?_⟩, ⟨?_, ?_⟩, ⟨?_, ?_⟩, ⟨?_, ?_⟩⟩ <;> first | (refine kc hb ?_ <;> (go_simp; first | done | rfl)) | (refine kfz hb ?_ ?_ <;> first | (go_size; done) | (go_simp; done))
    have hz := hb.size
    (try simp only [World.size_alloc, World.size_setCell, World.size_drew] at hz)
    have L : w.heap.size < u1.heap.size ∧ w.heap.size + 1 < u1.heap.size := by omega
    have hB' : Below w.heap.size w u1 := by
        refine kb ?_ hb
        go_grown
    clear hb hz
    obtain ⟨⟨ht_0, ft_0⟩, ⟨ht_1, ft_1⟩, ⟨ht_2, ft_2⟩, ⟨ht_3, ft_3⟩, ⟨ht_4, ft_4⟩, ⟨ht_5, ft_5⟩, ⟨hz_0, fz_0⟩, ⟨hz_1, fz_1⟩, ⟨hz_2, fz_2⟩, ⟨hz_3, fz_3⟩, ⟨hz_4, fz_4⟩, ⟨hz_5, fz_5⟩⟩ := T
    obtain ⟨hlt, hlz⟩ := L
    obtain ⟨hnt0, hnt1, hkt1, hnt2, hkt2⟩ := ap0 hlt
    obtain ⟨hnz0, hkz1⟩ := ap1 hlz
    have hB := hB'; clear hB'
    have hsz := hB.size
    go_wp2_with fail
    ((with_reducible refine (HC.out _).mono ?_); rintro _ u2 ⟨rfl, hb⟩)
    have T : CF u2 w.heap.size 0 (.int .i64 l) ∧ CF u2 w.heap.size 1 (.int .i64 c) ∧ CF u2 w.heap.size 2 (.bool true) ∧ CF u2 w.heap.size 3 (.bool true) ∧ CF u2 w.heap.size 4 (.bool s) ∧ CF u2 w.heap.size 5 (.bool g) ∧ CF u2 (w.heap.size + 1) 0 (.int .i64 0) ∧ CF u2 (w.heap.size + 1) 1 (.int .i64 0) ∧ CF u2 (w.heap.size + 1) 2 (.bool false) ∧ CF u2 (w.heap.size + 1) 3 (.bool false) ∧ CF u2 (w.heap.size + 1) 4 (.bool false) ∧ CF u2 (w.heap.size + 1) 5 (.bool false) := by
        refine ⟨⟨?_, ?_⟩, ⟨?_, ?_⟩, ⟨?_, ?_⟩, ⟨?_, ?_⟩, ⟨?_, ?_⟩, ⟨?_, ?_⟩, ⟨?_, ?_⟩, ⟨?_, ?_⟩, ⟨?_, ?_⟩, ⟨?_, ?_⟩, ⟨?_, ?_⟩, ⟨?_, ?_⟩⟩ <;> first | (refine kc hb ?_ <;> (go_simp; first | done | rfl)) | (refine kfz hb ?_ ?_ <;> first | (go_size; done) | (go_simp; done))
    have hz := hb.size
    (try simp only [World.size_alloc, World.size_setCell, World.size_drew] at hz)
    have L : w.heap.size < u2.heap.size ∧ w.heap.size + 1 < u2.heap.size := by omega
    have hB' : Below w.heap.size w u2 := by
        refine kb ?_ hb
        go_grown
    clear ht_0 ft_0 ht_1 ft_1 ht_2 ft_2 ht_3 ft_3 ht_4 ft_4 ht_5 ft_5 hz_0 fz_0 hz_1 fz_1 hz_2 fz_2 hz_3 fz_3 hz_4 fz_4 hz_5 fz_5 hlt hlz hnt0 hnt1 hkt1 hnt2 hkt2 hnz0 hkz1 hB hsz
    clear hb hz
    obtain ⟨⟨ht_0, ft_0⟩, ⟨ht_1, ft_1⟩, ⟨ht_2, ft_2⟩, ⟨ht_3, ft_3⟩, ⟨ht_4, ft_4⟩, ⟨ht_5, ft_5⟩, ⟨hz_0, fz_0⟩, ⟨hz_1, fz_1⟩, ⟨hz_2, fz_2⟩, ⟨hz_3, fz_3⟩, ⟨hz_4, fz_4⟩, ⟨hz_5, fz_5⟩⟩ := T
    obtain ⟨hlt, hlz⟩ := L
    obtain ⟨hnt0, hnt1, hkt1, hnt2, hkt2⟩ := ap0 hlt
    obtain ⟨hnz0, hkz1⟩ := ap1 hlz
    have hB := hB'; clear hB'
    have hsz := hB.size
    go_wp2_with fail
    apply wp_label
    go_wp2_with fail
    have HT := Lib.hid (tickp_x w.heap.size 0 ⟨l, 0, true, true, s, g⟩ ⟨h1, by dsimp only; omega⟩)
    ((with_reducible refine (HT.out _ (Tw.mk0 (by go_simp) (by go_simp) (by go_simp) (by go_simp) (by go_simp) (by go_simp) (by go_simp) (by go_simp) (by go_simp) (by go_simp) (by go_simp) (by go_simp))).mono ?_); rintro _ u3 ⟨rfl, hb, hT⟩)
    have hs_u3 := Lib.hid hb
    have T : CF u3 (w.heap.size + 1) 0 (.int .i64 0) ∧ CF u3 (w.heap.size + 1) 1 (.int .i64 0) ∧ CF u3 (w.heap.size + 1) 2 (.bool false) ∧ CF u3 (w.heap.size + 1) 3 (.bool false) ∧ CF u3 (w.heap.size + 1) 4 (.bool false) ∧ CF u3 (w.heap.size + 1) 5 (.bool false) := by
        refine ⟨⟨?_, ?_⟩, ⟨?_, ?_⟩, ⟨?_, ?_⟩, ⟨?_, ?_⟩, ⟨?_, ?_⟩, ⟨?_, ?_⟩⟩ <;> first | (refine kg hb ?_ ?_; (· omega); (· (go_simp; first | done | rfl))) | (refine kgf hb ?_ ?_ ?_; (· omega); (· first | go_size | omega | (simp only [World.size_alloc, World.size_setCell, World.size_drew]; omega)); (· (go_simp; first | done | rfl)))
    have hz := hb.size
    (try simp only [World.size_alloc, World.size_setCell, World.size_drew] at hz)
    have L : w.heap.size + 1 < u3.heap.size := by omega
    have hB' : Below w.heap.size w u3 := by
        refine below_grown2 ?_ hb (by omega)
        go_grown
    clear ht_0 ft_0 ht_1 ft_1 ht_2 ft_2 ht_3 ft_3 ht_4 ft_4 ht_5 ft_5 hz_0 fz_0 hz_1 fz_1 hz_2 fz_2 hz_3 fz_3 hz_4 fz_4 hz_5 fz_5 hlt hlz hnt0 hnt1 hkt1 hnt2 hkt2 hnz0 hkz1 hB hsz
    clear hb hz
    obtain ⟨⟨hz_0, fz_0⟩, ⟨hz_1, fz_1⟩, ⟨hz_2, fz_2⟩, ⟨hz_3, fz_3⟩, ⟨hz_4, fz_4⟩, ⟨hz_5, fz_5⟩⟩ := T
    have hlz := L; clear L
    obtain ⟨hnz0, hnz1, hkz1, hnz2, hkz2⟩ := ap1f hlz
    have hB := hB'; clear hB'
    have hsz := hB.size
    rw [show tickT ⟨l, 0, true, true, s, g⟩ = ⟨l, l, true, true, s, true⟩ from rfl] at hT
    have hlt3 := hT.lt
    obtain ⟨t0, t1, t2, t3, t4, t5⟩ := hT.at0
    obtain ⟨g0, g1, g2, g3, g4, g5⟩ := hT.free0
    dsimp only at t0 t1 t2 t3 t4 t5
    clear hT
    go_wp2_with fail
    refine wp_goto_hid hC rfl ?_
    go_wp2
    (try rw [Into.ret])
    refine bodyPost_ret (v := .tuple #[.agg #[.int .i64 l, .int .i64 (l - M), .bool true, .bool true, .bool s, .bool true], .int .i64 0]) (by simp [results, Tryd.results23, go_sem, hz_0, hz_1, hz_2, hz_3, hz_4, hz_5] <;> first | done | rfl) rfl ⟨rfl, by go_grown⟩
end Go.Proofs.YtcnejgilmciljaaDoor
