/-
  The program's timer: bits, Read.
-/
import Derived.Test.YtcpegglfgfgekaaProgw10
import Derived.Test.YtcpegglfgfgekaaPlanR
set_option linter.unusedSimpArgs false
set_option linter.unusedVariables false
namespace Go.Proofs.Ytcpegglfgfgekaa
open Go.RowKit Go.PlainAid

set_option maxRecDepth 100000 in
set_option maxHeartbeats 2000000 in
theorem bits3_c (gb : Nat) (r a s : Bool) (w : World) (h0 : w.cell? ⟨gb, 0, none⟩ = some (.bool r)) (h1 : w.cell? ⟨gb, 1, none⟩ = some (.bool a)) (h2 : w.cell? ⟨gb, 2, none⟩ = some (.bool s)) :
    Calls Try.prog 22 #[.int .i64 0, .slice (some ⟨gb, 0, none⟩) 3 3] w fun e w' => e = .returned (.int .u8 (ctrlT r a s)) ∧ Below w.heap.size w w' := by
  have e01 : bits .or .u8 0 1 = 1 := by decide
  have e02 : bits .or .u8 0 2 = 2 := by decide
  have e04 : bits .or .u8 0 4 = 4 := by decide
  have e12 : bits .or .u8 1 2 = 3 := by decide
  have e14 : bits .or .u8 1 4 = 5 := by decide
  have e24 : bits .or .u8 2 4 = 6 := by decide
  have e34 : bits .or .u8 3 4 = 7 := by decide
  cases r <;> cases a <;> cases s
  all_goals
    go_enter Try.func22, Try.ntmps22
    go_wp2_with fail
    refine wp_loop_rounds 4 ?_
    rw [rounds_succ]
    go_wp2_with fail
    rw [rounds_succ]
    go_wp2_with fail
    rw [rounds_succ]
    go_wp2_with fail
    rw [rounds_succ]
    go_wp2
    go_ret
    exact ⟨rfl, by go_grown⟩
set_option maxRecDepth 100000 in
set_option maxHeartbeats 2000000 in
theorem bits1_c (gb : Nat) (g : Bool) (w : World) (h0 : w.cell? ⟨gb, 0, none⟩ = some (.bool g)) :
    Calls Try.prog 22 #[.int .i64 7, .slice (some ⟨gb, 0, none⟩) 1 1] w fun e w' => e = .returned (.int .u8 (if g then 128 else 0)) ∧ Below w.heap.size w w' := by
  have e01 : bits .or .u8 0 128 = 128 := by decide
  cases g
  all_goals
    go_enter Try.func22, Try.ntmps22
    go_wp2_with fail
    refine wp_loop_rounds 2 ?_
    rw [rounds_succ]
    go_wp2_with fail
    rw [rounds_succ]
    go_wp2
    go_ret
    exact ⟨rfl, by go_grown⟩
set_option maxRecDepth 100000 in
theorem readn_t (reg : Int) (w : World) : Calls Try.prog 12 #[.pointer none, .int .i64 reg] w fun e w' => e = .returned (.tuple #[.int .u8 0, .int .i64 2]) ∧ Below w.heap.size w w' := by
  go_enter Try.func12, Try.ntmps12
  go_wp2
  go_ret2
  exact ⟨rfl, by go_grown⟩
set_option maxRecDepth 100000 in
set_option maxHeartbeats 1000000 in
theorem readp_t (reg : Int) (tb o : Nat) (x : Tm) (hm : x.May) (w : World) (h : Tw tb o x w) : Calls Try.prog 12 #[.pointer (some ⟨tb, o, none⟩), .int .i64 reg] w fun e w' => e = .returned (.tuple #[.int .u8 (readT x reg), .int .i64 (regE reg)]) ∧ Below w.heap.size w w' := by
  have HB3 := Lib.hid (fun gb r a s W h0 h1 h2 => bits3_c gb r a s W h0 h1 h2)
  have HB1 := Lib.hid (fun gb g W h0 => bits1_c gb g W h0)
  obtain ⟨h0, h1, h2, h3, h4, h5⟩ := h.cells
  obtain ⟨l, c, r, a, s, g⟩ := x
  obtain ⟨m1, m2⟩ := hm
  dsimp only at *
  clear h
  rcases reg_cases reg with rfl | rfl | rfl | rfl | ⟨n0, n1, n2, n3⟩
  · have e : readT ⟨l, c, r, a, s, g⟩ 0 = c % 256 := rfl
    rw [e]
    go_enter Try.func12, Try.ntmps12
    go_wp2
    go_ret2
    exact ⟨by first | rfl | (simp [regE]; done), by go_grown⟩
  · have e : readT ⟨l, c, r, a, s, g⟩ 1 = c / 256 := rfl
    rw [e]
    have hc : c / 256 % 256 = c / 256 := by omega
    go_enter Try.func12, Try.ntmps12
    go_wp2
    go_ret2
    exact ⟨by first | rfl | (simp [regE, hc]; done), by go_grown⟩
  · have e : readT ⟨l, c, r, a, s, g⟩ 2 = ctrlT r a s := rfl
    rw [e]
    clear e
    have ht_0 := h0
    have ht_1 := h1
    have ht_2 := h2
    have ht_3 := h3
    have ht_4 := h4
    have hlt := klt h0
    clear h0 h1 h2 h3 h4 h5
    go_enter Try.func12, Try.ntmps12
    go_wp2_with fail
    refine wp_region_planT 12 (fun w' => w'.cell? ⟨tb, o, none⟩ = some (.int .i64 l) ∧ w'.cell? ⟨tb, o + 1, none⟩ = some (.int .i64 c) ∧ w'.cell? ⟨tb, o + 2, none⟩ = some (.bool r) ∧ w'.cell? ⟨tb, o + 3, none⟩ = some (.bool a) ∧ w'.cell? ⟨tb, o + 4, none⟩ = some (.bool s) ∧ Below w.heap.size w w') (by kernel_rfl) (by kernel_rfl) (by kernel_rfl) (by kernel_rfl) ?_ ?_
    · (try dsimp only)
      refine ⟨?_, ?_, ?_, ?_, ?_, ?_⟩ <;> first | (go_simp; done) | (simp [*]; done) | go_grown
    (try simp only [List.append_eq, List.cons_append, List.nil_append, List.toList_toArray, List.take_succ_cons, List.take_zero, List.drop_succ_cons, List.drop_zero])
    repeat (first
      | (refine Plan.val (v := ?_) ?_ ?_ ?_; rotate_left; (· rfl); (· (intro W hSw; (try dsimp only at hSw); go_simp; all_goals (first | (with_reducible rfl) | (constructor <;> (with_reducible rfl)) | (rw [if_neg (by omega)]; done) | (rw [if_neg (by omega)]; with_reducible rfl)))); (try simp only [Act.put, List.setIfInBounds_toArray, List.set_cons_zero, List.set_cons_succ]))
      | (refine Plan.no ?_ ?_; (· rfl); (try simp only [Act.put, List.setIfInBounds_toArray, List.set_cons_zero, List.set_cons_succ])))
    refine Plan.done ?_
    intro u1 T
    (try dsimp only at T)
    obtain ⟨ht_0, ht_1, ht_2, ht_3, ht_4, hB⟩ := T
    have hsz := hB.size
    have hlt := klt ht_0
    obtain ⟨hnt0, hnt1, hkt1, hnt2, hkt2⟩ := ap0 hlt
    go_wp2_with fail
    ((with_reducible refine (HB3.out _ r a s _ (by go_simp) (by go_simp) (by go_simp)).mono ?_); rintro _ u2 ⟨rfl, hb⟩)
    have hz := hb.size
    (try simp only [World.size_alloc, World.size_setCell, World.size_drew] at hz)
    have hB' : Below w.heap.size w u2 := by
        refine kb ?_ hb
        go_grown
    clear ht_0 ht_1 ht_2 ht_3 ht_4 hB hsz hlt hnt0 hnt1 hkt1 hnt2 hkt2
    clear hb hz
    have hB := hB'; clear hB'
    have hsz := hB.size
    go_wp2
    go_ret2
    exact ⟨by first | rfl | (simp [regE]; done), by go_grown⟩
  · have e : readT ⟨l, c, r, a, s, g⟩ 3 = if g then 128 else 0 := rfl
    rw [e]
    clear e
    have HBg := Lib.hid (fun gb W h0 => HB1.out gb g W h0)
    generalize (if g = true then (128 : Int) else 0) = G at HBg ⊢
    go_enter Try.func12, Try.ntmps12
    go_wp2_with fail
    refine (HBg.out _ _ (by go_simp)).mono ?_
    rintro _ u ⟨rfl, hb⟩
    have hB : Below w.heap.size w u := ((Below.refl _ _).alloc (Nat.le_refl _) _).trans (hb.mono (by simp))
    clear hb h0 h1 h2 h3 h4 h5
    go_wp2
    go_ret2
    exact ⟨by first | rfl | (simp [regE]; done), by go_grown⟩
  · have e : readT ⟨l, c, r, a, s, g⟩ reg = 0 := by unfold readT; rw [if_neg n0, if_neg n1, if_neg n2, if_neg n3]
    have eE : regE reg = 10 := by unfold regE; rw [if_neg (by omega)]
    rw [e, eE]
    have d0 : (reg == 0) = false := by simpa using n0
    have d1 : (reg == 1) = false := by simpa using n1
    have d2 : (reg == 2) = false := by simpa using n2
    have d3 : (reg == 3) = false := by simpa using n3
    clear n0 n1 n2 n3 e eE
    go_enter Try.func12, Try.ntmps12
    go_wp2
    go_ret2
    exact ⟨rfl, by go_grown⟩
set_option maxRecDepth 100000 in
theorem writeb_t (reg v : Int) (hr : ¬ (0 ≤ reg ∧ reg ≤ 3)) (tb o : Nat) (w : World) : Calls Try.prog 15 #[.pointer (some ⟨tb, o, none⟩), .int .i64 reg, .int .u8 v] w fun e w' => e = .returned (.int .i64 10) ∧ Below w.heap.size w w' := by
  have d0 : (reg == 0) = false := by simp; omega
  have d1 : (reg == 1) = false := by simp; omega
  have d2 : (reg == 2) = false := by simp; omega
  have d3 : (reg == 3) = false := by simp; omega
  clear hr
  go_enter Try.func15, Try.ntmps15
  go_wp2
  go_ret
  exact ⟨rfl, by go_grown⟩
/-- The calls that write, as a law's walk takes them. -/
theorem tickp_x (tb o : Nat) (x : Tm) (hm : x.May) (w : World) (h : Tw tb o x w) : Calls Try.prog 18 #[.pointer (some ⟨tb, o, none⟩)] w fun e w' => e = .returned (.tuple #[]) ∧ w.grownBy w' (some tb) ∧ Tw tb o (tickT x) w' :=
  (tickp_c tb o x hm w h).mono fun _ _ ⟨h1, h2⟩ => ⟨h1, h2.g, h2.t⟩
theorem writep_x (reg v : Int) (hv : 0 ≤ v ∧ v ≤ 255) (tb o : Nat) (x : Tm) (hm : x.May) (w : World) (h : Tw tb o x w) : Calls Try.prog 15 #[.pointer (some ⟨tb, o, none⟩), .int .i64 reg, .int .u8 v] w fun e w' => e = .returned (.int .i64 (regE reg)) ∧ w.grownBy w' (some tb) ∧ Tw tb o (writeT x reg v) w' :=
  (writep_t reg v hv tb o x hm w h).mono fun _ _ ⟨h1, h2⟩ => ⟨h1, h2.g, h2.t⟩
end Go.Proofs.Ytcpegglfgfgekaa
