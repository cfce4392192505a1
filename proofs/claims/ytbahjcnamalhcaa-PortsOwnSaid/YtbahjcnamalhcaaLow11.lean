/-
  The program's Low.
-/
import Derived.Test.YtbahjcnamalhcaaEqual11
set_option linter.unusedSimpArgs false
set_option linter.unusedVariables false
namespace Go.Proofs.Ytbahjcnamalhcaa
open Go.RowKit Go.PlainAid

/-- Ports that are the same but for what is secret. -/
structure LowR (S T : Po) : Prop where
  pub : S.pub = T.pub
  sec : S.sec.length = T.sec.length
  out : S.out = T.out
  kept : AlikeL S.kept T.kept
  log : S.log = T.log
theorem lowR_refl (S : Po) : LowR S S := ⟨rfl, rfl, rfl, alikeL_refl _, rfl⟩
set_option maxRecDepth 100000 in
theorem low_nn (w : World) : Calls Try.prog 13 #[.pointer none, .pointer none] w fun e w' => e = .returned (.bool true) ∧ Below w.heap.size w w' := by
  go_enter Try.func13, Try.ntmps13
  go_wp2
  go_ret
  exact ⟨rfl, by go_grown⟩
set_option maxRecDepth 100000 in
theorem low_np (b : Addr) (w : World) : Calls Try.prog 13 #[.pointer none, .pointer (some b)] w fun e w' => e = .returned (.bool false) ∧ Below w.heap.size w w' := by
  go_enter Try.func13, Try.ntmps13
  go_wp2
  go_ret
  exact ⟨rfl, by go_grown⟩
set_option maxRecDepth 100000 in
theorem low_pn (b : Addr) (w : World) : Calls Try.prog 13 #[.pointer (some b), .pointer none] w fun e w' => e = .returned (.bool false) ∧ Below w.heap.size w w' := by
  go_enter Try.func13, Try.ntmps13
  go_wp2
  go_ret
  exact ⟨rfl, by go_grown⟩
set_option maxRecDepth 100000 in
set_option maxHeartbeats 4000000 in
theorem lowp_c (pb qb : Nat) (S T : Po) (hS : Fit S) (hL : LowR S T) (F G F2 G2 : Nat → Prop) (w : World) (h : PO pb S F G w) (h' : PO qb T F2 G2 w) :
    Calls Try.prog 13 #[.pointer (some ⟨pb, 0, none⟩), .pointer (some ⟨qb, 0, none⟩)] w fun e w' => e = .returned (.bool true) ∧ Below w.heap.size w w' := by
  obtain ⟨x, y, a, b, c, h, -, -⟩ := h
  obtain ⟨x', y', a', b', c', h', -, -⟩ := h'
  have hltp := h.hold.lt
  have hltq := h'.hold.lt
  obtain ⟨⟨k2, o2⟩, ⟨k3, o3⟩, k4, o4⟩ := h.at0
  obtain ⟨⟨l2, r2⟩, ⟨l3, r3⟩, l4, r4⟩ := h'.at0
  have k0 := h.p.c
  have k1 := h.s.c
  have l0 := h'.p.c
  have l1 := h'.s.c
  have hlog := hS.log
  have hb1 := hS.pub
  have hb2 := hS.sec
  have hb3 := hS.out
  have hb4 := hS.kept
  have hb5 := hS.told
  obtain ⟨e1, e2, e3, e4, e5⟩ := hL
  have HE1 := Lib.hid (fun W (hW : Below w.heap.size w W) => equal_b S.pub (by omega) x x' W (h.p.h.below hW) (by rw [e1]; exact h'.p.h.below hW))
  have HE2 := Lib.hid (fun W (hW : Below w.heap.size w W) => equal_b S.out (by omega) a a' W ((HoldsW.own bE_len o2).below hW) (by rw [e3]; exact (HoldsW.own bE_len r2).below hW))
  have HE3 := Lib.hid (fun W (hW : Below w.heap.size w W) => equalf_k S.kept T.kept e4 (by omega) b b' W ((HoldsW.own kE_len o3).below hW) ((HoldsW.own kE_len r3).below hW))
  have HE4 := Lib.hid (fun W (hW : Below w.heap.size w W) => equal_e S.log (by omega) c c' W ((HoldsW.own eE_len o4).below hW) (by rw [e5]; exact (HoldsW.own eE_len r4).below hW))
  obtain ⟨px, cx, rfl⟩ := h.p.h.form
  obtain ⟨py, cy, rfl⟩ := h.s.h.form
  obtain ⟨px', cx', rfl⟩ := h'.p.h.form
  obtain ⟨py', cy', rfl⟩ := h'.s.h.form
  obtain ⟨pa, ca, rfl⟩ := own_form o2
  obtain ⟨pb', cb, rfl⟩ := own_form o3
  obtain ⟨pc, cc, rfl⟩ := own_form o4
  obtain ⟨pa', ca', rfl⟩ := own_form r2
  obtain ⟨pb'', cb', rfl⟩ := own_form r3
  obtain ⟨pc', cc', rfl⟩ := own_form r4
  rw [secT_len] at k1 l1
  rw [← e2] at l1
  generalize S.sec.length = n1 at *
  generalize S.pub.length = n0 at *
  generalize T.pub.length = m0 at *
  generalize S.out.length = n2 at *
  generalize T.out.length = m2 at *
  generalize S.kept.length = n3 at *
  generalize T.kept.length = m3 at *
  generalize S.log.length = n4 at *
  generalize T.log.length = m4 at *
  clear h h' o2 o3 o4 r2 r3 r4 hS hlog hb1 hb2 hb3 hb4 hb5 e1 e2 e3 e4 e5
  have hp_0 := k0
  have hp_1 := k1
  have hp_2 := k2
  have hp_3 := k3
  have hp_4 := k4
  have hq_0 := l0
  have hq_1 := l1
  have hq_2 := l2
  have hq_3 := l3
  have hq_4 := l4
  have hB : Below w.heap.size w w := Below.refl _ _
  clear k0 k1 k2 k3 k4 l0 l1 l2 l3 l4
  go_enter Try.func13, Try.ntmps13
  go_wp2_with fail
  refine wp_region_plan (fun w' => w'.cell? ⟨pb, 0, none⟩ = some (.slice px n0 cx) ∧ w'.cell? ⟨pb, 1, none⟩ = some (.slice py n1 cy) ∧ w'.cell? ⟨pb, 2, none⟩ = some (.slice pa n2 ca) ∧ w'.cell? ⟨pb, 3, none⟩ = some (.slice pb' n3 cb) ∧ w'.cell? ⟨pb, 4, none⟩ = some (.slice pc n4 cc) ∧ w'.cell? ⟨qb, 0, none⟩ = some (.slice px' m0 cx') ∧ w'.cell? ⟨qb, 1, none⟩ = some (.slice py' n1 cy') ∧ w'.cell? ⟨qb, 2, none⟩ = some (.slice pa' m2 ca') ∧ w'.cell? ⟨qb, 3, none⟩ = some (.slice pb'' m3 cb') ∧ w'.cell? ⟨qb, 4, none⟩ = some (.slice pc' m4 cc') ∧ Below w.heap.size w w') (by kernel_rfl) (by kernel_rfl) (by kernel_rfl) ?_ ?_
  · (try dsimp only)
    refine ⟨?_, ?_, ?_, ?_, ?_, ?_, ?_, ?_, ?_, ?_, ?_⟩ <;> first | (go_simp; done) | (simp [*]; done) | go_grown
  repeat (first
    | (refine Plan.val (v := ?_) ?_ ?_ ?_; rotate_left; (· rfl); (· (intro W hSw; (try dsimp only at hSw); go_simp; all_goals (first | (with_reducible rfl) | (constructor <;> (with_reducible rfl)) | (rw [if_neg (by omega)]; done) | (rw [if_neg (by omega)]; with_reducible rfl)))); (try simp only [Act.put, List.setIfInBounds_toArray, List.set_cons_zero, List.set_cons_succ]))
    | (refine Plan.no ?_ ?_; (· rfl); (try simp only [Act.put, List.setIfInBounds_toArray, List.set_cons_zero, List.set_cons_succ]))
    | (refine Plan.call (v := ?_) (f := ?_) (args := ?_) ?_ ?_ ?_ ?_; rotate_left 3; (· rfl); (· (intro W hSw; (try dsimp only at hSw); go_simp; all_goals (first | (with_reducible rfl) | (constructor <;> (with_reducible rfl)) | (rw [if_neg (by omega)]; done) | (rw [if_neg (by omega)]; with_reducible rfl)))); (· (intro W hSw; (try dsimp only at hSw); first | (go_at_call 29; ((with_reducible refine (HE1.out _ hSw.2.2.2.2.2.2.2.2.2.2).mono ?_); rintro _ wz ⟨rfl, hb⟩; (refine ⟨?_, ?_⟩; (· with_reducible rfl); exact ⟨kc hb hSw.1, kc hb hSw.2.1, kc hb hSw.2.2.1, kc hb hSw.2.2.2.1, kc hb hSw.2.2.2.2.1, kc hb hSw.2.2.2.2.2.1, kc hb hSw.2.2.2.2.2.2.1, kc hb hSw.2.2.2.2.2.2.2.1, kc hb hSw.2.2.2.2.2.2.2.2.1, kc hb hSw.2.2.2.2.2.2.2.2.2.1, kb hSw.2.2.2.2.2.2.2.2.2.2 hb⟩))) | (go_at_call 29; ((with_reducible refine (HE2.out _ hSw.2.2.2.2.2.2.2.2.2.2).mono ?_); rintro _ wz ⟨rfl, hb⟩; (refine ⟨?_, ?_⟩; (· with_reducible rfl); exact ⟨kc hb hSw.1, kc hb hSw.2.1, kc hb hSw.2.2.1, kc hb hSw.2.2.2.1, kc hb hSw.2.2.2.2.1, kc hb hSw.2.2.2.2.2.1, kc hb hSw.2.2.2.2.2.2.1, kc hb hSw.2.2.2.2.2.2.2.1, kc hb hSw.2.2.2.2.2.2.2.2.1, kc hb hSw.2.2.2.2.2.2.2.2.2.1, kb hSw.2.2.2.2.2.2.2.2.2.2 hb⟩))) | (go_at_call 30; ((with_reducible refine (HE3.out _ hSw.2.2.2.2.2.2.2.2.2.2).mono ?_); rintro _ wz ⟨rfl, hb⟩; (refine ⟨?_, ?_⟩; (· with_reducible rfl); exact ⟨kc hb hSw.1, kc hb hSw.2.1, kc hb hSw.2.2.1, kc hb hSw.2.2.2.1, kc hb hSw.2.2.2.2.1, kc hb hSw.2.2.2.2.2.1, kc hb hSw.2.2.2.2.2.2.1, kc hb hSw.2.2.2.2.2.2.2.1, kc hb hSw.2.2.2.2.2.2.2.2.1, kc hb hSw.2.2.2.2.2.2.2.2.2.1, kb hSw.2.2.2.2.2.2.2.2.2.2 hb⟩))) | (go_at_call 32; ((with_reducible refine (HE4.out _ hSw.2.2.2.2.2.2.2.2.2.2).mono ?_); rintro _ wz ⟨rfl, hb⟩; (refine ⟨?_, ?_⟩; (· with_reducible rfl); exact ⟨kc hb hSw.1, kc hb hSw.2.1, kc hb hSw.2.2.1, kc hb hSw.2.2.2.1, kc hb hSw.2.2.2.2.1, kc hb hSw.2.2.2.2.2.1, kc hb hSw.2.2.2.2.2.2.1, kc hb hSw.2.2.2.2.2.2.2.1, kc hb hSw.2.2.2.2.2.2.2.2.1, kc hb hSw.2.2.2.2.2.2.2.2.2.1, kb hSw.2.2.2.2.2.2.2.2.2.2 hb⟩))))); (try simp only [Act.put, List.setIfInBounds_toArray, List.set_cons_zero, List.set_cons_succ])))
  refine Plan.done ?_
  intro wz T
  (try dsimp only at T)
  have hBe := T.2.2.2.2.2.2.2.2.2.2
  go_wp2
  go_ret
  exact ⟨rfl, by go_grown⟩
end Go.Proofs.Ytbahjcnamalhcaa
