/-
  The program's Low, where two ports are the same but for what is secret.
  The program's Low.
  What the laws lean on of the program's bus, besides: clones, Low, and what a nil one has.
  The program's bus: Low.
  The program's bus: its table of devices.
-/
import Derived.Test.YtcnejgilmciljaaGreatDoorClonep11
import Derived.Test.YtcnejgilmciljaaGreatDoorProgw10
import Derived.Test.YtcnejgilmciljaaGreatDoorSamep8
import Derived.Test.YtcnejgilmciljaaGreatDoorClone13
import Derived.Test.YtcnejgilmciljaaGreatDoorBusK13
set_option linter.unusedSimpArgs false
set_option linter.unusedVariables false
namespace Go.Proofs.YtcnejgilmciljaaGreatDoor
open Go.RowKit Go.PlainAid

def alikeB (a b : Int × Int) : Prop := a.2 = b.2 ∧ bits .andNot .u8 a.1 a.2 = bits .andNot .u8 b.1 b.2
/-- Rows of bytes that are the same but for secrets. -/
structure AlikeL (l m : List (Int × Int)) : Prop where
  len : l.length = m.length
  at_ : ∀ (j : Nat) (a b : Int × Int), l[j]? = some a → m[j]? = some b → alikeB a b
theorem alikeL_refl (l : List (Int × Int)) : AlikeL l l := ⟨rfl, fun j a b h1 h2 => by obtain rfl := Option.some.inj (h1.symm.trans h2); exact ⟨rfl, rfl⟩⟩
set_option maxRecDepth 100000 in
theorem alike_c (a b : Int × Int) (h : alikeB a b) (w : World) : Calls Tryz.prog 87 #[.agg #[.int .u8 a.1, .int .u8 a.2], .agg #[.int .u8 b.1, .int .u8 b.2]] w fun e w' => e = .returned (.bool true) ∧ Below w.heap.size w w' := by
  obtain ⟨a1, a2⟩ := a
  obtain ⟨b1, b2⟩ := b
  obtain ⟨h1, h2⟩ := h
  dsimp only at h1 h2
  subst h1
  dsimp only
  generalize hx : bits .andNot .u8 a1 a2 = X at *
  have hy := h2.symm
  clear h2
  go_enter Tryz.func87, Tryz.ntmps87
  go_wp2
  go_ret
  exact ⟨rfl, by go_grown⟩
set_option maxRecDepth 100000 in
set_option maxHeartbeats 2000000 in
theorem equal_b (l : List (Int)) (hl : l.length ≤ 100000) (v1 v2 : Value) (w : World) (h1 : HoldsW bE 1 w v1 l) (h2 : HoldsW bE 1 w v2 l) :
    Calls Tryz.prog 85 #[v1, v2] w fun e w' => e = .returned (.bool true) ∧ Below w.heap.size w w' := by
  obtain ⟨p1, c1, rfl⟩ := h1.form
  obtain ⟨p2, c2, rfl⟩ := h2.form
  have H1 := Lib.hid h1
  have H2 := Lib.hid h2
  obtain ⟨n, hn⟩ : ∃ n, l.length = n := ⟨_, rfl⟩
  rw [hn] at hl ⊢
  have HN := Lib.hid hn
  have HB := Lib.hid (Below.refl w.heap.size w)
  clear h1 h2 hn
  go_enter Tryz.func85, Tryz.ntmps85
  go_wp2_with fail
  go_loopg [13] n (fun kx s5 wr => ∃ k : Nat, s5 = .int .i64 k ∧ k ≤ n ∧ n - k ≤ kx ∧ Hid (Below w.heap.size w wr))
  case atStart => exact ⟨0, by simp, Nat.zero_le _, by omega, HB⟩
  case round =>
    obtain ⟨k, rfl, hk, hkx, HBr⟩ := hrel
    by_cases hlt : k < n
    · have hkl : k < l.length := by have := HN.out; omega
      obtain ⟨g1, o1, cap1, e1, _, hc1⟩ := H1.out.some (by omega)
      obtain ⟨g2, o2, cap2, e2, _, hc2⟩ := H2.out.some (by omega)
      obtain ⟨rfl, -, rfl⟩ := Value.slice.inj e1
      obtain ⟨rfl, -, rfl⟩ := Value.slice.inj e2
      have x1 := hc1 k _ (List.getElem?_eq_getElem hkl) 0 _ rfl
      have x2 := hc2 k _ (List.getElem?_eq_getElem hkl) 0 _ rfl
      rw [Nat.mul_one, Nat.add_zero] at x1 x2
      generalize l[k] = X at *
      have hg1 := klt x1
      have hg2 := klt x2
      have hB := HBr.out
      have hin : (0 : Int) ≤ (k : Int) ∧ (k : Int) < (n : Int) := by omega
      clear e1 e2 hc1 hc2 hkl
      have hp_0 := kc hB x1
      have hq_0 := kc hB x2
      clear x1 x2
      clear hB
      have hB := HBr.out
      have hl1 := klt hp_0
      have hl2 := klt hq_0
      go_wp2_with fail
      refine wp_region_plan (fun w' => w'.cell? ⟨g1, o1 + k, none⟩ = some (.int .u8 X) ∧ w'.cell? ⟨g2, o2 + k, none⟩ = some (.int .u8 X) ∧ Below w.heap.size w w') (by kernel_rfl) (by kernel_rfl) (by kernel_rfl) ?_ ?_
      · (try dsimp only)
        refine ⟨?_, ?_, ?_⟩ <;> first | (go_simp; done) | (simp [*]; done) | go_grown
      repeat (first
        | (refine Plan.val (v := ?_) ?_ ?_ ?_; rotate_left; (· rfl); (· (intro W hSw; (try dsimp only at hSw); go_simp; all_goals (first | (with_reducible rfl) | (constructor <;> (with_reducible rfl)) | (rw [if_neg (by omega)]; done) | (rw [if_neg (by omega)]; with_reducible rfl)))); (try simp only [Act.put, List.setIfInBounds_toArray, List.set_cons_zero, List.set_cons_succ]))
        | (refine Plan.no ?_ ?_; (· rfl); (try simp only [Act.put, List.setIfInBounds_toArray, List.set_cons_zero, List.set_cons_succ])))
      refine Plan.done ?_
      intro u T
      (try dsimp only at T)
      obtain ⟨hp_0, hq_0, hB⟩ := T
      have hsz := hB.size
      have hlp := klt hp_0
      have hlq := klt hq_0
      obtain ⟨hnp0, hnp1, hkp1, hnp2, hkp2⟩ := ap0 hlp
      obtain ⟨hnq0, hnq1, hkq1, hnq2, hkq2⟩ := ap0 hlq
      have HB2 := Lib.hid hB
      go_wp2
      go_roundg (n - (k + 1))
      case measure => omega
      case rel => exact ⟨k + 1, by go_num, by omega, by omega, HB2⟩
    · have hge : (n : Int) ≤ (k : Int) := by omega
      go_wp2
      go_ret
      exact ⟨rfl, HBr.out⟩
set_option maxRecDepth 100000 in
set_option maxHeartbeats 2000000 in
theorem equal_e (l : List (Int × Int)) (hl : l.length ≤ 100000) (v1 v2 : Value) (w : World) (h1 : HoldsW eE 2 w v1 l) (h2 : HoldsW eE 2 w v2 l) :
    Calls Tryz.prog 88 #[v1, v2] w fun e w' => e = .returned (.bool true) ∧ Below w.heap.size w w' := by
  obtain ⟨p1, c1, rfl⟩ := h1.form
  obtain ⟨p2, c2, rfl⟩ := h2.form
  have H1 := Lib.hid h1
  have H2 := Lib.hid h2
  obtain ⟨n, hn⟩ : ∃ n, l.length = n := ⟨_, rfl⟩
  rw [hn] at hl ⊢
  have HN := Lib.hid hn
  have HB := Lib.hid (Below.refl w.heap.size w)
  clear h1 h2 hn
  go_enter Tryz.func88, Tryz.ntmps88
  go_wp2_with fail
  go_loopg [13] n (fun kx s5 wr => ∃ k : Nat, s5 = .int .i64 k ∧ k ≤ n ∧ n - k ≤ kx ∧ Hid (Below w.heap.size w wr))
  case atStart => exact ⟨0, by simp, Nat.zero_le _, by omega, HB⟩
  case round =>
    obtain ⟨k, rfl, hk, hkx, HBr⟩ := hrel
    by_cases hlt : k < n
    · have hkl : k < l.length := by have := HN.out; omega
      obtain ⟨g1, o1, cap1, e1, _, hc1⟩ := H1.out.some (by omega)
      obtain ⟨g2, o2, cap2, e2, _, hc2⟩ := H2.out.some (by omega)
      obtain ⟨rfl, -, rfl⟩ := Value.slice.inj e1
      obtain ⟨rfl, -, rfl⟩ := Value.slice.inj e2
      have x1 := hc1 k _ (List.getElem?_eq_getElem hkl) 0 _ rfl
      have x2 := hc2 k _ (List.getElem?_eq_getElem hkl) 0 _ rfl
      have y1 := hc1 k _ (List.getElem?_eq_getElem hkl) 1 _ rfl
      have y2 := hc2 k _ (List.getElem?_eq_getElem hkl) 1 _ rfl
      rw [Nat.add_zero] at x1 x2
      obtain ⟨X, hX⟩ : ∃ X, l[k] = X := ⟨_, rfl⟩
      rw [hX] at x1 x2 y1 y2
      obtain ⟨X, Y⟩ := X
      dsimp only at x1 x2 y1 y2
      clear hX
      have hg1 := klt x1
      have hg2 := klt x2
      have hB := HBr.out
      have hin : (0 : Int) ≤ (k : Int) ∧ (k : Int) < (n : Int) := by omega
      clear e1 e2 hc1 hc2 hkl
      have hp_0 := kc hB x1
      have hq_0 := kc hB x2
      have hp_1 := kc hB y1
      have hq_1 := kc hB y2
      clear x1 x2 y1 y2
      clear hB
      have hB := HBr.out
      have hl1 := klt hp_0
      have hl2 := klt hq_0
      go_wp2_with fail
      refine wp_region_plan (fun w' => w'.cell? ⟨g1, o1 + k * 2, none⟩ = some (.int .i64 X) ∧ w'.cell? ⟨g1, o1 + k * 2 + 1, none⟩ = some (.int .u8 Y) ∧ w'.cell? ⟨g2, o2 + k * 2, none⟩ = some (.int .i64 X) ∧ w'.cell? ⟨g2, o2 + k * 2 + 1, none⟩ = some (.int .u8 Y) ∧ Below w.heap.size w w') (by kernel_rfl) (by kernel_rfl) (by kernel_rfl) ?_ ?_
      · (try dsimp only)
        refine ⟨?_, ?_, ?_, ?_, ?_⟩ <;> first | (go_simp; done) | (simp [*]; done) | go_grown
      repeat (first
        | (refine Plan.val (v := ?_) ?_ ?_ ?_; rotate_left; (· rfl); (· (intro W hSw; (try dsimp only at hSw); go_simp; all_goals (first | (with_reducible rfl) | (constructor <;> (with_reducible rfl)) | (rw [if_neg (by omega)]; done) | (rw [if_neg (by omega)]; with_reducible rfl)))); (try simp only [Act.put, List.setIfInBounds_toArray, List.set_cons_zero, List.set_cons_succ]))
        | (refine Plan.no ?_ ?_; (· rfl); (try simp only [Act.put, List.setIfInBounds_toArray, List.set_cons_zero, List.set_cons_succ])))
      refine Plan.done ?_
      intro u T
      (try dsimp only at T)
      obtain ⟨hp_0, hp_1, hq_0, hq_1, hB⟩ := T
      have hsz := hB.size
      have hlp := klt hp_0
      have hlq := klt hq_0
      obtain ⟨hnp0, hnp1, hkp1, hnp2, hkp2⟩ := ap0 hlp
      obtain ⟨hnq0, hnq1, hkq1, hnq2, hkq2⟩ := ap0 hlq
      have HB2 := Lib.hid hB
      go_wp2
      go_roundg (n - (k + 1))
      case measure => omega
      case rel => exact ⟨k + 1, by go_num, by omega, by omega, HB2⟩
    · have hge : (n : Int) ≤ (k : Int) := by omega
      go_wp2
      go_ret
      exact ⟨rfl, HBr.out⟩
set_option maxRecDepth 100000 in
set_option maxHeartbeats 2000000 in
theorem equalf_k (l m : List (Int × Int)) (hA : AlikeL l m) (hl : l.length ≤ 100000) (v1 v2 : Value) (w : World) (h1 : HoldsW kE 2 w v1 l) (h2 : HoldsW kE 2 w v2 m) :
    Calls Tryz.prog 86 #[v1, v2, .func (.func 87) #[] #[]] w fun e w' => e = .returned (.bool true) ∧ Below w.heap.size w w' := by
  obtain ⟨p1, c1, rfl⟩ := h1.form
  obtain ⟨p2, c2, rfl⟩ := h2.form
  have H1 := Lib.hid h1
  have H2 := Lib.hid h2
  have HA := Lib.hid hA
  obtain ⟨n, hn⟩ : ∃ n, l.length = n := ⟨_, rfl⟩
  have hm : m.length = n := by rw [← hA.len]; exact hn
  rw [hn] at hl ⊢
  rw [hm]
  have HN := Lib.hid (And.intro hn hm)
  have HB := Lib.hid (Below.refl w.heap.size w)
  clear h1 h2 hn hm hA
  go_enter Tryz.func86, Tryz.ntmps86
  go_wp2_with fail
  go_loopg [17] n (fun kx s5 wr => ∃ k : Nat, s5 = .int .i64 k ∧ k ≤ n ∧ n - k ≤ kx ∧ Hid (Below w.heap.size w wr))
  case atStart => exact ⟨0, by simp, Nat.zero_le _, by omega, HB⟩
  case round =>
    obtain ⟨k, rfl, hk, hkx, HBr⟩ := hrel
    by_cases hlt : k < n
    · have hkl : k < l.length := by have := HN.out; omega
      have hkm : k < m.length := by have := HN.out; omega
      obtain ⟨g1, o1, cap1, e1, _, hc1⟩ := H1.out.some (by omega)
      obtain ⟨g2, o2, cap2, e2, _, hc2⟩ := H2.out.some (by omega)
      obtain ⟨rfl, -, rfl⟩ := Value.slice.inj e1
      obtain ⟨rfl, -, rfl⟩ := Value.slice.inj e2
      have x1 := hc1 k _ (List.getElem?_eq_getElem hkl) 0 _ rfl
      have x2 := hc2 k _ (List.getElem?_eq_getElem hkm) 0 _ rfl
      have y1 := hc1 k _ (List.getElem?_eq_getElem hkl) 1 _ rfl
      have y2 := hc2 k _ (List.getElem?_eq_getElem hkm) 1 _ rfl
      have hal := HA.out.at_ k _ _ (List.getElem?_eq_getElem hkl) (List.getElem?_eq_getElem hkm)
      rw [Nat.add_zero] at x1 x2
      generalize l[k] = X at *
      generalize m[k] = Z at *
      have HC := Lib.hid (fun W => alike_c X Z hal W)
      obtain ⟨X, Y⟩ := X
      obtain ⟨Z, V⟩ := Z
      dsimp only at x1 x2 y1 y2 HC
      have hB := HBr.out
      have hsz := hB.size
      have x1 := kc hB x1
      have x2 := kc hB x2
      have y1 := kc hB y1
      have y2 := kc hB y2
      have hl1 := klt x1
      have hl2 := klt x2
      have hin : (0 : Int) ≤ (k : Int) ∧ (k : Int) < (n : Int) := by omega
      obtain ⟨q1, q2, q3, q4, q5⟩ := ap0 hl1
      obtain ⟨q6, q7, q8, q9, q10⟩ := ap0 hl2
      clear e1 e2 hc1 hc2 hkl hkm hal
      go_wp2_with fail
      refine (HC.out _).mono ?_
      rintro _ u ⟨rfl, hb⟩
      have HB2 := Lib.hid (show Below w.heap.size w u from kb (by go_grown) hb)
      clear hb
      go_wp2
      go_roundg (n - (k + 1))
      case measure => omega
      case rel => exact ⟨k + 1, by go_num, by omega, by omega, HB2⟩
    · have hge : (n : Int) ≤ (k : Int) := by omega
      go_wp2
      go_ret
      exact ⟨rfl, HBr.out⟩
end Go.Proofs.YtcnejgilmciljaaGreatDoor
set_option linter.unusedSimpArgs false
set_option linter.unusedVariables false
namespace Go.Proofs.YtcnejgilmciljaaGreatDoor
open Go.RowKit Go.PlainAid

/-- Ports that are the same but for what is secret. -/
structure LowR (S T : Po) : Prop where
  pub : S.pub = T.pub
  sec : S.sec.length = T.sec.length
  out : S.out = T.out
  kept : AlikeL S.kept T.kept
  log : S.log = T.log
theorem lowR_refl (S : Po) : LowR S S := ⟨rfl, rfl, rfl, alikeL_refl _, rfl⟩
set_option maxRecDepth 100000 in
theorem low_nn (w : World) : Calls Tryz.prog 61 #[.pointer none, .pointer none] w fun e w' => e = .returned (.bool true) ∧ Below w.heap.size w w' := by
  go_enter Tryz.func61, Tryz.ntmps61
  go_wp2
  go_ret
  exact ⟨rfl, by go_grown⟩
set_option maxRecDepth 100000 in
theorem low_np (b : Addr) (w : World) : Calls Tryz.prog 61 #[.pointer none, .pointer (some b)] w fun e w' => e = .returned (.bool false) ∧ Below w.heap.size w w' := by
  go_enter Tryz.func61, Tryz.ntmps61
  go_wp2
  go_ret
  exact ⟨rfl, by go_grown⟩
set_option maxRecDepth 100000 in
theorem low_pn (b : Addr) (w : World) : Calls Tryz.prog 61 #[.pointer (some b), .pointer none] w fun e w' => e = .returned (.bool false) ∧ Below w.heap.size w w' := by
  go_enter Tryz.func61, Tryz.ntmps61
  go_wp2
  go_ret
  exact ⟨rfl, by go_grown⟩
set_option maxRecDepth 100000 in
set_option maxHeartbeats 4000000 in
theorem lowp_c (pb qb : Nat) (S T : Po) (hS : Fit S) (hL : LowR S T) (F G F2 G2 : Nat → Prop) (w : World) (h : PO pb S F G w) (h' : PO qb T F2 G2 w) :
    Calls Tryz.prog 61 #[.pointer (some ⟨pb, 0, none⟩), .pointer (some ⟨qb, 0, none⟩)] w fun e w' => e = .returned (.bool true) ∧ Below w.heap.size w w' := by
  obtain ⟨x, y, a, b, c, h, -, -⟩ := h
  obtain ⟨x', y', a', b', c', h', -, -⟩ := h'
  have hltp := h.hold.lt
  have hltq := h'.hold.lt
  obtain ⟨⟨k2, o2⟩, ⟨k3, o3⟩, k4, o4⟩ := h.at0
  obtain ⟨⟨l2, r2⟩, ⟨l3, r3⟩, l4, r4⟩ := h'.at0
  have k0 := h.p.c
  have k1 := h.s.c
  have l0 := h'.p.c
  have l1 := h'.s.c
  have hlog := hS.log
  have hb1 := hS.pub
  have hb2 := hS.sec
  have hb3 := hS.out
  have hb4 := hS.kept
  have hb5 := hS.told
  obtain ⟨e1, e2, e3, e4, e5⟩ := hL
  have HE1 := Lib.hid (fun W (hW : Below w.heap.size w W) => equal_b S.pub (by omega) x x' W (h.p.h.below hW) (by rw [e1]; exact h'.p.h.below hW))
  have HE2 := Lib.hid (fun W (hW : Below w.heap.size w W) => equal_b S.out (by omega) a a' W ((HoldsW.own bE_len o2).below hW) (by rw [e3]; exact (HoldsW.own bE_len r2).below hW))
  have HE3 := Lib.hid (fun W (hW : Below w.heap.size w W) => equalf_k S.kept T.kept e4 (by omega) b b' W ((HoldsW.own kE_len o3).below hW) ((HoldsW.own kE_len r3).below hW))
  have HE4 := Lib.hid (fun W (hW : Below w.heap.size w W) => equal_e S.log (by omega) c c' W ((HoldsW.own eE_len o4).below hW) (by rw [e5]; exact (HoldsW.own eE_len r4).below hW))
  obtain ⟨px, cx, rfl⟩ := h.p.h.form
  obtain ⟨py, cy, rfl⟩ := h.s.h.form
  obtain ⟨px', cx', rfl⟩ := h'.p.h.form
  obtain ⟨py', cy', rfl⟩ := h'.s.h.form
  obtain ⟨pa, ca, rfl⟩ := own_form o2
  obtain ⟨pb', cb, rfl⟩ := own_form o3
  obtain ⟨pc, cc, rfl⟩ := own_form o4
  obtain ⟨pa', ca', rfl⟩ := own_form r2
  obtain ⟨pb'', cb', rfl⟩ := own_form r3
  obtain ⟨pc', cc', rfl⟩ := own_form r4
  rw [secT_len] at k1 l1
  rw [← e2] at l1
  generalize S.sec.length = n1 at *
  generalize S.pub.length = n0 at *
  generalize T.pub.length = m0 at *
  generalize S.out.length = n2 at *
  generalize T.out.length = m2 at *
  generalize S.kept.length = n3 at *
  generalize T.kept.length = m3 at *
  generalize S.log.length = n4 at *
  generalize T.log.length = m4 at *
  clear h h' o2 o3 o4 r2 r3 r4 hS hlog hb1 hb2 hb3 hb4 hb5 e1 e2 e3 e4 e5
  have hp_0 := k0
  have hp_1 := k1
  have hp_2 := k2
  have hp_3 := k3
  have hp_4 := k4
  have hq_0 := l0
  have hq_1 := l1
  have hq_2 := l2
  have hq_3 := l3
  have hq_4 := l4
  have hB : Below w.heap.size w w := Below.refl _ _
  clear k0 k1 k2 k3 k4 l0 l1 l2 l3 l4
  go_enter Tryz.func61, Tryz.ntmps61
  go_wp2_with fail
  refine wp_region_plan (fun w' => w'.cell? ⟨pb, 0, none⟩ = some (.slice px n0 cx) ∧ w'.cell? ⟨pb, 1, none⟩ = some (.slice py n1 cy) ∧ w'.cell? ⟨pb, 2, none⟩ = some (.slice pa n2 ca) ∧ w'.cell? ⟨pb, 3, none⟩ = some (.slice pb' n3 cb) ∧ w'.cell? ⟨pb, 4, none⟩ = some (.slice pc n4 cc) ∧ w'.cell? ⟨qb, 0, none⟩ = some (.slice px' m0 cx') ∧ w'.cell? ⟨qb, 1, none⟩ = some (.slice py' n1 cy') ∧ w'.cell? ⟨qb, 2, none⟩ = some (.slice pa' m2 ca') ∧ w'.cell? ⟨qb, 3, none⟩ = some (.slice pb'' m3 cb') ∧ w'.cell? ⟨qb, 4, none⟩ = some (.slice pc' m4 cc') ∧ Below w.heap.size w w') (by kernel_rfl) (by kernel_rfl) (by kernel_rfl) ?_ ?_
  · (try dsimp only)
    refine ⟨?_, ?_, ?_, ?_, ?_, ?_, ?_, ?_, ?_, ?_, ?_⟩ <;> first | (go_simp; done) | (simp [*]; done) | go_grown
  repeat (first
    | (refine Plan.val (v := ?_) ?_ ?_ ?_; rotate_left; (· rfl); (· (intro W hSw; (try dsimp only at hSw); go_simp; all_goals (first | (with_reducible rfl) | (constructor <;> (with_reducible rfl)) | (rw [if_neg (by omega)]; done) | (rw [if_neg (by omega)]; with_reducible rfl)))); (try simp only [Act.put, List.setIfInBounds_toArray, List.set_cons_zero, List.set_cons_succ]))
    | (refine Plan.no ?_ ?_; (· rfl); (try simp only [Act.put, List.setIfInBounds_toArray, List.set_cons_zero, List.set_cons_succ]))
    | (refine Plan.call (v := ?_) (f := ?_) (args := ?_) ?_ ?_ ?_ ?_; rotate_left 3; (· rfl); (· (intro W hSw; (try dsimp only at hSw); go_simp; all_goals (first | (with_reducible rfl) | (constructor <;> (with_reducible rfl)) | (rw [if_neg (by omega)]; done) | (rw [if_neg (by omega)]; with_reducible rfl)))); (· (intro W hSw; (try dsimp only at hSw); first | (go_at_call 85; ((with_reducible refine (HE1.out _ hSw.2.2.2.2.2.2.2.2.2.2).mono ?_); rintro _ wz ⟨rfl, hb⟩; (refine ⟨?_, ?_⟩; (· with_reducible rfl); exact ⟨kc hb hSw.1, kc hb hSw.2.1, kc hb hSw.2.2.1, kc hb hSw.2.2.2.1, kc hb hSw.2.2.2.2.1, kc hb hSw.2.2.2.2.2.1, kc hb hSw.2.2.2.2.2.2.1, kc hb hSw.2.2.2.2.2.2.2.1, kc hb hSw.2.2.2.2.2.2.2.2.1, kc hb hSw.2.2.2.2.2.2.2.2.2.1, kb hSw.2.2.2.2.2.2.2.2.2.2 hb⟩))) | (go_at_call 85; ((with_reducible refine (HE2.out _ hSw.2.2.2.2.2.2.2.2.2.2).mono ?_); rintro _ wz ⟨rfl, hb⟩; (refine ⟨?_, ?_⟩; (· with_reducible rfl); exact ⟨kc hb hSw.1, kc hb hSw.2.1, kc hb hSw.2.2.1, kc hb hSw.2.2.2.1, kc hb hSw.2.2.2.2.1, kc hb hSw.2.2.2.2.2.1, kc hb hSw.2.2.2.2.2.2.1, kc hb hSw.2.2.2.2.2.2.2.1, kc hb hSw.2.2.2.2.2.2.2.2.1, kc hb hSw.2.2.2.2.2.2.2.2.2.1, kb hSw.2.2.2.2.2.2.2.2.2.2 hb⟩))) | (go_at_call 86; ((with_reducible refine (HE3.out _ hSw.2.2.2.2.2.2.2.2.2.2).mono ?_); rintro _ wz ⟨rfl, hb⟩; (refine ⟨?_, ?_⟩; (· with_reducible rfl); exact ⟨kc hb hSw.1, kc hb hSw.2.1, kc hb hSw.2.2.1, kc hb hSw.2.2.2.1, kc hb hSw.2.2.2.2.1, kc hb hSw.2.2.2.2.2.1, kc hb hSw.2.2.2.2.2.2.1, kc hb hSw.2.2.2.2.2.2.2.1, kc hb hSw.2.2.2.2.2.2.2.2.1, kc hb hSw.2.2.2.2.2.2.2.2.2.1, kb hSw.2.2.2.2.2.2.2.2.2.2 hb⟩))) | (go_at_call 88; ((with_reducible refine (HE4.out _ hSw.2.2.2.2.2.2.2.2.2.2).mono ?_); rintro _ wz ⟨rfl, hb⟩; (refine ⟨?_, ?_⟩; (· with_reducible rfl); exact ⟨kc hb hSw.1, kc hb hSw.2.1, kc hb hSw.2.2.1, kc hb hSw.2.2.2.1, kc hb hSw.2.2.2.2.1, kc hb hSw.2.2.2.2.2.1, kc hb hSw.2.2.2.2.2.2.1, kc hb hSw.2.2.2.2.2.2.2.1, kc hb hSw.2.2.2.2.2.2.2.2.1, kc hb hSw.2.2.2.2.2.2.2.2.2.1, kb hSw.2.2.2.2.2.2.2.2.2.2 hb⟩))))); (try simp only [Act.put, List.setIfInBounds_toArray, List.set_cons_zero, List.set_cons_succ])))
  refine Plan.done ?_
  intro wz T
  (try dsimp only at T)
  have hBe := T.2.2.2.2.2.2.2.2.2.2
  go_wp2
  go_ret
  exact ⟨rfl, by go_grown⟩
end Go.Proofs.YtcnejgilmciljaaGreatDoor
set_option linter.unusedSimpArgs false
set_option linter.unusedVariables false
namespace Go.Proofs.YtcnejgilmciljaaGreatDoor
open Go.RowKit Go.PlainAid

/-- The same but for secrets. -/
structure LowQ (B C : Bs) : Prop where
  m : sameM B.M C.M = true
  s : LowR B.S C.S
  t : B.T = C.T
  w : B.W = C.W
  n : B.n = C.n
theorem lowQ_refl (B : Bs) : LowQ B B := ⟨sameM_refl _, lowR_refl _, rfl, rfl, rfl⟩
structure BusL (BO : Nat → Bs → Thing) : Prop where
  k : BusK BO
  clone : ∀ (bb : Nat) (B : Bs) (F G : Nat → Prop) (w : World), Fit B.S → BO bb B F G w → Calls Tryz.prog 22 #[.pointer (some ⟨bb, 0, none⟩)] w (NewT (fun b => BO b B) (fun v => v) w)
  low : ∀ (bb cb : Nat) (B C : Bs) (F G F2 G2 : Nat → Prop) (w : World), LowQ B C → B.May → C.May → BO bb B F G w → BO cb C F2 G2 w →
    Calls Tryz.prog 17 #[.pointer (some ⟨bb, 0, none⟩), .pointer (some ⟨cb, 0, none⟩)] w fun e w' => e = .returned (.bool true) ∧ Below w.heap.size w w'
  lowNN : ∀ w, Calls Tryz.prog 17 #[.pointer none, .pointer none] w fun e w' => e = .returned (.bool true) ∧ Below w.heap.size w w'
  lowNP : ∀ (p : Addr) (w : World), Calls Tryz.prog 17 #[.pointer none, .pointer (some p)] w fun e w' => e = .returned (.bool false) ∧ Below w.heap.size w w'
  readN : ∀ (a : Int) (w : World), Calls Tryz.prog 13 #[.pointer none, .int .i64 a] w fun e w' => e = .returned (rdBV (0, 0, 2)) ∧ Below w.heap.size w w'
  writeN : ∀ (a v t : Int) (w : World), Calls Tryz.prog 11 #[.pointer none, .int .i64 a, .agg #[.int .u8 v, .int .u8 t]] w fun e w' => e = .returned (wrBV (0, 2)) ∧ Below w.heap.size w w'
  irqN : ∀ w, Calls Tryz.prog 54 #[.pointer none] w fun e w' => e = .returned (.bool false) ∧ Below w.heap.size w w'
  cyclesN : ∀ w, Calls Tryz.prog 23 #[.pointer none] w fun e w' => e = .returned (.int .i64 0) ∧ Below w.heap.size w w'
  memoryN : ∀ w, Calls Tryz.prog 21 #[.pointer none] w fun e w' => e = .returned (.pointer none) ∧ Below w.heap.size w w'
  timerN : ∀ w, Calls Tryz.prog 53 #[.pointer none] w fun e w' => e = .returned (tmVal ⟨0, 0, false, false, false, false⟩) ∧ Below w.heap.size w w'
  portsN : ∀ w, Calls Tryz.prog 29 #[.pointer none] w fun e w' => e = .returned (.pointer none) ∧ Below w.heap.size w w'
  wheelN : ∀ w, Calls Tryz.prog 52 #[.pointer none] w fun e w' => e = .returned (.pointer none) ∧ Below w.heap.size w w'
  cloneN : ∀ w, Calls Tryz.prog 22 #[.pointer none] w fun e w' => e = .returned (.pointer none) ∧ Below w.heap.size w w'
end Go.Proofs.YtcnejgilmciljaaGreatDoor
set_option linter.unusedSimpArgs false
set_option linter.unusedVariables false
namespace Go.Proofs.YtcnejgilmciljaaGreatDoor
open Go.RowKit Go.PlainAid

theorem sameW_refl (R : Wh) : sameW R R = true := by unfold sameW; simp
set_option maxRecDepth 100000 in
set_option maxHeartbeats 8000000 in
theorem blow_c {bb mb mbb pb wb cb nb nbb qb xb : Nat} {B C : Bs} {F G F2 G2 : Nat → Prop} {w : World} (hQ : LowQ B C) (hB : B.May) (hC : C.May) (h : Pv bb mb mbb pb wb B F G w) (h' : Pv cb nb nbb qb xb C F2 G2 w) :
    Calls Tryz.prog 17 #[.pointer (some ⟨bb, 0, none⟩), .pointer (some ⟨cb, 0, none⟩)] w fun e w' => e = .returned (.bool true) ∧ Below w.heap.size w w' := by
  have HW := Lib.hid (fun W (hW : Below w.heap.size w W) => wsame_c wb xb B.W C.W hB.w hC.w W (h.below hW).h (h'.below hW).h)
  have HP := Lib.hid (fun W (hW : Below w.heap.size w W) => lowp_c pb qb B.S C.S hB.s hQ.s F G F2 G2 W (h.below hW).p (h'.below hW).p)
  have HM := Lib.hid (fun W (hW : Below w.heap.size w W) => samep_c B.M C.M mb mbb nb nbb W (h.below hW).m (h'.below hW).m)
  rw [← hQ.w, sameW_refl] at HW
  rw [hQ.m] at HM
  obtain ⟨t0, t1, t2, t3, t4, t5⟩ := h.t.cells
  obtain ⟨t0', t1', t2', t3', t4', t5'⟩ := h'.t.cells
  rw [← hQ.t] at t0' t1' t2' t3' t4' t5'
  have c0 := h.c0
  have c7 := h.c7
  have c8 := h.c8
  have c9 := h.c9
  have d0 := h'.c0
  have d7 := h'.c7
  have d8 := h'.c8
  have d9 := h'.c9
  rw [← hQ.n] at d9
  clear hQ hB hC h h'
  obtain ⟨BM, BT, BS, BW, bn⟩ := B
  dsimp only at *
  obtain ⟨l, c, r, a, s, g⟩ := BT
  dsimp only at *
  have hp_0 := c0
  have hp_1 := t0
  have hp_2 := t1
  have hp_3 := t2
  have hp_4 := t3
  have hp_5 := t4
  have hp_6 := t5
  have hp_7 := c7
  have hp_8 := c8
  have hp_9 := c9
  have hq_0 := d0
  have hq_1 := t0'
  have hq_2 := t1'
  have hq_3 := t2'
  have hq_4 := t3'
  have hq_5 := t4'
  have hq_6 := t5'
  have hq_7 := d7
  have hq_8 := d8
  have hq_9 := d9
  have hB := Below.refl w.heap.size w
  go_enter Tryz.func17, Tryz.ntmps17
  go_wp2_with fail
  refine wp_region_plan (fun w' => w'.cell? ⟨bb, 0, none⟩ = some (.pointer (some ⟨mb, 0, none⟩)) ∧ w'.cell? ⟨bb, 1, none⟩ = some (.int .i64 l) ∧ w'.cell? ⟨bb, 2, none⟩ = some (.int .i64 c) ∧ w'.cell? ⟨bb, 3, none⟩ = some (.bool r) ∧ w'.cell? ⟨bb, 4, none⟩ = some (.bool a) ∧ w'.cell? ⟨bb, 5, none⟩ = some (.bool s) ∧ w'.cell? ⟨bb, 6, none⟩ = some (.bool g) ∧ w'.cell? ⟨bb, 7, none⟩ = some (.pointer (some ⟨pb, 0, none⟩)) ∧ w'.cell? ⟨bb, 8, none⟩ = some (.pointer (some ⟨wb, 0, none⟩)) ∧ w'.cell? ⟨bb, 9, none⟩ = some (.int .i64 bn) ∧ w'.cell? ⟨cb, 0, none⟩ = some (.pointer (some ⟨nb, 0, none⟩)) ∧ w'.cell? ⟨cb, 1, none⟩ = some (.int .i64 l) ∧ w'.cell? ⟨cb, 2, none⟩ = some (.int .i64 c) ∧ w'.cell? ⟨cb, 3, none⟩ = some (.bool r) ∧ w'.cell? ⟨cb, 4, none⟩ = some (.bool a) ∧ w'.cell? ⟨cb, 5, none⟩ = some (.bool s) ∧ w'.cell? ⟨cb, 6, none⟩ = some (.bool g) ∧ w'.cell? ⟨cb, 7, none⟩ = some (.pointer (some ⟨qb, 0, none⟩)) ∧ w'.cell? ⟨cb, 8, none⟩ = some (.pointer (some ⟨xb, 0, none⟩)) ∧ w'.cell? ⟨cb, 9, none⟩ = some (.int .i64 bn) ∧ Below w.heap.size w w') (by kernel_rfl) (by kernel_rfl) (by kernel_rfl) ?_ ?_
  · (try dsimp only)
    refine ⟨?_, ?_, ?_, ?_, ?_, ?_, ?_, ?_, ?_, ?_, ?_, ?_, ?_, ?_, ?_, ?_, ?_, ?_, ?_, ?_, ?_⟩ <;> first | (go_simp; done) | (simp [*]; done) | go_grown
  repeat (first
    | (refine Plan.val (v := ?_) ?_ ?_ ?_; rotate_left; (· rfl); (· (intro W hSw; (try dsimp only at hSw); go_simp; all_goals (first | (with_reducible rfl) | (constructor <;> (with_reducible rfl)) | (rw [if_neg (by omega)]; done) | (rw [if_neg (by omega)]; with_reducible rfl)))); (try simp only [Act.put, List.setIfInBounds_toArray, List.set_cons_zero, List.set_cons_succ]))
    | (refine Plan.no ?_ ?_; (· rfl); (try simp only [Act.put, List.setIfInBounds_toArray, List.set_cons_zero, List.set_cons_succ]))
    | (refine Plan.call (v := ?_) (f := ?_) (args := ?_) ?_ ?_ ?_ ?_; rotate_left 3; (· rfl); (· (intro W hSw; (try dsimp only at hSw); go_simp; all_goals (first | (with_reducible rfl) | (constructor <;> (with_reducible rfl)) | (rw [if_neg (by omega)]; done) | (rw [if_neg (by omega)]; with_reducible rfl)))); (· (intro W hSw; (try dsimp only at hSw); first | (go_at_call 60; ((with_reducible refine (HW.out _ hSw.2.2.2.2.2.2.2.2.2.2.2.2.2.2.2.2.2.2.2.2).mono ?_); rintro _ wz ⟨rfl, hb⟩; (refine ⟨?_, ?_⟩; (· with_reducible rfl); exact ⟨kc hb hSw.1, kc hb hSw.2.1, kc hb hSw.2.2.1, kc hb hSw.2.2.2.1, kc hb hSw.2.2.2.2.1, kc hb hSw.2.2.2.2.2.1, kc hb hSw.2.2.2.2.2.2.1, kc hb hSw.2.2.2.2.2.2.2.1, kc hb hSw.2.2.2.2.2.2.2.2.1, kc hb hSw.2.2.2.2.2.2.2.2.2.1, kc hb hSw.2.2.2.2.2.2.2.2.2.2.1, kc hb hSw.2.2.2.2.2.2.2.2.2.2.2.1, kc hb hSw.2.2.2.2.2.2.2.2.2.2.2.2.1, kc hb hSw.2.2.2.2.2.2.2.2.2.2.2.2.2.1, kc hb hSw.2.2.2.2.2.2.2.2.2.2.2.2.2.2.1, kc hb hSw.2.2.2.2.2.2.2.2.2.2.2.2.2.2.2.1, kc hb hSw.2.2.2.2.2.2.2.2.2.2.2.2.2.2.2.2.1, kc hb hSw.2.2.2.2.2.2.2.2.2.2.2.2.2.2.2.2.2.1, kc hb hSw.2.2.2.2.2.2.2.2.2.2.2.2.2.2.2.2.2.2.1, kc hb hSw.2.2.2.2.2.2.2.2.2.2.2.2.2.2.2.2.2.2.2.1, kb hSw.2.2.2.2.2.2.2.2.2.2.2.2.2.2.2.2.2.2.2.2 hb⟩))) | (go_at_call 61; ((with_reducible refine (HP.out _ hSw.2.2.2.2.2.2.2.2.2.2.2.2.2.2.2.2.2.2.2.2).mono ?_); rintro _ wz ⟨rfl, hb⟩; (refine ⟨?_, ?_⟩; (· with_reducible rfl); exact ⟨kc hb hSw.1, kc hb hSw.2.1, kc hb hSw.2.2.1, kc hb hSw.2.2.2.1, kc hb hSw.2.2.2.2.1, kc hb hSw.2.2.2.2.2.1, kc hb hSw.2.2.2.2.2.2.1, kc hb hSw.2.2.2.2.2.2.2.1, kc hb hSw.2.2.2.2.2.2.2.2.1, kc hb hSw.2.2.2.2.2.2.2.2.2.1, kc hb hSw.2.2.2.2.2.2.2.2.2.2.1, kc hb hSw.2.2.2.2.2.2.2.2.2.2.2.1, kc hb hSw.2.2.2.2.2.2.2.2.2.2.2.2.1, kc hb hSw.2.2.2.2.2.2.2.2.2.2.2.2.2.1, kc hb hSw.2.2.2.2.2.2.2.2.2.2.2.2.2.2.1, kc hb hSw.2.2.2.2.2.2.2.2.2.2.2.2.2.2.2.1, kc hb hSw.2.2.2.2.2.2.2.2.2.2.2.2.2.2.2.2.1, kc hb hSw.2.2.2.2.2.2.2.2.2.2.2.2.2.2.2.2.2.1, kc hb hSw.2.2.2.2.2.2.2.2.2.2.2.2.2.2.2.2.2.2.1, kc hb hSw.2.2.2.2.2.2.2.2.2.2.2.2.2.2.2.2.2.2.2.1, kb hSw.2.2.2.2.2.2.2.2.2.2.2.2.2.2.2.2.2.2.2.2 hb⟩))) | (go_at_call 62; ((with_reducible refine (HM.out _ hSw.2.2.2.2.2.2.2.2.2.2.2.2.2.2.2.2.2.2.2.2).mono ?_); rintro _ wz ⟨rfl, hb⟩; (refine ⟨?_, ?_⟩; (· with_reducible rfl); exact ⟨kc hb hSw.1, kc hb hSw.2.1, kc hb hSw.2.2.1, kc hb hSw.2.2.2.1, kc hb hSw.2.2.2.2.1, kc hb hSw.2.2.2.2.2.1, kc hb hSw.2.2.2.2.2.2.1, kc hb hSw.2.2.2.2.2.2.2.1, kc hb hSw.2.2.2.2.2.2.2.2.1, kc hb hSw.2.2.2.2.2.2.2.2.2.1, kc hb hSw.2.2.2.2.2.2.2.2.2.2.1, kc hb hSw.2.2.2.2.2.2.2.2.2.2.2.1, kc hb hSw.2.2.2.2.2.2.2.2.2.2.2.2.1, kc hb hSw.2.2.2.2.2.2.2.2.2.2.2.2.2.1, kc hb hSw.2.2.2.2.2.2.2.2.2.2.2.2.2.2.1, kc hb hSw.2.2.2.2.2.2.2.2.2.2.2.2.2.2.2.1, kc hb hSw.2.2.2.2.2.2.2.2.2.2.2.2.2.2.2.2.1, kc hb hSw.2.2.2.2.2.2.2.2.2.2.2.2.2.2.2.2.2.1, kc hb hSw.2.2.2.2.2.2.2.2.2.2.2.2.2.2.2.2.2.2.1, kc hb hSw.2.2.2.2.2.2.2.2.2.2.2.2.2.2.2.2.2.2.2.1, kb hSw.2.2.2.2.2.2.2.2.2.2.2.2.2.2.2.2.2.2.2.2 hb⟩))))); (try simp only [Act.put, List.setIfInBounds_toArray, List.set_cons_zero, List.set_cons_succ])))
  refine Plan.done ?_
  intro wz T
  (try dsimp only at T)
  have hBe := T.2.2.2.2.2.2.2.2.2.2.2.2.2.2.2.2.2.2.2.2
  go_wp2
  go_ret
  exact ⟨rfl, hBe⟩
end Go.Proofs.YtcnejgilmciljaaGreatDoor
set_option linter.unusedSimpArgs false
set_option linter.unusedVariables false
namespace Go.Proofs.YtcnejgilmciljaaGreatDoor
open Go.RowKit Go.PlainAid

theorem store_fn (P : Program) (f : Fn) (x y : Array Value) (a : Addr) (m : Mode) (W : World) : (store a (.func f x y) m).run P W = stored P W a (.func f x y) m := run_store P W a _ m rfl
def fnV (k : Nat) : Value := .func (.func k) #[] #[]
def devsV : Value := .agg #[.int .i64 32768, .int .i64 32771, fnV 93, fnV 94, .int .i64 32772, .int .i64 32776, fnV 95, fnV 96,
  .int .i64 32777, .int .i64 32779, fnV 97, fnV 98, .int .i64 32780, .int .i64 32783, fnV 99, fnV 100]
/-- A device. -/
def devV (f t : Int) (r w : Nat) : Value := .agg #[.int .i64 f, .int .i64 t, fnV r, fnV w]
theorem index_devs (W : World) :
    (Instr.index 137 devsV (.int .i64 0)).run Tryz.prog W = .ok (devV 32768 32771 93 94) W ∧
    (Instr.index 137 devsV (.int .i64 1)).run Tryz.prog W = .ok (devV 32772 32776 95 96) W ∧
    (Instr.index 137 devsV (.int .i64 2)).run Tryz.prog W = .ok (devV 32777 32779 97 98) W ∧
    (Instr.index 137 devsV (.int .i64 3)).run Tryz.prog W = .ok (devV 32780 32783 99 100) W := by
  refine ⟨?_, ?_, ?_, ?_⟩ <;> kernel_rfl
set_option maxRecDepth 100000 in
set_option maxHeartbeats 4000000 in
theorem devs_c (w : World) : Calls Tryz.prog 76 #[] w fun e w' => e = .returned devsV ∧ Below w.heap.size w w' := by
  have hst := store_fn Tryz.prog
  go_enter Tryz.func76, Tryz.ntmps76
  go_wp2
  refine bodyPost_ret (v := devsV) (by simp [results, Tryz.results76, go_sem]; first | done | rfl) rfl ⟨rfl, by go_grown⟩
end Go.Proofs.YtcnejgilmciljaaGreatDoor
