/-
  The document's ports: Read, walked.
-/
import Derived.Test.YtcnejgilmciljaaGreatDoorRef11
set_option linter.unusedSimpArgs false
set_option linter.unusedVariables false
namespace Go.Proofs.YtcnejgilmciljaaGreatDoor
open Go.RowKit Go.PlainAid

theorem Hold.at0 {rb : Nat} {S : Po} {a b c d : Value} {w : World} (h : Hold rb (rD S a b c d) w) :
    (w.cell? ⟨rb, 2, none⟩ = some a ∧ w.ownsRow 0 5 1 a S.out.length (S.out.flatMap bE)) ∧ (w.cell? ⟨rb, 3, none⟩ = some b ∧ w.ownsRow 0 49 2 b S.kept.length (S.kept.flatMap kE)) ∧
    (w.cell? ⟨rb, 4, none⟩ = some c ∧ w.ownsRow 0 3 1 c S.cyc.length (S.cyc.flatMap cE)) ∧ w.cell? ⟨rb, 5, none⟩ = some d ∧ w.ownsRow 0 5 1 d S.told.length (S.told.flatMap bE) :=
  ⟨⟨(h.cell 0 _ rfl).1, (h.own 0 _ rfl).1⟩, ⟨(h.cell 1 _ rfl).1, (h.own 1 _ rfl).1⟩, ⟨(h.cell 2 _ rfl).1, (h.own 2 _ rfl).1⟩, (h.cell 3 _ rfl).1, (h.own 3 _ rfl).1⟩
/-- The last one of a row. -/
theorem row_last {α : Type} {enc : α → List Value} {k : Nat} (hk : ∀ x, (enc x).length = k) {w : World} {B : Nat} {T : TypeId} {v : Value} {l : List α} {m : Nat} (h : w.ownsRow B T k v l.length (l.flatMap enc)) (hm : l.length = m + 1) :
    ∃ g c, v = .slice (some ⟨g, 0, none⟩) (m + 1) c ∧ m < 9223372036854775807 ∧ ∀ i u, (enc (l[m]'(by omega)))[i]? = some u → w.cell? ⟨g, m * k + i, none⟩ = some u := by
  rcases h.2 with ⟨_, h2⟩ | ⟨g, cap, cur, rfl, _, _, h4, h5, _⟩
  · omega
  · refine ⟨g, cap, by rw [hm], by unfold maxLen at h5; omega, fun i u hu => ?_⟩
    have := h.cells (g := g) rfl (m * k + i) u (flat_at8 hk l m _ i u (List.getElem?_eq_getElem (by omega)) hu)
    rw [Addr.add_lit, Nat.zero_add] at this
    exact this
theorem holds_none {w : World} {p : Option Addr} {n c : Nat} {r : List Int} (h0 : n = 0) (hn : r.length = n) : HoldsW bE 1 w (.slice p n c) r := by
  subst h0
  exact .inl ⟨⟨_, _, rfl⟩, List.length_eq_zero_iff.1 hn⟩
theorem headD_tail {l : List Int} (h : l ≠ []) : ∃ x r, l = x :: r := by cases l with | nil => exact absurd rfl h | cons x r => exact ⟨x, r, rfl⟩
set_option maxRecDepth 100000 in
set_option maxHeartbeats 4000000 in
theorem readr0_c (rb : Nat) (S : Po) (x y a b c d : Value) (w : World) (h : Dp rb S x y a b c d w) :
    Calls Tryz.prog 50 #[.pointer (some ⟨rb, 0, none⟩), .int .i64 0] w (ReadEnd rb S x y a b c d 0 w) := by
  have HD := Lib.hid h
  have hlt := h.hold.lt
  obtain ⟨p0, c0, rfl⟩ := h.p.h.form
  have hp_0 := h.p.c
  have hf_0 := h.p.f
  by_cases hl : S.pub = []
  · have HR := Lib.hid (show rdPo S 0 = (0, 0, 0) from by unfold rdPo; rw [if_pos rfl, hl]; rfl)
    have HS := Lib.hid (show readS S 0 = S from by unfold readS; rw [if_pos rfl]; obtain ⟨pb, _, _, _, _, _⟩ := S; dsimp only at hl; subst hl; rfl)
    rw [hl] at hp_0
    clear h hl
    dsimp only [List.length_nil] at hp_0
    go_enter Tryz.func50, Tryz.ntmps50
    go_wp2
    refine bodyPost_ret (v := .tuple #[.agg #[.int .u8 0, .int .u8 0], .int .i64 0]) (by simp [results, Tryz.results50, go_sem] <;> first | done | rfl) rfl ?_
    exact readEnd_same HR.out HS.out HD.out (by go_grown)
  · obtain ⟨v0, r, hr⟩ := headD_tail hl
    have HR := Lib.hid (show rdPo S 0 = (v0, 0, 0) from by unfold rdPo; rw [if_pos rfl, hr]; rfl)
    have HS := Lib.hid (show readS S 0 = ⟨r, S.sec, S.out, S.kept, S.cyc, S.told⟩ from by unfold readS; rw [if_pos rfl, hr]; rfl)
    obtain ⟨g, o, cap, e, hcap, hcell⟩ := h.p.h.some (by rw [hr]; simp)
    obtain ⟨rfl, -, rfl⟩ := Value.slice.inj e
    have hnf := h.p.n hl
    rw [hr] at hcell hp_0 hcap
    obtain ⟨n, hn⟩ : ∃ n, r.length = n := ⟨_, rfl⟩
    rw [List.length_cons, hn] at hp_0 hcap
    have hx0 := hcell 0 v0 rfl 0 _ rfl
    rw [Nat.zero_mul, Nat.add_zero] at hx0
    have hgl := klt hx0
    have hgr : ¬ g = rb := fun e => hnf g rfl (.inl e)
    have hgr2 : ¬ rb = g := fun e => hgr e.symm
    have HT := Lib.hid (fun k hk => holds_tail (o := o) (c := 0) (k := k) hn hcell hk)
    have HN := Lib.hid hnf
    have HO := Lib.hid (Ot.refl (w := w) hlt 0)
    have hin : (0 : Int) ≤ 0 ∧ (0 : Int) < ((n + 1 : Nat) : Int) := by omega
    have hin1 : (1 : Int) ≤ ((n + 1 : Nat) : Int) := by omega
    have hin2 : (0 : Int) < ((n + 1 : Nat) : Int) := by omega
    have HC := Lib.hid hcap
    have HNN := Lib.hid hn
    clear h hl hr hcell hnf hn e
    go_enter Tryz.func50, Tryz.ntmps50
    go_wp2
    all_goals
      (try (have hc1 : c0 = 1 := (by assumption); subst hc1))
      refine bodyPost_ret (v := .tuple #[.agg #[.int .u8 v0, .int .u8 0], .int .i64 0]) (by simp [results, Tryz.results50, go_sem] <;> first | done | rfl) rfl ?_
      first
      | (refine readEnd_p (x' := .slice (some ⟨g, o + 1, none⟩) n (c0 - 1)) HR.out HS.out HD.out ?_ (HT.out _ (by have := HC.out; omega)) ?_ (fun _ k hk => HN.out k (by simpa [Value.ownBlock] using hk)) (fun _ => rfl)
         · with_reducible
             repeat (first | exact HO.out | refine Ot.setNew ?_ _ _ (by dsimp only; omega) | refine Ot.setOwn ?_ _ | refine Ot.alloc ?_ _)
         · go_simp; first | done | rfl)
      | (refine readEnd_p (x' := .slice (some ⟨g, o, none⟩) n 0) HR.out HS.out HD.out ?_ (holds_none (by have := HC.out; omega) HNN.out) ?_ (fun _ k hk => HN.out k (by simpa [Value.ownBlock] using hk)) (fun _ => rfl)
         · with_reducible
             repeat (first | exact HO.out | refine Ot.setNew ?_ _ _ (by dsimp only; omega) | refine Ot.setOwn ?_ _ | refine Ot.alloc ?_ _)
         · go_simp; first | done | rfl)
set_option maxRecDepth 100000 in
set_option maxHeartbeats 4000000 in
theorem readr1_c (rb : Nat) (S : Po) (x y a b c d : Value) (w : World) (h : Dp rb S x y a b c d w) :
    Calls Tryz.prog 50 #[.pointer (some ⟨rb, 0, none⟩), .int .i64 1] w (ReadEnd rb S x y a b c d 1 w) := by
  have HD := Lib.hid h
  have hlt := h.hold.lt
  obtain ⟨p0, c0, rfl⟩ := h.s.h.form
  have hp_0 := h.s.c
  have hf_0 := h.s.f
  by_cases hl : S.sec = []
  · have HR := Lib.hid (show rdPo S 1 = (0, 255, 0) from by unfold rdPo; rw [if_neg (by decide), if_pos rfl, hl]; rfl)
    have HS := Lib.hid (show readS S 1 = S from by unfold readS; rw [if_neg (by decide), if_pos rfl]; obtain ⟨_, pb, _, _, _, _⟩ := S; dsimp only at hl; subst hl; rfl)
    rw [hl] at hp_0
    clear h hl
    dsimp only [List.length_nil] at hp_0
    go_enter Tryz.func50, Tryz.ntmps50
    go_wp2
    refine bodyPost_ret (v := .tuple #[.agg #[.int .u8 0, .int .u8 255], .int .i64 0]) (by simp [results, Tryz.results50, go_sem] <;> first | done | rfl) rfl ?_
    exact readEnd_same HR.out HS.out HD.out (by go_grown)
  · obtain ⟨v0, r, hr⟩ := headD_tail hl
    have HR := Lib.hid (show rdPo S 1 = (v0, 255, 0) from by unfold rdPo; rw [if_neg (by decide), if_pos rfl, hr]; rfl)
    have HS := Lib.hid (show readS S 1 = ⟨S.pub, r, S.out, S.kept, S.cyc, S.told⟩ from by unfold readS; rw [if_neg (by decide), if_pos rfl, hr]; rfl)
    obtain ⟨g, o, cap, e, hcap, hcell⟩ := h.s.h.some (by rw [hr]; simp)
    obtain ⟨rfl, -, rfl⟩ := Value.slice.inj e
    have hnf := h.s.n hl
    rw [hr] at hcell hp_0 hcap
    obtain ⟨n, hn⟩ : ∃ n, r.length = n := ⟨_, rfl⟩
    rw [List.length_cons, hn] at hp_0 hcap
    have hx0 := hcell 0 v0 rfl 0 _ rfl
    rw [Nat.zero_mul, Nat.add_zero] at hx0
    have hgl := klt hx0
    have hgr : ¬ g = rb := fun e => hnf g rfl (.inl e)
    have hgr2 : ¬ rb = g := fun e => hgr e.symm
    have HT := Lib.hid (fun k hk => holds_tail (o := o) (c := 0) (k := k) hn hcell hk)
    have HN := Lib.hid hnf
    have HO := Lib.hid (Ot.refl (w := w) hlt 1)
    have hin : (0 : Int) ≤ 0 ∧ (0 : Int) < ((n + 1 : Nat) : Int) := by omega
    have hin1 : (1 : Int) ≤ ((n + 1 : Nat) : Int) := by omega
    have hin2 : (0 : Int) < ((n + 1 : Nat) : Int) := by omega
    have HC := Lib.hid hcap
    have HNN := Lib.hid hn
    clear h hl hr hcell hnf hn e
    go_enter Tryz.func50, Tryz.ntmps50
    go_wp2
    all_goals
      (try (have hc1 : c0 = 1 := (by assumption); subst hc1))
      refine bodyPost_ret (v := .tuple #[.agg #[.int .u8 v0, .int .u8 255], .int .i64 0]) (by simp [results, Tryz.results50, go_sem] <;> first | done | rfl) rfl ?_
      first
      | (refine readEnd_s (x' := .slice (some ⟨g, o + 1, none⟩) n (c0 - 1)) HR.out HS.out HD.out ?_ (HT.out _ (by have := HC.out; omega)) ?_ (fun _ k hk => HN.out k (by simpa [Value.ownBlock] using hk)) (fun _ => rfl)
         · with_reducible
             repeat (first | exact HO.out | refine Ot.setNew ?_ _ _ (by dsimp only; omega) | refine Ot.setOwn ?_ _ | refine Ot.alloc ?_ _)
         · go_simp; first | done | rfl)
      | (refine readEnd_s (x' := .slice (some ⟨g, o, none⟩) n 0) HR.out HS.out HD.out ?_ (holds_none (by have := HC.out; omega) HNN.out) ?_ (fun _ k hk => HN.out k (by simpa [Value.ownBlock] using hk)) (fun _ => rfl)
         · with_reducible
             repeat (first | exact HO.out | refine Ot.setNew ?_ _ _ (by dsimp only; omega) | refine Ot.setOwn ?_ _ | refine Ot.alloc ?_ _)
         · go_simp; first | done | rfl)
set_option maxRecDepth 100000 in
set_option maxHeartbeats 4000000 in
theorem readr2_c (rb : Nat) (S : Po) (x y a b c d : Value) (w : World) (h : Dp rb S x y a b c d w) :
    Calls Tryz.prog 50 #[.pointer (some ⟨rb, 0, none⟩), .int .i64 2] w (ReadEnd rb S x y a b c d 2 w) := by
  have HD := Lib.hid h
  have hlt := h.hold.lt
  obtain ⟨hc, ho⟩ := h.hold.at0.1
  have HS := Lib.hid (show readS S 2 = S from by unfold readS; rw [if_neg (by decide), if_neg (by decide)])
  obtain ⟨p0, c0, rfl⟩ := own_form ho
  by_cases hl : S.out.length = 0
  · have HR := Lib.hid (show rdPo S 2 = (0, 0, 0) from by unfold rdPo; rw [if_neg (by decide), if_neg (by decide), if_pos rfl, List.length_eq_zero_iff.1 hl]; rfl)
    rw [hl] at hc
    clear h ho hl
    go_enter Tryz.func50, Tryz.ntmps50
    go_wp2
    refine bodyPost_ret (v := .tuple #[.agg #[.int .u8 0, .int .u8 0], .int .i64 0]) (by simp [results, Tryz.results50, go_sem] <;> first | done | rfl) rfl ?_
    exact readEnd_same HR.out HS.out HD.out (by go_grown)
  · obtain ⟨m, hm⟩ : ∃ m, S.out.length = m + 1 := ⟨S.out.length - 1, by omega⟩
    obtain ⟨g, cap, e, hmx, hcell⟩ := row_last bE_len ho hm
    have hlast := lastI_snoc S.out m hm
    obtain ⟨X, hX⟩ : ∃ X, S.out[m]'(by omega) = X := ⟨_, rfl⟩
    rw [hX] at hlast hcell
    have HR := Lib.hid (show rdPo S 2 = (X, 0, 0) from by unfold rdPo; rw [if_neg (by decide), if_neg (by decide), if_pos rfl, hlast])
    rw [e] at hc
    have hx0 := hcell 0 _ rfl
    rw [Nat.mul_one, Nat.add_zero] at hx0
    have hgl := klt hx0
    obtain ⟨N, hN⟩ : ∃ N, m + 1 = N := ⟨_, rfl⟩
    rw [hN] at hc
    have hw : IntKind.i64.wrap ((N : Int) - 1) = (m : Int) := by rw [show (N : Int) - 1 = (m : Int) by omega]; exact IntWalk.i64_in _ (by omega)
    have hin : (0 : Int) ≤ (m : Int) ∧ (m : Int) < (N : Int) := by omega
    have hN0 : (0 : Int) < (N : Int) := by omega
    clear h ho hl hm hlast hX hcell e hN hmx
    have hp_2 := hc
    have hq_m := hx0
    clear hc hx0
    go_enter Tryz.func50, Tryz.ntmps50
    go_wp2_with fail
    refine wp_region_planT 12 (fun w' => w'.cell? ⟨rb, 2, none⟩ = some (.slice (some ⟨g, 0, none⟩) N cap) ∧ w'.cell? ⟨g, m, none⟩ = some (.int .u8 X) ∧ w'.cell? ⟨w.heap.size + 1, 0, none⟩ = some (.int .u8 0) ∧ w'.frozen? ⟨w.heap.size + 1, 0, none⟩ = false ∧ w'.cell? ⟨w.heap.size + 1, 1, none⟩ = some (.int .u8 0) ∧ w'.frozen? ⟨w.heap.size + 1, 1, none⟩ = false ∧ w'.cell? ⟨w.heap.size, 0, none⟩ = some (.int .u8 0) ∧ w'.frozen? ⟨w.heap.size, 0, none⟩ = false ∧ w'.cell? ⟨w.heap.size, 1, none⟩ = some (.int .u8 0) ∧ w'.frozen? ⟨w.heap.size, 1, none⟩ = false ∧ Below w.heap.size w w') (by kernel_rfl) (by kernel_rfl) (by kernel_rfl) (by kernel_rfl) ?_ ?_
    · (try dsimp only)
      refine ⟨?_, ?_, ?_, ?_, ?_, ?_, ?_, ?_, ?_, ?_, ?_⟩ <;> first | (go_simp; done) | (simp [*]; done) | go_grown
    (try simp only [List.append_eq, List.cons_append, List.nil_append, List.toList_toArray, List.take_succ_cons, List.take_zero, List.drop_succ_cons, List.drop_zero])
    repeat (first
      | (refine Plan.val (v := ?_) ?_ ?_ ?_; rotate_left; (· rfl); (· (intro W hSw; (try dsimp only at hSw); go_simp; all_goals (first | (with_reducible rfl) | (constructor <;> (with_reducible rfl)) | (rw [if_neg (by omega)]; done) | (rw [if_neg (by omega)]; with_reducible rfl)))); (try simp only [Act.put, List.setIfInBounds_toArray, List.set_cons_zero, List.set_cons_succ]))
      | (refine Plan.no ?_ ?_; (· rfl); (try simp only [Act.put, List.setIfInBounds_toArray, List.set_cons_zero, List.set_cons_succ])))
    refine Plan.done ?_
    intro u1 T
    (try dsimp only at T)
    obtain ⟨hp_0, hq_0, hz_0, fz_0, hz_1, fz_1, he_0, fe_0, he_1, fe_1, hB⟩ := T
    have hsz := hB.size
    have hlp := klt hp_0
    have hlq := klt hq_0
    have hlz := klt hz_0
    have hle := klt he_0
    obtain ⟨hnp0, hnp1, hkp1, hnp2, hkp2⟩ := ap0 hlp
    obtain ⟨hnq0, hnq1, hkq1, hnq2, hkq2⟩ := ap0 hlq
    obtain ⟨hnz0, hnz1, hkz1, hnz2, hkz2⟩ := ap1f hlz
    have hne2 : ¬ (w.heap.size = u1.heap.size + 1 + 1) := by omega
    have hke2 : w.heap.size < u1.heap.size + 1 + 1 := by omega
    go_wp2
    refine bodyPost_ret (v := .tuple #[.agg #[.int .u8 X, .int .u8 0], .int .i64 0]) (by simp [results, Tryz.results50, go_sem, he_0, he_1, hz_0, hz_1] <;> first | done | rfl) rfl ?_
    exact readEnd_same HR.out HS.out HD.out (by go_grown)
set_option maxRecDepth 100000 in
set_option maxHeartbeats 4000000 in
theorem readr3_c (rb : Nat) (S : Po) (x y a b c d : Value) (w : World) (h : Dp rb S x y a b c d w) :
    Calls Tryz.prog 50 #[.pointer (some ⟨rb, 0, none⟩), .int .i64 3] w (ReadEnd rb S x y a b c d 3 w) := by
  have HD := Lib.hid h
  have hlt := h.hold.lt
  obtain ⟨hc, ho⟩ := h.hold.at0.2.1
  have HS := Lib.hid (show readS S 3 = S from by unfold readS; rw [if_neg (by decide), if_neg (by decide)])
  obtain ⟨p0, c0, rfl⟩ := own_form ho
  by_cases hl : S.kept.length = 0
  · have HR := Lib.hid (show rdPo S 3 = (0, 0, 0) from by unfold rdPo; rw [if_neg (by decide), if_neg (by decide), if_neg (by decide), if_pos rfl, List.length_eq_zero_iff.1 hl]; rfl)
    rw [hl] at hc
    clear h ho hl
    go_enter Tryz.func50, Tryz.ntmps50
    go_wp2
    refine bodyPost_ret (v := .tuple #[.agg #[.int .u8 0, .int .u8 0], .int .i64 0]) (by simp [results, Tryz.results50, go_sem] <;> first | done | rfl) rfl ?_
    exact readEnd_same HR.out HS.out HD.out (by go_grown)
  · obtain ⟨m, hm⟩ : ∃ m, S.kept.length = m + 1 := ⟨S.kept.length - 1, by omega⟩
    obtain ⟨g, cap, e, hmx, hcell⟩ := row_last kE_len ho hm
    have hlast := lastK_snoc S.kept m hm
    obtain ⟨⟨X, Y⟩, hX⟩ : ∃ X, S.kept[m]'(by omega) = X := ⟨_, rfl⟩
    rw [hX] at hlast hcell
    have HR := Lib.hid (show rdPo S 3 = (X, Y, 0) from by unfold rdPo; rw [if_neg (by decide), if_neg (by decide), if_neg (by decide), if_pos rfl, hlast])
    rw [e] at hc
    have hx0 := hcell 0 _ rfl
    have hx1 := hcell 1 _ rfl
    rw [Nat.add_zero] at hx0
    dsimp only at hx0 hx1
    have hgl := klt hx0
    obtain ⟨N, hN⟩ : ∃ N, m + 1 = N := ⟨_, rfl⟩
    rw [hN] at hc
    have hw : IntKind.i64.wrap ((N : Int) - 1) = (m : Int) := by rw [show (N : Int) - 1 = (m : Int) by omega]; exact IntWalk.i64_in _ (by omega)
    have hin : (0 : Int) ≤ (m : Int) ∧ (m : Int) < (N : Int) := by omega
    have hN0 : (0 : Int) < (N : Int) := by omega
    clear h ho hl hm hlast hX hcell e hN hmx
    have hp_2 := hc
    have hq_m := hx0
    have hq_n := hx1
    clear hc hx0 hx1
    go_enter Tryz.func50, Tryz.ntmps50
    go_wp2_with fail
    refine wp_region_planT 12 (fun w' => w'.cell? ⟨rb, 3, none⟩ = some (.slice (some ⟨g, 0, none⟩) N cap) ∧ w'.cell? ⟨g, m * 2, none⟩ = some (.int .u8 X) ∧ w'.cell? ⟨g, m * 2 + 1, none⟩ = some (.int .u8 Y) ∧ w'.cell? ⟨w.heap.size + 1, 0, none⟩ = some (.int .u8 0) ∧ w'.frozen? ⟨w.heap.size + 1, 0, none⟩ = false ∧ w'.cell? ⟨w.heap.size + 1, 1, none⟩ = some (.int .u8 0) ∧ w'.frozen? ⟨w.heap.size + 1, 1, none⟩ = false ∧ w'.cell? ⟨w.heap.size, 0, none⟩ = some (.int .u8 0) ∧ w'.frozen? ⟨w.heap.size, 0, none⟩ = false ∧ w'.cell? ⟨w.heap.size, 1, none⟩ = some (.int .u8 0) ∧ w'.frozen? ⟨w.heap.size, 1, none⟩ = false ∧ Below w.heap.size w w') (by kernel_rfl) (by kernel_rfl) (by kernel_rfl) (by kernel_rfl) ?_ ?_
    · (try dsimp only)
      refine ⟨?_, ?_, ?_, ?_, ?_, ?_, ?_, ?_, ?_, ?_, ?_, ?_⟩ <;> first | (go_simp; done) | (simp [*]; done) | go_grown
    (try simp only [List.append_eq, List.cons_append, List.nil_append, List.toList_toArray, List.take_succ_cons, List.take_zero, List.drop_succ_cons, List.drop_zero])
    repeat (first
      | (refine Plan.val (v := ?_) ?_ ?_ ?_; rotate_left; (· rfl); (· (intro W hSw; (try dsimp only at hSw); go_simp; all_goals (first | (with_reducible rfl) | (constructor <;> (with_reducible rfl)) | (rw [if_neg (by omega)]; done) | (rw [if_neg (by omega)]; with_reducible rfl)))); (try simp only [Act.put, List.setIfInBounds_toArray, List.set_cons_zero, List.set_cons_succ]))
      | (refine Plan.no ?_ ?_; (· rfl); (try simp only [Act.put, List.setIfInBounds_toArray, List.set_cons_zero, List.set_cons_succ])))
    refine Plan.done ?_
    intro u1 T
    (try dsimp only at T)
    obtain ⟨hp_0, hq_0, hq_1, hz_0, fz_0, hz_1, fz_1, he_0, fe_0, he_1, fe_1, hB⟩ := T
    have hsz := hB.size
    have hlp := klt hp_0
    have hlq := klt hq_0
    have hlz := klt hz_0
    have hle := klt he_0
    obtain ⟨hnp0, hnp1, hkp1, hnp2, hkp2⟩ := ap0 hlp
    obtain ⟨hnq0, hnq1, hkq1, hnq2, hkq2⟩ := ap0 hlq
    obtain ⟨hnz0, hnz1, hkz1, hnz2, hkz2⟩ := ap1f hlz
    have hne2 : ¬ (w.heap.size = u1.heap.size + 1 + 1) := by omega
    have hke2 : w.heap.size < u1.heap.size + 1 + 1 := by omega
    go_wp2
    refine bodyPost_ret (v := .tuple #[.agg #[.int .u8 X, .int .u8 Y], .int .i64 0]) (by simp [results, Tryz.results50, go_sem, he_0, he_1, hz_0, hz_1] <;> first | done | rfl) rfl ?_
    exact readEnd_same HR.out HS.out HD.out (by go_grown)
set_option maxRecDepth 100000 in
set_option maxHeartbeats 4000000 in
theorem readr4_c (rb : Nat) (S : Po) (x y a b c d : Value) (w : World) (h : Dp rb S x y a b c d w) :
    Calls Tryz.prog 50 #[.pointer (some ⟨rb, 0, none⟩), .int .i64 4] w (ReadEnd rb S x y a b c d 4 w) := by
  have HD := Lib.hid h
  have hlt := h.hold.lt
  obtain ⟨hc, ho⟩ := h.hold.at0.2.2.2
  have HS := Lib.hid (show readS S 4 = S from by unfold readS; rw [if_neg (by decide), if_neg (by decide)])
  obtain ⟨p0, c0, rfl⟩ := own_form ho
  by_cases hl : S.told.length = 0
  · have HR := Lib.hid (show rdPo S 4 = (0, 0, 0) from by unfold rdPo; rw [if_neg (by decide), if_neg (by decide), if_neg (by decide), if_neg (by decide), if_pos rfl, List.length_eq_zero_iff.1 hl]; rfl)
    rw [hl] at hc
    clear h ho hl
    go_enter Tryz.func50, Tryz.ntmps50
    go_wp2
    refine bodyPost_ret (v := .tuple #[.agg #[.int .u8 0, .int .u8 0], .int .i64 0]) (by simp [results, Tryz.results50, go_sem] <;> first | done | rfl) rfl ?_
    exact readEnd_same HR.out HS.out HD.out (by go_grown)
  · obtain ⟨m, hm⟩ : ∃ m, S.told.length = m + 1 := ⟨S.told.length - 1, by omega⟩
    obtain ⟨g, cap, e, hmx, hcell⟩ := row_last bE_len ho hm
    have hlast := lastI_snoc S.told m hm
    obtain ⟨X, hX⟩ : ∃ X, S.told[m]'(by omega) = X := ⟨_, rfl⟩
    rw [hX] at hlast hcell
    have HR := Lib.hid (show rdPo S 4 = (X, 0, 0) from by unfold rdPo; rw [if_neg (by decide), if_neg (by decide), if_neg (by decide), if_neg (by decide), if_pos rfl, hlast])
    rw [e] at hc
    have hx0 := hcell 0 _ rfl
    rw [Nat.mul_one, Nat.add_zero] at hx0
    have hgl := klt hx0
    obtain ⟨N, hN⟩ : ∃ N, m + 1 = N := ⟨_, rfl⟩
    rw [hN] at hc
    have hw : IntKind.i64.wrap ((N : Int) - 1) = (m : Int) := by rw [show (N : Int) - 1 = (m : Int) by omega]; exact IntWalk.i64_in _ (by omega)
    have hin : (0 : Int) ≤ (m : Int) ∧ (m : Int) < (N : Int) := by omega
    have hN0 : (0 : Int) < (N : Int) := by omega
    clear h ho hl hm hlast hX hcell e hN hmx
    have hp_2 := hc
    have hq_m := hx0
    clear hc hx0
    go_enter Tryz.func50, Tryz.ntmps50
    go_wp2_with fail
    refine wp_region_planT 12 (fun w' => w'.cell? ⟨rb, 5, none⟩ = some (.slice (some ⟨g, 0, none⟩) N cap) ∧ w'.cell? ⟨g, m, none⟩ = some (.int .u8 X) ∧ w'.cell? ⟨w.heap.size + 1, 0, none⟩ = some (.int .u8 0) ∧ w'.frozen? ⟨w.heap.size + 1, 0, none⟩ = false ∧ w'.cell? ⟨w.heap.size + 1, 1, none⟩ = some (.int .u8 0) ∧ w'.frozen? ⟨w.heap.size + 1, 1, none⟩ = false ∧ w'.cell? ⟨w.heap.size, 0, none⟩ = some (.int .u8 0) ∧ w'.frozen? ⟨w.heap.size, 0, none⟩ = false ∧ w'.cell? ⟨w.heap.size, 1, none⟩ = some (.int .u8 0) ∧ w'.frozen? ⟨w.heap.size, 1, none⟩ = false ∧ Below w.heap.size w w') (by kernel_rfl) (by kernel_rfl) (by kernel_rfl) (by kernel_rfl) ?_ ?_
    · (try dsimp only)
      refine ⟨?_, ?_, ?_, ?_, ?_, ?_, ?_, ?_, ?_, ?_, ?_⟩ <;> first | (go_simp; done) | (simp [*]; done) | go_grown
    (try simp only [List.append_eq, List.cons_append, List.nil_append, List.toList_toArray, List.take_succ_cons, List.take_zero, List.drop_succ_cons, List.drop_zero])
    repeat (first
      | (refine Plan.val (v := ?_) ?_ ?_ ?_; rotate_left; (· rfl); (· (intro W hSw; (try dsimp only at hSw); go_simp; all_goals (first | (with_reducible rfl) | (constructor <;> (with_reducible rfl)) | (rw [if_neg (by omega)]; done) | (rw [if_neg (by omega)]; with_reducible rfl)))); (try simp only [Act.put, List.setIfInBounds_toArray, List.set_cons_zero, List.set_cons_succ]))
      | (refine Plan.no ?_ ?_; (· rfl); (try simp only [Act.put, List.setIfInBounds_toArray, List.set_cons_zero, List.set_cons_succ])))
    refine Plan.done ?_
    intro u1 T
    (try dsimp only at T)
    obtain ⟨hp_0, hq_0, hz_0, fz_0, hz_1, fz_1, he_0, fe_0, he_1, fe_1, hB⟩ := T
    have hsz := hB.size
    have hlp := klt hp_0
    have hlq := klt hq_0
    have hlz := klt hz_0
    have hle := klt he_0
    obtain ⟨hnp0, hnp1, hkp1, hnp2, hkp2⟩ := ap0 hlp
    obtain ⟨hnq0, hnq1, hkq1, hnq2, hkq2⟩ := ap0 hlq
    obtain ⟨hnz0, hnz1, hkz1, hnz2, hkz2⟩ := ap1f hlz
    have hne2 : ¬ (w.heap.size = u1.heap.size + 1 + 1) := by omega
    have hke2 : w.heap.size < u1.heap.size + 1 + 1 := by omega
    go_wp2
    refine bodyPost_ret (v := .tuple #[.agg #[.int .u8 X, .int .u8 0], .int .i64 0]) (by simp [results, Tryz.results50, go_sem, he_0, he_1, hz_0, hz_1] <;> first | done | rfl) rfl ?_
    exact readEnd_same HR.out HS.out HD.out (by go_grown)
set_option maxRecDepth 100000 in
set_option maxHeartbeats 4000000 in
theorem rread11_c (rb : Nat) (S : Po) (x y a b c d : Value) (reg : Int) (w : World) (h : Dp rb S x y a b c d w) :
    Calls Tryz.prog 50 #[.pointer (some ⟨rb, 0, none⟩), .int .i64 reg] w (ReadEnd rb S x y a b c d reg w) := by
  rcases port_cases reg with rfl | rfl | rfl | rfl | rfl | ⟨n0, n1, n2, n3, n4⟩
  · exact readr0_c rb S x y a b c d w h
  · exact readr1_c rb S x y a b c d w h
  · exact readr2_c rb S x y a b c d w h
  · exact readr3_c rb S x y a b c d w h
  · exact readr4_c rb S x y a b c d w h
  · have HR := Lib.hid (show rdPo S reg = (0, 0, 10) from by unfold rdPo; rw [if_neg n0, if_neg n1, if_neg n2, if_neg n3, if_neg n4])
    have HS := Lib.hid (show readS S reg = S from by unfold readS; rw [if_neg n0, if_neg n1])
    have HD := Lib.hid h
    have d0 : (reg == 0) = false := by simpa using n0
    have d1 : (reg == 1) = false := by simpa using n1
    have d2 : (reg == 2) = false := by simpa using n2
    have d3 : (reg == 3) = false := by simpa using n3
    have d4 : (reg == 4) = false := by simpa using n4
    clear n0 n1 n2 n3 n4 h
    go_enter Tryz.func50, Tryz.ntmps50
    go_wp2
    refine bodyPost_ret (v := .tuple #[.agg #[.int .u8 0, .int .u8 0], .int .i64 10]) (by simp [results, Tryz.results50, go_sem] <;> first | done | rfl) rfl ?_
    exact readEnd_same HR.out HS.out HD.out (by go_grown)
end Go.Proofs.YtcnejgilmciljaaGreatDoor
