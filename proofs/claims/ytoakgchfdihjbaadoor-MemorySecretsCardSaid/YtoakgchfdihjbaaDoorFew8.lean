/-
  Layer 8's laws: calls in memory; whether they are not too many.
-/
import Derived.Test.YtoakgchfdihjbaaDoorLabel8
set_option linter.unusedSimpArgs false
set_option linter.unusedVariables false
namespace Go.Proofs.YtoakgchfdihjbaaDoor
open Go.RowKit Go.PlainAid

/-- A call: which, where, up to where, a byte, bytes. -/
structure OpR where
  q : Int
  a : Int
  b : Int
  v : Int
  t : Int
  l : List Int
/-- A slice that holds these calls, each with its own bytes, all apart from blocks from N on. -/
def HoldsO (N : Nat) (w : World) (v : Value) (l : List OpR) : Prop :=
  ((∃ p c, v = .slice p 0 c) ∧ l = []) ∨ ∃ g o cap, v = .slice (some ⟨g, o, none⟩) l.length cap ∧ l.length ≤ cap ∧ g < N ∧ ∀ j (x : OpR), l[j]? = some x → ∃ lv, w.cell? ⟨g, o + j * 6, none⟩ = some (.int .i64 x.q) ∧ w.cell? ⟨g, o + j * 6 + 1, none⟩ = some (.int .i64 x.a) ∧ w.cell? ⟨g, o + j * 6 + 2, none⟩ = some (.int .i64 x.b) ∧ w.cell? ⟨g, o + j * 6 + 3, none⟩ = some (.int .u8 x.v) ∧ w.cell? ⟨g, o + j * 6 + 4, none⟩ = some (.int .u8 x.t) ∧ w.cell? ⟨g, o + j * 6 + 5, none⟩ = some lv ∧ HoldsB w lv x.l ∧ (0 < x.l.length → ∀ g', lv.ownBlock = some g' → g' < N)
theorem HoldsO.form {N : Nat} {w : World} {v : Value} {l : List OpR} (h : HoldsO N w v l) : ∃ p c, v = .slice p l.length c := by
  rcases h with ⟨⟨p, c, rfl⟩, rfl⟩ | ⟨g, o, cap, rfl, _⟩
  · exact ⟨p, c, rfl⟩
  · exact ⟨_, cap, rfl⟩
theorem HoldsO.below {N : Nat} {w u : World} {v : Value} {l : List OpR} (h : HoldsO N w v l) (hb : Below w.heap.size w u) : HoldsO N u v l := by
  rcases h with h | ⟨g, o, cap, e, hc, hg, h⟩
  · exact .inl h
  · exact .inr ⟨g, o, cap, e, hc, hg, fun j x hx => by
      obtain ⟨lv, a0, a1, a2, a3, a4, a5, a6, a7⟩ := h j x hx
      exact ⟨lv, kc hb a0, kc hb a1, kc hb a2, kc hb a3, kc hb a4, kc hb a5, a6.below hb, a7⟩⟩
def bigO (x : OpR) : Bool := decide ((40 : Int) < (x.l.length : Int)) || ((x.q == 1 && oneB x.a x.b) && decide (60 < x.b - x.a))
def fewO (l : List OpR) : Bool := l.all (fun x => !bigO x) && decide ((l.length : Int) ≤ 30)
set_option maxRecDepth 100000 in
set_option maxHeartbeats 4000000 in
theorem few_c (N : Nat) (l : List OpR) (hl : l.length ≤ 9223372036854775807) (v : Value) (w : World) (hv : HoldsO N w v l) :
    Calls Tryd.prog 9 #[v] w fun e w' => e = .returned (.bool (fewO l)) ∧ Below w.heap.size w w' := by
  obtain ⟨R, hR⟩ : ∃ R, fewO l = R := ⟨_, rfl⟩
  rw [hR]
  obtain ⟨p, c, rfl⟩ := hv.form
  obtain ⟨n, hn⟩ : ∃ n, l.length = n := ⟨_, rfl⟩
  rw [hn] at hv hl ⊢
  have HV := Lib.hid hv
  have HR := Lib.hid hR
  have HN := Lib.hid hn
  clear hv hR hn
  go_enter Tryd.func9, Tryd.ntmps9
  go_wp2
  go_loopw [3] (fun i wr => ∃ k : Nat, k ≤ n ∧ i = .int .i64 k ∧ Hid ((l.drop k).all (fun x => !bigO x) = l.all (fun x => !bigO x)) ∧ Below w.heap.size w wr) (fun i _ => n - (intOf i).toNat)
  case atStart => exact ⟨0, Nat.zero_le _, rfl, Lib.hid (by rw [List.drop_zero]), by go_grown⟩
  case round =>
    obtain ⟨k, hk, rfl, HK, hB⟩ := hrel
    by_cases hlt : k < n
    · have hk1 : k < l.length := by have := HN.out; omega
      have hin : (0 : Int) ≤ (k : Int) ∧ (k : Int) < (n : Int) := by omega
      have hw1 : IntKind.i64.wrap ((k : Int) + 1) = (k : Int) + 1 := IntWalk.i64_in _ (by omega)
      rcases HV.out with ⟨_, e⟩ | ⟨g, o, cap, e1, hcap, hgN, hcc⟩
      · subst e; exact absurd hk1 (by simp)
      obtain ⟨rfl, n1, rfl⟩ := Value.slice.inj e1
      clear e1 n1
      obtain ⟨lv, x0, x1, x2, x3, x4, x5, x6, x7⟩ := hcc k _ (List.getElem?_eq_getElem hk1)
      have hst := HK.out
      rw [List.drop_eq_getElem_cons hk1, List.all_cons] at hst
      generalize l[k] = x at *
      obtain ⟨xq, xa, xb, xv, xt, xl⟩ := x
      dsimp only at x0 x1 x2 x5 x6 x7
      obtain ⟨lp, lc, rfl⟩ := x6.form
      obtain ⟨m, hm⟩ : ∃ m, xl.length = m := ⟨_, rfl⟩
      rw [hm] at x5
      have hbig : bigO ⟨xq, xa, xb, xv, xt, xl⟩ = (decide ((40 : Int) < (m : Int)) || ((xq == 1 && oneB xa xb) && decide (60 < xb - xa))) := by unfold bigO; rw [← hm]
      have HBG := Lib.hid hbig
      have HST := Lib.hid hst
      have hx_0 := kc hB x0
      have hx_1 := kc hB x1
      have hx_2 := kc hB x2
      have hx_5 := kc hB x5
      have H1 := Lib.hid (fun W => oner_c xa xb W)
      have HA := Lib.hid (show oneB xa xb = true → IntKind.i64.wrap (xb - xa) = xb - xa from fun h => by
        unfold oneB ramB romB at h
        simp only [Bool.or_eq_true, Bool.and_eq_true, decide_eq_true_eq] at h
        exact IntWalk.i64_in _ (by omega))
      generalize oneB xa xb = O at *
      clear hcc hst hbig x0 x1 x2 x3 x4 x5 x6 x7 hm HK
      have hfin : bigO ⟨xq, xa, xb, xv, xt, xl⟩ = true → R = false := fun h1 => by
        have h := HST.out
        rw [h1] at h
        rw [← HR.out, fewO, ← h]
        rfl
      have hgo : bigO ⟨xq, xa, xb, xv, xt, xl⟩ = false → (l.drop (k + 1)).all (fun x => !bigO x) = l.all (fun x => !bigO x) := fun h1 => by
        have h := HST.out
        rw [h1] at h
        simpa using h
      have HFin := Lib.hid hfin
      have HGo := Lib.hid hgo
      clear hfin hgo
      by_cases c1 : 40 < m
      · have d1 : decide ((40 : Int) < (m : Int)) = true := decide_eq_true (by omega)
        have HF := Lib.hid (HFin.out (by rw [HBG.out, d1]; rfl))
        go_wp2_with fail
        refine wp_region_plan (fun w' => w'.cell? ⟨g, o + k * 6, none⟩ = some (.int .i64 xq) ∧ w'.cell? ⟨g, o + k * 6 + 1, none⟩ = some (.int .i64 xa) ∧ w'.cell? ⟨g, o + k * 6 + 2, none⟩ = some (.int .i64 xb) ∧ w'.cell? ⟨g, o + k * 6 + 5, none⟩ = some (.slice lp m lc) ∧ Below w.heap.size w w') (by kernel_rfl) (by kernel_rfl) (by kernel_rfl) ?_ ?_
        · (try dsimp only)
          refine ⟨?_, ?_, ?_, ?_, ?_⟩ <;> first | (go_simp; done) | (simp [*]; done) | go_grown
        repeat (first
          | (refine Plan.val (v := ?_) ?_ ?_ ?_; rotate_left; (· rfl); (· (intro W hSw; (try dsimp only at hSw); go_simp; all_goals (first | (with_reducible rfl) | (constructor <;> (with_reducible rfl)) | (rw [if_neg (by omega)]; done) | (rw [if_neg (by omega)]; with_reducible rfl)))); (try simp only [Act.put, List.setIfInBounds_toArray, List.set_cons_zero, List.set_cons_succ]))
          | (refine Plan.no ?_ ?_; (· rfl); (try simp only [Act.put, List.setIfInBounds_toArray, List.set_cons_zero, List.set_cons_succ])))
        refine Plan.done ?_
        intro u T
        (try dsimp only at T)
        obtain ⟨hx_0, hx_1, hx_2, hx_5, hB⟩ := T
        have hsz := hB.size
        have hlx := klt hx_0
        obtain ⟨hnx0, hnx1, hkx1, hnx2, hkx2⟩ := ap0 hlx
        go_wp2
        go_ret
        exact ⟨ret_bool HF.out.symm, hB⟩
      · have d1 : decide ((40 : Int) < (m : Int)) = false := decide_eq_false (by omega)
        cases c2 : (xq == 1)
        · have HF := Lib.hid (HGo.out (by rw [HBG.out, d1, c2]; rfl))
          go_wp2_with fail
          refine wp_region_plan (fun w' => w'.cell? ⟨g, o + k * 6, none⟩ = some (.int .i64 xq) ∧ w'.cell? ⟨g, o + k * 6 + 1, none⟩ = some (.int .i64 xa) ∧ w'.cell? ⟨g, o + k * 6 + 2, none⟩ = some (.int .i64 xb) ∧ w'.cell? ⟨g, o + k * 6 + 5, none⟩ = some (.slice lp m lc) ∧ Below w.heap.size w w') (by kernel_rfl) (by kernel_rfl) (by kernel_rfl) ?_ ?_
          · (try dsimp only)
            refine ⟨?_, ?_, ?_, ?_, ?_⟩ <;> first | (go_simp; done) | (simp [*]; done) | go_grown
          repeat (first
            | (refine Plan.val (v := ?_) ?_ ?_ ?_; rotate_left; (· rfl); (· (intro W hSw; (try dsimp only at hSw); go_simp; all_goals (first | (with_reducible rfl) | (constructor <;> (with_reducible rfl)) | (rw [if_neg (by omega)]; done) | (rw [if_neg (by omega)]; with_reducible rfl)))); (try simp only [Act.put, List.setIfInBounds_toArray, List.set_cons_zero, List.set_cons_succ]))
            | (refine Plan.no ?_ ?_; (· rfl); (try simp only [Act.put, List.setIfInBounds_toArray, List.set_cons_zero, List.set_cons_succ])))
          refine Plan.done ?_
          intro u T
          (try dsimp only at T)
          obtain ⟨hx_0, hx_1, hx_2, hx_5, hB⟩ := T
          have hsz := hB.size
          have hlx := klt hx_0
          obtain ⟨hnx0, hnx1, hkx1, hnx2, hkx2⟩ := ap0 hlx
          go_wp2
          go_roundw
          case rel => exact ⟨k + 1, by omega, by go_num, HF, hB⟩
          case measure => simp [intOf] <;> omega
        · cases O
          · have HF := Lib.hid (HGo.out (by rw [HBG.out, d1, c2]; rfl))
            go_wp2_with fail
            refine wp_region_plan (fun w' => w'.cell? ⟨g, o + k * 6, none⟩ = some (.int .i64 xq) ∧ w'.cell? ⟨g, o + k * 6 + 1, none⟩ = some (.int .i64 xa) ∧ w'.cell? ⟨g, o + k * 6 + 2, none⟩ = some (.int .i64 xb) ∧ w'.cell? ⟨g, o + k * 6 + 5, none⟩ = some (.slice lp m lc) ∧ Below w.heap.size w w') (by kernel_rfl) (by kernel_rfl) (by kernel_rfl) ?_ ?_
            · (try dsimp only)
              refine ⟨?_, ?_, ?_, ?_, ?_⟩ <;> first | (go_simp; done) | (simp [*]; done) | go_grown
            repeat (first
              | (refine Plan.val (v := ?_) ?_ ?_ ?_; rotate_left; (· rfl); (· (intro W hSw; (try dsimp only at hSw); go_simp; all_goals (first | (with_reducible rfl) | (constructor <;> (with_reducible rfl)) | (rw [if_neg (by omega)]; done) | (rw [if_neg (by omega)]; with_reducible rfl)))); (try simp only [Act.put, List.setIfInBounds_toArray, List.set_cons_zero, List.set_cons_succ]))
              | (refine Plan.no ?_ ?_; (· rfl); (try simp only [Act.put, List.setIfInBounds_toArray, List.set_cons_zero, List.set_cons_succ]))
              | (refine Plan.call (v := ?_) (f := ?_) (args := ?_) ?_ ?_ ?_ ?_; rotate_left 3; (· rfl); (· (intro W hSw; (try dsimp only at hSw); go_simp; all_goals (first | (with_reducible rfl) | (constructor <;> (with_reducible rfl)) | (rw [if_neg (by omega)]; done) | (rw [if_neg (by omega)]; with_reducible rfl)))); (· (intro W hSw; (try dsimp only at hSw); first | (go_at_call 25; ((with_reducible refine (H1.out _).mono ?_); rintro _ wz ⟨rfl, hb⟩; (refine ⟨?_, ?_⟩; (· with_reducible rfl); exact ⟨kc hb hSw.1, kc hb hSw.2.1, kc hb hSw.2.2.1, kc hb hSw.2.2.2.1, kb hSw.2.2.2.2 hb⟩))))); (try simp only [Act.put, List.setIfInBounds_toArray, List.set_cons_zero, List.set_cons_succ])))
            refine Plan.done ?_
            intro u T
            (try dsimp only at T)
            obtain ⟨hx_0, hx_1, hx_2, hx_5, hB⟩ := T
            have hsz := hB.size
            have hlx := klt hx_0
            obtain ⟨hnx0, hnx1, hkx1, hnx2, hkx2⟩ := ap0 hlx
            go_wp2
            go_roundw
            case rel => exact ⟨k + 1, by omega, by go_num, HF, hB⟩
            case measure => simp [intOf] <;> omega
          · have hw2 := HA.out rfl
            cases c3 : decide (60 < xb - xa)
            · have HF := Lib.hid (HGo.out (by rw [HBG.out, d1, c2, c3]; rfl))
              go_wp2_with fail
              refine wp_region_plan (fun w' => w'.cell? ⟨g, o + k * 6, none⟩ = some (.int .i64 xq) ∧ w'.cell? ⟨g, o + k * 6 + 1, none⟩ = some (.int .i64 xa) ∧ w'.cell? ⟨g, o + k * 6 + 2, none⟩ = some (.int .i64 xb) ∧ w'.cell? ⟨g, o + k * 6 + 5, none⟩ = some (.slice lp m lc) ∧ Below w.heap.size w w') (by kernel_rfl) (by kernel_rfl) (by kernel_rfl) ?_ ?_
              · (try dsimp only)
                refine ⟨?_, ?_, ?_, ?_, ?_⟩ <;> first | (go_simp; done) | (simp [*]; done) | go_grown
              repeat (first
                | (refine Plan.val (v := ?_) ?_ ?_ ?_; rotate_left; (· rfl); (· (intro W hSw; (try dsimp only at hSw); go_simp; all_goals (first | (with_reducible rfl) | (constructor <;> (with_reducible rfl)) | (rw [if_neg (by omega)]; done) | (rw [if_neg (by omega)]; with_reducible rfl)))); (try simp only [Act.put, List.setIfInBounds_toArray, List.set_cons_zero, List.set_cons_succ]))
                | (refine Plan.no ?_ ?_; (· rfl); (try simp only [Act.put, List.setIfInBounds_toArray, List.set_cons_zero, List.set_cons_succ]))
                | (refine Plan.call (v := ?_) (f := ?_) (args := ?_) ?_ ?_ ?_ ?_; rotate_left 3; (· rfl); (· (intro W hSw; (try dsimp only at hSw); go_simp; all_goals (first | (with_reducible rfl) | (constructor <;> (with_reducible rfl)) | (rw [if_neg (by omega)]; done) | (rw [if_neg (by omega)]; with_reducible rfl)))); (· (intro W hSw; (try dsimp only at hSw); first | (go_at_call 25; ((with_reducible refine (H1.out _).mono ?_); rintro _ wz ⟨rfl, hb⟩; (refine ⟨?_, ?_⟩; (· with_reducible rfl); exact ⟨kc hb hSw.1, kc hb hSw.2.1, kc hb hSw.2.2.1, kc hb hSw.2.2.2.1, kb hSw.2.2.2.2 hb⟩))))); (try simp only [Act.put, List.setIfInBounds_toArray, List.set_cons_zero, List.set_cons_succ])))
              refine Plan.done ?_
              intro u T
              (try dsimp only at T)
              obtain ⟨hx_0, hx_1, hx_2, hx_5, hB⟩ := T
              have hsz := hB.size
              have hlx := klt hx_0
              obtain ⟨hnx0, hnx1, hkx1, hnx2, hkx2⟩ := ap0 hlx
              go_wp2
              go_roundw
              case rel => exact ⟨k + 1, by omega, by go_num, HF, hB⟩
              case measure => simp [intOf] <;> omega
            · have HF := Lib.hid (HFin.out (by rw [HBG.out, d1, c2, c3]; rfl))
              go_wp2_with fail
              refine wp_region_plan (fun w' => w'.cell? ⟨g, o + k * 6, none⟩ = some (.int .i64 xq) ∧ w'.cell? ⟨g, o + k * 6 + 1, none⟩ = some (.int .i64 xa) ∧ w'.cell? ⟨g, o + k * 6 + 2, none⟩ = some (.int .i64 xb) ∧ w'.cell? ⟨g, o + k * 6 + 5, none⟩ = some (.slice lp m lc) ∧ Below w.heap.size w w') (by kernel_rfl) (by kernel_rfl) (by kernel_rfl) ?_ ?_
              · (try dsimp only)
                refine ⟨?_, ?_, ?_, ?_, ?_⟩ <;> first | (go_simp; done) | (simp [*]; done) | go_grown
              repeat (first
                | (refine Plan.val (v := ?_) ?_ ?_ ?_; rotate_left; (· rfl); (· (intro W hSw; (try dsimp only at hSw); go_simp; all_goals (first | (with_reducible rfl) | (constructor <;> (with_reducible rfl)) | (rw [if_neg (by omega)]; done) | (rw [if_neg (by omega)]; with_reducible rfl)))); (try simp only [Act.put, List.setIfInBounds_toArray, List.set_cons_zero, List.set_cons_succ]))
                | (refine Plan.no ?_ ?_; (· rfl); (try simp only [Act.put, List.setIfInBounds_toArray, List.set_cons_zero, List.set_cons_succ]))
                | (refine Plan.call (v := ?_) (f := ?_) (args := ?_) ?_ ?_ ?_ ?_; rotate_left 3; (· rfl); (· (intro W hSw; (try dsimp only at hSw); go_simp; all_goals (first | (with_reducible rfl) | (constructor <;> (with_reducible rfl)) | (rw [if_neg (by omega)]; done) | (rw [if_neg (by omega)]; with_reducible rfl)))); (· (intro W hSw; (try dsimp only at hSw); first | (go_at_call 25; ((with_reducible refine (H1.out _).mono ?_); rintro _ wz ⟨rfl, hb⟩; (refine ⟨?_, ?_⟩; (· with_reducible rfl); exact ⟨kc hb hSw.1, kc hb hSw.2.1, kc hb hSw.2.2.1, kc hb hSw.2.2.2.1, kb hSw.2.2.2.2 hb⟩))))); (try simp only [Act.put, List.setIfInBounds_toArray, List.set_cons_zero, List.set_cons_succ])))
              refine Plan.done ?_
              intro u T
              (try dsimp only at T)
              obtain ⟨hx_0, hx_1, hx_2, hx_5, hB⟩ := T
              have hsz := hB.size
              have hlx := klt hx_0
              obtain ⟨hnx0, hnx1, hkx1, hnx2, hkx2⟩ := ap0 hlx
              go_wp2
              go_ret
              exact ⟨ret_bool HF.out.symm, hB⟩
    · have hkn : k = n := by omega
      have hd : decide ((k : Int) < (n : Int)) = false := decide_eq_false (by omega)
      have HF := Lib.hid (show R = decide ((n : Int) ≤ 30) from by
        have h := HK.out
        rw [List.drop_eq_nil_of_le (by have := HN.out; omega)] at h
        rw [← HR.out, fewO, ← h, HN.out]
        rfl)
      clear HK
      go_wp2
      go_ret
      exact ⟨ret_bool HF.out.symm, by go_grown⟩
end Go.Proofs.YtoakgchfdihjbaaDoor
