/- Layer 7's document: the span -/
import Derived.Test.YtjcmblbnbpikfaaGreatDoorDoc3
import Derived.Test.YtjcmblbnbpikfaaGreatDoorAwake6
import Derived.Test.YtjcmblbnbpikfaaGreatDoorPlanR
import Derived.Test.YtjcmblbnbpikfaaGreatDoorWhole
set_option linter.unusedSimpArgs false
set_option linter.unusedVariables false
namespace Go.Proofs.YtjcmblbnbpikfaaGreatDoor
open Lib (hid)
open List (setIfInBounds_toArray set_cons_zero set_cons_succ append_eq cons_append nil_append toList_toArray take_succ_cons take_zero drop_succ_cons drop_zero)
open Go.RowKit Go.PlainAid

def Ended (l : List Tk) : Prop := ∃ cs z, l = cs ++ [z] ∧ z.k = 4 ∧ ∀ c ∈ cs, c.k ≠ 4
theorem Ended.ne {l : List Tk} (h : Ended l) : ∃ x r, l = x :: r := by
 obtain ⟨cs, z, rfl, _, _⟩ := h
 cases cs with
 | nil => exact ⟨z, [], rfl⟩
 | cons x r => exact ⟨x, r ++ [z], rfl⟩
theorem Ended.tail {x : Tk} {r : List Tk} (h : Ended (x :: r)) (hx : x.k ≠ 4) : Ended r := by
 obtain ⟨cs, z, e, hz, hc⟩ := h
 cases cs with
 | nil => cases e; exact absurd hz hx
 | cons y s => cases e; exact ⟨s, z, rfl, hz, fun c h => hc c (List.mem_cons_of_mem _ h)⟩
def Texts (l : List Tk) : Prop := ∀ c ∈ l, c.k ≠ 1 → c.t = []
structure SpR where
 x : Sp
 li : Int
 co : Int
 e : Int
def spanR (sink : Bool) (l : List Tk) : SpR :=
 if (spanM l).e ≠ 0 then ⟨⟨0, 0, 0⟩, (spanM l).li, (spanM l).co, (spanM l).e⟩
 else if liesB (spanM l).x sink = false then ⟨⟨0, 0, 0⟩, (spanM l).fl, (spanM l).fc, 10⟩
 else ⟨(spanM l).x, 0, 0, 0⟩
def SpEnd (w : World) (o : SpR) : Ending → World → Prop := fun e w' => e = .returned (.tuple #[.agg #[.int .i64 o.x.f, .int .i64 o.x.t, .int .i64 o.x.b], .agg #[.int .i64 o.li, .int .i64 o.co, .int .i64 o.e]]) ∧ Below w.heap.size w w'
theorem spEnd_of {w w' : World} {o : SpR} {f t b l c e : Int} (h : o = ⟨⟨f, t, b⟩, l, c, e⟩) (hb : Below w.heap.size w w') : SpEnd w o (.returned (.tuple #[.agg #[.int .i64 f, .int .i64 t, .int .i64 b], .agg #[.int .i64 l, .int .i64 c, .int .i64 e]])) w' := by
 subst h; exact ⟨rfl, hb⟩
theorem at_u (k n l c e : Int) (T : ByteArray) (w : World) : Calls Tryz.prog 59 #[.agg #[.int .i64 k, .string T, .int .i64 n, .int .i64 l, .int .i64 c], .int .i64 e] w fun x w' => x = .returned (.agg #[.int .i64 l, .int .i64 c, .int .i64 e]) ∧ Below w.heap.size w w' := by
 have h := at_c k n l c e T.data.toList w
 have e0 : txB T.data.toList = T := by cases T; simp [txB]
 rw [e0] at h
 exact h
theorem tok_at {w : World} {g o : Nat} {l : List Tk} (h : ∀ j (x : Tk), l[j]? = some x → w.cell? ⟨g, o + j * 5, none⟩ = some (.int .i64 x.k) ∧ w.cell? ⟨g, o + j * 5 + 1, none⟩ = some (.string (txB x.t)) ∧ w.cell? ⟨g, o + j * 5 + 2, none⟩ = some (.int .i64 x.n) ∧ w.cell? ⟨g, o + j * 5 + 3, none⟩ = some (.int .i64 x.line) ∧ w.cell? ⟨g, o + j * 5 + 4, none⟩ = some (.int .i64 x.col)) (j k : Nat) {x : Tk} (hx : l[j]? = some x) (hk : j * 5 = k) :
  w.cell? ⟨g, o + k, none⟩ = some (.int .i64 x.k) ∧ w.cell? ⟨g, o + (k + 1), none⟩ = some (.string (txB x.t)) ∧ w.cell? ⟨g, o + (k + 2), none⟩ = some (.int .i64 x.n) ∧ w.cell? ⟨g, o + (k + 3), none⟩ = some (.int .i64 x.line) ∧ w.cell? ⟨g, o + (k + 4), none⟩ = some (.int .i64 x.col) := by
 subst hk; exact h j x hx
set_option maxRecDepth 100000 in
set_option maxHeartbeats 4000000 in
theorem spanr_c (sink : Bool) (ts : List Tk) (hE : Ended ts) (hTx : Texts ts) (v : Value) (w : World) (hv : HoldsT w v ts) : Calls Tryz.prog 60 #[v, .bool (!sink)] w (SpEnd w (spanR sink ts)) := by
 rcases hv with ⟨_, rfl⟩ | ⟨g, o, cap, rfl, hcap, hc⟩
 ·obtain ⟨x, r, e⟩ := hE.ne; cases e
 obtain ⟨a, r, rfl⟩ := hE.ne
 obtain ⟨n, hn⟩ : ∃ n, (a :: r).length = n := ⟨_, rfl⟩
 rw [hn] at hcap ⊢
 have hn1 : 0 < n := by rw [← hn]; simp
 have hp1 : (0 : Int) < (n : Int) := by omega
 have HN := hid hn
 clear hn
 obtain ⟨R, hR⟩ : ∃ R, spanR sink (a :: r) = R := ⟨_, rfl⟩
 rw [hR]
 have HR := hid hR
 clear hR
 have HC := hid hc
 clear hc
 have hTa := tok_at HC.out 0 0 rfl rfl
 obtain ⟨ak, at_, an, al, ac⟩ := a
 dsimp only at hTa
 rw [Nat.add_zero, Nat.zero_add, Nat.zero_add, Nat.zero_add, Nat.zero_add] at hTa
 have hgw : g < w.heap.size := klt hTa.1
 have HTx := hid hTx
 have HE1 := hid hE
 clear hTx hE
 obtain ⟨sk, hsk⟩ : ∃ s, (!sink) = s := ⟨_, rfl⟩
 rw [hsk]
 have HSK := hid hsk
 clear hsk
 obtain ⟨pa_0, pa_1, pa_2, pa_3, pa_4⟩ := hTa
 have hTa := And.intro pa_0 (And.intro pa_1 (And.intro pa_2 (And.intro pa_3 pa_4)))
 have HTa := hid hTa
 generalize txB at_ = aT at *
 have ha_0 := pa_0
 have ha_1 := pa_1
 have ha_2 := pa_2
 have ha_3 := pa_3
 have ha_4 := pa_4
 by_cases h0 : ak = 2
 ·subst h0
  obtain ⟨b, r2, rfl⟩ := (HE1.out.tail (show (2 : Int) ≠ 4 by decide)).ne
  have hn2 : 1 < n := by have := HN.out; simp only [List.length_cons] at this; omega
  have hp2 : (1 : Int) < (n : Int) := by omega
  have hTb := tok_at HC.out 1 5 rfl rfl
  obtain ⟨bk, bt, bn, bl, bc⟩ := b
  dsimp only at hTb
  have HTb := hid hTb
  go_enter Tryz.func60, Tryz.ntmps60
  go_wp2_with fail
  refine wp_region_planA 10 9 6 #[.int .i64 0, .int .i64 0, .int .i64 0] 53 (fun w' => w'.cell? ⟨w.heap.size, 0, none⟩ = some (.int .i64 0) ∧ w'.frozen? ⟨w.heap.size, 0, none⟩ = false ∧ w'.cell? ⟨w.heap.size, 1, none⟩ = some (.int .i64 0) ∧ w'.frozen? ⟨w.heap.size, 1, none⟩ = false ∧ w'.cell? ⟨w.heap.size, 2, none⟩ = some (.int .i64 0) ∧ w'.frozen? ⟨w.heap.size, 2, none⟩ = false ∧ w'.cell? ⟨w.heap.size + 1, 0, none⟩ = some (.int .i64 0) ∧ w'.frozen? ⟨w.heap.size + 1, 0, none⟩ = false ∧ w'.cell? ⟨w.heap.size + 1, 1, none⟩ = some (.int .i64 0) ∧ w'.frozen? ⟨w.heap.size + 1, 1, none⟩ = false ∧ w'.cell? ⟨w.heap.size + 1, 2, none⟩ = some (.int .i64 0) ∧ w'.frozen? ⟨w.heap.size + 1, 2, none⟩ = false ∧ w'.cell? ⟨g, o, none⟩ = some (.int .i64 2) ∧ w'.cell? ⟨g, o + 1, none⟩ = some (.string aT) ∧ w'.cell? ⟨g, o + 2, none⟩ = some (.int .i64 an) ∧ w'.cell? ⟨g, o + 3, none⟩ = some (.int .i64 al) ∧ w'.cell? ⟨g, o + 4, none⟩ = some (.int .i64 ac) ∧ Below w.heap.size w w') (fun bx w' => w'.cell? ⟨bx, 0, none⟩ = some (.int .i64 0) ∧ w'.frozen? ⟨bx, 0, none⟩ = false ∧ w'.cell? ⟨bx, 1, none⟩ = some (.int .i64 0) ∧ w'.frozen? ⟨bx, 1, none⟩ = false ∧ w'.cell? ⟨bx, 2, none⟩ = some (.int .i64 0) ∧ w'.frozen? ⟨bx, 2, none⟩ = false ∧ w.heap.size ≤ bx ∧ w.heap.size < bx ∧ w.heap.size + 1 < bx ∧ g < bx) (by kernel_rfl) (by kernel_rfl) (by kernel_rfl) (by kernel_rfl) (by kernel_rfl) ?_ (fun W w1 hSw hb => ⟨kc hb hSw.1, kfz hb (klt hSw.1) hSw.2.1, kc hb hSw.2.2.1, kfz hb (klt hSw.2.2.1) hSw.2.2.2.1, kc hb hSw.2.2.2.2.1, kfz hb (klt hSw.2.2.2.2.1) hSw.2.2.2.2.2.1, kc hb hSw.2.2.2.2.2.2.1, kfz hb (klt hSw.2.2.2.2.2.2.1) hSw.2.2.2.2.2.2.2.1, kc hb hSw.2.2.2.2.2.2.2.2.1, kfz hb (klt hSw.2.2.2.2.2.2.2.2.1) hSw.2.2.2.2.2.2.2.2.2.1, kc hb hSw.2.2.2.2.2.2.2.2.2.2.1, kfz hb (klt hSw.2.2.2.2.2.2.2.2.2.2.1) hSw.2.2.2.2.2.2.2.2.2.2.2.1, kc hb hSw.2.2.2.2.2.2.2.2.2.2.2.2.1, kc hb hSw.2.2.2.2.2.2.2.2.2.2.2.2.2.1, kc hb hSw.2.2.2.2.2.2.2.2.2.2.2.2.2.2.1, kc hb hSw.2.2.2.2.2.2.2.2.2.2.2.2.2.2.2.1, kc hb hSw.2.2.2.2.2.2.2.2.2.2.2.2.2.2.2.2.1, kb hSw.2.2.2.2.2.2.2.2.2.2.2.2.2.2.2.2.2 hb⟩) (fun bx W w1 hEw hb => ⟨kc hb hEw.1, kfz hb (klt hEw.1) hEw.2.1, kc hb hEw.2.2.1, kfz hb (klt hEw.2.2.1) hEw.2.2.2.1, kc hb hEw.2.2.2.2.1, kfz hb (klt hEw.2.2.2.2.1) hEw.2.2.2.2.2.1, hEw.2.2.2.2.2.2⟩) ?_ ?_ ?_
  ·intro a W; show (execOp _ _).run _ _ = _; first | rfl | kernel_rfl
  ·intro W hSw
   have hzW := (hSw.2.2.2.2.2.2.2.2.2.2.2.2.2.2.2.2.2).size
   have hkW0 := klt (hSw.1)
   have hkW6 := klt (hSw.2.2.2.2.2.2.1)
   have hkW12 := klt (hSw.2.2.2.2.2.2.2.2.2.2.2.2.1)
   refine ⟨?_, ?_, ?_, ?_, ?_, ?_, ?_, ?_, ?_, ?_⟩ <;> first | (go_simp; done) | omega | (dsimp only; omega)
  ·(try dsimp only)
   refine ⟨?_, ?_, ?_, ?_, ?_, ?_, ?_, ?_, ?_, ?_, ?_, ?_, ?_, ?_, ?_, ?_, ?_, ?_⟩ <;> first | (go_simp; done) | (simp [*]; done) | go_grown
  (try simp only [append_eq, cons_append, nil_append, toList_toArray, take_succ_cons, take_zero, drop_succ_cons, drop_zero])
  repeat (first
   | (refine PlanA.skip (by decide) ?_)
   | (refine PlanA.val (v := ?_) (by decide) ?_ ?_ ?_; rotate_left; (· rfl); (· (intro W hSw; (try dsimp only at hSw); go_simp; all_goals (first | (with_reducible rfl) | (constructor <;> (with_reducible rfl))))); (try simp only [Act.put, setIfInBounds_toArray, set_cons_zero, set_cons_succ]))
   | (refine PlanA.no (by decide) ?_ ?_; (· rfl); (try simp only [Act.put, setIfInBounds_toArray, set_cons_zero, set_cons_succ])))
  refine PlanA.done ?_
  intro bx u1 T E
  (try dsimp only at T E)
  (try simp only [Act.put, setIfInBounds_toArray, set_cons_zero, set_cons_succ])
  obtain ⟨hz_0, fz_0, hz_1, fz_1, hz_2, fz_2, hy_0, fy_0, hy_1, fy_1, hy_2, fy_2, ha_0, ha_1, ha_2, ha_3, ha_4, hB⟩ := T
  obtain ⟨hx_0, fx_0, hx_1, fx_1, hx_2, fx_2, hg_bx, hq_bx_z, hq_bx_y, hq_bx_a⟩ := E
  have hr_bx_z : ¬ w.heap.size = bx := by omega
  have hs_bx_z : ¬ bx = w.heap.size := by omega
  have hr_bx_y : ¬ w.heap.size + 1 = bx := by omega
  have hs_bx_y : ¬ bx = w.heap.size + 1 := by omega
  have hr_bx_a : ¬ g = bx := by omega
  have hs_bx_a : ¬ bx = g := by omega
  have hsz := hB.size
  have hlz := klt hz_0
  have hly := klt hy_0
  have hla := klt ha_0
  have hlx := klt hx_0
  obtain ⟨hnz0, hnz1, hkz1, hnz2, hkz2⟩ := ap0 hlz
  obtain ⟨hny0, hky1⟩ := ap1 hly
  obtain ⟨hna0, hna1, hka1, hna2, hka2⟩ := ap0 hla
  obtain ⟨hnx0, hnx1, hkx1, hnx2, hkx2⟩ := ap0 hlx
  go_upto_region 5 with fail
  refine wp_pin (fun w' => w'.cell? ⟨w.heap.size, 0, none⟩ = some (.int .i64 0) ∧ w'.frozen? ⟨w.heap.size, 0, none⟩ = false ∧ w'.cell? ⟨w.heap.size, 1, none⟩ = some (.int .i64 0) ∧ w'.frozen? ⟨w.heap.size, 1, none⟩ = false ∧ w'.cell? ⟨w.heap.size, 2, none⟩ = some (.int .i64 0) ∧ w'.frozen? ⟨w.heap.size, 2, none⟩ = false ∧ w'.cell? ⟨w.heap.size + 1, 0, none⟩ = some (.int .i64 0) ∧ w'.frozen? ⟨w.heap.size + 1, 0, none⟩ = false ∧ w'.cell? ⟨w.heap.size + 1, 1, none⟩ = some (.int .i64 0) ∧ w'.frozen? ⟨w.heap.size + 1, 1, none⟩ = false ∧ w'.cell? ⟨w.heap.size + 1, 2, none⟩ = some (.int .i64 0) ∧ w'.frozen? ⟨w.heap.size + 1, 2, none⟩ = false ∧ w'.cell? ⟨bx, 0, none⟩ = some (.int .i64 an) ∧ w'.frozen? ⟨bx, 0, none⟩ = false ∧ w'.cell? ⟨bx, 1, none⟩ = some (.int .i64 an) ∧ w'.frozen? ⟨bx, 1, none⟩ = false ∧ w'.cell? ⟨bx, 2, none⟩ = some (.int .i64 255) ∧ w'.frozen? ⟨bx, 2, none⟩ = false ∧ Below w.heap.size w w') ?_ ?_
  ·(try dsimp only)
   refine ⟨?_, ?_, ?_, ?_, ?_, ?_, ?_, ?_, ?_, ?_, ?_, ?_, ?_, ?_, ?_, ?_, ?_, ?_, ?_⟩ <;> first | (go_simp; done) | (simp [*]; done) | go_grown
  intro u2 T
  (try dsimp only at T)
  clear hz_0 fz_0 hz_1 fz_1 hz_2 fz_2 hy_0 fy_0 hy_1 fy_1 hy_2 fy_2 ha_0 ha_1 ha_2 ha_3 ha_4 hx_0 fx_0 hx_1 fx_1 hx_2 fx_2 hB hsz hlz hly hla hlx hnz0 hnz1 hkz1 hnz2 hkz2 hny0 hky1 hna0 hna1 hka1 hna2 hka2 hnx0 hnx1 hkx1 hnx2 hkx2
  obtain ⟨hz_0, fz_0, hz_1, fz_1, hz_2, fz_2, hy_0, fy_0, hy_1, fy_1, hy_2, fy_2, hxv_0, fxv_0, hxv_1, fxv_1, hxv_2, fxv_2, hB⟩ := T
  have hsz := hB.size
  have hlz := klt hz_0
  have hly := klt hy_0
  have hlxv := klt hxv_0
  obtain ⟨hnz0, hnz1, hkz1, hnz2, hkz2⟩ := ap0 hlz
  obtain ⟨hny0, hky1⟩ := ap1 hly
  obtain ⟨hnxv0, hnxv1, hkxv1, hnxv2, hkxv2⟩ := ap0 hlxv
  obtain ⟨pb_0, pb_1, pb_2, pb_3, pb_4⟩ := hTb
  have hTb := HTb.out
  have hb_0 := kc hB pb_0
  by_cases b0 : bk = 3
  ·subst b0
   obtain ⟨c, r6, rfl⟩ := ((HE1.out.tail (show (2 : Int) ≠ 4 by decide)).tail (show (3 : Int) ≠ 4 by decide)).ne
   have hn3 : 2 < n := by have := HN.out; simp only [List.length_cons] at this; omega
   have hTc := tok_at HC.out 2 10 rfl rfl
   obtain ⟨ck, ct, cn, cl, cc⟩ := c
   dsimp only at hTc
   obtain ⟨pc_0, pc_1, pc_2, pc_3, pc_4⟩ := hTc
   have hc_0 := kc hB pc_0
   have hc_1 := kc hB pc_1
   have hc_2 := kc hB pc_2
   have hc_3 := kc hB pc_3
   have hc_4 := kc hB pc_4
   generalize txB ct = cT at *
   by_cases c0 : ck = 2
   ·subst c0
    have hE := ((HE1.out.tail (show (2 : Int) ≠ 4 by decide)).tail (show (3 : Int) ≠ 4 by decide)).tail (show (2 : Int) ≠ 4 by decide)
    have hTx : Texts r6 := fun c h => HTx.out c (by simp [h])
    obtain ⟨d, r3, rfl⟩ := hE.ne
    have hnd : 3 < n := by have := HN.out; simp only [List.length_cons] at this; omega
    have hTd := tok_at HC.out 3 15 rfl rfl
    obtain ⟨dk, dt, dn, dl, dc⟩ := d
    dsimp only at hTd
    have HE := hid hE
    have hdt : dk ≠ 1 → dt = [] := hTx ⟨dk, dt, dn, dl, dc⟩ (by simp)
    clear hE hTx
    have hTaw := And.intro hTa hB
    have hga := klt hTa.1
    go_upto_region 10 with fail
    refine wp_pin (fun w' => w'.cell? ⟨w.heap.size, 0, none⟩ = some (.int .i64 0) ∧ w'.frozen? ⟨w.heap.size, 0, none⟩ = false ∧ w'.cell? ⟨w.heap.size, 1, none⟩ = some (.int .i64 0) ∧ w'.frozen? ⟨w.heap.size, 1, none⟩ = false ∧ w'.cell? ⟨w.heap.size, 2, none⟩ = some (.int .i64 0) ∧ w'.frozen? ⟨w.heap.size, 2, none⟩ = false ∧ w'.cell? ⟨w.heap.size + 1, 0, none⟩ = some (.int .i64 0) ∧ w'.frozen? ⟨w.heap.size + 1, 0, none⟩ = false ∧ w'.cell? ⟨w.heap.size + 1, 1, none⟩ = some (.int .i64 0) ∧ w'.frozen? ⟨w.heap.size + 1, 1, none⟩ = false ∧ w'.cell? ⟨w.heap.size + 1, 2, none⟩ = some (.int .i64 0) ∧ w'.frozen? ⟨w.heap.size + 1, 2, none⟩ = false ∧ w'.cell? ⟨bx, 0, none⟩ = some (.int .i64 an) ∧ w'.frozen? ⟨bx, 0, none⟩ = false ∧ w'.cell? ⟨bx, 1, none⟩ = some (.int .i64 cn) ∧ w'.frozen? ⟨bx, 1, none⟩ = false ∧ w'.cell? ⟨bx, 2, none⟩ = some (.int .i64 255) ∧ w'.frozen? ⟨bx, 2, none⟩ = false ∧ Below w.heap.size w w') ?_ ?_
    ·(try dsimp only)
     refine ⟨?_, ?_, ?_, ?_, ?_, ?_, ?_, ?_, ?_, ?_, ?_, ?_, ?_, ?_, ?_, ?_, ?_, ?_, ?_⟩ <;> first | (go_simp; done) | (simp [*]; done) | go_grown
    intro u3 T
    (try dsimp only at T)
    clear hz_0 fz_0 hz_1 fz_1 hz_2 fz_2 hy_0 fy_0 hy_1 fy_1 hy_2 fy_2 hxv_0 fxv_0 hxv_1 fxv_1 hxv_2 fxv_2 hB hsz hlz hly hlxv hnz0 hnz1 hkz1 hnz2 hkz2 hny0 hky1 hnxv0 hnxv1 hkxv1 hnxv2 hkxv2
    obtain ⟨hz_0, fz_0, hz_1, fz_1, hz_2, fz_2, hy_0, fy_0, hy_1, fy_1, hy_2, fy_2, hxw_0, fxw_0, hxw_1, fxw_1, hxw_2, fxw_2, hB⟩ := T
    have hsz := hB.size
    have hlz := klt hz_0
    have hly := klt hy_0
    have hlxw := klt hxw_0
    obtain ⟨hnz0, hnz1, hkz1, hnz2, hkz2⟩ := ap0 hlz
    obtain ⟨hny0, hky1⟩ := ap1 hly
    obtain ⟨hnxw0, hnxw1, hkxw1, hnxw2, hkxw2⟩ := ap0 hlxw
    have ha_0 := kc hB hTa.1
    have ha_1 := kc hB hTa.2.1
    have ha_2 := kc hB hTa.2.2.1
    have ha_3 := kc hB hTa.2.2.2.1
    have ha_4 := kc hB hTa.2.2.2.2
    have hgu := klt ha_0
    have hwt : w.heap.size ≤ u3.heap.size := hB.size
    have hzt : ¬ w.heap.size = u3.heap.size := by omega
    have htz : ¬ u3.heap.size = w.heap.size := by omega
    have hyt : ¬ w.heap.size + 1 = u3.heap.size := by omega
    have hty : ¬ u3.heap.size = w.heap.size + 1 := by omega
    have hxt : ¬ bx = u3.heap.size := by omega
    have htx : ¬ u3.heap.size = bx := by omega
    go_upto_region 11 with fail
    refine wp_pin (fun w' => w'.cell? ⟨w.heap.size, 0, none⟩ = some (.int .i64 0) ∧ w'.frozen? ⟨w.heap.size, 0, none⟩ = false ∧ w'.cell? ⟨w.heap.size, 1, none⟩ = some (.int .i64 0) ∧ w'.frozen? ⟨w.heap.size, 1, none⟩ = false ∧ w'.cell? ⟨w.heap.size, 2, none⟩ = some (.int .i64 0) ∧ w'.frozen? ⟨w.heap.size, 2, none⟩ = false ∧ w'.cell? ⟨w.heap.size + 1, 0, none⟩ = some (.int .i64 0) ∧ w'.frozen? ⟨w.heap.size + 1, 0, none⟩ = false ∧ w'.cell? ⟨w.heap.size + 1, 1, none⟩ = some (.int .i64 0) ∧ w'.frozen? ⟨w.heap.size + 1, 1, none⟩ = false ∧ w'.cell? ⟨w.heap.size + 1, 2, none⟩ = some (.int .i64 0) ∧ w'.frozen? ⟨w.heap.size + 1, 2, none⟩ = false ∧ w'.cell? ⟨bx, 0, none⟩ = some (.int .i64 an) ∧ w'.frozen? ⟨bx, 0, none⟩ = false ∧ w'.cell? ⟨bx, 1, none⟩ = some (.int .i64 cn) ∧ w'.frozen? ⟨bx, 1, none⟩ = false ∧ w'.cell? ⟨bx, 2, none⟩ = some (.int .i64 255) ∧ w'.frozen? ⟨bx, 2, none⟩ = false ∧ w'.cell? ⟨u3.heap.size, 0, none⟩ = some (.int .i64 2) ∧ w'.frozen? ⟨u3.heap.size, 0, none⟩ = false ∧ w'.cell? ⟨u3.heap.size, 1, none⟩ = some (.string aT) ∧ w'.frozen? ⟨u3.heap.size, 1, none⟩ = false ∧ w'.cell? ⟨u3.heap.size, 2, none⟩ = some (.int .i64 an) ∧ w'.frozen? ⟨u3.heap.size, 2, none⟩ = false ∧ w'.cell? ⟨u3.heap.size, 3, none⟩ = some (.int .i64 al) ∧ w'.frozen? ⟨u3.heap.size, 3, none⟩ = false ∧ w'.cell? ⟨u3.heap.size, 4, none⟩ = some (.int .i64 ac) ∧ w'.frozen? ⟨u3.heap.size, 4, none⟩ = false ∧ Below w.heap.size w w') ?_ ?_
    ·(try dsimp only)
     refine ⟨?_, ?_, ?_, ?_, ?_, ?_, ?_, ?_, ?_, ?_, ?_, ?_, ?_, ?_, ?_, ?_, ?_, ?_, ?_, ?_, ?_, ?_, ?_, ?_, ?_, ?_, ?_, ?_, ?_⟩ <;> first | (go_simp; done) | (simp [*]; done) | go_grown
    intro u4 T
    (try dsimp only at T)
    clear hz_0 fz_0 hz_1 fz_1 hz_2 fz_2 hy_0 fy_0 hy_1 fy_1 hy_2 fy_2 hxw_0 fxw_0 hxw_1 fxw_1 hxw_2 fxw_2 hB hsz hlz hly hlxw hnz0 hnz1 hkz1 hnz2 hkz2 hny0 hky1 hnxw0 hnxw1 hkxw1 hnxw2 hkxw2
    obtain ⟨hz_0, fz_0, hz_1, fz_1, hz_2, fz_2, hy_0, fy_0, hy_1, fy_1, hy_2, fy_2, hxw_0, fxw_0, hxw_1, fxw_1, hxw_2, fxw_2, ht_0, ft_0, ht_1, ft_1, ht_2, ft_2, ht_3, ft_3, ht_4, ft_4, hB⟩ := T
    have hsz := hB.size
    have hlz := klt hz_0
    have hly := klt hy_0
    have hlxw := klt hxw_0
    have hlt := klt ht_0
    obtain ⟨hnz0, hnz1, hkz1, hnz2, hkz2⟩ := ap0 hlz
    obtain ⟨hny0, hky1⟩ := ap1 hly
    obtain ⟨hnxw0, hnxw1, hkxw1, hnxw2, hkxw2⟩ := ap0 hlxw
    obtain ⟨hnt0, hnt1, hkt1, hnt2, hkt2⟩ := ap0 hlt
    obtain ⟨pa_0, pa_1, pa_2, pa_3, pa_4⟩ := hTa
    have ha_0 := kc hB pa_0
    have ha_1 := kc hB pa_1
    have ha_2 := kc hB pa_2
    have ha_3 := kc hB pa_3
    have ha_4 := kc hB pa_4
    obtain ⟨pd_0, pd_1, pd_2, pd_3, pd_4⟩ := hTd
    have hd_0 := kc hB pd_0
    have hd_1 := kc hB pd_1
    have hd_2 := kc hB pd_2
    have hd_3 := kc hB pd_3
    have hd_4 := kc hB pd_4
    by_cases hb : dt = bitsL
    ·have hd1 : dk = 1 := Classical.byContradiction fun h => by have := hdt h; rw [hb] at this; cases this
     subst hb
     subst hd1
     obtain ⟨m, r4, rfl⟩ := (HE.out.tail (show (1 : Int) ≠ 4 by decide)).ne
     have hnm : 4 < n := by have := HN.out; simp only [List.length_cons] at this; omega
     clear hdt
     have hTm := tok_at HC.out 4 20 rfl rfl
     obtain ⟨mk, mt, mn, ml, mc⟩ := m
     dsimp only at hTm
     obtain ⟨pm_0, pm_1, pm_2, pm_3, pm_4⟩ := hTm
     have hm_0 := kc hB pm_0
     have hm_1 := kc hB pm_1
     have hm_2 := kc hB pm_2
     have hm_3 := kc hB pm_3
     have hm_4 := kc hB pm_4
     have hdl : (txB bitsL) = ⟨#[98, 105, 116, 115]⟩ := rfl
     rw [hdl] at hd_1
     generalize txB mt = mT at *
     clear hdl
     by_cases m0 : mk = 2
     ·subst m0
      obtain ⟨e, r5, rfl⟩ := ((HE.out.tail (show (1 : Int) ≠ 4 by decide)).tail (show (2 : Int) ≠ 4 by decide)).ne
      have hne : 5 < n := by have := HN.out; simp only [List.length_cons] at this; omega
      have hTe := tok_at HC.out 5 25 rfl rfl
      obtain ⟨ek, et, en, el, ec⟩ := e
      dsimp only at hTe
      obtain ⟨pe_0, pe_1, pe_2, pe_3, pe_4⟩ := hTe
      generalize txB et = eT at *
      clear hTaw hga hgu
      go_upto_region 15 with fail
      have hwt0 : ∀ k, w.heap.size ≤ ({ block := u3.heap.size, off := k } : Addr).block := fun _ => hwt
      refine wp_pin (fun w' => w'.cell? ⟨w.heap.size, 0, none⟩ = some (.int .i64 0) ∧ w'.frozen? ⟨w.heap.size, 0, none⟩ = false ∧ w'.cell? ⟨w.heap.size, 1, none⟩ = some (.int .i64 0) ∧ w'.frozen? ⟨w.heap.size, 1, none⟩ = false ∧ w'.cell? ⟨w.heap.size, 2, none⟩ = some (.int .i64 0) ∧ w'.frozen? ⟨w.heap.size, 2, none⟩ = false ∧ w'.cell? ⟨w.heap.size + 1, 0, none⟩ = some (.int .i64 0) ∧ w'.frozen? ⟨w.heap.size + 1, 0, none⟩ = false ∧ w'.cell? ⟨w.heap.size + 1, 1, none⟩ = some (.int .i64 0) ∧ w'.frozen? ⟨w.heap.size + 1, 1, none⟩ = false ∧ w'.cell? ⟨w.heap.size + 1, 2, none⟩ = some (.int .i64 0) ∧ w'.frozen? ⟨w.heap.size + 1, 2, none⟩ = false ∧ w'.cell? ⟨bx, 0, none⟩ = some (.int .i64 an) ∧ w'.frozen? ⟨bx, 0, none⟩ = false ∧ w'.cell? ⟨bx, 1, none⟩ = some (.int .i64 cn) ∧ w'.frozen? ⟨bx, 1, none⟩ = false ∧ w'.cell? ⟨bx, 2, none⟩ = some (.int .i64 255) ∧ w'.frozen? ⟨bx, 2, none⟩ = false ∧ w'.cell? ⟨u3.heap.size, 0, none⟩ = some (.int .i64 2) ∧ w'.frozen? ⟨u3.heap.size, 0, none⟩ = false ∧ w'.cell? ⟨u3.heap.size, 1, none⟩ = some (.string mT) ∧ w'.frozen? ⟨u3.heap.size, 1, none⟩ = false ∧ w'.cell? ⟨u3.heap.size, 2, none⟩ = some (.int .i64 mn) ∧ w'.frozen? ⟨u3.heap.size, 2, none⟩ = false ∧ w'.cell? ⟨u3.heap.size, 3, none⟩ = some (.int .i64 ml) ∧ w'.frozen? ⟨u3.heap.size, 3, none⟩ = false ∧ w'.cell? ⟨u3.heap.size, 4, none⟩ = some (.int .i64 mc) ∧ w'.frozen? ⟨u3.heap.size, 4, none⟩ = false ∧ Below w.heap.size w w') ?_ ?_
      ·(try dsimp only)
       refine ⟨?_, ?_, ?_, ?_, ?_, ?_, ?_, ?_, ?_, ?_, ?_, ?_, ?_, ?_, ?_, ?_, ?_, ?_, ?_, ?_, ?_, ?_, ?_, ?_, ?_, ?_, ?_, ?_, ?_⟩ <;> first | (go_simp; done) | (simp [*]; done) | go_grown
      intro u5 T
      (try dsimp only at T)
      clear hz_0 fz_0 hz_1 fz_1 hz_2 fz_2 hy_0 fy_0 hy_1 fy_1 hy_2 fy_2 hxw_0 fxw_0 hxw_1 fxw_1 hxw_2 fxw_2 ht_0 ft_0 ht_1 ft_1 ht_2 ft_2 ht_3 ft_3 ht_4 ft_4 hB hsz hlz hly hlxw hlt hnz0 hnz1 hkz1 hnz2 hkz2 hny0 hky1 hnxw0 hnxw1 hkxw1 hnxw2 hkxw2 hnt0 hnt1 hkt1 hnt2 hkt2
      obtain ⟨hz_0, fz_0, hz_1, fz_1, hz_2, fz_2, hy_0, fy_0, hy_1, fy_1, hy_2, fy_2, hxw0_0, fxw0_0, hxw0_1, fxw0_1, hxw0_2, fxw0_2, htm_0, ftm_0, htm_1, ftm_1, htm_2, ftm_2, htm_3, ftm_3, htm_4, ftm_4, hB⟩ := T
      have hsz := hB.size
      have hlz := klt hz_0
      have hly := klt hy_0
      have hlxw0 := klt hxw0_0
      have hltm := klt htm_0
      obtain ⟨hnz0, hnz1, hkz1, hnz2, hkz2⟩ := ap0 hlz
      obtain ⟨hny0, hky1⟩ := ap1 hly
      obtain ⟨hnxw00, hnxw01, hkxw01, hnxw02, hkxw02⟩ := ap0 hlxw0
      obtain ⟨hntm0, hntm1, hktm1, hntm2, hktm2⟩ := ap0 hltm
      go_upto_region 17 with fail
      refine wp_pin (fun w' => w'.cell? ⟨w.heap.size, 0, none⟩ = some (.int .i64 0) ∧ w'.frozen? ⟨w.heap.size, 0, none⟩ = false ∧ w'.cell? ⟨w.heap.size, 1, none⟩ = some (.int .i64 0) ∧ w'.frozen? ⟨w.heap.size, 1, none⟩ = false ∧ w'.cell? ⟨w.heap.size, 2, none⟩ = some (.int .i64 0) ∧ w'.frozen? ⟨w.heap.size, 2, none⟩ = false ∧ w'.cell? ⟨w.heap.size + 1, 0, none⟩ = some (.int .i64 0) ∧ w'.frozen? ⟨w.heap.size + 1, 0, none⟩ = false ∧ w'.cell? ⟨w.heap.size + 1, 1, none⟩ = some (.int .i64 0) ∧ w'.frozen? ⟨w.heap.size + 1, 1, none⟩ = false ∧ w'.cell? ⟨w.heap.size + 1, 2, none⟩ = some (.int .i64 0) ∧ w'.frozen? ⟨w.heap.size + 1, 2, none⟩ = false ∧ w'.cell? ⟨bx, 0, none⟩ = some (.int .i64 an) ∧ w'.frozen? ⟨bx, 0, none⟩ = false ∧ w'.cell? ⟨bx, 1, none⟩ = some (.int .i64 cn) ∧ w'.frozen? ⟨bx, 1, none⟩ = false ∧ w'.cell? ⟨bx, 2, none⟩ = some (.int .i64 mn) ∧ w'.frozen? ⟨bx, 2, none⟩ = false ∧ w'.cell? ⟨u3.heap.size, 0, none⟩ = some (.int .i64 2) ∧ w'.frozen? ⟨u3.heap.size, 0, none⟩ = false ∧ w'.cell? ⟨u3.heap.size, 1, none⟩ = some (.string mT) ∧ w'.frozen? ⟨u3.heap.size, 1, none⟩ = false ∧ w'.cell? ⟨u3.heap.size, 2, none⟩ = some (.int .i64 mn) ∧ w'.frozen? ⟨u3.heap.size, 2, none⟩ = false ∧ w'.cell? ⟨u3.heap.size, 3, none⟩ = some (.int .i64 ml) ∧ w'.frozen? ⟨u3.heap.size, 3, none⟩ = false ∧ w'.cell? ⟨u3.heap.size, 4, none⟩ = some (.int .i64 mc) ∧ w'.frozen? ⟨u3.heap.size, 4, none⟩ = false ∧ Below w.heap.size w w') ?_ ?_
      ·(try dsimp only)
       refine ⟨?_, ?_, ?_, ?_, ?_, ?_, ?_, ?_, ?_, ?_, ?_, ?_, ?_, ?_, ?_, ?_, ?_, ?_, ?_, ?_, ?_, ?_, ?_, ?_, ?_, ?_, ?_, ?_, ?_⟩ <;> first | (go_simp; done) | (simp [*]; done) | go_grown
      intro u6 T
      (try dsimp only at T)
      clear hz_0 fz_0 hz_1 fz_1 hz_2 fz_2 hy_0 fy_0 hy_1 fy_1 hy_2 fy_2 hxw0_0 fxw0_0 hxw0_1 fxw0_1 hxw0_2 fxw0_2 htm_0 ftm_0 htm_1 ftm_1 htm_2 ftm_2 htm_3 ftm_3 htm_4 ftm_4 hB hsz hlz hly hlxw0 hltm hnz0 hnz1 hkz1 hnz2 hkz2 hny0 hky1 hnxw00 hnxw01 hkxw01 hnxw02 hkxw02 hntm0 hntm1 hktm1 hntm2 hktm2
      obtain ⟨hz_0, fz_0, hz_1, fz_1, hz_2, fz_2, hy_0, fy_0, hy_1, fy_1, hy_2, fy_2, hxw_0, fxw_0, hxw_1, fxw_1, hxw_2, fxw_2, htm_0, ftm_0, htm_1, ftm_1, htm_2, ftm_2, htm_3, ftm_3, htm_4, ftm_4, hB⟩ := T
      have hsz := hB.size
      have hlz := klt hz_0
      have hly := klt hy_0
      have hlxw := klt hxw_0
      have hltm := klt htm_0
      obtain ⟨hnz0, hnz1, hkz1, hnz2, hkz2⟩ := ap0 hlz
      obtain ⟨hny0, hky1⟩ := ap1 hly
      obtain ⟨hnxw0, hnxw1, hkxw1, hnxw2, hkxw2⟩ := ap0 hlxw
      obtain ⟨hntm0, hntm1, hktm1, hntm2, hktm2⟩ := ap0 hltm
      have he_0 := kc hB pe_0
      have he_1 := kc hB pe_1
      have he_2 := kc hB pe_2
      have he_3 := kc hB pe_3
      have he_4 := kc hB pe_4
      by_cases z4 : ek = 4
      ·subst z4
       by_cases m1 : mn < 1
       ·skip
        have HF := hid (show R = ⟨⟨0, 0, 0⟩, ml, mc, 10⟩ from by rw [← HR.out]; simp [spanR, spanM, maskM, endM, errO, bitsL, m1])
        go_wp2_with fail
        ((with_reducible refine (at_u _ _ _ _ _ _ _).mono ?_); rintro _ v ⟨rfl, hb⟩)
        have T : CF v w.heap.size 0 (.int .i64 0) ∧ CF v w.heap.size 1 (.int .i64 0) ∧ CF v w.heap.size 2 (.int .i64 0) ∧ CF v (w.heap.size + 1) 0 (.int .i64 0) ∧ CF v (w.heap.size + 1) 1 (.int .i64 0) ∧ CF v (w.heap.size + 1) 2 (.int .i64 0) := by
          refine ⟨⟨?_, ?_⟩, ⟨?_, ?_⟩, ⟨?_, ?_⟩, ⟨?_, ?_⟩, ⟨?_, ?_⟩, ⟨?_, ?_⟩⟩ <;> first | (refine kc hb ?_ <;> (go_simp; first | done | rfl)) | (refine kfz hb ?_ ?_ <;> first | (go_size; done) | (go_simp; done))
        have hz := hb.size
        (try simp only [szA] at hz)
        have L : w.heap.size < v.heap.size ∧ w.heap.size + 1 < v.heap.size := by omega
        have hB' : Below w.heap.size w v := by
          refine kb ?_ hb
          go_grown
        clear hz_0 fz_0 hz_1 fz_1 hz_2 fz_2 hy_0 fy_0 hy_1 fy_1 hy_2 fy_2 hxw_0 fxw_0 hxw_1 fxw_1 hxw_2 fxw_2 htm_0 ftm_0 htm_1 ftm_1 htm_2 ftm_2 htm_3 ftm_3 htm_4 ftm_4 hB hsz hlz hly hlxw hltm hnz0 hnz1 hkz1 hnz2 hkz2 hny0 hky1 hnxw0 hnxw1 hkxw1 hnxw2 hkxw2 hntm0 hntm1 hktm1 hntm2 hktm2
        clear hb hz
        obtain ⟨⟨hz_0, fz_0⟩, ⟨hz_1, fz_1⟩, ⟨hz_2, fz_2⟩, ⟨hy_0, fy_0⟩, ⟨hy_1, fy_1⟩, ⟨hy_2, fy_2⟩⟩ := T
        obtain ⟨hlz, hly⟩ := L
        obtain ⟨hnz0, hnz1, hkz1, hnz2, hkz2⟩ := ap0 hlz
        obtain ⟨hny0, hky1⟩ := ap1 hly
        have hB := hB'; clear hB'
        have hsz := hB.size
        (try dsimp only)
        repeat (first | go_values | go_skip | go_guarded | go_step | go_upon)
        refine bodyPost_ret (v := .tuple #[.agg #[.int .i64 0, .int .i64 0, .int .i64 0], .agg #[.int .i64 ml, .int .i64 mc, .int .i64 10]]) (by simp [results, Tryz.results60, go_sem, hz_0, hz_1, hz_2, hy_0, hy_1, hy_2] <;> first | done | rfl) rfl (spEnd_of HF.out (by (repeat (refine Below.setCell ?_ (by first | exact Nat.le_refl _ | exact Nat.le_add_right _ _) _)); exact hB))
       ·skip
        by_cases m2 : 255 < mn
        ·skip
         have HF := hid (show R = ⟨⟨0, 0, 0⟩, ml, mc, 10⟩ from by rw [← HR.out]; simp [spanR, spanM, maskM, endM, errO, bitsL, m2])
         go_wp2_with fail
         ((with_reducible refine (at_u _ _ _ _ _ _ _).mono ?_); rintro _ v ⟨rfl, hb⟩)
         have T : CF v w.heap.size 0 (.int .i64 0) ∧ CF v w.heap.size 1 (.int .i64 0) ∧ CF v w.heap.size 2 (.int .i64 0) ∧ CF v (w.heap.size + 1) 0 (.int .i64 0) ∧ CF v (w.heap.size + 1) 1 (.int .i64 0) ∧ CF v (w.heap.size + 1) 2 (.int .i64 0) := by
           refine ⟨⟨?_, ?_⟩, ⟨?_, ?_⟩, ⟨?_, ?_⟩, ⟨?_, ?_⟩, ⟨?_, ?_⟩, ⟨?_, ?_⟩⟩ <;> first | (refine kc hb ?_ <;> (go_simp; first | done | rfl)) | (refine kfz hb ?_ ?_ <;> first | (go_size; done) | (go_simp; done))
         have hz := hb.size
         (try simp only [szA] at hz)
         have L : w.heap.size < v.heap.size ∧ w.heap.size + 1 < v.heap.size := by omega
         have hB' : Below w.heap.size w v := by
           refine kb ?_ hb
           go_grown
         clear hz_0 fz_0 hz_1 fz_1 hz_2 fz_2 hy_0 fy_0 hy_1 fy_1 hy_2 fy_2 hxw_0 fxw_0 hxw_1 fxw_1 hxw_2 fxw_2 htm_0 ftm_0 htm_1 ftm_1 htm_2 ftm_2 htm_3 ftm_3 htm_4 ftm_4 hB hsz hlz hly hlxw hltm hnz0 hnz1 hkz1 hnz2 hkz2 hny0 hky1 hnxw0 hnxw1 hkxw1 hnxw2 hkxw2 hntm0 hntm1 hktm1 hntm2 hktm2
         clear hb hz
         obtain ⟨⟨hz_0, fz_0⟩, ⟨hz_1, fz_1⟩, ⟨hz_2, fz_2⟩, ⟨hy_0, fy_0⟩, ⟨hy_1, fy_1⟩, ⟨hy_2, fy_2⟩⟩ := T
         obtain ⟨hlz, hly⟩ := L
         obtain ⟨hnz0, hnz1, hkz1, hnz2, hkz2⟩ := ap0 hlz
         obtain ⟨hny0, hky1⟩ := ap1 hly
         have hB := hB'; clear hB'
         have hsz := hB.size
         (try dsimp only)
         repeat (first | go_values | go_skip | go_guarded | go_step | go_upon)
         refine bodyPost_ret (v := .tuple #[.agg #[.int .i64 0, .int .i64 0, .int .i64 0], .agg #[.int .i64 ml, .int .i64 mc, .int .i64 10]]) (by simp [results, Tryz.results60, go_sem, hz_0, hz_1, hz_2, hy_0, hy_1, hy_2] <;> first | done | rfl) rfl (spEnd_of HF.out (by (repeat (refine Below.setCell ?_ (by first | exact Nat.le_refl _ | exact Nat.le_add_right _ _) _)); exact hB))
        ·skip
         obtain ⟨L, hL⟩ : ∃ L, liesB ⟨an, cn, mn⟩ (!sk) = L := ⟨_, rfl⟩
         have hL2 : liesB ⟨an, cn, mn⟩ sink = L := by rw [← hL, ← HSK.out, Bool.not_not]
         have HL := hid (fun W => hL ▸ liesr_c an cn mn sk W)
         have HL2 := hid hL2
         clear hL hL2
         go_wp2_with fail
         ((with_reducible refine (HL.out _).mono ?_); rintro _ v ⟨rfl, hb⟩)
         have T : CF v w.heap.size 0 (.int .i64 0) ∧ CF v w.heap.size 1 (.int .i64 0) ∧ CF v w.heap.size 2 (.int .i64 0) ∧ CF v (w.heap.size + 1) 0 (.int .i64 0) ∧ CF v (w.heap.size + 1) 1 (.int .i64 0) ∧ CF v (w.heap.size + 1) 2 (.int .i64 0) ∧ CF v bx 0 (.int .i64 an) ∧ CF v bx 1 (.int .i64 cn) ∧ CF v bx 2 (.int .i64 mn) := by
           refine ⟨⟨?_, ?_⟩, ⟨?_, ?_⟩, ⟨?_, ?_⟩, ⟨?_, ?_⟩, ⟨?_, ?_⟩, ⟨?_, ?_⟩, ⟨?_, ?_⟩, ⟨?_, ?_⟩, ⟨?_, ?_⟩⟩ <;> first | (refine kc hb ?_ <;> (go_simp; first | done | rfl)) | (refine kfz hb ?_ ?_ <;> first | (go_size; done) | (go_simp; done))
         have hz := hb.size
         (try simp only [szA] at hz)
         have L : w.heap.size < v.heap.size ∧ w.heap.size + 1 < v.heap.size ∧ bx < v.heap.size := by omega
         have hB' : Below w.heap.size w v := by
           refine kb ?_ hb
           go_grown
         clear hz_0 fz_0 hz_1 fz_1 hz_2 fz_2 hy_0 fy_0 hy_1 fy_1 hy_2 fy_2 hxw_0 fxw_0 hxw_1 fxw_1 hxw_2 fxw_2 htm_0 ftm_0 htm_1 ftm_1 htm_2 ftm_2 htm_3 ftm_3 htm_4 ftm_4 hB hsz hlz hly hlxw hltm hnz0 hnz1 hkz1 hnz2 hkz2 hny0 hky1 hnxw0 hnxw1 hkxw1 hnxw2 hkxw2 hntm0 hntm1 hktm1 hntm2 hktm2
         clear hb hz
         obtain ⟨⟨hz_0, fz_0⟩, ⟨hz_1, fz_1⟩, ⟨hz_2, fz_2⟩, ⟨hy_0, fy_0⟩, ⟨hy_1, fy_1⟩, ⟨hy_2, fy_2⟩, ⟨hxw_0, fxw_0⟩, ⟨hxw_1, fxw_1⟩, ⟨hxw_2, fxw_2⟩⟩ := T
         obtain ⟨hlz, hly, hlxw⟩ := L
         obtain ⟨hnz0, hnz1, hkz1, hnz2, hkz2⟩ := ap0 hlz
         obtain ⟨hny0, hky1⟩ := ap1 hly
         obtain ⟨hnxw0, hnxw1, hkxw1, hnxw2, hkxw2⟩ := ap0 hlxw
         have hB := hB'; clear hB'
         have hsz := hB.size
         have ha_0 := kc hB HTa.out.1
         have ha_1 := kc hB HTa.out.2.1
         have ha_2 := kc hB HTa.out.2.2.1
         have ha_3 := kc hB HTa.out.2.2.2.1
         have ha_4 := kc hB HTa.out.2.2.2.2
         cases L
         ·skip
          have HF := hid (show R = ⟨⟨0, 0, 0⟩, al, ac, 10⟩ from by rw [← HR.out]; simp [spanR, spanM, maskM, endM, errO, bitsL, show (mn < 1 ∨ 255 < mn) = False from eq_false (by omega), HL2.out])
          go_wp2_with fail
          ((with_reducible refine (at_u _ _ _ _ _ _ _).mono ?_); rintro _ v ⟨rfl, hb⟩)
          have T : CF v w.heap.size 0 (.int .i64 0) ∧ CF v w.heap.size 1 (.int .i64 0) ∧ CF v w.heap.size 2 (.int .i64 0) ∧ CF v (w.heap.size + 1) 0 (.int .i64 0) ∧ CF v (w.heap.size + 1) 1 (.int .i64 0) ∧ CF v (w.heap.size + 1) 2 (.int .i64 0) := by
            refine ⟨⟨?_, ?_⟩, ⟨?_, ?_⟩, ⟨?_, ?_⟩, ⟨?_, ?_⟩, ⟨?_, ?_⟩, ⟨?_, ?_⟩⟩ <;> first | (refine kc hb ?_ <;> (go_simp; first | done | rfl)) | (refine kfz hb ?_ ?_ <;> first | (go_size; done) | (go_simp; done))
          have hz := hb.size
          (try simp only [szA] at hz)
          have L : w.heap.size < v.heap.size ∧ w.heap.size + 1 < v.heap.size := by omega
          have hB' : Below w.heap.size w v := by
            refine kb ?_ hb
            go_grown
          clear hz_0 fz_0 hz_1 fz_1 hz_2 fz_2 hy_0 fy_0 hy_1 fy_1 hy_2 fy_2 hxw_0 fxw_0 hxw_1 fxw_1 hxw_2 fxw_2 hlz hly hlxw hnz0 hnz1 hkz1 hnz2 hkz2 hny0 hky1 hnxw0 hnxw1 hkxw1 hnxw2 hkxw2 hB hsz
          clear hb hz
          obtain ⟨⟨hz_0, fz_0⟩, ⟨hz_1, fz_1⟩, ⟨hz_2, fz_2⟩, ⟨hy_0, fy_0⟩, ⟨hy_1, fy_1⟩, ⟨hy_2, fy_2⟩⟩ := T
          obtain ⟨hlz, hly⟩ := L
          obtain ⟨hnz0, hnz1, hkz1, hnz2, hkz2⟩ := ap0 hlz
          obtain ⟨hny0, hky1⟩ := ap1 hly
          have hB := hB'; clear hB'
          have hsz := hB.size
          (try dsimp only)
          repeat (first | go_values | go_skip | go_guarded | go_step | go_upon)
          refine bodyPost_ret (v := .tuple #[.agg #[.int .i64 0, .int .i64 0, .int .i64 0], .agg #[.int .i64 al, .int .i64 ac, .int .i64 10]]) (by simp [results, Tryz.results60, go_sem, hz_0, hz_1, hz_2, hy_0, hy_1, hy_2] <;> first | done | rfl) rfl (spEnd_of HF.out (by (repeat (refine Below.setCell ?_ (by first | exact Nat.le_refl _ | exact Nat.le_add_right _ _) _)); exact hB))
         ·skip
          have HF := hid (show R = ⟨⟨an, cn, mn⟩, 0, 0, 0⟩ from by rw [← HR.out]; simp [spanR, spanM, maskM, endM, errO, bitsL, show (mn < 1 ∨ 255 < mn) = False from eq_false (by omega), HL2.out])
          (try dsimp only)
          repeat (first | go_values | go_skip | go_guarded | go_step | go_upon)
          refine bodyPost_ret (v := .tuple #[.agg #[.int .i64 an, .int .i64 cn, .int .i64 mn], .agg #[.int .i64 0, .int .i64 0, .int .i64 0]]) (by simp [results, Tryz.results60, go_sem, hz_0, hz_1, hz_2, hy_0, hy_1, hy_2] <;> first | done | rfl) rfl (spEnd_of HF.out (by (repeat (refine Below.setCell ?_ (by first | exact Nat.le_refl _ | exact Nat.le_add_right _ _) _)); exact hB))
      ·have z4' : (ek == 4) = false := by simpa using z4
       have HF := hid (show R = ⟨⟨0, 0, 0⟩, el, ec, 11⟩ from by rw [← HR.out]; simp [spanR, spanM, maskM, endM, errO, bitsL, z4])
       go_wp2_with fail
       ((with_reducible refine (at_u _ _ _ _ _ _ _).mono ?_); rintro _ v ⟨rfl, hb⟩)
       have T : CF v w.heap.size 0 (.int .i64 0) ∧ CF v w.heap.size 1 (.int .i64 0) ∧ CF v w.heap.size 2 (.int .i64 0) ∧ CF v (w.heap.size + 1) 0 (.int .i64 0) ∧ CF v (w.heap.size + 1) 1 (.int .i64 0) ∧ CF v (w.heap.size + 1) 2 (.int .i64 0) := by
         refine ⟨⟨?_, ?_⟩, ⟨?_, ?_⟩, ⟨?_, ?_⟩, ⟨?_, ?_⟩, ⟨?_, ?_⟩, ⟨?_, ?_⟩⟩ <;> first | (refine kc hb ?_ <;> (go_simp; first | done | rfl)) | (refine kfz hb ?_ ?_ <;> first | (go_size; done) | (go_simp; done))
       have hz := hb.size
       (try simp only [szA] at hz)
       have L : w.heap.size < v.heap.size ∧ w.heap.size + 1 < v.heap.size := by omega
       have hB' : Below w.heap.size w v := by
         refine kb ?_ hb
         go_grown
       clear hz_0 fz_0 hz_1 fz_1 hz_2 fz_2 hy_0 fy_0 hy_1 fy_1 hy_2 fy_2 hxw_0 fxw_0 hxw_1 fxw_1 hxw_2 fxw_2 htm_0 ftm_0 htm_1 ftm_1 htm_2 ftm_2 htm_3 ftm_3 htm_4 ftm_4 hB hsz hlz hly hlxw hltm hnz0 hnz1 hkz1 hnz2 hkz2 hny0 hky1 hnxw0 hnxw1 hkxw1 hnxw2 hkxw2 hntm0 hntm1 hktm1 hntm2 hktm2
       clear hb hz
       obtain ⟨⟨hz_0, fz_0⟩, ⟨hz_1, fz_1⟩, ⟨hz_2, fz_2⟩, ⟨hy_0, fy_0⟩, ⟨hy_1, fy_1⟩, ⟨hy_2, fy_2⟩⟩ := T
       obtain ⟨hlz, hly⟩ := L
       obtain ⟨hnz0, hnz1, hkz1, hnz2, hkz2⟩ := ap0 hlz
       obtain ⟨hny0, hky1⟩ := ap1 hly
       have hB := hB'; clear hB'
       have hsz := hB.size
       (try dsimp only)
       repeat (first | go_values | go_skip | go_guarded | go_step | go_upon)
       refine bodyPost_ret (v := .tuple #[.agg #[.int .i64 0, .int .i64 0, .int .i64 0], .agg #[.int .i64 el, .int .i64 ec, .int .i64 11]]) (by simp [results, Tryz.results60, go_sem, hz_0, hz_1, hz_2, hy_0, hy_1, hy_2] <;> first | done | rfl) rfl (spEnd_of HF.out (by (repeat (refine Below.setCell ?_ (by first | exact Nat.le_refl _ | exact Nat.le_add_right _ _) _)); exact hB))
     ·have m0' : (mk == 2) = false := by simpa using m0
      have HF := hid (show R = ⟨⟨0, 0, 0⟩, ml, mc, 11⟩ from by rw [← HR.out]; simp [spanR, spanM, maskM, endM, errO, m0, bitsL])
      go_wp2_with fail
      ((with_reducible refine (at_u _ _ _ _ _ _ _).mono ?_); rintro _ v ⟨rfl, hb⟩)
      have T : CF v w.heap.size 0 (.int .i64 0) ∧ CF v w.heap.size 1 (.int .i64 0) ∧ CF v w.heap.size 2 (.int .i64 0) ∧ CF v (w.heap.size + 1) 0 (.int .i64 0) ∧ CF v (w.heap.size + 1) 1 (.int .i64 0) ∧ CF v (w.heap.size + 1) 2 (.int .i64 0) := by
        refine ⟨⟨?_, ?_⟩, ⟨?_, ?_⟩, ⟨?_, ?_⟩, ⟨?_, ?_⟩, ⟨?_, ?_⟩, ⟨?_, ?_⟩⟩ <;> first | (refine kc hb ?_ <;> (go_simp; first | done | rfl)) | (refine kfz hb ?_ ?_ <;> first | (go_size; done) | (go_simp; done))
      have hz := hb.size
      (try simp only [szA] at hz)
      have L : w.heap.size < v.heap.size ∧ w.heap.size + 1 < v.heap.size := by omega
      have hB' : Below w.heap.size w v := by
        refine kb ?_ hb
        go_grown
      clear hz_0 fz_0 hz_1 fz_1 hz_2 fz_2 hy_0 fy_0 hy_1 fy_1 hy_2 fy_2 hxw_0 fxw_0 hxw_1 fxw_1 hxw_2 fxw_2 ht_0 ft_0 ht_1 ft_1 ht_2 ft_2 ht_3 ft_3 ht_4 ft_4 hB hsz hlz hly hlxw hlt hnz0 hnz1 hkz1 hnz2 hkz2 hny0 hky1 hnxw0 hnxw1 hkxw1 hnxw2 hkxw2 hnt0 hnt1 hkt1 hnt2 hkt2
      clear hb hz
      obtain ⟨⟨hz_0, fz_0⟩, ⟨hz_1, fz_1⟩, ⟨hz_2, fz_2⟩, ⟨hy_0, fy_0⟩, ⟨hy_1, fy_1⟩, ⟨hy_2, fy_2⟩⟩ := T
      obtain ⟨hlz, hly⟩ := L
      obtain ⟨hnz0, hnz1, hkz1, hnz2, hkz2⟩ := ap0 hlz
      obtain ⟨hny0, hky1⟩ := ap1 hly
      have hB := hB'; clear hB'
      have hsz := hB.size
      (try dsimp only)
      repeat (first | go_values | go_skip | go_guarded | go_step | go_upon)
      refine bodyPost_ret (v := .tuple #[.agg #[.int .i64 0, .int .i64 0, .int .i64 0], .agg #[.int .i64 ml, .int .i64 mc, .int .i64 11]]) (by simp [results, Tryz.results60, go_sem, hz_0, hz_1, hz_2, hy_0, hy_1, hy_2] <;> first | done | rfl) rfl (spEnd_of HF.out (by (repeat (refine Below.setCell ?_ (by first | exact Nat.le_refl _ | exact Nat.le_add_right _ _) _)); exact hB))
    ·have hbt : ((txB dt).toList == [98, 105, 116, 115]) = false := by rw [txB_toList]; exact beq_eq_false_iff_ne.2 hb
     have hbt2 : (txB dt == ⟨#[98, 105, 116, 115]⟩) = false := (txB_beq dt [98, 105, 116, 115]).trans (beq_eq_false_iff_ne.2 hb)
     generalize txB dt = dT at *
     by_cases hd1 : dk = 1
     ·subst hd1
      have HF := hid (show R = ⟨⟨0, 0, 0⟩, dl, dc, 11⟩ from by rw [← HR.out]; simp [spanR, spanM, maskM, endM, errO, hb])
      go_wp2_with fail
      ((with_reducible refine (at_u _ _ _ _ _ _ _).mono ?_); rintro _ v ⟨rfl, hb⟩)
      have T : CF v w.heap.size 0 (.int .i64 0) ∧ CF v w.heap.size 1 (.int .i64 0) ∧ CF v w.heap.size 2 (.int .i64 0) ∧ CF v (w.heap.size + 1) 0 (.int .i64 0) ∧ CF v (w.heap.size + 1) 1 (.int .i64 0) ∧ CF v (w.heap.size + 1) 2 (.int .i64 0) := by
        refine ⟨⟨?_, ?_⟩, ⟨?_, ?_⟩, ⟨?_, ?_⟩, ⟨?_, ?_⟩, ⟨?_, ?_⟩, ⟨?_, ?_⟩⟩ <;> first | (refine kc hb ?_ <;> (go_simp; first | done | rfl)) | (refine kfz hb ?_ ?_ <;> first | (go_size; done) | (go_simp; done))
      have hz := hb.size
      (try simp only [szA] at hz)
      have L : w.heap.size < v.heap.size ∧ w.heap.size + 1 < v.heap.size := by omega
      have hB' : Below w.heap.size w v := by
        refine kb ?_ hb
        go_grown
      clear hz_0 fz_0 hz_1 fz_1 hz_2 fz_2 hy_0 fy_0 hy_1 fy_1 hy_2 fy_2 hxw_0 fxw_0 hxw_1 fxw_1 hxw_2 fxw_2 ht_0 ft_0 ht_1 ft_1 ht_2 ft_2 ht_3 ft_3 ht_4 ft_4 hB hsz hlz hly hlxw hlt hnz0 hnz1 hkz1 hnz2 hkz2 hny0 hky1 hnxw0 hnxw1 hkxw1 hnxw2 hkxw2 hnt0 hnt1 hkt1 hnt2 hkt2
      clear hb hz
      obtain ⟨⟨hz_0, fz_0⟩, ⟨hz_1, fz_1⟩, ⟨hz_2, fz_2⟩, ⟨hy_0, fy_0⟩, ⟨hy_1, fy_1⟩, ⟨hy_2, fy_2⟩⟩ := T
      obtain ⟨hlz, hly⟩ := L
      obtain ⟨hnz0, hnz1, hkz1, hnz2, hkz2⟩ := ap0 hlz
      obtain ⟨hny0, hky1⟩ := ap1 hly
      have hB := hB'; clear hB'
      have hsz := hB.size
      (try dsimp only)
      repeat (first | go_values | go_skip | go_guarded | go_step | go_upon)
      refine bodyPost_ret (v := .tuple #[.agg #[.int .i64 0, .int .i64 0, .int .i64 0], .agg #[.int .i64 dl, .int .i64 dc, .int .i64 11]]) (by simp [results, Tryz.results60, go_sem, hz_0, hz_1, hz_2, hy_0, hy_1, hy_2] <;> first | done | rfl) rfl (spEnd_of HF.out (by (repeat (refine Below.setCell ?_ (by first | exact Nat.le_refl _ | exact Nat.le_add_right _ _) _)); exact hB))
     ·have hd1' : (dk == 1) = false := by simpa using hd1
      clear hTaw hga hgu
      by_cases z4 : dk = 4
      ·subst z4
       obtain ⟨L, hL⟩ : ∃ L, liesB ⟨an, cn, 255⟩ (!sk) = L := ⟨_, rfl⟩
       have hL2 : liesB ⟨an, cn, 255⟩ sink = L := by rw [← hL, ← HSK.out, Bool.not_not]
       have HL := hid (fun W => hL ▸ liesr_c an cn 255 sk W)
       have HL2 := hid hL2
       clear hL hL2
       go_wp2_with fail
       ((with_reducible refine (HL.out _).mono ?_); rintro _ v ⟨rfl, hb⟩)
       have T : CF v w.heap.size 0 (.int .i64 0) ∧ CF v w.heap.size 1 (.int .i64 0) ∧ CF v w.heap.size 2 (.int .i64 0) ∧ CF v (w.heap.size + 1) 0 (.int .i64 0) ∧ CF v (w.heap.size + 1) 1 (.int .i64 0) ∧ CF v (w.heap.size + 1) 2 (.int .i64 0) ∧ CF v bx 0 (.int .i64 an) ∧ CF v bx 1 (.int .i64 cn) ∧ CF v bx 2 (.int .i64 255) := by
         refine ⟨⟨?_, ?_⟩, ⟨?_, ?_⟩, ⟨?_, ?_⟩, ⟨?_, ?_⟩, ⟨?_, ?_⟩, ⟨?_, ?_⟩, ⟨?_, ?_⟩, ⟨?_, ?_⟩, ⟨?_, ?_⟩⟩ <;> first | (refine kc hb ?_ <;> (go_simp; first | done | rfl)) | (refine kfz hb ?_ ?_ <;> first | (go_size; done) | (go_simp; done))
       have hz := hb.size
       (try simp only [szA] at hz)
       have L : w.heap.size < v.heap.size ∧ w.heap.size + 1 < v.heap.size ∧ bx < v.heap.size := by omega
       have hB' : Below w.heap.size w v := by
         refine kb ?_ hb
         go_grown
       clear hz_0 fz_0 hz_1 fz_1 hz_2 fz_2 hy_0 fy_0 hy_1 fy_1 hy_2 fy_2 hxw_0 fxw_0 hxw_1 fxw_1 hxw_2 fxw_2 ht_0 ft_0 ht_1 ft_1 ht_2 ft_2 ht_3 ft_3 ht_4 ft_4 hB hsz hlz hly hlxw hlt hnz0 hnz1 hkz1 hnz2 hkz2 hny0 hky1 hnxw0 hnxw1 hkxw1 hnxw2 hkxw2 hnt0 hnt1 hkt1 hnt2 hkt2
       clear hb hz
       obtain ⟨⟨hz_0, fz_0⟩, ⟨hz_1, fz_1⟩, ⟨hz_2, fz_2⟩, ⟨hy_0, fy_0⟩, ⟨hy_1, fy_1⟩, ⟨hy_2, fy_2⟩, ⟨hxw_0, fxw_0⟩, ⟨hxw_1, fxw_1⟩, ⟨hxw_2, fxw_2⟩⟩ := T
       obtain ⟨hlz, hly, hlxw⟩ := L
       obtain ⟨hnz0, hnz1, hkz1, hnz2, hkz2⟩ := ap0 hlz
       obtain ⟨hny0, hky1⟩ := ap1 hly
       obtain ⟨hnxw0, hnxw1, hkxw1, hnxw2, hkxw2⟩ := ap0 hlxw
       have hB := hB'; clear hB'
       have hsz := hB.size
       have ha_0 := kc hB HTa.out.1
       have ha_1 := kc hB HTa.out.2.1
       have ha_2 := kc hB HTa.out.2.2.1
       have ha_3 := kc hB HTa.out.2.2.2.1
       have ha_4 := kc hB HTa.out.2.2.2.2
       cases L
       ·skip
        have HF := hid (show R = ⟨⟨0, 0, 0⟩, al, ac, 10⟩ from by rw [← HR.out]; simp [spanR, spanM, maskM, endM, errO, hb, HL2.out])
        go_wp2_with fail
        ((with_reducible refine (at_u _ _ _ _ _ _ _).mono ?_); rintro _ v ⟨rfl, hb⟩)
        have T : CF v w.heap.size 0 (.int .i64 0) ∧ CF v w.heap.size 1 (.int .i64 0) ∧ CF v w.heap.size 2 (.int .i64 0) ∧ CF v (w.heap.size + 1) 0 (.int .i64 0) ∧ CF v (w.heap.size + 1) 1 (.int .i64 0) ∧ CF v (w.heap.size + 1) 2 (.int .i64 0) := by
          refine ⟨⟨?_, ?_⟩, ⟨?_, ?_⟩, ⟨?_, ?_⟩, ⟨?_, ?_⟩, ⟨?_, ?_⟩, ⟨?_, ?_⟩⟩ <;> first | (refine kc hb ?_ <;> (go_simp; first | done | rfl)) | (refine kfz hb ?_ ?_ <;> first | (go_size; done) | (go_simp; done))
        have hz := hb.size
        (try simp only [szA] at hz)
        have L : w.heap.size < v.heap.size ∧ w.heap.size + 1 < v.heap.size := by omega
        have hB' : Below w.heap.size w v := by
          refine kb ?_ hb
          go_grown
        clear hz_0 fz_0 hz_1 fz_1 hz_2 fz_2 hy_0 fy_0 hy_1 fy_1 hy_2 fy_2 hxw_0 fxw_0 hxw_1 fxw_1 hxw_2 fxw_2 hlz hly hlxw hnz0 hnz1 hkz1 hnz2 hkz2 hny0 hky1 hnxw0 hnxw1 hkxw1 hnxw2 hkxw2 hB hsz
        clear hb hz
        obtain ⟨⟨hz_0, fz_0⟩, ⟨hz_1, fz_1⟩, ⟨hz_2, fz_2⟩, ⟨hy_0, fy_0⟩, ⟨hy_1, fy_1⟩, ⟨hy_2, fy_2⟩⟩ := T
        obtain ⟨hlz, hly⟩ := L
        obtain ⟨hnz0, hnz1, hkz1, hnz2, hkz2⟩ := ap0 hlz
        obtain ⟨hny0, hky1⟩ := ap1 hly
        have hB := hB'; clear hB'
        have hsz := hB.size
        (try dsimp only)
        repeat (first | go_values | go_skip | go_guarded | go_step | go_upon)
        refine bodyPost_ret (v := .tuple #[.agg #[.int .i64 0, .int .i64 0, .int .i64 0], .agg #[.int .i64 al, .int .i64 ac, .int .i64 10]]) (by simp [results, Tryz.results60, go_sem, hz_0, hz_1, hz_2, hy_0, hy_1, hy_2] <;> first | done | rfl) rfl (spEnd_of HF.out (by (repeat (refine Below.setCell ?_ (by first | exact Nat.le_refl _ | exact Nat.le_add_right _ _) _)); exact hB))
       ·skip
        have HF := hid (show R = ⟨⟨an, cn, 255⟩, 0, 0, 0⟩ from by rw [← HR.out]; simp [spanR, spanM, maskM, endM, errO, hb, HL2.out])
        (try dsimp only)
        repeat (first | go_values | go_skip | go_guarded | go_step | go_upon)
        refine bodyPost_ret (v := .tuple #[.agg #[.int .i64 an, .int .i64 cn, .int .i64 255], .agg #[.int .i64 0, .int .i64 0, .int .i64 0]]) (by simp [results, Tryz.results60, go_sem, hz_0, hz_1, hz_2, hy_0, hy_1, hy_2] <;> first | done | rfl) rfl (spEnd_of HF.out (by (repeat (refine Below.setCell ?_ (by first | exact Nat.le_refl _ | exact Nat.le_add_right _ _) _)); exact hB))
      ·have z4' : (dk == 4) = false := by simpa using z4
       have HF := hid (show R = ⟨⟨0, 0, 0⟩, dl, dc, 11⟩ from by rw [← HR.out]; simp [spanR, spanM, maskM, endM, errO, hb, z4])
       go_wp2_with fail
       ((with_reducible refine (at_u _ _ _ _ _ _ _).mono ?_); rintro _ v ⟨rfl, hb⟩)
       have T : CF v w.heap.size 0 (.int .i64 0) ∧ CF v w.heap.size 1 (.int .i64 0) ∧ CF v w.heap.size 2 (.int .i64 0) ∧ CF v (w.heap.size + 1) 0 (.int .i64 0) ∧ CF v (w.heap.size + 1) 1 (.int .i64 0) ∧ CF v (w.heap.size + 1) 2 (.int .i64 0) := by
         refine ⟨⟨?_, ?_⟩, ⟨?_, ?_⟩, ⟨?_, ?_⟩, ⟨?_, ?_⟩, ⟨?_, ?_⟩, ⟨?_, ?_⟩⟩ <;> first | (refine kc hb ?_ <;> (go_simp; first | done | rfl)) | (refine kfz hb ?_ ?_ <;> first | (go_size; done) | (go_simp; done))
       have hz := hb.size
       (try simp only [szA] at hz)
       have L : w.heap.size < v.heap.size ∧ w.heap.size + 1 < v.heap.size := by omega
       have hB' : Below w.heap.size w v := by
         refine kb ?_ hb
         go_grown
       clear hz_0 fz_0 hz_1 fz_1 hz_2 fz_2 hy_0 fy_0 hy_1 fy_1 hy_2 fy_2 hxw_0 fxw_0 hxw_1 fxw_1 hxw_2 fxw_2 ht_0 ft_0 ht_1 ft_1 ht_2 ft_2 ht_3 ft_3 ht_4 ft_4 hB hsz hlz hly hlxw hlt hnz0 hnz1 hkz1 hnz2 hkz2 hny0 hky1 hnxw0 hnxw1 hkxw1 hnxw2 hkxw2 hnt0 hnt1 hkt1 hnt2 hkt2
       clear hb hz
       obtain ⟨⟨hz_0, fz_0⟩, ⟨hz_1, fz_1⟩, ⟨hz_2, fz_2⟩, ⟨hy_0, fy_0⟩, ⟨hy_1, fy_1⟩, ⟨hy_2, fy_2⟩⟩ := T
       obtain ⟨hlz, hly⟩ := L
       obtain ⟨hnz0, hnz1, hkz1, hnz2, hkz2⟩ := ap0 hlz
       obtain ⟨hny0, hky1⟩ := ap1 hly
       have hB := hB'; clear hB'
       have hsz := hB.size
       (try dsimp only)
       repeat (first | go_values | go_skip | go_guarded | go_step | go_upon)
       refine bodyPost_ret (v := .tuple #[.agg #[.int .i64 0, .int .i64 0, .int .i64 0], .agg #[.int .i64 dl, .int .i64 dc, .int .i64 11]]) (by simp [results, Tryz.results60, go_sem, hz_0, hz_1, hz_2, hy_0, hy_1, hy_2] <;> first | done | rfl) rfl (spEnd_of HF.out (by (repeat (refine Below.setCell ?_ (by first | exact Nat.le_refl _ | exact Nat.le_add_right _ _) _)); exact hB))
   ·have c0' : (ck == 2) = false := by simpa using c0
    have HF := hid (show R = ⟨⟨0, 0, 0⟩, cl, cc, 11⟩ from by rw [← HR.out]; simp [spanR, spanM, maskM, endM, errO, c0])
    go_wp2_with fail
    ((with_reducible refine (at_u _ _ _ _ _ _ _).mono ?_); rintro _ v ⟨rfl, hb⟩)
    have T : CF v w.heap.size 0 (.int .i64 0) ∧ CF v w.heap.size 1 (.int .i64 0) ∧ CF v w.heap.size 2 (.int .i64 0) ∧ CF v (w.heap.size + 1) 0 (.int .i64 0) ∧ CF v (w.heap.size + 1) 1 (.int .i64 0) ∧ CF v (w.heap.size + 1) 2 (.int .i64 0) := by
      refine ⟨⟨?_, ?_⟩, ⟨?_, ?_⟩, ⟨?_, ?_⟩, ⟨?_, ?_⟩, ⟨?_, ?_⟩, ⟨?_, ?_⟩⟩ <;> first | (refine kc hb ?_ <;> (go_simp; first | done | rfl)) | (refine kfz hb ?_ ?_ <;> first | (go_size; done) | (go_simp; done))
    have hz := hb.size
    (try simp only [szA] at hz)
    have L : w.heap.size < v.heap.size ∧ w.heap.size + 1 < v.heap.size := by omega
    have hB' : Below w.heap.size w v := by
      refine kb ?_ hb
      go_grown
    clear hz_0 fz_0 hz_1 fz_1 hz_2 fz_2 hy_0 fy_0 hy_1 fy_1 hy_2 fy_2 hxv_0 fxv_0 hxv_1 fxv_1 hxv_2 fxv_2 hB hsz hlz hly hlxv hnz0 hnz1 hkz1 hnz2 hkz2 hny0 hky1 hnxv0 hnxv1 hkxv1 hnxv2 hkxv2
    clear hb hz
    obtain ⟨⟨hz_0, fz_0⟩, ⟨hz_1, fz_1⟩, ⟨hz_2, fz_2⟩, ⟨hy_0, fy_0⟩, ⟨hy_1, fy_1⟩, ⟨hy_2, fy_2⟩⟩ := T
    obtain ⟨hlz, hly⟩ := L
    obtain ⟨hnz0, hnz1, hkz1, hnz2, hkz2⟩ := ap0 hlz
    obtain ⟨hny0, hky1⟩ := ap1 hly
    have hB := hB'; clear hB'
    have hsz := hB.size
    (try dsimp only)
    repeat (first | go_values | go_skip | go_guarded | go_step | go_upon)
    refine bodyPost_ret (v := .tuple #[.agg #[.int .i64 0, .int .i64 0, .int .i64 0], .agg #[.int .i64 cl, .int .i64 cc, .int .i64 11]]) (by simp [results, Tryz.results60, go_sem, hz_0, hz_1, hz_2, hy_0, hy_1, hy_2] <;> first | done | rfl) rfl (spEnd_of HF.out (by (repeat (refine Below.setCell ?_ (by first | exact Nat.le_refl _ | exact Nat.le_add_right _ _) _)); exact hB))
  ·have b0' : (bk == 3) = false := by simpa using b0
   have hE := HE1.out.tail (show (2 : Int) ≠ 4 by decide)
   have hTx : Texts (⟨bk, bt, bn, bl, bc⟩ :: r2) := fun c h => HTx.out c (List.mem_cons_of_mem _ h)
   have HE := hid hE
   have hdt : bk ≠ 1 → bt = [] := hTx ⟨bk, bt, bn, bl, bc⟩ (by simp)
   clear hE hTx
   have hTaw := And.intro hTa hB
   have hga := klt hTa.1
   go_upto_region 10 with fail
   refine wp_pin (fun w' => w'.cell? ⟨w.heap.size, 0, none⟩ = some (.int .i64 0) ∧ w'.frozen? ⟨w.heap.size, 0, none⟩ = false ∧ w'.cell? ⟨w.heap.size, 1, none⟩ = some (.int .i64 0) ∧ w'.frozen? ⟨w.heap.size, 1, none⟩ = false ∧ w'.cell? ⟨w.heap.size, 2, none⟩ = some (.int .i64 0) ∧ w'.frozen? ⟨w.heap.size, 2, none⟩ = false ∧ w'.cell? ⟨w.heap.size + 1, 0, none⟩ = some (.int .i64 0) ∧ w'.frozen? ⟨w.heap.size + 1, 0, none⟩ = false ∧ w'.cell? ⟨w.heap.size + 1, 1, none⟩ = some (.int .i64 0) ∧ w'.frozen? ⟨w.heap.size + 1, 1, none⟩ = false ∧ w'.cell? ⟨w.heap.size + 1, 2, none⟩ = some (.int .i64 0) ∧ w'.frozen? ⟨w.heap.size + 1, 2, none⟩ = false ∧ w'.cell? ⟨bx, 0, none⟩ = some (.int .i64 an) ∧ w'.frozen? ⟨bx, 0, none⟩ = false ∧ w'.cell? ⟨bx, 1, none⟩ = some (.int .i64 an) ∧ w'.frozen? ⟨bx, 1, none⟩ = false ∧ w'.cell? ⟨bx, 2, none⟩ = some (.int .i64 255) ∧ w'.frozen? ⟨bx, 2, none⟩ = false ∧ Below w.heap.size w w') ?_ ?_
   ·(try dsimp only)
    refine ⟨?_, ?_, ?_, ?_, ?_, ?_, ?_, ?_, ?_, ?_, ?_, ?_, ?_, ?_, ?_, ?_, ?_, ?_, ?_⟩ <;> first | (go_simp; done) | (simp [*]; done) | go_grown
   intro u3 T
   (try dsimp only at T)
   clear hz_0 fz_0 hz_1 fz_1 hz_2 fz_2 hy_0 fy_0 hy_1 fy_1 hy_2 fy_2 hxv_0 fxv_0 hxv_1 fxv_1 hxv_2 fxv_2 hB hsz hlz hly hlxv hnz0 hnz1 hkz1 hnz2 hkz2 hny0 hky1 hnxv0 hnxv1 hkxv1 hnxv2 hkxv2
   obtain ⟨hz_0, fz_0, hz_1, fz_1, hz_2, fz_2, hy_0, fy_0, hy_1, fy_1, hy_2, fy_2, hxw_0, fxw_0, hxw_1, fxw_1, hxw_2, fxw_2, hB⟩ := T
   have hsz := hB.size
   have hlz := klt hz_0
   have hly := klt hy_0
   have hlxw := klt hxw_0
   obtain ⟨hnz0, hnz1, hkz1, hnz2, hkz2⟩ := ap0 hlz
   obtain ⟨hny0, hky1⟩ := ap1 hly
   obtain ⟨hnxw0, hnxw1, hkxw1, hnxw2, hkxw2⟩ := ap0 hlxw
   have ha_0 := kc hB hTa.1
   have ha_1 := kc hB hTa.2.1
   have ha_2 := kc hB hTa.2.2.1
   have ha_3 := kc hB hTa.2.2.2.1
   have ha_4 := kc hB hTa.2.2.2.2
   have hgu := klt ha_0
   have hwt : w.heap.size ≤ u3.heap.size := hB.size
   have hzt : ¬ w.heap.size = u3.heap.size := by omega
   have htz : ¬ u3.heap.size = w.heap.size := by omega
   have hyt : ¬ w.heap.size + 1 = u3.heap.size := by omega
   have hty : ¬ u3.heap.size = w.heap.size + 1 := by omega
   have hxt : ¬ bx = u3.heap.size := by omega
   have htx : ¬ u3.heap.size = bx := by omega
   go_upto_region 11 with fail
   refine wp_pin (fun w' => w'.cell? ⟨w.heap.size, 0, none⟩ = some (.int .i64 0) ∧ w'.frozen? ⟨w.heap.size, 0, none⟩ = false ∧ w'.cell? ⟨w.heap.size, 1, none⟩ = some (.int .i64 0) ∧ w'.frozen? ⟨w.heap.size, 1, none⟩ = false ∧ w'.cell? ⟨w.heap.size, 2, none⟩ = some (.int .i64 0) ∧ w'.frozen? ⟨w.heap.size, 2, none⟩ = false ∧ w'.cell? ⟨w.heap.size + 1, 0, none⟩ = some (.int .i64 0) ∧ w'.frozen? ⟨w.heap.size + 1, 0, none⟩ = false ∧ w'.cell? ⟨w.heap.size + 1, 1, none⟩ = some (.int .i64 0) ∧ w'.frozen? ⟨w.heap.size + 1, 1, none⟩ = false ∧ w'.cell? ⟨w.heap.size + 1, 2, none⟩ = some (.int .i64 0) ∧ w'.frozen? ⟨w.heap.size + 1, 2, none⟩ = false ∧ w'.cell? ⟨bx, 0, none⟩ = some (.int .i64 an) ∧ w'.frozen? ⟨bx, 0, none⟩ = false ∧ w'.cell? ⟨bx, 1, none⟩ = some (.int .i64 an) ∧ w'.frozen? ⟨bx, 1, none⟩ = false ∧ w'.cell? ⟨bx, 2, none⟩ = some (.int .i64 255) ∧ w'.frozen? ⟨bx, 2, none⟩ = false ∧ w'.cell? ⟨u3.heap.size, 0, none⟩ = some (.int .i64 2) ∧ w'.frozen? ⟨u3.heap.size, 0, none⟩ = false ∧ w'.cell? ⟨u3.heap.size, 1, none⟩ = some (.string aT) ∧ w'.frozen? ⟨u3.heap.size, 1, none⟩ = false ∧ w'.cell? ⟨u3.heap.size, 2, none⟩ = some (.int .i64 an) ∧ w'.frozen? ⟨u3.heap.size, 2, none⟩ = false ∧ w'.cell? ⟨u3.heap.size, 3, none⟩ = some (.int .i64 al) ∧ w'.frozen? ⟨u3.heap.size, 3, none⟩ = false ∧ w'.cell? ⟨u3.heap.size, 4, none⟩ = some (.int .i64 ac) ∧ w'.frozen? ⟨u3.heap.size, 4, none⟩ = false ∧ Below w.heap.size w w') ?_ ?_
   ·(try dsimp only)
    refine ⟨?_, ?_, ?_, ?_, ?_, ?_, ?_, ?_, ?_, ?_, ?_, ?_, ?_, ?_, ?_, ?_, ?_, ?_, ?_, ?_, ?_, ?_, ?_, ?_, ?_, ?_, ?_, ?_, ?_⟩ <;> first | (go_simp; done) | (simp [*]; done) | go_grown
   intro u4 T
   (try dsimp only at T)
   clear hz_0 fz_0 hz_1 fz_1 hz_2 fz_2 hy_0 fy_0 hy_1 fy_1 hy_2 fy_2 hxw_0 fxw_0 hxw_1 fxw_1 hxw_2 fxw_2 hB hsz hlz hly hlxw hnz0 hnz1 hkz1 hnz2 hkz2 hny0 hky1 hnxw0 hnxw1 hkxw1 hnxw2 hkxw2
   obtain ⟨hz_0, fz_0, hz_1, fz_1, hz_2, fz_2, hy_0, fy_0, hy_1, fy_1, hy_2, fy_2, hxw_0, fxw_0, hxw_1, fxw_1, hxw_2, fxw_2, ht_0, ft_0, ht_1, ft_1, ht_2, ft_2, ht_3, ft_3, ht_4, ft_4, hB⟩ := T
   have hsz := hB.size
   have hlz := klt hz_0
   have hly := klt hy_0
   have hlxw := klt hxw_0
   have hlt := klt ht_0
   obtain ⟨hnz0, hnz1, hkz1, hnz2, hkz2⟩ := ap0 hlz
   obtain ⟨hny0, hky1⟩ := ap1 hly
   obtain ⟨hnxw0, hnxw1, hkxw1, hnxw2, hkxw2⟩ := ap0 hlxw
   obtain ⟨hnt0, hnt1, hkt1, hnt2, hkt2⟩ := ap0 hlt
   obtain ⟨pa_0, pa_1, pa_2, pa_3, pa_4⟩ := hTa
   have ha_0 := kc hB pa_0
   have ha_1 := kc hB pa_1
   have ha_2 := kc hB pa_2
   have ha_3 := kc hB pa_3
   have ha_4 := kc hB pa_4
   obtain ⟨pd_0, pd_1, pd_2, pd_3, pd_4⟩ := hTb
   have hb_0 := kc hB pd_0
   have hb_1 := kc hB pd_1
   have hb_2 := kc hB pd_2
   have hb_3 := kc hB pd_3
   have hb_4 := kc hB pd_4
   by_cases hb : bt = bitsL
   ·have hd1 : bk = 1 := Classical.byContradiction fun h => by have := hdt h; rw [hb] at this; cases this
    subst hb
    subst hd1
    obtain ⟨m, r4, rfl⟩ := (HE.out.tail (show (1 : Int) ≠ 4 by decide)).ne
    have hnm : 2 < n := by have := HN.out; simp only [List.length_cons] at this; omega
    clear hdt
    have hTm := tok_at HC.out 2 10 rfl rfl
    obtain ⟨mk, mt, mn, ml, mc⟩ := m
    dsimp only at hTm
    obtain ⟨pm_0, pm_1, pm_2, pm_3, pm_4⟩ := hTm
    have hm_0 := kc hB pm_0
    have hm_1 := kc hB pm_1
    have hm_2 := kc hB pm_2
    have hm_3 := kc hB pm_3
    have hm_4 := kc hB pm_4
    have hdl : (txB bitsL) = ⟨#[98, 105, 116, 115]⟩ := rfl
    rw [hdl] at hb_1
    generalize txB mt = mT at *
    clear hdl
    by_cases m0 : mk = 2
    ·subst m0
     obtain ⟨e, r5, rfl⟩ := ((HE.out.tail (show (1 : Int) ≠ 4 by decide)).tail (show (2 : Int) ≠ 4 by decide)).ne
     have hne : 3 < n := by have := HN.out; simp only [List.length_cons] at this; omega
     have hTe := tok_at HC.out 3 15 rfl rfl
     obtain ⟨ek, et, en, el, ec⟩ := e
     dsimp only at hTe
     obtain ⟨pe_0, pe_1, pe_2, pe_3, pe_4⟩ := hTe
     generalize txB et = eT at *
     clear hTaw hga hgu
     go_upto_region 15 with fail
     have hwt0 : ∀ k, w.heap.size ≤ ({ block := u3.heap.size, off := k } : Addr).block := fun _ => hwt
     refine wp_pin (fun w' => w'.cell? ⟨w.heap.size, 0, none⟩ = some (.int .i64 0) ∧ w'.frozen? ⟨w.heap.size, 0, none⟩ = false ∧ w'.cell? ⟨w.heap.size, 1, none⟩ = some (.int .i64 0) ∧ w'.frozen? ⟨w.heap.size, 1, none⟩ = false ∧ w'.cell? ⟨w.heap.size, 2, none⟩ = some (.int .i64 0) ∧ w'.frozen? ⟨w.heap.size, 2, none⟩ = false ∧ w'.cell? ⟨w.heap.size + 1, 0, none⟩ = some (.int .i64 0) ∧ w'.frozen? ⟨w.heap.size + 1, 0, none⟩ = false ∧ w'.cell? ⟨w.heap.size + 1, 1, none⟩ = some (.int .i64 0) ∧ w'.frozen? ⟨w.heap.size + 1, 1, none⟩ = false ∧ w'.cell? ⟨w.heap.size + 1, 2, none⟩ = some (.int .i64 0) ∧ w'.frozen? ⟨w.heap.size + 1, 2, none⟩ = false ∧ w'.cell? ⟨bx, 0, none⟩ = some (.int .i64 an) ∧ w'.frozen? ⟨bx, 0, none⟩ = false ∧ w'.cell? ⟨bx, 1, none⟩ = some (.int .i64 an) ∧ w'.frozen? ⟨bx, 1, none⟩ = false ∧ w'.cell? ⟨bx, 2, none⟩ = some (.int .i64 255) ∧ w'.frozen? ⟨bx, 2, none⟩ = false ∧ w'.cell? ⟨u3.heap.size, 0, none⟩ = some (.int .i64 2) ∧ w'.frozen? ⟨u3.heap.size, 0, none⟩ = false ∧ w'.cell? ⟨u3.heap.size, 1, none⟩ = some (.string mT) ∧ w'.frozen? ⟨u3.heap.size, 1, none⟩ = false ∧ w'.cell? ⟨u3.heap.size, 2, none⟩ = some (.int .i64 mn) ∧ w'.frozen? ⟨u3.heap.size, 2, none⟩ = false ∧ w'.cell? ⟨u3.heap.size, 3, none⟩ = some (.int .i64 ml) ∧ w'.frozen? ⟨u3.heap.size, 3, none⟩ = false ∧ w'.cell? ⟨u3.heap.size, 4, none⟩ = some (.int .i64 mc) ∧ w'.frozen? ⟨u3.heap.size, 4, none⟩ = false ∧ Below w.heap.size w w') ?_ ?_
     ·(try dsimp only)
      refine ⟨?_, ?_, ?_, ?_, ?_, ?_, ?_, ?_, ?_, ?_, ?_, ?_, ?_, ?_, ?_, ?_, ?_, ?_, ?_, ?_, ?_, ?_, ?_, ?_, ?_, ?_, ?_, ?_, ?_⟩ <;> first | (go_simp; done) | (simp [*]; done) | go_grown
     intro u5 T
     (try dsimp only at T)
     clear hz_0 fz_0 hz_1 fz_1 hz_2 fz_2 hy_0 fy_0 hy_1 fy_1 hy_2 fy_2 hxw_0 fxw_0 hxw_1 fxw_1 hxw_2 fxw_2 ht_0 ft_0 ht_1 ft_1 ht_2 ft_2 ht_3 ft_3 ht_4 ft_4 hB hsz hlz hly hlxw hlt hnz0 hnz1 hkz1 hnz2 hkz2 hny0 hky1 hnxw0 hnxw1 hkxw1 hnxw2 hkxw2 hnt0 hnt1 hkt1 hnt2 hkt2
     obtain ⟨hz_0, fz_0, hz_1, fz_1, hz_2, fz_2, hy_0, fy_0, hy_1, fy_1, hy_2, fy_2, hxw0_0, fxw0_0, hxw0_1, fxw0_1, hxw0_2, fxw0_2, htm_0, ftm_0, htm_1, ftm_1, htm_2, ftm_2, htm_3, ftm_3, htm_4, ftm_4, hB⟩ := T
     have hsz := hB.size
     have hlz := klt hz_0
     have hly := klt hy_0
     have hlxw0 := klt hxw0_0
     have hltm := klt htm_0
     obtain ⟨hnz0, hnz1, hkz1, hnz2, hkz2⟩ := ap0 hlz
     obtain ⟨hny0, hky1⟩ := ap1 hly
     obtain ⟨hnxw00, hnxw01, hkxw01, hnxw02, hkxw02⟩ := ap0 hlxw0
     obtain ⟨hntm0, hntm1, hktm1, hntm2, hktm2⟩ := ap0 hltm
     go_upto_region 17 with fail
     refine wp_pin (fun w' => w'.cell? ⟨w.heap.size, 0, none⟩ = some (.int .i64 0) ∧ w'.frozen? ⟨w.heap.size, 0, none⟩ = false ∧ w'.cell? ⟨w.heap.size, 1, none⟩ = some (.int .i64 0) ∧ w'.frozen? ⟨w.heap.size, 1, none⟩ = false ∧ w'.cell? ⟨w.heap.size, 2, none⟩ = some (.int .i64 0) ∧ w'.frozen? ⟨w.heap.size, 2, none⟩ = false ∧ w'.cell? ⟨w.heap.size + 1, 0, none⟩ = some (.int .i64 0) ∧ w'.frozen? ⟨w.heap.size + 1, 0, none⟩ = false ∧ w'.cell? ⟨w.heap.size + 1, 1, none⟩ = some (.int .i64 0) ∧ w'.frozen? ⟨w.heap.size + 1, 1, none⟩ = false ∧ w'.cell? ⟨w.heap.size + 1, 2, none⟩ = some (.int .i64 0) ∧ w'.frozen? ⟨w.heap.size + 1, 2, none⟩ = false ∧ w'.cell? ⟨bx, 0, none⟩ = some (.int .i64 an) ∧ w'.frozen? ⟨bx, 0, none⟩ = false ∧ w'.cell? ⟨bx, 1, none⟩ = some (.int .i64 an) ∧ w'.frozen? ⟨bx, 1, none⟩ = false ∧ w'.cell? ⟨bx, 2, none⟩ = some (.int .i64 mn) ∧ w'.frozen? ⟨bx, 2, none⟩ = false ∧ w'.cell? ⟨u3.heap.size, 0, none⟩ = some (.int .i64 2) ∧ w'.frozen? ⟨u3.heap.size, 0, none⟩ = false ∧ w'.cell? ⟨u3.heap.size, 1, none⟩ = some (.string mT) ∧ w'.frozen? ⟨u3.heap.size, 1, none⟩ = false ∧ w'.cell? ⟨u3.heap.size, 2, none⟩ = some (.int .i64 mn) ∧ w'.frozen? ⟨u3.heap.size, 2, none⟩ = false ∧ w'.cell? ⟨u3.heap.size, 3, none⟩ = some (.int .i64 ml) ∧ w'.frozen? ⟨u3.heap.size, 3, none⟩ = false ∧ w'.cell? ⟨u3.heap.size, 4, none⟩ = some (.int .i64 mc) ∧ w'.frozen? ⟨u3.heap.size, 4, none⟩ = false ∧ Below w.heap.size w w') ?_ ?_
     ·(try dsimp only)
      refine ⟨?_, ?_, ?_, ?_, ?_, ?_, ?_, ?_, ?_, ?_, ?_, ?_, ?_, ?_, ?_, ?_, ?_, ?_, ?_, ?_, ?_, ?_, ?_, ?_, ?_, ?_, ?_, ?_, ?_⟩ <;> first | (go_simp; done) | (simp [*]; done) | go_grown
     intro u6 T
     (try dsimp only at T)
     clear hz_0 fz_0 hz_1 fz_1 hz_2 fz_2 hy_0 fy_0 hy_1 fy_1 hy_2 fy_2 hxw0_0 fxw0_0 hxw0_1 fxw0_1 hxw0_2 fxw0_2 htm_0 ftm_0 htm_1 ftm_1 htm_2 ftm_2 htm_3 ftm_3 htm_4 ftm_4 hB hsz hlz hly hlxw0 hltm hnz0 hnz1 hkz1 hnz2 hkz2 hny0 hky1 hnxw00 hnxw01 hkxw01 hnxw02 hkxw02 hntm0 hntm1 hktm1 hntm2 hktm2
     obtain ⟨hz_0, fz_0, hz_1, fz_1, hz_2, fz_2, hy_0, fy_0, hy_1, fy_1, hy_2, fy_2, hxw_0, fxw_0, hxw_1, fxw_1, hxw_2, fxw_2, htm_0, ftm_0, htm_1, ftm_1, htm_2, ftm_2, htm_3, ftm_3, htm_4, ftm_4, hB⟩ := T
     have hsz := hB.size
     have hlz := klt hz_0
     have hly := klt hy_0
     have hlxw := klt hxw_0
     have hltm := klt htm_0
     obtain ⟨hnz0, hnz1, hkz1, hnz2, hkz2⟩ := ap0 hlz
     obtain ⟨hny0, hky1⟩ := ap1 hly
     obtain ⟨hnxw0, hnxw1, hkxw1, hnxw2, hkxw2⟩ := ap0 hlxw
     obtain ⟨hntm0, hntm1, hktm1, hntm2, hktm2⟩ := ap0 hltm
     have he_0 := kc hB pe_0
     have he_1 := kc hB pe_1
     have he_2 := kc hB pe_2
     have he_3 := kc hB pe_3
     have he_4 := kc hB pe_4
     by_cases z4 : ek = 4
     ·subst z4
      by_cases m1 : mn < 1
      ·skip
       have HF := hid (show R = ⟨⟨0, 0, 0⟩, ml, mc, 10⟩ from by rw [← HR.out]; simp [spanR, spanM, maskM, endM, errO, b0, bitsL, m1])
       go_wp2_with fail
       ((with_reducible refine (at_u _ _ _ _ _ _ _).mono ?_); rintro _ v ⟨rfl, hb⟩)
       have T : CF v w.heap.size 0 (.int .i64 0) ∧ CF v w.heap.size 1 (.int .i64 0) ∧ CF v w.heap.size 2 (.int .i64 0) ∧ CF v (w.heap.size + 1) 0 (.int .i64 0) ∧ CF v (w.heap.size + 1) 1 (.int .i64 0) ∧ CF v (w.heap.size + 1) 2 (.int .i64 0) := by
         refine ⟨⟨?_, ?_⟩, ⟨?_, ?_⟩, ⟨?_, ?_⟩, ⟨?_, ?_⟩, ⟨?_, ?_⟩, ⟨?_, ?_⟩⟩ <;> first | (refine kc hb ?_ <;> (go_simp; first | done | rfl)) | (refine kfz hb ?_ ?_ <;> first | (go_size; done) | (go_simp; done))
       have hz := hb.size
       (try simp only [szA] at hz)
       have L : w.heap.size < v.heap.size ∧ w.heap.size + 1 < v.heap.size := by omega
       have hB' : Below w.heap.size w v := by
         refine kb ?_ hb
         go_grown
       clear hz_0 fz_0 hz_1 fz_1 hz_2 fz_2 hy_0 fy_0 hy_1 fy_1 hy_2 fy_2 hxw_0 fxw_0 hxw_1 fxw_1 hxw_2 fxw_2 htm_0 ftm_0 htm_1 ftm_1 htm_2 ftm_2 htm_3 ftm_3 htm_4 ftm_4 hB hsz hlz hly hlxw hltm hnz0 hnz1 hkz1 hnz2 hkz2 hny0 hky1 hnxw0 hnxw1 hkxw1 hnxw2 hkxw2 hntm0 hntm1 hktm1 hntm2 hktm2
       clear hb hz
       obtain ⟨⟨hz_0, fz_0⟩, ⟨hz_1, fz_1⟩, ⟨hz_2, fz_2⟩, ⟨hy_0, fy_0⟩, ⟨hy_1, fy_1⟩, ⟨hy_2, fy_2⟩⟩ := T
       obtain ⟨hlz, hly⟩ := L
       obtain ⟨hnz0, hnz1, hkz1, hnz2, hkz2⟩ := ap0 hlz
       obtain ⟨hny0, hky1⟩ := ap1 hly
       have hB := hB'; clear hB'
       have hsz := hB.size
       (try dsimp only)
       repeat (first | go_values | go_skip | go_guarded | go_step | go_upon)
       refine bodyPost_ret (v := .tuple #[.agg #[.int .i64 0, .int .i64 0, .int .i64 0], .agg #[.int .i64 ml, .int .i64 mc, .int .i64 10]]) (by simp [results, Tryz.results60, go_sem, hz_0, hz_1, hz_2, hy_0, hy_1, hy_2] <;> first | done | rfl) rfl (spEnd_of HF.out (by (repeat (refine Below.setCell ?_ (by first | exact Nat.le_refl _ | exact Nat.le_add_right _ _) _)); exact hB))
      ·skip
       by_cases m2 : 255 < mn
       ·skip
        have HF := hid (show R = ⟨⟨0, 0, 0⟩, ml, mc, 10⟩ from by rw [← HR.out]; simp [spanR, spanM, maskM, endM, errO, b0, bitsL, m2])
        go_wp2_with fail
        ((with_reducible refine (at_u _ _ _ _ _ _ _).mono ?_); rintro _ v ⟨rfl, hb⟩)
        have T : CF v w.heap.size 0 (.int .i64 0) ∧ CF v w.heap.size 1 (.int .i64 0) ∧ CF v w.heap.size 2 (.int .i64 0) ∧ CF v (w.heap.size + 1) 0 (.int .i64 0) ∧ CF v (w.heap.size + 1) 1 (.int .i64 0) ∧ CF v (w.heap.size + 1) 2 (.int .i64 0) := by
          refine ⟨⟨?_, ?_⟩, ⟨?_, ?_⟩, ⟨?_, ?_⟩, ⟨?_, ?_⟩, ⟨?_, ?_⟩, ⟨?_, ?_⟩⟩ <;> first | (refine kc hb ?_ <;> (go_simp; first | done | rfl)) | (refine kfz hb ?_ ?_ <;> first | (go_size; done) | (go_simp; done))
        have hz := hb.size
        (try simp only [szA] at hz)
        have L : w.heap.size < v.heap.size ∧ w.heap.size + 1 < v.heap.size := by omega
        have hB' : Below w.heap.size w v := by
          refine kb ?_ hb
          go_grown
        clear hz_0 fz_0 hz_1 fz_1 hz_2 fz_2 hy_0 fy_0 hy_1 fy_1 hy_2 fy_2 hxw_0 fxw_0 hxw_1 fxw_1 hxw_2 fxw_2 htm_0 ftm_0 htm_1 ftm_1 htm_2 ftm_2 htm_3 ftm_3 htm_4 ftm_4 hB hsz hlz hly hlxw hltm hnz0 hnz1 hkz1 hnz2 hkz2 hny0 hky1 hnxw0 hnxw1 hkxw1 hnxw2 hkxw2 hntm0 hntm1 hktm1 hntm2 hktm2
        clear hb hz
        obtain ⟨⟨hz_0, fz_0⟩, ⟨hz_1, fz_1⟩, ⟨hz_2, fz_2⟩, ⟨hy_0, fy_0⟩, ⟨hy_1, fy_1⟩, ⟨hy_2, fy_2⟩⟩ := T
        obtain ⟨hlz, hly⟩ := L
        obtain ⟨hnz0, hnz1, hkz1, hnz2, hkz2⟩ := ap0 hlz
        obtain ⟨hny0, hky1⟩ := ap1 hly
        have hB := hB'; clear hB'
        have hsz := hB.size
        (try dsimp only)
        repeat (first | go_values | go_skip | go_guarded | go_step | go_upon)
        refine bodyPost_ret (v := .tuple #[.agg #[.int .i64 0, .int .i64 0, .int .i64 0], .agg #[.int .i64 ml, .int .i64 mc, .int .i64 10]]) (by simp [results, Tryz.results60, go_sem, hz_0, hz_1, hz_2, hy_0, hy_1, hy_2] <;> first | done | rfl) rfl (spEnd_of HF.out (by (repeat (refine Below.setCell ?_ (by first | exact Nat.le_refl _ | exact Nat.le_add_right _ _) _)); exact hB))
       ·skip
        obtain ⟨L, hL⟩ : ∃ L, liesB ⟨an, an, mn⟩ (!sk) = L := ⟨_, rfl⟩
        have hL2 : liesB ⟨an, an, mn⟩ sink = L := by rw [← hL, ← HSK.out, Bool.not_not]
        have HL := hid (fun W => hL ▸ liesr_c an an mn sk W)
        have HL2 := hid hL2
        clear hL hL2
        go_wp2_with fail
        ((with_reducible refine (HL.out _).mono ?_); rintro _ v ⟨rfl, hb⟩)
        have T : CF v w.heap.size 0 (.int .i64 0) ∧ CF v w.heap.size 1 (.int .i64 0) ∧ CF v w.heap.size 2 (.int .i64 0) ∧ CF v (w.heap.size + 1) 0 (.int .i64 0) ∧ CF v (w.heap.size + 1) 1 (.int .i64 0) ∧ CF v (w.heap.size + 1) 2 (.int .i64 0) ∧ CF v bx 0 (.int .i64 an) ∧ CF v bx 1 (.int .i64 an) ∧ CF v bx 2 (.int .i64 mn) := by
          refine ⟨⟨?_, ?_⟩, ⟨?_, ?_⟩, ⟨?_, ?_⟩, ⟨?_, ?_⟩, ⟨?_, ?_⟩, ⟨?_, ?_⟩, ⟨?_, ?_⟩, ⟨?_, ?_⟩, ⟨?_, ?_⟩⟩ <;> first | (refine kc hb ?_ <;> (go_simp; first | done | rfl)) | (refine kfz hb ?_ ?_ <;> first | (go_size; done) | (go_simp; done))
        have hz := hb.size
        (try simp only [szA] at hz)
        have L : w.heap.size < v.heap.size ∧ w.heap.size + 1 < v.heap.size ∧ bx < v.heap.size := by omega
        have hB' : Below w.heap.size w v := by
          refine kb ?_ hb
          go_grown
        clear hz_0 fz_0 hz_1 fz_1 hz_2 fz_2 hy_0 fy_0 hy_1 fy_1 hy_2 fy_2 hxw_0 fxw_0 hxw_1 fxw_1 hxw_2 fxw_2 htm_0 ftm_0 htm_1 ftm_1 htm_2 ftm_2 htm_3 ftm_3 htm_4 ftm_4 hB hsz hlz hly hlxw hltm hnz0 hnz1 hkz1 hnz2 hkz2 hny0 hky1 hnxw0 hnxw1 hkxw1 hnxw2 hkxw2 hntm0 hntm1 hktm1 hntm2 hktm2
        clear hb hz
        obtain ⟨⟨hz_0, fz_0⟩, ⟨hz_1, fz_1⟩, ⟨hz_2, fz_2⟩, ⟨hy_0, fy_0⟩, ⟨hy_1, fy_1⟩, ⟨hy_2, fy_2⟩, ⟨hxw_0, fxw_0⟩, ⟨hxw_1, fxw_1⟩, ⟨hxw_2, fxw_2⟩⟩ := T
        obtain ⟨hlz, hly, hlxw⟩ := L
        obtain ⟨hnz0, hnz1, hkz1, hnz2, hkz2⟩ := ap0 hlz
        obtain ⟨hny0, hky1⟩ := ap1 hly
        obtain ⟨hnxw0, hnxw1, hkxw1, hnxw2, hkxw2⟩ := ap0 hlxw
        have hB := hB'; clear hB'
        have hsz := hB.size
        have ha_0 := kc hB HTa.out.1
        have ha_1 := kc hB HTa.out.2.1
        have ha_2 := kc hB HTa.out.2.2.1
        have ha_3 := kc hB HTa.out.2.2.2.1
        have ha_4 := kc hB HTa.out.2.2.2.2
        cases L
        ·skip
         have HF := hid (show R = ⟨⟨0, 0, 0⟩, al, ac, 10⟩ from by rw [← HR.out]; simp [spanR, spanM, maskM, endM, errO, b0, bitsL, show (mn < 1 ∨ 255 < mn) = False from eq_false (by omega), HL2.out])
         go_wp2_with fail
         ((with_reducible refine (at_u _ _ _ _ _ _ _).mono ?_); rintro _ v ⟨rfl, hb⟩)
         have T : CF v w.heap.size 0 (.int .i64 0) ∧ CF v w.heap.size 1 (.int .i64 0) ∧ CF v w.heap.size 2 (.int .i64 0) ∧ CF v (w.heap.size + 1) 0 (.int .i64 0) ∧ CF v (w.heap.size + 1) 1 (.int .i64 0) ∧ CF v (w.heap.size + 1) 2 (.int .i64 0) := by
           refine ⟨⟨?_, ?_⟩, ⟨?_, ?_⟩, ⟨?_, ?_⟩, ⟨?_, ?_⟩, ⟨?_, ?_⟩, ⟨?_, ?_⟩⟩ <;> first | (refine kc hb ?_ <;> (go_simp; first | done | rfl)) | (refine kfz hb ?_ ?_ <;> first | (go_size; done) | (go_simp; done))
         have hz := hb.size
         (try simp only [szA] at hz)
         have L : w.heap.size < v.heap.size ∧ w.heap.size + 1 < v.heap.size := by omega
         have hB' : Below w.heap.size w v := by
           refine kb ?_ hb
           go_grown
         clear hz_0 fz_0 hz_1 fz_1 hz_2 fz_2 hy_0 fy_0 hy_1 fy_1 hy_2 fy_2 hxw_0 fxw_0 hxw_1 fxw_1 hxw_2 fxw_2 hlz hly hlxw hnz0 hnz1 hkz1 hnz2 hkz2 hny0 hky1 hnxw0 hnxw1 hkxw1 hnxw2 hkxw2 hB hsz
         clear hb hz
         obtain ⟨⟨hz_0, fz_0⟩, ⟨hz_1, fz_1⟩, ⟨hz_2, fz_2⟩, ⟨hy_0, fy_0⟩, ⟨hy_1, fy_1⟩, ⟨hy_2, fy_2⟩⟩ := T
         obtain ⟨hlz, hly⟩ := L
         obtain ⟨hnz0, hnz1, hkz1, hnz2, hkz2⟩ := ap0 hlz
         obtain ⟨hny0, hky1⟩ := ap1 hly
         have hB := hB'; clear hB'
         have hsz := hB.size
         (try dsimp only)
         repeat (first | go_values | go_skip | go_guarded | go_step | go_upon)
         refine bodyPost_ret (v := .tuple #[.agg #[.int .i64 0, .int .i64 0, .int .i64 0], .agg #[.int .i64 al, .int .i64 ac, .int .i64 10]]) (by simp [results, Tryz.results60, go_sem, hz_0, hz_1, hz_2, hy_0, hy_1, hy_2] <;> first | done | rfl) rfl (spEnd_of HF.out (by (repeat (refine Below.setCell ?_ (by first | exact Nat.le_refl _ | exact Nat.le_add_right _ _) _)); exact hB))
        ·skip
         have HF := hid (show R = ⟨⟨an, an, mn⟩, 0, 0, 0⟩ from by rw [← HR.out]; simp [spanR, spanM, maskM, endM, errO, b0, bitsL, show (mn < 1 ∨ 255 < mn) = False from eq_false (by omega), HL2.out])
         (try dsimp only)
         repeat (first | go_values | go_skip | go_guarded | go_step | go_upon)
         refine bodyPost_ret (v := .tuple #[.agg #[.int .i64 an, .int .i64 an, .int .i64 mn], .agg #[.int .i64 0, .int .i64 0, .int .i64 0]]) (by simp [results, Tryz.results60, go_sem, hz_0, hz_1, hz_2, hy_0, hy_1, hy_2] <;> first | done | rfl) rfl (spEnd_of HF.out (by (repeat (refine Below.setCell ?_ (by first | exact Nat.le_refl _ | exact Nat.le_add_right _ _) _)); exact hB))
     ·have z4' : (ek == 4) = false := by simpa using z4
      have HF := hid (show R = ⟨⟨0, 0, 0⟩, el, ec, 11⟩ from by rw [← HR.out]; simp [spanR, spanM, maskM, endM, errO, b0, bitsL, z4])
      go_wp2_with fail
      ((with_reducible refine (at_u _ _ _ _ _ _ _).mono ?_); rintro _ v ⟨rfl, hb⟩)
      have T : CF v w.heap.size 0 (.int .i64 0) ∧ CF v w.heap.size 1 (.int .i64 0) ∧ CF v w.heap.size 2 (.int .i64 0) ∧ CF v (w.heap.size + 1) 0 (.int .i64 0) ∧ CF v (w.heap.size + 1) 1 (.int .i64 0) ∧ CF v (w.heap.size + 1) 2 (.int .i64 0) := by
        refine ⟨⟨?_, ?_⟩, ⟨?_, ?_⟩, ⟨?_, ?_⟩, ⟨?_, ?_⟩, ⟨?_, ?_⟩, ⟨?_, ?_⟩⟩ <;> first | (refine kc hb ?_ <;> (go_simp; first | done | rfl)) | (refine kfz hb ?_ ?_ <;> first | (go_size; done) | (go_simp; done))
      have hz := hb.size
      (try simp only [szA] at hz)
      have L : w.heap.size < v.heap.size ∧ w.heap.size + 1 < v.heap.size := by omega
      have hB' : Below w.heap.size w v := by
        refine kb ?_ hb
        go_grown
      clear hz_0 fz_0 hz_1 fz_1 hz_2 fz_2 hy_0 fy_0 hy_1 fy_1 hy_2 fy_2 hxw_0 fxw_0 hxw_1 fxw_1 hxw_2 fxw_2 htm_0 ftm_0 htm_1 ftm_1 htm_2 ftm_2 htm_3 ftm_3 htm_4 ftm_4 hB hsz hlz hly hlxw hltm hnz0 hnz1 hkz1 hnz2 hkz2 hny0 hky1 hnxw0 hnxw1 hkxw1 hnxw2 hkxw2 hntm0 hntm1 hktm1 hntm2 hktm2
      clear hb hz
      obtain ⟨⟨hz_0, fz_0⟩, ⟨hz_1, fz_1⟩, ⟨hz_2, fz_2⟩, ⟨hy_0, fy_0⟩, ⟨hy_1, fy_1⟩, ⟨hy_2, fy_2⟩⟩ := T
      obtain ⟨hlz, hly⟩ := L
      obtain ⟨hnz0, hnz1, hkz1, hnz2, hkz2⟩ := ap0 hlz
      obtain ⟨hny0, hky1⟩ := ap1 hly
      have hB := hB'; clear hB'
      have hsz := hB.size
      (try dsimp only)
      repeat (first | go_values | go_skip | go_guarded | go_step | go_upon)
      refine bodyPost_ret (v := .tuple #[.agg #[.int .i64 0, .int .i64 0, .int .i64 0], .agg #[.int .i64 el, .int .i64 ec, .int .i64 11]]) (by simp [results, Tryz.results60, go_sem, hz_0, hz_1, hz_2, hy_0, hy_1, hy_2] <;> first | done | rfl) rfl (spEnd_of HF.out (by (repeat (refine Below.setCell ?_ (by first | exact Nat.le_refl _ | exact Nat.le_add_right _ _) _)); exact hB))
    ·have m0' : (mk == 2) = false := by simpa using m0
     have HF := hid (show R = ⟨⟨0, 0, 0⟩, ml, mc, 11⟩ from by rw [← HR.out]; simp [spanR, spanM, maskM, endM, errO, b0, m0, bitsL])
     go_wp2_with fail
     ((with_reducible refine (at_u _ _ _ _ _ _ _).mono ?_); rintro _ v ⟨rfl, hb⟩)
     have T : CF v w.heap.size 0 (.int .i64 0) ∧ CF v w.heap.size 1 (.int .i64 0) ∧ CF v w.heap.size 2 (.int .i64 0) ∧ CF v (w.heap.size + 1) 0 (.int .i64 0) ∧ CF v (w.heap.size + 1) 1 (.int .i64 0) ∧ CF v (w.heap.size + 1) 2 (.int .i64 0) := by
       refine ⟨⟨?_, ?_⟩, ⟨?_, ?_⟩, ⟨?_, ?_⟩, ⟨?_, ?_⟩, ⟨?_, ?_⟩, ⟨?_, ?_⟩⟩ <;> first | (refine kc hb ?_ <;> (go_simp; first | done | rfl)) | (refine kfz hb ?_ ?_ <;> first | (go_size; done) | (go_simp; done))
     have hz := hb.size
     (try simp only [szA] at hz)
     have L : w.heap.size < v.heap.size ∧ w.heap.size + 1 < v.heap.size := by omega
     have hB' : Below w.heap.size w v := by
       refine kb ?_ hb
       go_grown
     clear hz_0 fz_0 hz_1 fz_1 hz_2 fz_2 hy_0 fy_0 hy_1 fy_1 hy_2 fy_2 hxw_0 fxw_0 hxw_1 fxw_1 hxw_2 fxw_2 ht_0 ft_0 ht_1 ft_1 ht_2 ft_2 ht_3 ft_3 ht_4 ft_4 hB hsz hlz hly hlxw hlt hnz0 hnz1 hkz1 hnz2 hkz2 hny0 hky1 hnxw0 hnxw1 hkxw1 hnxw2 hkxw2 hnt0 hnt1 hkt1 hnt2 hkt2
     clear hb hz
     obtain ⟨⟨hz_0, fz_0⟩, ⟨hz_1, fz_1⟩, ⟨hz_2, fz_2⟩, ⟨hy_0, fy_0⟩, ⟨hy_1, fy_1⟩, ⟨hy_2, fy_2⟩⟩ := T
     obtain ⟨hlz, hly⟩ := L
     obtain ⟨hnz0, hnz1, hkz1, hnz2, hkz2⟩ := ap0 hlz
     obtain ⟨hny0, hky1⟩ := ap1 hly
     have hB := hB'; clear hB'
     have hsz := hB.size
     (try dsimp only)
     repeat (first | go_values | go_skip | go_guarded | go_step | go_upon)
     refine bodyPost_ret (v := .tuple #[.agg #[.int .i64 0, .int .i64 0, .int .i64 0], .agg #[.int .i64 ml, .int .i64 mc, .int .i64 11]]) (by simp [results, Tryz.results60, go_sem, hz_0, hz_1, hz_2, hy_0, hy_1, hy_2] <;> first | done | rfl) rfl (spEnd_of HF.out (by (repeat (refine Below.setCell ?_ (by first | exact Nat.le_refl _ | exact Nat.le_add_right _ _) _)); exact hB))
   ·have hbt : ((txB bt).toList == [98, 105, 116, 115]) = false := by rw [txB_toList]; exact beq_eq_false_iff_ne.2 hb
    have hbt2 : (txB bt == ⟨#[98, 105, 116, 115]⟩) = false := (txB_beq bt [98, 105, 116, 115]).trans (beq_eq_false_iff_ne.2 hb)
    generalize txB bt = dT at *
    by_cases hd1 : bk = 1
    ·subst hd1
     have HF := hid (show R = ⟨⟨0, 0, 0⟩, bl, bc, 11⟩ from by rw [← HR.out]; simp [spanR, spanM, maskM, endM, errO, b0, hb])
     go_wp2_with fail
     ((with_reducible refine (at_u _ _ _ _ _ _ _).mono ?_); rintro _ v ⟨rfl, hb⟩)
     have T : CF v w.heap.size 0 (.int .i64 0) ∧ CF v w.heap.size 1 (.int .i64 0) ∧ CF v w.heap.size 2 (.int .i64 0) ∧ CF v (w.heap.size + 1) 0 (.int .i64 0) ∧ CF v (w.heap.size + 1) 1 (.int .i64 0) ∧ CF v (w.heap.size + 1) 2 (.int .i64 0) := by
       refine ⟨⟨?_, ?_⟩, ⟨?_, ?_⟩, ⟨?_, ?_⟩, ⟨?_, ?_⟩, ⟨?_, ?_⟩, ⟨?_, ?_⟩⟩ <;> first | (refine kc hb ?_ <;> (go_simp; first | done | rfl)) | (refine kfz hb ?_ ?_ <;> first | (go_size; done) | (go_simp; done))
     have hz := hb.size
     (try simp only [szA] at hz)
     have L : w.heap.size < v.heap.size ∧ w.heap.size + 1 < v.heap.size := by omega
     have hB' : Below w.heap.size w v := by
       refine kb ?_ hb
       go_grown
     clear hz_0 fz_0 hz_1 fz_1 hz_2 fz_2 hy_0 fy_0 hy_1 fy_1 hy_2 fy_2 hxw_0 fxw_0 hxw_1 fxw_1 hxw_2 fxw_2 ht_0 ft_0 ht_1 ft_1 ht_2 ft_2 ht_3 ft_3 ht_4 ft_4 hB hsz hlz hly hlxw hlt hnz0 hnz1 hkz1 hnz2 hkz2 hny0 hky1 hnxw0 hnxw1 hkxw1 hnxw2 hkxw2 hnt0 hnt1 hkt1 hnt2 hkt2
     clear hb hz
     obtain ⟨⟨hz_0, fz_0⟩, ⟨hz_1, fz_1⟩, ⟨hz_2, fz_2⟩, ⟨hy_0, fy_0⟩, ⟨hy_1, fy_1⟩, ⟨hy_2, fy_2⟩⟩ := T
     obtain ⟨hlz, hly⟩ := L
     obtain ⟨hnz0, hnz1, hkz1, hnz2, hkz2⟩ := ap0 hlz
     obtain ⟨hny0, hky1⟩ := ap1 hly
     have hB := hB'; clear hB'
     have hsz := hB.size
     (try dsimp only)
     repeat (first | go_values | go_skip | go_guarded | go_step | go_upon)
     refine bodyPost_ret (v := .tuple #[.agg #[.int .i64 0, .int .i64 0, .int .i64 0], .agg #[.int .i64 bl, .int .i64 bc, .int .i64 11]]) (by simp [results, Tryz.results60, go_sem, hz_0, hz_1, hz_2, hy_0, hy_1, hy_2] <;> first | done | rfl) rfl (spEnd_of HF.out (by (repeat (refine Below.setCell ?_ (by first | exact Nat.le_refl _ | exact Nat.le_add_right _ _) _)); exact hB))
    ·have hd1' : (bk == 1) = false := by simpa using hd1
     clear hTaw hga hgu
     by_cases z4 : bk = 4
     ·subst z4
      obtain ⟨L, hL⟩ : ∃ L, liesB ⟨an, an, 255⟩ (!sk) = L := ⟨_, rfl⟩
      have hL2 : liesB ⟨an, an, 255⟩ sink = L := by rw [← hL, ← HSK.out, Bool.not_not]
      have HL := hid (fun W => hL ▸ liesr_c an an 255 sk W)
      have HL2 := hid hL2
      clear hL hL2
      go_wp2_with fail
      ((with_reducible refine (HL.out _).mono ?_); rintro _ v ⟨rfl, hb⟩)
      have T : CF v w.heap.size 0 (.int .i64 0) ∧ CF v w.heap.size 1 (.int .i64 0) ∧ CF v w.heap.size 2 (.int .i64 0) ∧ CF v (w.heap.size + 1) 0 (.int .i64 0) ∧ CF v (w.heap.size + 1) 1 (.int .i64 0) ∧ CF v (w.heap.size + 1) 2 (.int .i64 0) ∧ CF v bx 0 (.int .i64 an) ∧ CF v bx 1 (.int .i64 an) ∧ CF v bx 2 (.int .i64 255) := by
        refine ⟨⟨?_, ?_⟩, ⟨?_, ?_⟩, ⟨?_, ?_⟩, ⟨?_, ?_⟩, ⟨?_, ?_⟩, ⟨?_, ?_⟩, ⟨?_, ?_⟩, ⟨?_, ?_⟩, ⟨?_, ?_⟩⟩ <;> first | (refine kc hb ?_ <;> (go_simp; first | done | rfl)) | (refine kfz hb ?_ ?_ <;> first | (go_size; done) | (go_simp; done))
      have hz := hb.size
      (try simp only [szA] at hz)
      have L : w.heap.size < v.heap.size ∧ w.heap.size + 1 < v.heap.size ∧ bx < v.heap.size := by omega
      have hB' : Below w.heap.size w v := by
        refine kb ?_ hb
        go_grown
      clear hz_0 fz_0 hz_1 fz_1 hz_2 fz_2 hy_0 fy_0 hy_1 fy_1 hy_2 fy_2 hxw_0 fxw_0 hxw_1 fxw_1 hxw_2 fxw_2 ht_0 ft_0 ht_1 ft_1 ht_2 ft_2 ht_3 ft_3 ht_4 ft_4 hB hsz hlz hly hlxw hlt hnz0 hnz1 hkz1 hnz2 hkz2 hny0 hky1 hnxw0 hnxw1 hkxw1 hnxw2 hkxw2 hnt0 hnt1 hkt1 hnt2 hkt2
      clear hb hz
      obtain ⟨⟨hz_0, fz_0⟩, ⟨hz_1, fz_1⟩, ⟨hz_2, fz_2⟩, ⟨hy_0, fy_0⟩, ⟨hy_1, fy_1⟩, ⟨hy_2, fy_2⟩, ⟨hxw_0, fxw_0⟩, ⟨hxw_1, fxw_1⟩, ⟨hxw_2, fxw_2⟩⟩ := T
      obtain ⟨hlz, hly, hlxw⟩ := L
      obtain ⟨hnz0, hnz1, hkz1, hnz2, hkz2⟩ := ap0 hlz
      obtain ⟨hny0, hky1⟩ := ap1 hly
      obtain ⟨hnxw0, hnxw1, hkxw1, hnxw2, hkxw2⟩ := ap0 hlxw
      have hB := hB'; clear hB'
      have hsz := hB.size
      have ha_0 := kc hB HTa.out.1
      have ha_1 := kc hB HTa.out.2.1
      have ha_2 := kc hB HTa.out.2.2.1
      have ha_3 := kc hB HTa.out.2.2.2.1
      have ha_4 := kc hB HTa.out.2.2.2.2
      cases L
      ·skip
       have HF := hid (show R = ⟨⟨0, 0, 0⟩, al, ac, 10⟩ from by rw [← HR.out]; simp [spanR, spanM, maskM, endM, errO, b0, hb, HL2.out])
       go_wp2_with fail
       ((with_reducible refine (at_u _ _ _ _ _ _ _).mono ?_); rintro _ v ⟨rfl, hb⟩)
       have T : CF v w.heap.size 0 (.int .i64 0) ∧ CF v w.heap.size 1 (.int .i64 0) ∧ CF v w.heap.size 2 (.int .i64 0) ∧ CF v (w.heap.size + 1) 0 (.int .i64 0) ∧ CF v (w.heap.size + 1) 1 (.int .i64 0) ∧ CF v (w.heap.size + 1) 2 (.int .i64 0) := by
         refine ⟨⟨?_, ?_⟩, ⟨?_, ?_⟩, ⟨?_, ?_⟩, ⟨?_, ?_⟩, ⟨?_, ?_⟩, ⟨?_, ?_⟩⟩ <;> first | (refine kc hb ?_ <;> (go_simp; first | done | rfl)) | (refine kfz hb ?_ ?_ <;> first | (go_size; done) | (go_simp; done))
       have hz := hb.size
       (try simp only [szA] at hz)
       have L : w.heap.size < v.heap.size ∧ w.heap.size + 1 < v.heap.size := by omega
       have hB' : Below w.heap.size w v := by
         refine kb ?_ hb
         go_grown
       clear hz_0 fz_0 hz_1 fz_1 hz_2 fz_2 hy_0 fy_0 hy_1 fy_1 hy_2 fy_2 hxw_0 fxw_0 hxw_1 fxw_1 hxw_2 fxw_2 hlz hly hlxw hnz0 hnz1 hkz1 hnz2 hkz2 hny0 hky1 hnxw0 hnxw1 hkxw1 hnxw2 hkxw2 hB hsz
       clear hb hz
       obtain ⟨⟨hz_0, fz_0⟩, ⟨hz_1, fz_1⟩, ⟨hz_2, fz_2⟩, ⟨hy_0, fy_0⟩, ⟨hy_1, fy_1⟩, ⟨hy_2, fy_2⟩⟩ := T
       obtain ⟨hlz, hly⟩ := L
       obtain ⟨hnz0, hnz1, hkz1, hnz2, hkz2⟩ := ap0 hlz
       obtain ⟨hny0, hky1⟩ := ap1 hly
       have hB := hB'; clear hB'
       have hsz := hB.size
       (try dsimp only)
       repeat (first | go_values | go_skip | go_guarded | go_step | go_upon)
       refine bodyPost_ret (v := .tuple #[.agg #[.int .i64 0, .int .i64 0, .int .i64 0], .agg #[.int .i64 al, .int .i64 ac, .int .i64 10]]) (by simp [results, Tryz.results60, go_sem, hz_0, hz_1, hz_2, hy_0, hy_1, hy_2] <;> first | done | rfl) rfl (spEnd_of HF.out (by (repeat (refine Below.setCell ?_ (by first | exact Nat.le_refl _ | exact Nat.le_add_right _ _) _)); exact hB))
      ·skip
       have HF := hid (show R = ⟨⟨an, an, 255⟩, 0, 0, 0⟩ from by rw [← HR.out]; simp [spanR, spanM, maskM, endM, errO, b0, hb, HL2.out])
       (try dsimp only)
       repeat (first | go_values | go_skip | go_guarded | go_step | go_upon)
       refine bodyPost_ret (v := .tuple #[.agg #[.int .i64 an, .int .i64 an, .int .i64 255], .agg #[.int .i64 0, .int .i64 0, .int .i64 0]]) (by simp [results, Tryz.results60, go_sem, hz_0, hz_1, hz_2, hy_0, hy_1, hy_2] <;> first | done | rfl) rfl (spEnd_of HF.out (by (repeat (refine Below.setCell ?_ (by first | exact Nat.le_refl _ | exact Nat.le_add_right _ _) _)); exact hB))
     ·have z4' : (bk == 4) = false := by simpa using z4
      have HF := hid (show R = ⟨⟨0, 0, 0⟩, bl, bc, 11⟩ from by rw [← HR.out]; simp [spanR, spanM, maskM, endM, errO, b0, hb, z4])
      go_wp2_with fail
      ((with_reducible refine (at_u _ _ _ _ _ _ _).mono ?_); rintro _ v ⟨rfl, hb⟩)
      have T : CF v w.heap.size 0 (.int .i64 0) ∧ CF v w.heap.size 1 (.int .i64 0) ∧ CF v w.heap.size 2 (.int .i64 0) ∧ CF v (w.heap.size + 1) 0 (.int .i64 0) ∧ CF v (w.heap.size + 1) 1 (.int .i64 0) ∧ CF v (w.heap.size + 1) 2 (.int .i64 0) := by
        refine ⟨⟨?_, ?_⟩, ⟨?_, ?_⟩, ⟨?_, ?_⟩, ⟨?_, ?_⟩, ⟨?_, ?_⟩, ⟨?_, ?_⟩⟩ <;> first | (refine kc hb ?_ <;> (go_simp; first | done | rfl)) | (refine kfz hb ?_ ?_ <;> first | (go_size; done) | (go_simp; done))
      have hz := hb.size
      (try simp only [szA] at hz)
      have L : w.heap.size < v.heap.size ∧ w.heap.size + 1 < v.heap.size := by omega
      have hB' : Below w.heap.size w v := by
        refine kb ?_ hb
        go_grown
      clear hz_0 fz_0 hz_1 fz_1 hz_2 fz_2 hy_0 fy_0 hy_1 fy_1 hy_2 fy_2 hxw_0 fxw_0 hxw_1 fxw_1 hxw_2 fxw_2 ht_0 ft_0 ht_1 ft_1 ht_2 ft_2 ht_3 ft_3 ht_4 ft_4 hB hsz hlz hly hlxw hlt hnz0 hnz1 hkz1 hnz2 hkz2 hny0 hky1 hnxw0 hnxw1 hkxw1 hnxw2 hkxw2 hnt0 hnt1 hkt1 hnt2 hkt2
      clear hb hz
      obtain ⟨⟨hz_0, fz_0⟩, ⟨hz_1, fz_1⟩, ⟨hz_2, fz_2⟩, ⟨hy_0, fy_0⟩, ⟨hy_1, fy_1⟩, ⟨hy_2, fy_2⟩⟩ := T
      obtain ⟨hlz, hly⟩ := L
      obtain ⟨hnz0, hnz1, hkz1, hnz2, hkz2⟩ := ap0 hlz
      obtain ⟨hny0, hky1⟩ := ap1 hly
      have hB := hB'; clear hB'
      have hsz := hB.size
      (try dsimp only)
      repeat (first | go_values | go_skip | go_guarded | go_step | go_upon)
      refine bodyPost_ret (v := .tuple #[.agg #[.int .i64 0, .int .i64 0, .int .i64 0], .agg #[.int .i64 bl, .int .i64 bc, .int .i64 11]]) (by simp [results, Tryz.results60, go_sem, hz_0, hz_1, hz_2, hy_0, hy_1, hy_2] <;> first | done | rfl) rfl (spEnd_of HF.out (by (repeat (refine Below.setCell ?_ (by first | exact Nat.le_refl _ | exact Nat.le_add_right _ _) _)); exact hB))
 ·have h0' : (ak == 2) = false := by simpa using h0
  have HF := hid (show R = ⟨⟨0, 0, 0⟩, al, ac, 11⟩ from by rw [← HR.out]; simp [spanR, spanM, maskM, endM, errO, h0])
  go_enter Tryz.func60, Tryz.ntmps60
  go_wp2_with fail
  ((with_reducible refine (at_u _ _ _ _ _ _ _).mono ?_); rintro _ v ⟨rfl, hb⟩)
  have T : CF v w.heap.size 0 (.int .i64 0) ∧ CF v w.heap.size 1 (.int .i64 0) ∧ CF v w.heap.size 2 (.int .i64 0) ∧ CF v (w.heap.size + 1) 0 (.int .i64 0) ∧ CF v (w.heap.size + 1) 1 (.int .i64 0) ∧ CF v (w.heap.size + 1) 2 (.int .i64 0) := by
    refine ⟨⟨?_, ?_⟩, ⟨?_, ?_⟩, ⟨?_, ?_⟩, ⟨?_, ?_⟩, ⟨?_, ?_⟩, ⟨?_, ?_⟩⟩ <;> first | (refine kc hb ?_ <;> (go_simp; first | done | rfl)) | (refine kfz hb ?_ ?_ <;> first | (go_size; done) | (go_simp; done))
  have hz := hb.size
  (try simp only [szA] at hz)
  have L : w.heap.size < v.heap.size ∧ w.heap.size + 1 < v.heap.size := by omega
  have hB' : Below w.heap.size w v := by
    refine kb ?_ hb
    go_grown
  clear hb hz
  obtain ⟨⟨hz_0, fz_0⟩, ⟨hz_1, fz_1⟩, ⟨hz_2, fz_2⟩, ⟨hy_0, fy_0⟩, ⟨hy_1, fy_1⟩, ⟨hy_2, fy_2⟩⟩ := T
  obtain ⟨hlz, hly⟩ := L
  obtain ⟨hnz0, hnz1, hkz1, hnz2, hkz2⟩ := ap0 hlz
  obtain ⟨hny0, hky1⟩ := ap1 hly
  have hB := hB'; clear hB'
  have hsz := hB.size
  (try dsimp only)
  repeat (first | go_values | go_skip | go_guarded | go_step | go_upon)
  refine bodyPost_ret (v := .tuple #[.agg #[.int .i64 0, .int .i64 0, .int .i64 0], .agg #[.int .i64 al, .int .i64 ac, .int .i64 11]]) (by simp [results, Tryz.results60, go_sem, hz_0, hz_1, hz_2, hy_0, hy_1, hy_2] <;> first | done | rfl) rfl (spEnd_of HF.out (by (repeat (refine Below.setCell ?_ (by first | exact Nat.le_refl _ | exact Nat.le_add_right _ _) _)); exact hB))
end Go.Proofs.YtjcmblbnbpikfaaGreatDoor
