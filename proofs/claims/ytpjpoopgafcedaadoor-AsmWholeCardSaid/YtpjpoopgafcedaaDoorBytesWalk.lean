/-
  AsmBytes returns true: the walk.
-/
import Derived.Test.YtpjpoopgafcedaaDoorAwake5
import Derived.Test.YtpjpoopgafcedaaDoorLawKit
import Derived.Test.YtpjpoopgafcedaaDoorPlanT
set_option linter.unusedSimpArgs false
set_option linter.unusedVariables false
namespace Go.Proofs.YtpjpoopgafcedaaDoor
open Go.RowKit Go.PlainAid Go.Joins

theorem HoldsC.holds {w : World} {v : Value} {l : List Int} (h : HoldsC w v l) : Holds w v l := And.left h
theorem bytes_len (b : Nat) (n a : Int) : (bytesL b n a).length ≤ 3 := by
  unfold bytesL
  split
  · unfold bytesLk
    split; simp; split; simp; split; simp; split <;> simp
  · simp
theorem read_op (l : List Int) (hb : ∀ x ∈ l, 0 ≤ x ∧ x < 256) (a : Int) : 0 ≤ (readD l a).o ∧ (readD l a).o < 256 := by
  unfold readD
  split
  · simp
  · split
    · simp
    · rename_i _ b r
      have hx := hb b (by simp)
      split
      · simp
      · unfold readM
        split; simp; split; simp; split
        · split
          · exact ⟨hx.1, hx.2⟩
          · simp
        · split; exact hx; split <;> exact hx
set_option maxRecDepth 100000 in
set_option maxHeartbeats 1000000 in
theorem bytes_long (b : Nat) (n : Int) (p : Option Addr) (L c : Nat) (a : Int) (h : ¬ L ≤ 10) (w : World) (hl : Laid w) : Calls Tryd.prog 4 #[.agg #[.int .u8 b, .int .i64 n], .slice p L c, .int .i64 a] w (LawEnd w) := by
  have hd : decide ((10 : Int) < (L : Int)) = true := decide_eq_true (by omega)
  have HA := Lib.hid awake_c
  clear h
  go_enter Tryd.func4, Tryd.ntmps4
  go_wp2_with fail
  ((with_reducible refine (HA.out _ (hl.below (by go_grown))).mono ?_); rintro _ u ⟨rfl, hb⟩)
  have hz := hb.size
  (try simp only [World.size_alloc, World.size_setCell, World.size_drew] at hz)
  have hB' : Below w.heap.size w u := by
      refine kb ?_ hb
      go_grown
  clear hb hz
  have hB := hB'; clear hB'
  have hsz := hB.size
  go_wp2
  go_ret
  exact ⟨rfl, by go_grown⟩
set_option maxRecDepth 100000 in
set_option maxHeartbeats 4000000 in
theorem bytes_short (b : Nat) (hb : b < 256) (n : Int) (l : List Int) (hbs : ∀ x ∈ l, 0 ≤ x ∧ x < 256) (p : Option Addr) (c : Nat) (a : Int) (h : l.length ≤ 10) (w : World) (hv : HoldsC w (.slice p l.length c) l) (hl : Laid w) :
    Calls Tryd.prog 4 #[.agg #[.int .u8 b, .int .i64 n], .slice p l.length c, .int .i64 a] w (LawEnd w) := by
  have hd : decide ((10 : Int) < (l.length : Int)) = false := decide_eq_false (by omega)
  have HA := Lib.hid awake_c
  have HB := Lib.hid (fun W hl => bytp_c b hb n a W hl)
  have HD := Lib.hid (fun W => bytes_c b hb n a W)
  have HP := Lib.hid (fun W => plain_c (b : Int) n (by omega) W)
  have HR := Lib.hid (fun W hv hl => readp_c l hbs (.slice p l.length c) a W hv hl)
  have HE := Lib.hid (fun W hv => read_c l hbs (.slice p l.length c) a W hv)
  have HO := Lib.hid (fun W => plain_c (readD l a).o (readD l a).n (read_op l hbs a) W)
  have hlen := bytes_len b n a
  generalize bytesL b n a = X at *
  generalize bytesE b n a = E at *
  generalize readD l a = R at *
  obtain ⟨o, m, k, e⟩ := R
  unfold ReadEndP at HR
  unfold ReadEnd at HE
  dsimp only at HR HE HO
  clear h
  go_enter Tryd.func4, Tryd.ntmps4
  go_wp2_with fail
  ((with_reducible refine (HB.out _ (hl.below (by go_grown))).mono ?_); rintro _ u1 ⟨v1, rfl, hown1, hb⟩)
  have hs_u1 := Lib.hid hb
  have T : u1.cell? ⟨w.heap.size, 0, none⟩ = some (.int .u8 b) ∧ u1.cell? ⟨w.heap.size, 1, none⟩ = some (.int .i64 n) := by
      refine ⟨?_, ?_⟩ <;> refine kc hb ?_ <;> (go_simp; first | done | rfl)
  have hz := hb.size
  (try simp only [World.size_alloc, World.size_setCell, World.size_drew] at hz)
  have hlx' : w.heap.size < u1.heap.size := by omega
  have hB' : Below w.heap.size w u1 := by
      refine kb ?_ hb
      go_grown
  clear hb hz
  obtain ⟨hx_0, hx_1⟩ := T
  have hlx := hlx'; clear hlx'
  have hnx0 : ¬ (w.heap.size = u1.heap.size) := by omega
  have hnx1 : ¬ (w.heap.size = u1.heap.size + 1) := by omega
  have hkx1 : w.heap.size < u1.heap.size + 1 := by omega
  have hnx2 : ¬ (w.heap.size = u1.heap.size + 1 + 1) := by omega
  have hkx2 : w.heap.size < u1.heap.size + 1 + 1 := by omega
  have hB := hB'; clear hB'
  have hsz := hB.size
  have H1 := Lib.hid (holds_own hown1)
  clear hown1
  go_wp2_with fail
  ((with_reducible refine (HP.out _).mono ?_); rintro _ u2 ⟨rfl, hb⟩)
  have hs_u2 := Lib.hid hb
  have T : u2.cell? ⟨w.heap.size, 0, none⟩ = some (.int .u8 b) ∧ u2.cell? ⟨w.heap.size, 1, none⟩ = some (.int .i64 n) := by
      refine ⟨?_, ?_⟩ <;> refine kc hb ?_ <;> (go_simp; first | done | rfl)
  have hz := hb.size
  (try simp only [World.size_alloc, World.size_setCell, World.size_drew] at hz)
  have hlx' : w.heap.size < u2.heap.size := by omega
  have hB' : Below w.heap.size w u2 := by
      refine kb ?_ hb
      go_grown
  clear hx_0 hx_1 hlx hnx0 hnx1 hkx1 hnx2 hkx2 hB hsz
  clear hb hz
  obtain ⟨hx_0, hx_1⟩ := T
  have hlx := hlx'; clear hlx'
  have hnx0 : ¬ (w.heap.size = u2.heap.size) := by omega
  have hnx1 : ¬ (w.heap.size = u2.heap.size + 1) := by omega
  have hkx1 : w.heap.size < u2.heap.size + 1 := by omega
  have hnx2 : ¬ (w.heap.size = u2.heap.size + 1 + 1) := by omega
  have hkx2 : w.heap.size < u2.heap.size + 1 + 1 := by omega
  have hB := hB'; clear hB'
  have hsz := hB.size
  have H2 := Lib.hid (H1.out.below (kb (by go_grown) hs_u2.out))
  clear hs_u1 hs_u2 H1
  go_wp2_with fail
  ((with_reducible refine (HD.out _).mono ?_); rintro _ u3 ⟨v2, rfl, hown2, hb⟩)
  have hs_u3 := Lib.hid hb
  have T : u3.cell? ⟨w.heap.size, 0, none⟩ = some (.int .u8 b) ∧ u3.cell? ⟨w.heap.size, 1, none⟩ = some (.int .i64 n) := by
      refine ⟨?_, ?_⟩ <;> refine kc hb ?_ <;> (go_simp; first | done | rfl)
  have hz := hb.size
  (try simp only [World.size_alloc, World.size_setCell, World.size_drew] at hz)
  have hlx' : w.heap.size < u3.heap.size := by omega
  have hB' : Below w.heap.size w u3 := by
      refine kb ?_ hb
      go_grown
  clear hx_0 hx_1 hlx hnx0 hnx1 hkx1 hnx2 hkx2 hB hsz
  clear hb hz
  obtain ⟨hx_0, hx_1⟩ := T
  have hlx := hlx'; clear hlx'
  have hnx0 : ¬ (w.heap.size = u3.heap.size) := by omega
  have hnx1 : ¬ (w.heap.size = u3.heap.size + 1) := by omega
  have hkx1 : w.heap.size < u3.heap.size + 1 := by omega
  have hnx2 : ¬ (w.heap.size = u3.heap.size + 1 + 1) := by omega
  have hkx2 : w.heap.size < u3.heap.size + 1 + 1 := by omega
  have hB := hB'; clear hB'
  have hsz := hB.size
  have H3 := Lib.hid (H2.out.below (kb (by go_grown) hs_u3.out))
  have K3 := Lib.hid (holds_own hown2)
  clear hown2 hs_u3 H2
  go_wp2_with fail
  ((with_reducible refine (HR.out _ (hv.below (by go_grown)) (hl.below (by go_grown))).mono ?_); rintro _ u4 ⟨rfl, hb⟩)
  have hs_u4 := Lib.hid hb
  have T : u4.cell? ⟨w.heap.size, 0, none⟩ = some (.int .u8 b) ∧ u4.cell? ⟨w.heap.size, 1, none⟩ = some (.int .i64 n) := by
      refine ⟨?_, ?_⟩ <;> refine kc hb ?_ <;> (go_simp; first | done | rfl)
  have hz := hb.size
  (try simp only [World.size_alloc, World.size_setCell, World.size_drew] at hz)
  have hlx' : w.heap.size < u4.heap.size := by omega
  have hB' : Below w.heap.size w u4 := by
      refine kb ?_ hb
      go_grown
  clear hx_0 hx_1 hlx hnx0 hnx1 hkx1 hnx2 hkx2 hB hsz
  clear hb hz
  obtain ⟨hx_0, hx_1⟩ := T
  have hlx := hlx'; clear hlx'
  have hnx0 : ¬ (w.heap.size = u4.heap.size) := by omega
  have hnx1 : ¬ (w.heap.size = u4.heap.size + 1) := by omega
  have hkx1 : w.heap.size < u4.heap.size + 1 := by omega
  have hnx2 : ¬ (w.heap.size = u4.heap.size + 1 + 1) := by omega
  have hkx2 : w.heap.size < u4.heap.size + 1 + 1 := by omega
  have hB := hB'; clear hB'
  have hsz := hB.size
  have H4 := Lib.hid (H3.out.below (kb (by go_grown) hs_u4.out))
  have K4 := Lib.hid (K3.out.below (kb (by go_grown) hs_u4.out))
  clear hs_u4 H3 K3
  go_wp2_with fail
  ((with_reducible refine (HE.out _ (hv.holds.below (by go_grown))).mono ?_); rintro _ u5 ⟨rfl, hb⟩)
  have hs_u5 := Lib.hid hb
  have T : u5.cell? ⟨w.heap.size, 0, none⟩ = some (.int .u8 b) ∧ u5.cell? ⟨w.heap.size, 1, none⟩ = some (.int .i64 n) ∧ u5.cell? ⟨u4.heap.size, 0, none⟩ = some (.int .u8 o) ∧ u5.cell? ⟨u4.heap.size, 1, none⟩ = some (.int .i64 m) := by
      refine ⟨?_, ?_, ?_, ?_⟩ <;> refine kc hb ?_ <;> (go_simp; first | done | rfl)
  have hz := hb.size
  (try simp only [World.size_alloc, World.size_setCell, World.size_drew] at hz)
  have hlx' : w.heap.size < u5.heap.size := by omega
  have hly' : u4.heap.size < u5.heap.size := by omega
  have hB' : Below w.heap.size w u5 := by
      refine kb ?_ hb
      go_grown
  clear hx_0 hx_1 hlx hnx0 hnx1 hkx1 hnx2 hkx2 hB hsz
  clear hb hz
  obtain ⟨hx_0, hx_1, hy_0, hy_1⟩ := T
  have hlx := hlx'; clear hlx'
  have hly := hly'; clear hly'
  have hnx0 : ¬ (w.heap.size = u5.heap.size) := by omega
  have hnx1 : ¬ (w.heap.size = u5.heap.size + 1) := by omega
  have hkx1 : w.heap.size < u5.heap.size + 1 := by omega
  have hnx2 : ¬ (w.heap.size = u5.heap.size + 1 + 1) := by omega
  have hkx2 : w.heap.size < u5.heap.size + 1 + 1 := by omega
  have hny0 : ¬ (u4.heap.size = u5.heap.size) := by omega
  have hny1 : ¬ (u4.heap.size = u5.heap.size + 1) := by omega
  have hky1 : u4.heap.size < u5.heap.size + 1 := by omega
  have hny2 : ¬ (u4.heap.size = u5.heap.size + 1 + 1) := by omega
  have hky2 : u4.heap.size < u5.heap.size + 1 + 1 := by omega
  have hB := hB'; clear hB'
  have hsz := hB.size
  have H5 := Lib.hid (H4.out.below (kb (by go_grown) hs_u5.out))
  have K5 := Lib.hid (K4.out.below (kb (by go_grown) hs_u5.out))
  clear hs_u5 H4 K4
  go_wp2_with fail
  have hl5 := Lib.hid (hl.below hB)
  have hB5 := Lib.hid hB
  obtain ⟨N, hN⟩ : ∃ N, N = u5.heap.size := ⟨_, rfl⟩
  have hbase : N ≤ u5.heap.size := by omega
  have HBN := Lib.hid (fun W (h : Below N u5 W) => show Below u5.heap.size u5 W from hN ▸ h)
  have HS := Lib.hid (fun W (h : Below N u5 W) => show Calls Tryd.prog 20 #[v1, v2] W fun e w' => e = .returned (.bool true) ∧ Below W.heap.size W w' from by
    have := same_c v1 v2 X X W (H5.out.below (HBN.out W h)) (K5.out.below (HBN.out W h)) (by omega)
    rw [show (X == X) = true from by simp] at this
    exact this)
  clear H5 K5 hlen
  refine wp_region_plan (fun w' => w'.cell? ⟨u4.heap.size, 0, none⟩ = some (.int .u8 o) ∧ w'.cell? ⟨u4.heap.size, 1, none⟩ = some (.int .i64 m) ∧ w'.cell? ⟨u5.heap.size, 0, none⟩ = some (.int .i64 o) ∧ w'.cell? ⟨u5.heap.size, 1, none⟩ = some (.int .i64 m) ∧ Below N u5 w') (by kernel_rfl) (by kernel_rfl) (by kernel_rfl) ?_ ?_
  · (try dsimp only)
    refine ⟨?_, ?_, ?_, ?_, ?_⟩ <;> first | (go_simp; done) | (simp [*]; done) | go_grown
  repeat (first
    | (refine Plan.val (v := ?_) ?_ ?_ ?_; rotate_left; (· rfl); (· (intro W hSw; (try dsimp only at hSw); go_simp; all_goals (first | (with_reducible rfl) | (constructor <;> (with_reducible rfl))))); (try simp only [Act.put, List.setIfInBounds_toArray, List.set_cons_zero, List.set_cons_succ]))
    | (refine Plan.no ?_ ?_; (· rfl); (try simp only [Act.put, List.setIfInBounds_toArray, List.set_cons_zero, List.set_cons_succ]))
    | (refine Plan.call (v := ?_) (f := ?_) (args := ?_) ?_ ?_ ?_ ?_; rotate_left 3; (· rfl); (· (intro W hSw; (try dsimp only at hSw); go_simp; all_goals (first | (with_reducible rfl) | (constructor <;> (with_reducible rfl))))); (· (intro W hSw; (try dsimp only at hSw); first | (go_at_call 20; ((with_reducible refine (HS.out _ hSw.2.2.2.2).mono ?_); rintro _ wz ⟨rfl, hb⟩; (refine ⟨?_, ?_⟩; (· with_reducible rfl); exact ⟨kc hb hSw.1, kc hb hSw.2.1, kc hb hSw.2.2.1, kc hb hSw.2.2.2.1, kbn hbase hSw.2.2.2.2 hb⟩))) | (go_at_call 12; ((with_reducible refine (HO.out _).mono ?_); rintro _ wz ⟨rfl, hb⟩; (refine ⟨?_, ?_⟩; (· with_reducible rfl); exact ⟨kc hb hSw.1, kc hb hSw.2.1, kc hb hSw.2.2.1, kc hb hSw.2.2.2.1, kbn hbase hSw.2.2.2.2 hb⟩))) | (go_at_call 9; ((with_reducible refine (HA.out _ (hl5.out.below (HBN.out _ hSw.2.2.2.2))).mono ?_); rintro _ wz ⟨rfl, hb⟩; (refine ⟨?_, ?_⟩; (· with_reducible rfl); exact ⟨kc hb hSw.1, kc hb hSw.2.1, kc hb hSw.2.2.1, kc hb hSw.2.2.2.1, kbn hbase hSw.2.2.2.2 hb⟩))))); (try simp only [Act.put, List.setIfInBounds_toArray, List.set_cons_zero, List.set_cons_succ])))
  refine Plan.done ?_
  intro wz T
  (try dsimp only at T)
  have hBe := T.2.2.2.2
  go_wp2
  go_ret
  exact ⟨rfl, kb hB5.out (HBN.out _ hBe)⟩
theorem bytes_walk (b : Nat) (hb : b < 256) (n : Int) (l : List Int) (hbs : ∀ x ∈ l, 0 ≤ x ∧ x < 256) (v : Value) (a : Int) (w : World) (hv : HoldsC w v l) (hl : Laid w) :
    Calls Tryd.prog 4 #[.agg #[.int .u8 b, .int .i64 n], v, .int .i64 a] w (LawEnd w) := by
  obtain ⟨p, c, rfl, _⟩ := hv.holds.form
  by_cases h : l.length ≤ 10
  · exact bytes_short b hb n l hbs p c a h w hv hl
  · exact bytes_long b n p l.length c a h w hl
end Go.Proofs.YtpjpoopgafcedaaDoor
