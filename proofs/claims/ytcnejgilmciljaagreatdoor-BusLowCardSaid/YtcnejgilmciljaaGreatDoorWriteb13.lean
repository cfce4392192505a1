/-
  The program's bus: Write (genrw13.py writes it).
-/
import Derived.Test.YtcnejgilmciljaaGreatDoorReadb13
import Derived.Test.YtcnejgilmciljaaGreatDoorDevw13
import Derived.Test.YtcnejgilmciljaaGreatDoorMemV13
set_option linter.unusedSimpArgs false
set_option linter.unusedVariables false
namespace Go.Proofs.YtcnejgilmciljaaGreatDoor
open Go.RowKit Go.PlainAid

theorem wrE_sec {reg t : Int} (h : 0 ≤ reg ∧ reg ≤ 2) (ht : t ≠ 0) : wrE reg t = (4, 20) := by unfold wrE; rw [if_neg (fun hn => hn h), if_pos ht]
theorem wrE_ok {reg : Int} (h : 0 ≤ reg ∧ reg ≤ 2) : wrE reg 0 = (0, 0) := by unfold wrE; rw [if_neg (fun hn => hn h), if_neg (fun hn => hn rfl)]
theorem wrS_sec {R : Wh} {reg v t : Int} (ht : t ≠ 0) : wrS R reg v t = R := by unfold wrS; rw [if_neg (fun h => ht h.2)]
section
variable {bb mb mbb pb wb : Nat} {B : Bs} {F G : Nat → Prop} {w : World}
set_option maxRecDepth 100000 in
set_option maxHeartbeats 4000000 in
theorem busw_nosec (h : Pb bb mb mbb pb wb B F G w) (hB : B.May) (hL : Laid w) (a v t : Int) (hv : 0 ≤ v ∧ v ≤ 255) (ht : 0 ≤ t ∧ t ≤ 255) (h1 : 32780 ≤ a) (h2 : a ≤ 32783) (hz : t ≠ 0) :
    Calls Tryz.prog 11 #[.pointer (some ⟨bb, 0, none⟩), .int .i64 a, .agg #[.int .u8 v, .int .u8 t]] w (BgEnd bb mb mbb pb wb F G (wrBV (4, 20)) B w) := by
  have HF := Lib.hid (find_not a h1 h2)
  have HR := Lib.hid (fun W (hP : Pb bb mb mbb pb wb B F G W) (hW : Below w.heap.size w W) => bgEnd_below hP (by have := writenot_c (some ⟨bb, 0, none⟩) (a - 32780) v t W; unfold snk at this; rw [if_neg hz] at this; exact this))
  have HP := Lib.hid h
  clear h hB
  have hE0 : (20 : Int) ≠ 0 := by decide
  clear hz
  unfold wrBV at *
  dsimp only at *
  unfold FindEnd devV fnV at HF
  unfold BgEnd at HR
  have hst := store_fn Tryz.prog
  have hlt := klt HP.out.c0
  have hbb : ¬ bb = w.heap.size := by omega
  have hbb1 : ¬ bb = w.heap.size + 1 := by omega
  go_enter_defers Tryz.func11, Tryz.ntmps11
  go_wp2_with fail
  ((with_reducible refine (HF.out _).mono ?_); rintro _ u ⟨rfl, hb⟩)
  have T : CF u w.heap.size 0 (.int .u8 v) ∧ CF u w.heap.size 1 (.int .u8 t) ∧ CF u (w.heap.size + 1) 0 (.int .i64 0) := by
      refine ⟨⟨?_, ?_⟩, ⟨?_, ?_⟩, ⟨?_, ?_⟩⟩ <;> first | (refine kc hb ?_ <;> (go_simp; first | done | rfl)) | (refine kfz hb ?_ ?_ <;> first | (go_size; done) | (go_simp; done))
  have hz := hb.size
  (try simp only [World.size_alloc, World.size_setCell, World.size_drew] at hz)
  have L : w.heap.size < u.heap.size ∧ w.heap.size + 1 < u.heap.size := by omega
  have hB' : Below w.heap.size w u := by
      refine kb ?_ hb
      go_grown
  clear hb hz
  obtain ⟨⟨hx_0, fx_0⟩, ⟨hx_1, fx_1⟩, ⟨he_0, fe_0⟩⟩ := T
  obtain ⟨hlx, hle⟩ := L
  obtain ⟨hnx0, hnx1, hkx1, hnx2, hkx2⟩ := ap0 hlx
  obtain ⟨hne0, hke1⟩ := ap1 hle
  have hB := hB'; clear hB'
  have hsz := hB.size
  go_wp2_with fail
  obtain ⟨W1, hW1⟩ : ∃ W, W = u.alloc (Obj.cells #[.int .i64 32780, .int .i64 32783, .func (.func 99) #[] #[], .func (.func 100) #[] #[]] 93) := ⟨_, rfl⟩
  have hB1 : Below w.heap.size w W1 := by rw [hW1]; go_grown
  have hbu : Below u.heap.size u W1 := by rw [hW1]; go_grown
  have hz1 : W1.heap.size = u.heap.size + 1 := by rw [hW1]; simp
  have hzu : w.heap.size + 1 < u.heap.size := hle
  have x_0 := kc hbu hx_0
  have fx_0 := kfz hbu hlx fx_0
  have x_1 := kc hbu hx_1
  have fx_1 := kfz hbu hlx fx_1
  have e_0 := kc hbu he_0
  have fe_0 := kfz hbu hle fe_0
  have HB1 := Lib.hid hB1
  have HP1 := Lib.hid (HP.out.below hB1)
  rw [← hW1]
  clear hW1 hbu hB1
  refine (HR.out W1 HP1.out HB1.out).mono ?_
  rintro _ v' ⟨rfl, F', G', hg⟩
  have HG := Lib.hid (((Bg.refl HP.out).below HB1.out).trans hg)
  have nx := HP1.out.newFF (nb := w.heap.size)
  have n0 : ¬ footP bb mbb wb F w.heap.size := HP.out.newFF (Nat.le_refl _)
  have n1 : ¬ footP bb mbb wb F (w.heap.size + 1) := HP.out.newFF (Nat.le_succ _)
  have HN := Lib.hid (show ∀ k, H2 w.heap.size k → ¬ hangP bb mb mbb wb G' k from fun k hk => by
    rcases hk with rfl | rfl
    · exact HP.out.newG (Nat.le_refl _) (fun j hj => (hg.g j hj).imp id (fun h => by omega))
    · exact HP.out.newG (Nat.le_succ _) (fun j hj => (hg.g j hj).imp id (fun h => by omega)))
  have x_0 := hg.fr.cell x_0 n0
  have fx_0 := hg.fr.frozen (by omega) fx_0 n0
  have x_1 := hg.fr.cell x_1 n0
  have fx_1 := hg.fr.frozen (by omega) fx_1 n0
  have e_0 := hg.fr.cell e_0 n1
  have fe_0 := hg.fr.frozen (by omega) fe_0 n1
  have hzv := hg.fr.size
  have hxl : w.heap.size < v'.heap.size := by omega
  have hel : w.heap.size + 1 < v'.heap.size := by omega
  clear hg n0 n1 nx HR HF HP1 hz1
  go_wp2_with fail
  obtain ⟨Z, hZ⟩ : ∃ Z, Z = v'.setCell ⟨w.heap.size + 1, 0, none⟩ (.int .i64 20) := ⟨_, rfl⟩
  have q_e : Z.cell? ⟨w.heap.size + 1, 0, none⟩ = some (.int .i64 20) := by rw [hZ]; go_simp; first | done | rfl
  have hFZ : Fr (H2 w.heap.size) v' Z := by rw [hZ]; exact (Fr.refl (H2 w.heap.size) v').setCell _ _ (fun _ => .inr rfl)
  have HGZ := Lib.hid (HG.out.puts hFZ (fun k hk => by rcases hk with rfl | rfl <;> omega) HN.out)
  have hlz : w.heap.size + 1 < Z.heap.size := by rw [hZ]; simp; omega
  rw [← hZ]
  clear hZ hFZ
  refine leaves_cons (f := 40) (args := #[.pointer (some ⟨bb, 0, none⟩), .pointer (some ⟨w.heap.size + 1, 0, none⟩)]) (by simp) (by simp [go_sem]) ?_
  refine (passb_no bb Z (w.heap.size + 1) _ hE0 q_e).mono ?_
  rintro e d z ⟨rfl, rfl, hb⟩
  have q_e := kc hb q_e
  have HE := Lib.hid (HGZ.out.below hb)
  clear hb
  simp [Leaves, settle, results, Tryz.results11, go_sem, q_e]
  exact ⟨rfl, _, _, HE.out⟩
set_option maxRecDepth 100000 in
set_option maxHeartbeats 4000000 in
theorem busw_not (h : Pb bb mb mbb pb wb B F G w) (hB : B.May) (hL : Laid w) (a v t : Int) (hv : 0 ≤ v ∧ v ≤ 255) (ht : 0 ≤ t ∧ t ≤ 255) (h1 : 32780 ≤ a) (h2 : a ≤ 32783) (hz : t = 0) :
    Calls Tryz.prog 11 #[.pointer (some ⟨bb, 0, none⟩), .int .i64 a, .agg #[.int .u8 v, .int .u8 t]] w (BgEnd bb mb mbb pb wb F G (wrBV (0, 0)) ⟨(B).M, tickT (B).T, (B).S, (B).W, (B).n + 1⟩ w) := by
  have HF := Lib.hid (find_not a h1 h2)
  have HR := Lib.hid (fun W (hP : Pb bb mb mbb pb wb B F G W) (hW : Below w.heap.size w W) => bgEnd_below hP (by have := writenot_c (some ⟨bb, 0, none⟩) (a - 32780) v t W; unfold snk at this; rw [if_pos hz] at this; exact this))
  have HP := Lib.hid h
  have hT' : (B).T.May := hB.t
  have hN' : 0 ≤ (B).n ∧ (B).n ≤ 4611686018427387904 := hB.n
  clear h hB
  clear hz
  unfold wrBV at *
  dsimp only at *
  unfold FindEnd devV fnV at HF
  unfold BgEnd at HR
  have hst := store_fn Tryz.prog
  have hlt := klt HP.out.c0
  have hbb : ¬ bb = w.heap.size := by omega
  have hbb1 : ¬ bb = w.heap.size + 1 := by omega
  go_enter_defers Tryz.func11, Tryz.ntmps11
  go_wp2_with fail
  ((with_reducible refine (HF.out _).mono ?_); rintro _ u ⟨rfl, hb⟩)
  have T : CF u w.heap.size 0 (.int .u8 v) ∧ CF u w.heap.size 1 (.int .u8 t) ∧ CF u (w.heap.size + 1) 0 (.int .i64 0) := by
      refine ⟨⟨?_, ?_⟩, ⟨?_, ?_⟩, ⟨?_, ?_⟩⟩ <;> first | (refine kc hb ?_ <;> (go_simp; first | done | rfl)) | (refine kfz hb ?_ ?_ <;> first | (go_size; done) | (go_simp; done))
  have hz := hb.size
  (try simp only [World.size_alloc, World.size_setCell, World.size_drew] at hz)
  have L : w.heap.size < u.heap.size ∧ w.heap.size + 1 < u.heap.size := by omega
  have hB' : Below w.heap.size w u := by
      refine kb ?_ hb
      go_grown
  clear hb hz
  obtain ⟨⟨hx_0, fx_0⟩, ⟨hx_1, fx_1⟩, ⟨he_0, fe_0⟩⟩ := T
  obtain ⟨hlx, hle⟩ := L
  obtain ⟨hnx0, hnx1, hkx1, hnx2, hkx2⟩ := ap0 hlx
  obtain ⟨hne0, hke1⟩ := ap1 hle
  have hB := hB'; clear hB'
  have hsz := hB.size
  go_wp2_with fail
  obtain ⟨W1, hW1⟩ : ∃ W, W = u.alloc (Obj.cells #[.int .i64 32780, .int .i64 32783, .func (.func 99) #[] #[], .func (.func 100) #[] #[]] 93) := ⟨_, rfl⟩
  have hB1 : Below w.heap.size w W1 := by rw [hW1]; go_grown
  have hbu : Below u.heap.size u W1 := by rw [hW1]; go_grown
  have hz1 : W1.heap.size = u.heap.size + 1 := by rw [hW1]; simp
  have hzu : w.heap.size + 1 < u.heap.size := hle
  have x_0 := kc hbu hx_0
  have fx_0 := kfz hbu hlx fx_0
  have x_1 := kc hbu hx_1
  have fx_1 := kfz hbu hlx fx_1
  have e_0 := kc hbu he_0
  have fe_0 := kfz hbu hle fe_0
  have HB1 := Lib.hid hB1
  have HP1 := Lib.hid (HP.out.below hB1)
  rw [← hW1]
  clear hW1 hbu hB1
  refine (HR.out W1 HP1.out HB1.out).mono ?_
  rintro _ v' ⟨rfl, F', G', hg⟩
  have HG := Lib.hid (((Bg.refl HP.out).below HB1.out).trans hg)
  have nx := HP1.out.newFF (nb := w.heap.size)
  have n0 : ¬ footP bb mbb wb F w.heap.size := HP.out.newFF (Nat.le_refl _)
  have n1 : ¬ footP bb mbb wb F (w.heap.size + 1) := HP.out.newFF (Nat.le_succ _)
  have HN := Lib.hid (show ∀ k, H2 w.heap.size k → ¬ hangP bb mb mbb wb G' k from fun k hk => by
    rcases hk with rfl | rfl
    · exact HP.out.newG (Nat.le_refl _) (fun j hj => (hg.g j hj).imp id (fun h => by omega))
    · exact HP.out.newG (Nat.le_succ _) (fun j hj => (hg.g j hj).imp id (fun h => by omega)))
  have x_0 := hg.fr.cell x_0 n0
  have fx_0 := hg.fr.frozen (by omega) fx_0 n0
  have x_1 := hg.fr.cell x_1 n0
  have fx_1 := hg.fr.frozen (by omega) fx_1 n0
  have e_0 := hg.fr.cell e_0 n1
  have fe_0 := hg.fr.frozen (by omega) fe_0 n1
  have hzv := hg.fr.size
  have hxl : w.heap.size < v'.heap.size := by omega
  have hel : w.heap.size + 1 < v'.heap.size := by omega
  clear hg n0 n1 nx HR HF HP1 hz1
  go_wp2_with fail
  obtain ⟨Z, hZ⟩ : ∃ Z, Z = v'.setCell ⟨w.heap.size + 1, 0, none⟩ (.int .i64 0) := ⟨_, rfl⟩
  have q_e : Z.cell? ⟨w.heap.size + 1, 0, none⟩ = some (.int .i64 0) := by rw [hZ]; go_simp; first | done | rfl
  have hFZ : Fr (H2 w.heap.size) v' Z := by rw [hZ]; exact (Fr.refl (H2 w.heap.size) v').setCell _ _ (fun _ => .inr rfl)
  have HGZ := Lib.hid (HG.out.puts hFZ (fun k hk => by rcases hk with rfl | rfl <;> omega) HN.out)
  have hlz : w.heap.size + 1 < Z.heap.size := by rw [hZ]; simp; omega
  rw [← hZ]
  clear hZ hFZ
  refine leaves_cons (f := 40) (args := #[.pointer (some ⟨bb, 0, none⟩), .pointer (some ⟨w.heap.size + 1, 0, none⟩)]) (by simp) (by simp [go_sem]) ?_
  refine (passb_ok HGZ.out.b hT' hN' (w.heap.size + 1) q_e).mono ?_
  rintro e d z ⟨rfl, rfl, hown, hbg⟩
  have q_e := hown.fr.cell q_e (fun e => by omega)
  have hZz := hown.fr.size
  have HE := Lib.hid (HGZ.out.trans hbg)
  clear hown hbg
  simp [Leaves, settle, results, Tryz.results11, go_sem, q_e]
  exact ⟨rfl, _, _, HE.out⟩
set_option maxRecDepth 100000 in
set_option maxHeartbeats 4000000 in
theorem busw_timsec (h : Pb bb mb mbb pb wb B F G w) (hB : B.May) (hL : Laid w) (a v t : Int) (hv : 0 ≤ v ∧ v ≤ 255) (ht : 0 ≤ t ∧ t ≤ 255) (h1 : 32768 ≤ a) (h2 : a ≤ 32771) (hz : t ≠ 0) :
    Calls Tryz.prog 11 #[.pointer (some ⟨bb, 0, none⟩), .int .i64 a, .agg #[.int .u8 v, .int .u8 t]] w (BgEnd bb mb mbb pb wb F G (wrBV (4, 20)) B w) := by
  have HF := Lib.hid (find_tim a h1 h2)
  have HR := Lib.hid (fun W (hP : Pb bb mb mbb pb wb B F G W) (hW : Below w.heap.size w W) => bgEnd_below hP (writetim_no (some ⟨bb, 0, none⟩) (a - 32768) v t hz W))
  have HP := Lib.hid h
  clear h hB
  have hE0 : (20 : Int) ≠ 0 := by decide
  clear hz
  unfold wrBV at *
  dsimp only at *
  unfold FindEnd devV fnV at HF
  unfold BgEnd at HR
  have hst := store_fn Tryz.prog
  have hlt := klt HP.out.c0
  have hbb : ¬ bb = w.heap.size := by omega
  have hbb1 : ¬ bb = w.heap.size + 1 := by omega
  go_enter_defers Tryz.func11, Tryz.ntmps11
  go_wp2_with fail
  ((with_reducible refine (HF.out _).mono ?_); rintro _ u ⟨rfl, hb⟩)
  have T : CF u w.heap.size 0 (.int .u8 v) ∧ CF u w.heap.size 1 (.int .u8 t) ∧ CF u (w.heap.size + 1) 0 (.int .i64 0) := by
      refine ⟨⟨?_, ?_⟩, ⟨?_, ?_⟩, ⟨?_, ?_⟩⟩ <;> first | (refine kc hb ?_ <;> (go_simp; first | done | rfl)) | (refine kfz hb ?_ ?_ <;> first | (go_size; done) | (go_simp; done))
  have hz := hb.size
  (try simp only [World.size_alloc, World.size_setCell, World.size_drew] at hz)
  have L : w.heap.size < u.heap.size ∧ w.heap.size + 1 < u.heap.size := by omega
  have hB' : Below w.heap.size w u := by
      refine kb ?_ hb
      go_grown
  clear hb hz
  obtain ⟨⟨hx_0, fx_0⟩, ⟨hx_1, fx_1⟩, ⟨he_0, fe_0⟩⟩ := T
  obtain ⟨hlx, hle⟩ := L
  obtain ⟨hnx0, hnx1, hkx1, hnx2, hkx2⟩ := ap0 hlx
  obtain ⟨hne0, hke1⟩ := ap1 hle
  have hB := hB'; clear hB'
  have hsz := hB.size
  go_wp2_with fail
  obtain ⟨W1, hW1⟩ : ∃ W, W = u.alloc (Obj.cells #[.int .i64 32768, .int .i64 32771, .func (.func 93) #[] #[], .func (.func 94) #[] #[]] 93) := ⟨_, rfl⟩
  have hB1 : Below w.heap.size w W1 := by rw [hW1]; go_grown
  have hbu : Below u.heap.size u W1 := by rw [hW1]; go_grown
  have hz1 : W1.heap.size = u.heap.size + 1 := by rw [hW1]; simp
  have hzu : w.heap.size + 1 < u.heap.size := hle
  have x_0 := kc hbu hx_0
  have fx_0 := kfz hbu hlx fx_0
  have x_1 := kc hbu hx_1
  have fx_1 := kfz hbu hlx fx_1
  have e_0 := kc hbu he_0
  have fe_0 := kfz hbu hle fe_0
  have HB1 := Lib.hid hB1
  have HP1 := Lib.hid (HP.out.below hB1)
  rw [← hW1]
  clear hW1 hbu hB1
  refine (HR.out W1 HP1.out HB1.out).mono ?_
  rintro _ v' ⟨rfl, F', G', hg⟩
  have HG := Lib.hid (((Bg.refl HP.out).below HB1.out).trans hg)
  have nx := HP1.out.newFF (nb := w.heap.size)
  have n0 : ¬ footP bb mbb wb F w.heap.size := HP.out.newFF (Nat.le_refl _)
  have n1 : ¬ footP bb mbb wb F (w.heap.size + 1) := HP.out.newFF (Nat.le_succ _)
  have HN := Lib.hid (show ∀ k, H2 w.heap.size k → ¬ hangP bb mb mbb wb G' k from fun k hk => by
    rcases hk with rfl | rfl
    · exact HP.out.newG (Nat.le_refl _) (fun j hj => (hg.g j hj).imp id (fun h => by omega))
    · exact HP.out.newG (Nat.le_succ _) (fun j hj => (hg.g j hj).imp id (fun h => by omega)))
  have x_0 := hg.fr.cell x_0 n0
  have fx_0 := hg.fr.frozen (by omega) fx_0 n0
  have x_1 := hg.fr.cell x_1 n0
  have fx_1 := hg.fr.frozen (by omega) fx_1 n0
  have e_0 := hg.fr.cell e_0 n1
  have fe_0 := hg.fr.frozen (by omega) fe_0 n1
  have hzv := hg.fr.size
  have hxl : w.heap.size < v'.heap.size := by omega
  have hel : w.heap.size + 1 < v'.heap.size := by omega
  clear hg n0 n1 nx HR HF HP1 hz1
  go_wp2_with fail
  obtain ⟨Z, hZ⟩ : ∃ Z, Z = v'.setCell ⟨w.heap.size + 1, 0, none⟩ (.int .i64 20) := ⟨_, rfl⟩
  have q_e : Z.cell? ⟨w.heap.size + 1, 0, none⟩ = some (.int .i64 20) := by rw [hZ]; go_simp; first | done | rfl
  have hFZ : Fr (H2 w.heap.size) v' Z := by rw [hZ]; exact (Fr.refl (H2 w.heap.size) v').setCell _ _ (fun _ => .inr rfl)
  have HGZ := Lib.hid (HG.out.puts hFZ (fun k hk => by rcases hk with rfl | rfl <;> omega) HN.out)
  have hlz : w.heap.size + 1 < Z.heap.size := by rw [hZ]; simp; omega
  rw [← hZ]
  clear hZ hFZ
  refine leaves_cons (f := 40) (args := #[.pointer (some ⟨bb, 0, none⟩), .pointer (some ⟨w.heap.size + 1, 0, none⟩)]) (by simp) (by simp [go_sem]) ?_
  refine (passb_no bb Z (w.heap.size + 1) _ hE0 q_e).mono ?_
  rintro e d z ⟨rfl, rfl, hb⟩
  have q_e := kc hb q_e
  have HE := Lib.hid (HGZ.out.below hb)
  clear hb
  simp [Leaves, settle, results, Tryz.results11, go_sem, q_e]
  exact ⟨rfl, _, _, HE.out⟩
set_option maxRecDepth 100000 in
set_option maxHeartbeats 4000000 in
theorem busw_tim (h : Pb bb mb mbb pb wb B F G w) (hB : B.May) (hL : Laid w) (a v t : Int) (hv : 0 ≤ v ∧ v ≤ 255) (ht : 0 ≤ t ∧ t ≤ 255) (h1 : 32768 ≤ a) (h2 : a ≤ 32771) (hz : t = 0) :
    Calls Tryz.prog 11 #[.pointer (some ⟨bb, 0, none⟩), .int .i64 a, .agg #[.int .u8 v, .int .u8 t]] w (BgEnd bb mb mbb pb wb F G (wrBV (0, 0)) ⟨((⟨B.M, writeT B.T (a - 32768) v, B.S, B.W, B.n⟩ : Bs)).M, tickT ((⟨B.M, writeT B.T (a - 32768) v, B.S, B.W, B.n⟩ : Bs)).T, ((⟨B.M, writeT B.T (a - 32768) v, B.S, B.W, B.n⟩ : Bs)).S, ((⟨B.M, writeT B.T (a - 32768) v, B.S, B.W, B.n⟩ : Bs)).W, ((⟨B.M, writeT B.T (a - 32768) v, B.S, B.W, B.n⟩ : Bs)).n + 1⟩ w) := by
  have HF := Lib.hid (find_tim a h1 h2)
  have HR := Lib.hid (fun W (hP : Pb bb mb mbb pb wb B F G W) (hW : Below w.heap.size w W) => (by have h3 : ∀ s : Int, s = 0 → Calls Tryz.prog 94 #[.pointer (some ⟨bb, 0, none⟩), .int .i64 (a - 32768), .agg #[.int .u8 v, .int .u8 s]] W (BgEnd bb mb mbb pb wb F G (wrBV (0, 0)) ⟨B.M, writeT B.T (a - 32768) v, B.S, B.W, B.n⟩ W) := fun s hs => (by subst hs; have := writetim_c hP hB.t (a - 32768) v hv; rw [show regE (a - 32768) = 0 from if_pos (by omega)] at this; exact this); exact h3 t hz))
  have HP := Lib.hid h
  have hT' : ((⟨B.M, writeT B.T (a - 32768) v, B.S, B.W, B.n⟩ : Bs)).T.May := writeT_may B.T (a - 32768) v hB.t hv
  have hN' : 0 ≤ ((⟨B.M, writeT B.T (a - 32768) v, B.S, B.W, B.n⟩ : Bs)).n ∧ ((⟨B.M, writeT B.T (a - 32768) v, B.S, B.W, B.n⟩ : Bs)).n ≤ 4611686018427387904 := hB.n
  clear h hB
  generalize writeT B.T (a - 32768) v = T' at *
  clear hz
  unfold wrBV at *
  dsimp only at *
  unfold FindEnd devV fnV at HF
  unfold BgEnd at HR
  have hst := store_fn Tryz.prog
  have hlt := klt HP.out.c0
  have hbb : ¬ bb = w.heap.size := by omega
  have hbb1 : ¬ bb = w.heap.size + 1 := by omega
  go_enter_defers Tryz.func11, Tryz.ntmps11
  go_wp2_with fail
  ((with_reducible refine (HF.out _).mono ?_); rintro _ u ⟨rfl, hb⟩)
  have T : CF u w.heap.size 0 (.int .u8 v) ∧ CF u w.heap.size 1 (.int .u8 t) ∧ CF u (w.heap.size + 1) 0 (.int .i64 0) := by
      refine ⟨⟨?_, ?_⟩, ⟨?_, ?_⟩, ⟨?_, ?_⟩⟩ <;> first | (refine kc hb ?_ <;> (go_simp; first | done | rfl)) | (refine kfz hb ?_ ?_ <;> first | (go_size; done) | (go_simp; done))
  have hz := hb.size
  (try simp only [World.size_alloc, World.size_setCell, World.size_drew] at hz)
  have L : w.heap.size < u.heap.size ∧ w.heap.size + 1 < u.heap.size := by omega
  have hB' : Below w.heap.size w u := by
      refine kb ?_ hb
      go_grown
  clear hb hz
  obtain ⟨⟨hx_0, fx_0⟩, ⟨hx_1, fx_1⟩, ⟨he_0, fe_0⟩⟩ := T
  obtain ⟨hlx, hle⟩ := L
  obtain ⟨hnx0, hnx1, hkx1, hnx2, hkx2⟩ := ap0 hlx
  obtain ⟨hne0, hke1⟩ := ap1 hle
  have hB := hB'; clear hB'
  have hsz := hB.size
  go_wp2_with fail
  obtain ⟨W1, hW1⟩ : ∃ W, W = u.alloc (Obj.cells #[.int .i64 32768, .int .i64 32771, .func (.func 93) #[] #[], .func (.func 94) #[] #[]] 93) := ⟨_, rfl⟩
  have hB1 : Below w.heap.size w W1 := by rw [hW1]; go_grown
  have hbu : Below u.heap.size u W1 := by rw [hW1]; go_grown
  have hz1 : W1.heap.size = u.heap.size + 1 := by rw [hW1]; simp
  have hzu : w.heap.size + 1 < u.heap.size := hle
  have x_0 := kc hbu hx_0
  have fx_0 := kfz hbu hlx fx_0
  have x_1 := kc hbu hx_1
  have fx_1 := kfz hbu hlx fx_1
  have e_0 := kc hbu he_0
  have fe_0 := kfz hbu hle fe_0
  have HB1 := Lib.hid hB1
  have HP1 := Lib.hid (HP.out.below hB1)
  rw [← hW1]
  clear hW1 hbu hB1
  refine (HR.out W1 HP1.out HB1.out).mono ?_
  rintro _ v' ⟨rfl, F', G', hg⟩
  have HG := Lib.hid (((Bg.refl HP.out).below HB1.out).trans hg)
  have nx := HP1.out.newFF (nb := w.heap.size)
  have n0 : ¬ footP bb mbb wb F w.heap.size := HP.out.newFF (Nat.le_refl _)
  have n1 : ¬ footP bb mbb wb F (w.heap.size + 1) := HP.out.newFF (Nat.le_succ _)
  have HN := Lib.hid (show ∀ k, H2 w.heap.size k → ¬ hangP bb mb mbb wb G' k from fun k hk => by
    rcases hk with rfl | rfl
    · exact HP.out.newG (Nat.le_refl _) (fun j hj => (hg.g j hj).imp id (fun h => by omega))
    · exact HP.out.newG (Nat.le_succ _) (fun j hj => (hg.g j hj).imp id (fun h => by omega)))
  have x_0 := hg.fr.cell x_0 n0
  have fx_0 := hg.fr.frozen (by omega) fx_0 n0
  have x_1 := hg.fr.cell x_1 n0
  have fx_1 := hg.fr.frozen (by omega) fx_1 n0
  have e_0 := hg.fr.cell e_0 n1
  have fe_0 := hg.fr.frozen (by omega) fe_0 n1
  have hzv := hg.fr.size
  have hxl : w.heap.size < v'.heap.size := by omega
  have hel : w.heap.size + 1 < v'.heap.size := by omega
  clear hg n0 n1 nx HR HF HP1 hz1
  go_wp2_with fail
  obtain ⟨Z, hZ⟩ : ∃ Z, Z = v'.setCell ⟨w.heap.size + 1, 0, none⟩ (.int .i64 0) := ⟨_, rfl⟩
  have q_e : Z.cell? ⟨w.heap.size + 1, 0, none⟩ = some (.int .i64 0) := by rw [hZ]; go_simp; first | done | rfl
  have hFZ : Fr (H2 w.heap.size) v' Z := by rw [hZ]; exact (Fr.refl (H2 w.heap.size) v').setCell _ _ (fun _ => .inr rfl)
  have HGZ := Lib.hid (HG.out.puts hFZ (fun k hk => by rcases hk with rfl | rfl <;> omega) HN.out)
  have hlz : w.heap.size + 1 < Z.heap.size := by rw [hZ]; simp; omega
  rw [← hZ]
  clear hZ hFZ
  refine leaves_cons (f := 40) (args := #[.pointer (some ⟨bb, 0, none⟩), .pointer (some ⟨w.heap.size + 1, 0, none⟩)]) (by simp) (by simp [go_sem]) ?_
  refine (passb_ok HGZ.out.b hT' hN' (w.heap.size + 1) q_e).mono ?_
  rintro e d z ⟨rfl, rfl, hown, hbg⟩
  have q_e := hown.fr.cell q_e (fun e => by omega)
  have hZz := hown.fr.size
  have HE := Lib.hid (HGZ.out.trans hbg)
  clear hown hbg
  simp [Leaves, settle, results, Tryz.results11, go_sem, q_e]
  exact ⟨rfl, _, _, HE.out⟩
set_option maxRecDepth 100000 in
set_option maxHeartbeats 4000000 in
theorem busw_whlsec (h : Pb bb mb mbb pb wb B F G w) (hB : B.May) (hL : Laid w) (a v t : Int) (hv : 0 ≤ v ∧ v ≤ 255) (ht : 0 ≤ t ∧ t ≤ 255) (h1 : 32777 ≤ a) (h2 : a ≤ 32779) (hz : t ≠ 0) :
    Calls Tryz.prog 11 #[.pointer (some ⟨bb, 0, none⟩), .int .i64 a, .agg #[.int .u8 v, .int .u8 t]] w (BgEnd bb mb mbb pb wb F G (wrBV (4, 20)) B w) := by
  have HF := Lib.hid (find_whl a h1 h2)
  have HR := Lib.hid (fun W (hP : Pb bb mb mbb pb wb B F G W) (hW : Below w.heap.size w W) => (by have := writewhl_c hP hB.w (a - 32777) v t hv; rw [wrE_sec (by omega) hz, wrS_sec hz] at this; exact this))
  have HP := Lib.hid h
  clear h hB
  have hE0 : (20 : Int) ≠ 0 := by decide
  clear hz
  unfold wrBV at *
  dsimp only at *
  unfold FindEnd devV fnV at HF
  unfold BgEnd at HR
  have hst := store_fn Tryz.prog
  have hlt := klt HP.out.c0
  have hbb : ¬ bb = w.heap.size := by omega
  have hbb1 : ¬ bb = w.heap.size + 1 := by omega
  go_enter_defers Tryz.func11, Tryz.ntmps11
  go_wp2_with fail
  ((with_reducible refine (HF.out _).mono ?_); rintro _ u ⟨rfl, hb⟩)
  have T : CF u w.heap.size 0 (.int .u8 v) ∧ CF u w.heap.size 1 (.int .u8 t) ∧ CF u (w.heap.size + 1) 0 (.int .i64 0) := by
      refine ⟨⟨?_, ?_⟩, ⟨?_, ?_⟩, ⟨?_, ?_⟩⟩ <;> first | (refine kc hb ?_ <;> (go_simp; first | done | rfl)) | (refine kfz hb ?_ ?_ <;> first | (go_size; done) | (go_simp; done))
  have hz := hb.size
  (try simp only [World.size_alloc, World.size_setCell, World.size_drew] at hz)
  have L : w.heap.size < u.heap.size ∧ w.heap.size + 1 < u.heap.size := by omega
  have hB' : Below w.heap.size w u := by
      refine kb ?_ hb
      go_grown
  clear hb hz
  obtain ⟨⟨hx_0, fx_0⟩, ⟨hx_1, fx_1⟩, ⟨he_0, fe_0⟩⟩ := T
  obtain ⟨hlx, hle⟩ := L
  obtain ⟨hnx0, hnx1, hkx1, hnx2, hkx2⟩ := ap0 hlx
  obtain ⟨hne0, hke1⟩ := ap1 hle
  have hB := hB'; clear hB'
  have hsz := hB.size
  go_wp2_with fail
  obtain ⟨W1, hW1⟩ : ∃ W, W = u.alloc (Obj.cells #[.int .i64 32777, .int .i64 32779, .func (.func 97) #[] #[], .func (.func 98) #[] #[]] 93) := ⟨_, rfl⟩
  have hB1 : Below w.heap.size w W1 := by rw [hW1]; go_grown
  have hbu : Below u.heap.size u W1 := by rw [hW1]; go_grown
  have hz1 : W1.heap.size = u.heap.size + 1 := by rw [hW1]; simp
  have hzu : w.heap.size + 1 < u.heap.size := hle
  have x_0 := kc hbu hx_0
  have fx_0 := kfz hbu hlx fx_0
  have x_1 := kc hbu hx_1
  have fx_1 := kfz hbu hlx fx_1
  have e_0 := kc hbu he_0
  have fe_0 := kfz hbu hle fe_0
  have HB1 := Lib.hid hB1
  have HP1 := Lib.hid (HP.out.below hB1)
  rw [← hW1]
  clear hW1 hbu hB1
  refine (HR.out W1 HP1.out HB1.out).mono ?_
  rintro _ v' ⟨rfl, F', G', hg⟩
  have HG := Lib.hid (((Bg.refl HP.out).below HB1.out).trans hg)
  have nx := HP1.out.newFF (nb := w.heap.size)
  have n0 : ¬ footP bb mbb wb F w.heap.size := HP.out.newFF (Nat.le_refl _)
  have n1 : ¬ footP bb mbb wb F (w.heap.size + 1) := HP.out.newFF (Nat.le_succ _)
  have HN := Lib.hid (show ∀ k, H2 w.heap.size k → ¬ hangP bb mb mbb wb G' k from fun k hk => by
    rcases hk with rfl | rfl
    · exact HP.out.newG (Nat.le_refl _) (fun j hj => (hg.g j hj).imp id (fun h => by omega))
    · exact HP.out.newG (Nat.le_succ _) (fun j hj => (hg.g j hj).imp id (fun h => by omega)))
  have x_0 := hg.fr.cell x_0 n0
  have fx_0 := hg.fr.frozen (by omega) fx_0 n0
  have x_1 := hg.fr.cell x_1 n0
  have fx_1 := hg.fr.frozen (by omega) fx_1 n0
  have e_0 := hg.fr.cell e_0 n1
  have fe_0 := hg.fr.frozen (by omega) fe_0 n1
  have hzv := hg.fr.size
  have hxl : w.heap.size < v'.heap.size := by omega
  have hel : w.heap.size + 1 < v'.heap.size := by omega
  clear hg n0 n1 nx HR HF HP1 hz1
  go_wp2_with fail
  obtain ⟨Z, hZ⟩ : ∃ Z, Z = v'.setCell ⟨w.heap.size + 1, 0, none⟩ (.int .i64 20) := ⟨_, rfl⟩
  have q_e : Z.cell? ⟨w.heap.size + 1, 0, none⟩ = some (.int .i64 20) := by rw [hZ]; go_simp; first | done | rfl
  have hFZ : Fr (H2 w.heap.size) v' Z := by rw [hZ]; exact (Fr.refl (H2 w.heap.size) v').setCell _ _ (fun _ => .inr rfl)
  have HGZ := Lib.hid (HG.out.puts hFZ (fun k hk => by rcases hk with rfl | rfl <;> omega) HN.out)
  have hlz : w.heap.size + 1 < Z.heap.size := by rw [hZ]; simp; omega
  rw [← hZ]
  clear hZ hFZ
  refine leaves_cons (f := 40) (args := #[.pointer (some ⟨bb, 0, none⟩), .pointer (some ⟨w.heap.size + 1, 0, none⟩)]) (by simp) (by simp [go_sem]) ?_
  refine (passb_no bb Z (w.heap.size + 1) _ hE0 q_e).mono ?_
  rintro e d z ⟨rfl, rfl, hb⟩
  have q_e := kc hb q_e
  have HE := Lib.hid (HGZ.out.below hb)
  clear hb
  simp [Leaves, settle, results, Tryz.results11, go_sem, q_e]
  exact ⟨rfl, _, _, HE.out⟩
set_option maxRecDepth 100000 in
set_option maxHeartbeats 4000000 in
theorem busw_whl (h : Pb bb mb mbb pb wb B F G w) (hB : B.May) (hL : Laid w) (a v t : Int) (hv : 0 ≤ v ∧ v ≤ 255) (ht : 0 ≤ t ∧ t ≤ 255) (h1 : 32777 ≤ a) (h2 : a ≤ 32779) (hz : t = 0) :
    Calls Tryz.prog 11 #[.pointer (some ⟨bb, 0, none⟩), .int .i64 a, .agg #[.int .u8 v, .int .u8 t]] w (BgEnd bb mb mbb pb wb F G (wrBV (0, 0)) ⟨((⟨B.M, B.T, B.S, wrS B.W (a - 32777) v t, B.n⟩ : Bs)).M, tickT ((⟨B.M, B.T, B.S, wrS B.W (a - 32777) v t, B.n⟩ : Bs)).T, ((⟨B.M, B.T, B.S, wrS B.W (a - 32777) v t, B.n⟩ : Bs)).S, ((⟨B.M, B.T, B.S, wrS B.W (a - 32777) v t, B.n⟩ : Bs)).W, ((⟨B.M, B.T, B.S, wrS B.W (a - 32777) v t, B.n⟩ : Bs)).n + 1⟩ w) := by
  have HF := Lib.hid (find_whl a h1 h2)
  have HR := Lib.hid (fun W (hP : Pb bb mb mbb pb wb B F G W) (hW : Below w.heap.size w W) => (by have := writewhl_c hP hB.w (a - 32777) v t hv; rw [show wrE (a - 32777) t = (0, 0) by rw [hz]; exact wrE_ok (by omega)] at this; exact this))
  have HP := Lib.hid h
  have hT' : ((⟨B.M, B.T, B.S, wrS B.W (a - 32777) v t, B.n⟩ : Bs)).T.May := hB.t
  have hN' : 0 ≤ ((⟨B.M, B.T, B.S, wrS B.W (a - 32777) v t, B.n⟩ : Bs)).n ∧ ((⟨B.M, B.T, B.S, wrS B.W (a - 32777) v t, B.n⟩ : Bs)).n ≤ 4611686018427387904 := hB.n
  clear h hB
  generalize wrS B.W (a - 32777) v t = W' at *
  clear hz
  unfold wrBV at *
  dsimp only at *
  unfold FindEnd devV fnV at HF
  unfold BgEnd at HR
  have hst := store_fn Tryz.prog
  have hlt := klt HP.out.c0
  have hbb : ¬ bb = w.heap.size := by omega
  have hbb1 : ¬ bb = w.heap.size + 1 := by omega
  go_enter_defers Tryz.func11, Tryz.ntmps11
  go_wp2_with fail
  ((with_reducible refine (HF.out _).mono ?_); rintro _ u ⟨rfl, hb⟩)
  have T : CF u w.heap.size 0 (.int .u8 v) ∧ CF u w.heap.size 1 (.int .u8 t) ∧ CF u (w.heap.size + 1) 0 (.int .i64 0) := by
      refine ⟨⟨?_, ?_⟩, ⟨?_, ?_⟩, ⟨?_, ?_⟩⟩ <;> first | (refine kc hb ?_ <;> (go_simp; first | done | rfl)) | (refine kfz hb ?_ ?_ <;> first | (go_size; done) | (go_simp; done))
  have hz := hb.size
  (try simp only [World.size_alloc, World.size_setCell, World.size_drew] at hz)
  have L : w.heap.size < u.heap.size ∧ w.heap.size + 1 < u.heap.size := by omega
  have hB' : Below w.heap.size w u := by
      refine kb ?_ hb
      go_grown
  clear hb hz
  obtain ⟨⟨hx_0, fx_0⟩, ⟨hx_1, fx_1⟩, ⟨he_0, fe_0⟩⟩ := T
  obtain ⟨hlx, hle⟩ := L
  obtain ⟨hnx0, hnx1, hkx1, hnx2, hkx2⟩ := ap0 hlx
  obtain ⟨hne0, hke1⟩ := ap1 hle
  have hB := hB'; clear hB'
  have hsz := hB.size
  go_wp2_with fail
  obtain ⟨W1, hW1⟩ : ∃ W, W = u.alloc (Obj.cells #[.int .i64 32777, .int .i64 32779, .func (.func 97) #[] #[], .func (.func 98) #[] #[]] 93) := ⟨_, rfl⟩
  have hB1 : Below w.heap.size w W1 := by rw [hW1]; go_grown
  have hbu : Below u.heap.size u W1 := by rw [hW1]; go_grown
  have hz1 : W1.heap.size = u.heap.size + 1 := by rw [hW1]; simp
  have hzu : w.heap.size + 1 < u.heap.size := hle
  have x_0 := kc hbu hx_0
  have fx_0 := kfz hbu hlx fx_0
  have x_1 := kc hbu hx_1
  have fx_1 := kfz hbu hlx fx_1
  have e_0 := kc hbu he_0
  have fe_0 := kfz hbu hle fe_0
  have HB1 := Lib.hid hB1
  have HP1 := Lib.hid (HP.out.below hB1)
  rw [← hW1]
  clear hW1 hbu hB1
  refine (HR.out W1 HP1.out HB1.out).mono ?_
  rintro _ v' ⟨rfl, F', G', hg⟩
  have HG := Lib.hid (((Bg.refl HP.out).below HB1.out).trans hg)
  have nx := HP1.out.newFF (nb := w.heap.size)
  have n0 : ¬ footP bb mbb wb F w.heap.size := HP.out.newFF (Nat.le_refl _)
  have n1 : ¬ footP bb mbb wb F (w.heap.size + 1) := HP.out.newFF (Nat.le_succ _)
  have HN := Lib.hid (show ∀ k, H2 w.heap.size k → ¬ hangP bb mb mbb wb G' k from fun k hk => by
    rcases hk with rfl | rfl
    · exact HP.out.newG (Nat.le_refl _) (fun j hj => (hg.g j hj).imp id (fun h => by omega))
    · exact HP.out.newG (Nat.le_succ _) (fun j hj => (hg.g j hj).imp id (fun h => by omega)))
  have x_0 := hg.fr.cell x_0 n0
  have fx_0 := hg.fr.frozen (by omega) fx_0 n0
  have x_1 := hg.fr.cell x_1 n0
  have fx_1 := hg.fr.frozen (by omega) fx_1 n0
  have e_0 := hg.fr.cell e_0 n1
  have fe_0 := hg.fr.frozen (by omega) fe_0 n1
  have hzv := hg.fr.size
  have hxl : w.heap.size < v'.heap.size := by omega
  have hel : w.heap.size + 1 < v'.heap.size := by omega
  clear hg n0 n1 nx HR HF HP1 hz1
  go_wp2_with fail
  obtain ⟨Z, hZ⟩ : ∃ Z, Z = v'.setCell ⟨w.heap.size + 1, 0, none⟩ (.int .i64 0) := ⟨_, rfl⟩
  have q_e : Z.cell? ⟨w.heap.size + 1, 0, none⟩ = some (.int .i64 0) := by rw [hZ]; go_simp; first | done | rfl
  have hFZ : Fr (H2 w.heap.size) v' Z := by rw [hZ]; exact (Fr.refl (H2 w.heap.size) v').setCell _ _ (fun _ => .inr rfl)
  have HGZ := Lib.hid (HG.out.puts hFZ (fun k hk => by rcases hk with rfl | rfl <;> omega) HN.out)
  have hlz : w.heap.size + 1 < Z.heap.size := by rw [hZ]; simp; omega
  rw [← hZ]
  clear hZ hFZ
  refine leaves_cons (f := 40) (args := #[.pointer (some ⟨bb, 0, none⟩), .pointer (some ⟨w.heap.size + 1, 0, none⟩)]) (by simp) (by simp [go_sem]) ?_
  refine (passb_ok HGZ.out.b hT' hN' (w.heap.size + 1) q_e).mono ?_
  rintro e d z ⟨rfl, rfl, hown, hbg⟩
  have q_e := hown.fr.cell q_e (fun e => by omega)
  have hZz := hown.fr.size
  have HE := Lib.hid (HGZ.out.trans hbg)
  clear hown hbg
  simp [Leaves, settle, results, Tryz.results11, go_sem, q_e]
  exact ⟨rfl, _, _, HE.out⟩
set_option maxRecDepth 100000 in
set_option maxHeartbeats 4000000 in
theorem busw_prtno (h : Pb bb mb mbb pb wb B F G w) (hB : B.May) (hL : Laid w) (a v t : Int) (hv : 0 ≤ v ∧ v ≤ 255) (ht : 0 ≤ t ∧ t ≤ 255) (h1 : 32772 ≤ a) (h2 : a ≤ 32776) (hz : (writeE B.S (a - 32772) t).2 ≠ 0) :
    Calls Tryz.prog 11 #[.pointer (some ⟨bb, 0, none⟩), .int .i64 a, .agg #[.int .u8 v, .int .u8 t]] w (BgEnd bb mb mbb pb wb F G (wrBV (writeE B.S (a - 32772) t)) B w) := by
  have HF := Lib.hid (find_prt a h1 h2)
  have HR := Lib.hid (fun W (hP : Pb bb mb mbb pb wb B F G W) (hW : Below w.heap.size w W) => (by have := writeprt_c hP hB.s (a - 32772) v t ht; rw [wrPo_no hz] at this; exact this))
  have HP := Lib.hid h
  clear h hB
  generalize writeE B.S (a - 32772) t = X at *
  obtain ⟨xr, xe⟩ := X
  have hE0 : xe ≠ 0 := hz
  clear hz
  unfold wrBV at *
  dsimp only at *
  unfold FindEnd devV fnV at HF
  unfold BgEnd at HR
  have hst := store_fn Tryz.prog
  have hlt := klt HP.out.c0
  have hbb : ¬ bb = w.heap.size := by omega
  have hbb1 : ¬ bb = w.heap.size + 1 := by omega
  go_enter_defers Tryz.func11, Tryz.ntmps11
  go_wp2_with fail
  ((with_reducible refine (HF.out _).mono ?_); rintro _ u ⟨rfl, hb⟩)
  have T : CF u w.heap.size 0 (.int .u8 v) ∧ CF u w.heap.size 1 (.int .u8 t) ∧ CF u (w.heap.size + 1) 0 (.int .i64 0) := by
      refine ⟨⟨?_, ?_⟩, ⟨?_, ?_⟩, ⟨?_, ?_⟩⟩ <;> first | (refine kc hb ?_ <;> (go_simp; first | done | rfl)) | (refine kfz hb ?_ ?_ <;> first | (go_size; done) | (go_simp; done))
  have hz := hb.size
  (try simp only [World.size_alloc, World.size_setCell, World.size_drew] at hz)
  have L : w.heap.size < u.heap.size ∧ w.heap.size + 1 < u.heap.size := by omega
  have hB' : Below w.heap.size w u := by
      refine kb ?_ hb
      go_grown
  clear hb hz
  obtain ⟨⟨hx_0, fx_0⟩, ⟨hx_1, fx_1⟩, ⟨he_0, fe_0⟩⟩ := T
  obtain ⟨hlx, hle⟩ := L
  obtain ⟨hnx0, hnx1, hkx1, hnx2, hkx2⟩ := ap0 hlx
  obtain ⟨hne0, hke1⟩ := ap1 hle
  have hB := hB'; clear hB'
  have hsz := hB.size
  go_wp2_with fail
  obtain ⟨W1, hW1⟩ : ∃ W, W = u.alloc (Obj.cells #[.int .i64 32772, .int .i64 32776, .func (.func 95) #[] #[], .func (.func 96) #[] #[]] 93) := ⟨_, rfl⟩
  have hB1 : Below w.heap.size w W1 := by rw [hW1]; go_grown
  have hbu : Below u.heap.size u W1 := by rw [hW1]; go_grown
  have hz1 : W1.heap.size = u.heap.size + 1 := by rw [hW1]; simp
  have hzu : w.heap.size + 1 < u.heap.size := hle
  have x_0 := kc hbu hx_0
  have fx_0 := kfz hbu hlx fx_0
  have x_1 := kc hbu hx_1
  have fx_1 := kfz hbu hlx fx_1
  have e_0 := kc hbu he_0
  have fe_0 := kfz hbu hle fe_0
  have HB1 := Lib.hid hB1
  have HP1 := Lib.hid (HP.out.below hB1)
  rw [← hW1]
  clear hW1 hbu hB1
  refine (HR.out W1 HP1.out HB1.out).mono ?_
  rintro _ v' ⟨rfl, F', G', hg⟩
  have HG := Lib.hid (((Bg.refl HP.out).below HB1.out).trans hg)
  have nx := HP1.out.newFF (nb := w.heap.size)
  have n0 : ¬ footP bb mbb wb F w.heap.size := HP.out.newFF (Nat.le_refl _)
  have n1 : ¬ footP bb mbb wb F (w.heap.size + 1) := HP.out.newFF (Nat.le_succ _)
  have HN := Lib.hid (show ∀ k, H2 w.heap.size k → ¬ hangP bb mb mbb wb G' k from fun k hk => by
    rcases hk with rfl | rfl
    · exact HP.out.newG (Nat.le_refl _) (fun j hj => (hg.g j hj).imp id (fun h => by omega))
    · exact HP.out.newG (Nat.le_succ _) (fun j hj => (hg.g j hj).imp id (fun h => by omega)))
  have x_0 := hg.fr.cell x_0 n0
  have fx_0 := hg.fr.frozen (by omega) fx_0 n0
  have x_1 := hg.fr.cell x_1 n0
  have fx_1 := hg.fr.frozen (by omega) fx_1 n0
  have e_0 := hg.fr.cell e_0 n1
  have fe_0 := hg.fr.frozen (by omega) fe_0 n1
  have hzv := hg.fr.size
  have hxl : w.heap.size < v'.heap.size := by omega
  have hel : w.heap.size + 1 < v'.heap.size := by omega
  clear hg n0 n1 nx HR HF HP1 hz1
  go_wp2_with fail
  obtain ⟨Z, hZ⟩ : ∃ Z, Z = v'.setCell ⟨w.heap.size + 1, 0, none⟩ (.int .i64 xe) := ⟨_, rfl⟩
  have q_e : Z.cell? ⟨w.heap.size + 1, 0, none⟩ = some (.int .i64 xe) := by rw [hZ]; go_simp; first | done | rfl
  have hFZ : Fr (H2 w.heap.size) v' Z := by rw [hZ]; exact (Fr.refl (H2 w.heap.size) v').setCell _ _ (fun _ => .inr rfl)
  have HGZ := Lib.hid (HG.out.puts hFZ (fun k hk => by rcases hk with rfl | rfl <;> omega) HN.out)
  have hlz : w.heap.size + 1 < Z.heap.size := by rw [hZ]; simp; omega
  rw [← hZ]
  clear hZ hFZ
  refine leaves_cons (f := 40) (args := #[.pointer (some ⟨bb, 0, none⟩), .pointer (some ⟨w.heap.size + 1, 0, none⟩)]) (by simp) (by simp [go_sem]) ?_
  refine (passb_no bb Z (w.heap.size + 1) _ hE0 q_e).mono ?_
  rintro e d z ⟨rfl, rfl, hb⟩
  have q_e := kc hb q_e
  have HE := Lib.hid (HGZ.out.below hb)
  clear hb
  simp [Leaves, settle, results, Tryz.results11, go_sem, q_e]
  exact ⟨rfl, _, _, HE.out⟩
set_option maxRecDepth 100000 in
set_option maxHeartbeats 4000000 in
theorem busw_prt (h : Pb bb mb mbb pb wb B F G w) (hB : B.May) (hL : Laid w) (a v t : Int) (hv : 0 ≤ v ∧ v ≤ 255) (ht : 0 ≤ t ∧ t ≤ 255) (h1 : 32772 ≤ a) (h2 : a ≤ 32776) (hz : (writeE B.S (a - 32772) t).2 = 0) :
    Calls Tryz.prog 11 #[.pointer (some ⟨bb, 0, none⟩), .int .i64 a, .agg #[.int .u8 v, .int .u8 t]] w (BgEnd bb mb mbb pb wb F G (wrBV (writeE B.S (a - 32772) t)) ⟨((⟨B.M, B.T, wrPo B.S (a - 32772) v t B.n, B.W, B.n⟩ : Bs)).M, tickT ((⟨B.M, B.T, wrPo B.S (a - 32772) v t B.n, B.W, B.n⟩ : Bs)).T, ((⟨B.M, B.T, wrPo B.S (a - 32772) v t B.n, B.W, B.n⟩ : Bs)).S, ((⟨B.M, B.T, wrPo B.S (a - 32772) v t B.n, B.W, B.n⟩ : Bs)).W, ((⟨B.M, B.T, wrPo B.S (a - 32772) v t B.n, B.W, B.n⟩ : Bs)).n + 1⟩ w) := by
  have HF := Lib.hid (find_prt a h1 h2)
  have HR := Lib.hid (fun W (hP : Pb bb mb mbb pb wb B F G W) (hW : Below w.heap.size w W) => (writeprt_c hP hB.s (a - 32772) v t ht))
  have HP := Lib.hid h
  have hT' : ((⟨B.M, B.T, wrPo B.S (a - 32772) v t B.n, B.W, B.n⟩ : Bs)).T.May := hB.t
  have hN' : 0 ≤ ((⟨B.M, B.T, wrPo B.S (a - 32772) v t B.n, B.W, B.n⟩ : Bs)).n ∧ ((⟨B.M, B.T, wrPo B.S (a - 32772) v t B.n, B.W, B.n⟩ : Bs)).n ≤ 4611686018427387904 := hB.n
  clear h hB
  generalize wrPo B.S (a - 32772) v t B.n = S' at *
  generalize writeE B.S (a - 32772) t = X at *
  obtain ⟨xr, xe⟩ := X
  dsimp only at hz
  subst hz
  unfold wrBV at *
  dsimp only at *
  unfold FindEnd devV fnV at HF
  unfold BgEnd at HR
  have hst := store_fn Tryz.prog
  have hlt := klt HP.out.c0
  have hbb : ¬ bb = w.heap.size := by omega
  have hbb1 : ¬ bb = w.heap.size + 1 := by omega
  go_enter_defers Tryz.func11, Tryz.ntmps11
  go_wp2_with fail
  ((with_reducible refine (HF.out _).mono ?_); rintro _ u ⟨rfl, hb⟩)
  have T : CF u w.heap.size 0 (.int .u8 v) ∧ CF u w.heap.size 1 (.int .u8 t) ∧ CF u (w.heap.size + 1) 0 (.int .i64 0) := by
      refine ⟨⟨?_, ?_⟩, ⟨?_, ?_⟩, ⟨?_, ?_⟩⟩ <;> first | (refine kc hb ?_ <;> (go_simp; first | done | rfl)) | (refine kfz hb ?_ ?_ <;> first | (go_size; done) | (go_simp; done))
  have hz := hb.size
  (try simp only [World.size_alloc, World.size_setCell, World.size_drew] at hz)
  have L : w.heap.size < u.heap.size ∧ w.heap.size + 1 < u.heap.size := by omega
  have hB' : Below w.heap.size w u := by
      refine kb ?_ hb
      go_grown
  clear hb hz
  obtain ⟨⟨hx_0, fx_0⟩, ⟨hx_1, fx_1⟩, ⟨he_0, fe_0⟩⟩ := T
  obtain ⟨hlx, hle⟩ := L
  obtain ⟨hnx0, hnx1, hkx1, hnx2, hkx2⟩ := ap0 hlx
  obtain ⟨hne0, hke1⟩ := ap1 hle
  have hB := hB'; clear hB'
  have hsz := hB.size
  go_wp2_with fail
  obtain ⟨W1, hW1⟩ : ∃ W, W = u.alloc (Obj.cells #[.int .i64 32772, .int .i64 32776, .func (.func 95) #[] #[], .func (.func 96) #[] #[]] 93) := ⟨_, rfl⟩
  have hB1 : Below w.heap.size w W1 := by rw [hW1]; go_grown
  have hbu : Below u.heap.size u W1 := by rw [hW1]; go_grown
  have hz1 : W1.heap.size = u.heap.size + 1 := by rw [hW1]; simp
  have hzu : w.heap.size + 1 < u.heap.size := hle
  have x_0 := kc hbu hx_0
  have fx_0 := kfz hbu hlx fx_0
  have x_1 := kc hbu hx_1
  have fx_1 := kfz hbu hlx fx_1
  have e_0 := kc hbu he_0
  have fe_0 := kfz hbu hle fe_0
  have HB1 := Lib.hid hB1
  have HP1 := Lib.hid (HP.out.below hB1)
  rw [← hW1]
  clear hW1 hbu hB1
  refine (HR.out W1 HP1.out HB1.out).mono ?_
  rintro _ v' ⟨rfl, F', G', hg⟩
  have HG := Lib.hid (((Bg.refl HP.out).below HB1.out).trans hg)
  have nx := HP1.out.newFF (nb := w.heap.size)
  have n0 : ¬ footP bb mbb wb F w.heap.size := HP.out.newFF (Nat.le_refl _)
  have n1 : ¬ footP bb mbb wb F (w.heap.size + 1) := HP.out.newFF (Nat.le_succ _)
  have HN := Lib.hid (show ∀ k, H2 w.heap.size k → ¬ hangP bb mb mbb wb G' k from fun k hk => by
    rcases hk with rfl | rfl
    · exact HP.out.newG (Nat.le_refl _) (fun j hj => (hg.g j hj).imp id (fun h => by omega))
    · exact HP.out.newG (Nat.le_succ _) (fun j hj => (hg.g j hj).imp id (fun h => by omega)))
  have x_0 := hg.fr.cell x_0 n0
  have fx_0 := hg.fr.frozen (by omega) fx_0 n0
  have x_1 := hg.fr.cell x_1 n0
  have fx_1 := hg.fr.frozen (by omega) fx_1 n0
  have e_0 := hg.fr.cell e_0 n1
  have fe_0 := hg.fr.frozen (by omega) fe_0 n1
  have hzv := hg.fr.size
  have hxl : w.heap.size < v'.heap.size := by omega
  have hel : w.heap.size + 1 < v'.heap.size := by omega
  clear hg n0 n1 nx HR HF HP1 hz1
  go_wp2_with fail
  obtain ⟨Z, hZ⟩ : ∃ Z, Z = v'.setCell ⟨w.heap.size + 1, 0, none⟩ (.int .i64 0) := ⟨_, rfl⟩
  have q_e : Z.cell? ⟨w.heap.size + 1, 0, none⟩ = some (.int .i64 0) := by rw [hZ]; go_simp; first | done | rfl
  have hFZ : Fr (H2 w.heap.size) v' Z := by rw [hZ]; exact (Fr.refl (H2 w.heap.size) v').setCell _ _ (fun _ => .inr rfl)
  have HGZ := Lib.hid (HG.out.puts hFZ (fun k hk => by rcases hk with rfl | rfl <;> omega) HN.out)
  have hlz : w.heap.size + 1 < Z.heap.size := by rw [hZ]; simp; omega
  rw [← hZ]
  clear hZ hFZ
  refine leaves_cons (f := 40) (args := #[.pointer (some ⟨bb, 0, none⟩), .pointer (some ⟨w.heap.size + 1, 0, none⟩)]) (by simp) (by simp [go_sem]) ?_
  refine (passb_ok HGZ.out.b hT' hN' (w.heap.size + 1) q_e).mono ?_
  rintro e d z ⟨rfl, rfl, hown, hbg⟩
  have q_e := hown.fr.cell q_e (fun e => by omega)
  have hZz := hown.fr.size
  have HE := Lib.hid (HGZ.out.trans hbg)
  clear hown hbg
  simp [Leaves, settle, results, Tryz.results11, go_sem, q_e]
  exact ⟨rfl, _, _, HE.out⟩
set_option maxRecDepth 100000 in
set_option maxHeartbeats 4000000 in
theorem busw_mem (h : Pb bb mb mbb pb wb B F G w) (hB : B.May) (hL : Laid w) (a v t : Int) (hv : 0 ≤ v ∧ v ≤ 255) (ht : 0 ≤ t ∧ t ≤ 255) (ha : i64I a) (h1 : a < 32768 ∨ 32783 < a) (h0 : 0 ≤ a ∧ a ≤ 65535) :
    Calls Tryz.prog 11 #[.pointer (some ⟨bb, 0, none⟩), .int .i64 a, .agg #[.int .u8 v, .int .u8 t]] w (BgEnd bb mb mbb pb wb F G (wrBV (0, 0)) ⟨((⟨wrM B.M a v t, B.T, B.S, B.W, B.n⟩ : Bs)).M, tickT ((⟨wrM B.M a v t, B.T, B.S, B.W, B.n⟩ : Bs)).T, ((⟨wrM B.M a v t, B.T, B.S, B.W, B.n⟩ : Bs)).S, ((⟨wrM B.M a v t, B.T, B.S, B.W, B.n⟩ : Bs)).W, ((⟨wrM B.M a v t, B.T, B.S, B.W, B.n⟩ : Bs)).n + 1⟩ w) := by
  have HF := Lib.hid (find_mem a ha h1)
  have HR := Lib.hid (fun W (hP : Pb bb mb mbb pb wb B F G W) (hW : Below w.heap.size w W) => (by have := writemem_c hP (hL.below hW) a v t; rw [writeM_ok B.M a v t h0.1 h0.2 (by unfold devB; simp; omega)] at this; exact this))
  have HP := Lib.hid h
  have hT' : ((⟨wrM B.M a v t, B.T, B.S, B.W, B.n⟩ : Bs)).T.May := hB.t
  have hN' : 0 ≤ ((⟨wrM B.M a v t, B.T, B.S, B.W, B.n⟩ : Bs)).n ∧ ((⟨wrM B.M a v t, B.T, B.S, B.W, B.n⟩ : Bs)).n ≤ 4611686018427387904 := hB.n
  clear h hB
  generalize wrM B.M a v t = M' at *
  unfold wrBV at *
  dsimp only at *
  unfold FindEnd devV fnV at HF
  unfold BgEnd at HR
  have hst := store_fn Tryz.prog
  have hlt := klt HP.out.c0
  have hbb : ¬ bb = w.heap.size := by omega
  have hbb1 : ¬ bb = w.heap.size + 1 := by omega
  go_enter_defers Tryz.func11, Tryz.ntmps11
  go_wp2_with fail
  ((with_reducible refine (HF.out _).mono ?_); rintro _ u ⟨rfl, hb⟩)
  have T : CF u w.heap.size 0 (.int .u8 v) ∧ CF u w.heap.size 1 (.int .u8 t) ∧ CF u (w.heap.size + 1) 0 (.int .i64 0) := by
      refine ⟨⟨?_, ?_⟩, ⟨?_, ?_⟩, ⟨?_, ?_⟩⟩ <;> first | (refine kc hb ?_ <;> (go_simp; first | done | rfl)) | (refine kfz hb ?_ ?_ <;> first | (go_size; done) | (go_simp; done))
  have hz := hb.size
  (try simp only [World.size_alloc, World.size_setCell, World.size_drew] at hz)
  have L : w.heap.size < u.heap.size ∧ w.heap.size + 1 < u.heap.size := by omega
  have hB' : Below w.heap.size w u := by
      refine kb ?_ hb
      go_grown
  clear hb hz
  obtain ⟨⟨hx_0, fx_0⟩, ⟨hx_1, fx_1⟩, ⟨he_0, fe_0⟩⟩ := T
  obtain ⟨hlx, hle⟩ := L
  obtain ⟨hnx0, hnx1, hkx1, hnx2, hkx2⟩ := ap0 hlx
  obtain ⟨hne0, hke1⟩ := ap1 hle
  have hB := hB'; clear hB'
  have hsz := hB.size
  go_wp2_with fail
  obtain ⟨W1, hW1⟩ : ∃ W, W = u.alloc (Obj.cells #[.int .i64 0, .int .i64 0, .func (.func 74) #[] #[], .func (.func 75) #[] #[]] 93) := ⟨_, rfl⟩
  have hB1 : Below w.heap.size w W1 := by rw [hW1]; go_grown
  have hbu : Below u.heap.size u W1 := by rw [hW1]; go_grown
  have hz1 : W1.heap.size = u.heap.size + 1 := by rw [hW1]; simp
  have hzu : w.heap.size + 1 < u.heap.size := hle
  have x_0 := kc hbu hx_0
  have fx_0 := kfz hbu hlx fx_0
  have x_1 := kc hbu hx_1
  have fx_1 := kfz hbu hlx fx_1
  have e_0 := kc hbu he_0
  have fe_0 := kfz hbu hle fe_0
  have HB1 := Lib.hid hB1
  have HP1 := Lib.hid (HP.out.below hB1)
  rw [← hW1]
  clear hW1 hbu hB1
  refine (HR.out W1 HP1.out HB1.out).mono ?_
  rintro _ v' ⟨rfl, F', G', hg⟩
  have HG := Lib.hid (((Bg.refl HP.out).below HB1.out).trans hg)
  have nx := HP1.out.newFF (nb := w.heap.size)
  have n0 : ¬ footP bb mbb wb F w.heap.size := HP.out.newFF (Nat.le_refl _)
  have n1 : ¬ footP bb mbb wb F (w.heap.size + 1) := HP.out.newFF (Nat.le_succ _)
  have HN := Lib.hid (show ∀ k, H2 w.heap.size k → ¬ hangP bb mb mbb wb G' k from fun k hk => by
    rcases hk with rfl | rfl
    · exact HP.out.newG (Nat.le_refl _) (fun j hj => (hg.g j hj).imp id (fun h => by omega))
    · exact HP.out.newG (Nat.le_succ _) (fun j hj => (hg.g j hj).imp id (fun h => by omega)))
  have x_0 := hg.fr.cell x_0 n0
  have fx_0 := hg.fr.frozen (by omega) fx_0 n0
  have x_1 := hg.fr.cell x_1 n0
  have fx_1 := hg.fr.frozen (by omega) fx_1 n0
  have e_0 := hg.fr.cell e_0 n1
  have fe_0 := hg.fr.frozen (by omega) fe_0 n1
  have hzv := hg.fr.size
  have hxl : w.heap.size < v'.heap.size := by omega
  have hel : w.heap.size + 1 < v'.heap.size := by omega
  clear hg n0 n1 nx HR HF HP1 hz1
  go_wp2_with fail
  obtain ⟨Z, hZ⟩ : ∃ Z, Z = v'.setCell ⟨w.heap.size + 1, 0, none⟩ (.int .i64 0) := ⟨_, rfl⟩
  have q_e : Z.cell? ⟨w.heap.size + 1, 0, none⟩ = some (.int .i64 0) := by rw [hZ]; go_simp; first | done | rfl
  have hFZ : Fr (H2 w.heap.size) v' Z := by rw [hZ]; exact (Fr.refl (H2 w.heap.size) v').setCell _ _ (fun _ => .inr rfl)
  have HGZ := Lib.hid (HG.out.puts hFZ (fun k hk => by rcases hk with rfl | rfl <;> omega) HN.out)
  have hlz : w.heap.size + 1 < Z.heap.size := by rw [hZ]; simp; omega
  rw [← hZ]
  clear hZ hFZ
  refine leaves_cons (f := 40) (args := #[.pointer (some ⟨bb, 0, none⟩), .pointer (some ⟨w.heap.size + 1, 0, none⟩)]) (by simp) (by simp [go_sem]) ?_
  refine (passb_ok HGZ.out.b hT' hN' (w.heap.size + 1) q_e).mono ?_
  rintro e d z ⟨rfl, rfl, hown, hbg⟩
  have q_e := hown.fr.cell q_e (fun e => by omega)
  have hZz := hown.fr.size
  have HE := Lib.hid (HGZ.out.trans hbg)
  clear hown hbg
  simp [Leaves, settle, results, Tryz.results11, go_sem, q_e]
  exact ⟨rfl, _, _, HE.out⟩
set_option maxRecDepth 100000 in
set_option maxHeartbeats 4000000 in
theorem busw_bad (h : Pb bb mb mbb pb wb B F G w) (hB : B.May) (hL : Laid w) (a v t : Int) (hv : 0 ≤ v ∧ v ≤ 255) (ht : 0 ≤ t ∧ t ≤ 255) (ha : i64I a) (h1 : a < 32768 ∨ 32783 < a) (h0 : a < 0 ∨ 65535 < a) :
    Calls Tryz.prog 11 #[.pointer (some ⟨bb, 0, none⟩), .int .i64 a, .agg #[.int .u8 v, .int .u8 t]] w (BgEnd bb mb mbb pb wb F G (wrBV (0, 10)) B w) := by
  have HF := Lib.hid (find_mem a ha h1)
  have HR := Lib.hid (fun W (hP : Pb bb mb mbb pb wb B F G W) (hW : Below w.heap.size w W) => (by have := writemem_c hP (hL.below hW) a v t; rw [writeM_bad B.M a v t h0] at this; exact this))
  have HP := Lib.hid h
  clear h hB
  have hE0 : (10 : Int) ≠ 0 := by decide
  unfold wrBV at *
  dsimp only at *
  unfold FindEnd devV fnV at HF
  unfold BgEnd at HR
  have hst := store_fn Tryz.prog
  have hlt := klt HP.out.c0
  have hbb : ¬ bb = w.heap.size := by omega
  have hbb1 : ¬ bb = w.heap.size + 1 := by omega
  go_enter_defers Tryz.func11, Tryz.ntmps11
  go_wp2_with fail
  ((with_reducible refine (HF.out _).mono ?_); rintro _ u ⟨rfl, hb⟩)
  have T : CF u w.heap.size 0 (.int .u8 v) ∧ CF u w.heap.size 1 (.int .u8 t) ∧ CF u (w.heap.size + 1) 0 (.int .i64 0) := by
      refine ⟨⟨?_, ?_⟩, ⟨?_, ?_⟩, ⟨?_, ?_⟩⟩ <;> first | (refine kc hb ?_ <;> (go_simp; first | done | rfl)) | (refine kfz hb ?_ ?_ <;> first | (go_size; done) | (go_simp; done))
  have hz := hb.size
  (try simp only [World.size_alloc, World.size_setCell, World.size_drew] at hz)
  have L : w.heap.size < u.heap.size ∧ w.heap.size + 1 < u.heap.size := by omega
  have hB' : Below w.heap.size w u := by
      refine kb ?_ hb
      go_grown
  clear hb hz
  obtain ⟨⟨hx_0, fx_0⟩, ⟨hx_1, fx_1⟩, ⟨he_0, fe_0⟩⟩ := T
  obtain ⟨hlx, hle⟩ := L
  obtain ⟨hnx0, hnx1, hkx1, hnx2, hkx2⟩ := ap0 hlx
  obtain ⟨hne0, hke1⟩ := ap1 hle
  have hB := hB'; clear hB'
  have hsz := hB.size
  go_wp2_with fail
  obtain ⟨W1, hW1⟩ : ∃ W, W = u.alloc (Obj.cells #[.int .i64 0, .int .i64 0, .func (.func 74) #[] #[], .func (.func 75) #[] #[]] 93) := ⟨_, rfl⟩
  have hB1 : Below w.heap.size w W1 := by rw [hW1]; go_grown
  have hbu : Below u.heap.size u W1 := by rw [hW1]; go_grown
  have hz1 : W1.heap.size = u.heap.size + 1 := by rw [hW1]; simp
  have hzu : w.heap.size + 1 < u.heap.size := hle
  have x_0 := kc hbu hx_0
  have fx_0 := kfz hbu hlx fx_0
  have x_1 := kc hbu hx_1
  have fx_1 := kfz hbu hlx fx_1
  have e_0 := kc hbu he_0
  have fe_0 := kfz hbu hle fe_0
  have HB1 := Lib.hid hB1
  have HP1 := Lib.hid (HP.out.below hB1)
  rw [← hW1]
  clear hW1 hbu hB1
  refine (HR.out W1 HP1.out HB1.out).mono ?_
  rintro _ v' ⟨rfl, F', G', hg⟩
  have HG := Lib.hid (((Bg.refl HP.out).below HB1.out).trans hg)
  have nx := HP1.out.newFF (nb := w.heap.size)
  have n0 : ¬ footP bb mbb wb F w.heap.size := HP.out.newFF (Nat.le_refl _)
  have n1 : ¬ footP bb mbb wb F (w.heap.size + 1) := HP.out.newFF (Nat.le_succ _)
  have HN := Lib.hid (show ∀ k, H2 w.heap.size k → ¬ hangP bb mb mbb wb G' k from fun k hk => by
    rcases hk with rfl | rfl
    · exact HP.out.newG (Nat.le_refl _) (fun j hj => (hg.g j hj).imp id (fun h => by omega))
    · exact HP.out.newG (Nat.le_succ _) (fun j hj => (hg.g j hj).imp id (fun h => by omega)))
  have x_0 := hg.fr.cell x_0 n0
  have fx_0 := hg.fr.frozen (by omega) fx_0 n0
  have x_1 := hg.fr.cell x_1 n0
  have fx_1 := hg.fr.frozen (by omega) fx_1 n0
  have e_0 := hg.fr.cell e_0 n1
  have fe_0 := hg.fr.frozen (by omega) fe_0 n1
  have hzv := hg.fr.size
  have hxl : w.heap.size < v'.heap.size := by omega
  have hel : w.heap.size + 1 < v'.heap.size := by omega
  clear hg n0 n1 nx HR HF HP1 hz1
  go_wp2_with fail
  obtain ⟨Z, hZ⟩ : ∃ Z, Z = v'.setCell ⟨w.heap.size + 1, 0, none⟩ (.int .i64 10) := ⟨_, rfl⟩
  have q_e : Z.cell? ⟨w.heap.size + 1, 0, none⟩ = some (.int .i64 10) := by rw [hZ]; go_simp; first | done | rfl
  have hFZ : Fr (H2 w.heap.size) v' Z := by rw [hZ]; exact (Fr.refl (H2 w.heap.size) v').setCell _ _ (fun _ => .inr rfl)
  have HGZ := Lib.hid (HG.out.puts hFZ (fun k hk => by rcases hk with rfl | rfl <;> omega) HN.out)
  have hlz : w.heap.size + 1 < Z.heap.size := by rw [hZ]; simp; omega
  rw [← hZ]
  clear hZ hFZ
  refine leaves_cons (f := 40) (args := #[.pointer (some ⟨bb, 0, none⟩), .pointer (some ⟨w.heap.size + 1, 0, none⟩)]) (by simp) (by simp [go_sem]) ?_
  refine (passb_no bb Z (w.heap.size + 1) _ hE0 q_e).mono ?_
  rintro e d z ⟨rfl, rfl, hb⟩
  have q_e := kc hb q_e
  have HE := Lib.hid (HGZ.out.below hb)
  clear hb
  simp [Leaves, settle, results, Tryz.results11, go_sem, q_e]
  exact ⟨rfl, _, _, HE.out⟩
end
theorem busw_c (bb : Nat) (B : Bs) (F G : Nat → Prop) (a v t : Int) (w : World) (ha : i64I a) (hB : B.May) (hv : 0 ≤ v ∧ v ≤ 255) (ht : 0 ≤ t ∧ t ≤ 255) (hL : Laid w) (h : BO bb B F G w) :
    Calls Tryz.prog 11 #[.pointer (some ⟨bb, 0, none⟩), .int .i64 a, .agg #[.int .u8 v, .int .u8 t]] w (TEnd (BO bb (wrQ B a v t)) F G (wrBV (wrB B.S a t)) w) := by
  obtain ⟨mb, mbb, pb, wb, F0, G0, h, rfl, rfl⟩ := h
  have fin : ∀ (V V' : Value) (B1 B2 : Bs), V = V' → B1 = B2 → Calls Tryz.prog 11 #[.pointer (some ⟨bb, 0, none⟩), .int .i64 a, .agg #[.int .u8 v, .int .u8 t]] w (BgEnd bb mb mbb pb wb F0 G0 V' B2 w) →
      Calls Tryz.prog 11 #[.pointer (some ⟨bb, 0, none⟩), .int .i64 a, .agg #[.int .u8 v, .int .u8 t]] w (TEnd (BO bb B1) (footP bb mbb wb F0) (hangP bb mb mbb wb G0) V w) := fun V V' B1 B2 e1 e2 hc => by
    subst e1; subst e2
    exact hc.mono fun e u ⟨h1, F', G', hg⟩ => by subst h1; exact hg.end_
  have no : ∀ X : Int × Int, wrB B.S a t = X → X.2 ≠ 0 → wrQ B a v t = B := fun X e hx => by unfold wrQ; rw [if_pos (by rw [e]; exact hx)]
  have yes : ∀ X : Int × Int, wrB B.S a t = X → X.2 = 0 → wrQ B a v t = ⟨wrM B.M a v t, tickT (wrT B.T a v), wrPs B.S a v t B.n, wrWh B.W a v, B.n + 1⟩ := fun X e hx => by unfold wrQ; rw [if_neg (by rw [e]; simpa using hx)]
  have noM : ¬ (0 ≤ a ∧ a < 32768) → wrM B.M a v t = B.M := fun hn => by unfold wrM ramB; rw [if_neg (by simp; omega)]
  have noT : ¬ (32768 ≤ a ∧ a < 32772) → wrT B.T a v = B.T := fun hn => by unfold wrT; rw [if_neg hn]
  have noP : ¬ (32772 ≤ a ∧ a < 32777) → wrPs B.S a v t B.n = B.S := fun hn => by unfold wrPs; rw [if_neg hn]
  have noW : a ≠ 32777 → wrWh B.W a v = B.W := fun hn => by unfold wrWh; rw [if_neg hn]
  by_cases hbad : a < 0 ∨ 65535 < a
  · have e : wrB B.S a t = (0, 10) := by unfold wrB; rw [if_pos hbad]
    exact fin _ _ _ _ (by rw [e]) (no _ e (by decide)) (busw_bad h hB hL a v t hv ht ha (by omega) hbad)
  by_cases hm : a < 32768 ∨ 32783 < a
  · have e : wrB B.S a t = (0, 0) := by unfold wrB sinkB devB; rw [if_neg hbad, if_neg (by simp; omega), if_neg (by omega)]
    exact fin _ _ _ _ (by rw [e]) (by rw [yes _ e rfl, noT (by omega), noP (by omega), noW (by omega)]) (busw_mem h hB hL a v t hv ht ha hm (by omega))
  by_cases hp : 32772 ≤ a ∧ a < 32777
  · have e : wrB B.S a t = writeE B.S (a - 32772) t := by unfold wrB sinkB; rw [if_neg hbad, if_neg (by simp; omega), if_pos hp]
    by_cases hz : (writeE B.S (a - 32772) t).2 = 0
    · exact fin _ _ _ _ (by rw [e]) (by rw [yes _ e hz, noM (by omega), noT (by omega), noW (by omega)]; unfold wrPs; rw [if_pos hp]) (busw_prt h hB hL a v t hv ht (by omega) (by omega) hz)
    · exact fin _ _ _ _ (by rw [e]) (no _ e hz) (busw_prtno h hB hL a v t hv ht (by omega) (by omega) hz)
  by_cases hz : t = 0
  · have e : wrB B.S a t = (0, 0) := by unfold wrB sinkB; rw [if_neg hbad, if_neg (by simp; omega), if_neg hp]
    by_cases h1 : a < 32772
    · exact fin _ _ _ _ (by rw [e]) (by rw [yes _ e rfl, noM (by omega), noP hp, noW (by omega)]; unfold wrT; rw [if_pos (by omega)]) (busw_tim h hB hL a v t hv ht (by omega) (by omega) hz)
    · by_cases h3 : a < 32780
      · exact fin _ _ _ _ (by rw [e]) (by rw [yes _ e rfl, noM (by omega), noT (by omega), noP hp]; unfold wrWh wrS; by_cases hw : a = 32777 <;> simp [hw, hz] <;> omega) (busw_whl h hB hL a v t hv ht (by omega) (by omega) hz)
      · exact fin _ _ _ _ (by rw [e]) (by rw [yes _ e rfl, noM (by omega), noT (by omega), noP hp, noW (by omega)]) (busw_not h hB hL a v t hv ht (by omega) (by omega) hz)
  · have e : wrB B.S a t = (4, 20) := by unfold wrB sinkB devB; rw [if_neg hbad, if_pos (by simp; omega)]
    by_cases h1 : a < 32772
    · exact fin _ _ _ _ (by rw [e]) (no _ e (by decide)) (busw_timsec h hB hL a v t hv ht (by omega) (by omega) hz)
    · by_cases h3 : a < 32780
      · exact fin _ _ _ _ (by rw [e]) (no _ e (by decide)) (busw_whlsec h hB hL a v t hv ht (by omega) (by omega) hz)
      · exact fin _ _ _ _ (by rw [e]) (no _ e (by decide)) (busw_nosec h hB hL a v t hv ht (by omega) (by omega) hz)
end Go.Proofs.YtcnejgilmciljaaGreatDoor
