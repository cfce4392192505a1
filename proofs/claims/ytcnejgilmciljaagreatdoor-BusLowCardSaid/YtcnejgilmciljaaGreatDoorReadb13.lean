/-
  The program's bus: Read (genrw13.py writes it).
-/
import Derived.Test.YtcnejgilmciljaaGreatDoorMemV13
set_option linter.unusedSimpArgs false
set_option linter.unusedVariables false
namespace Go.Proofs.YtcnejgilmciljaaGreatDoor
open Go.RowKit Go.PlainAid

theorem rdPo_ok {S : Po} {reg : Int} (h : 0 ≤ reg ∧ reg ≤ 4) : rdPo S reg = ((rdPo S reg).1, (rdPo S reg).2.1, 0) := by
  unfold rdPo
  split
  · rfl
  · split
    · rfl
    · split
      · rfl
      · split
        · rfl
        · split
          · rfl
          · omega
theorem find_tim (a : Int) (h1 : 32768 ≤ a) (h2 : a ≤ 32771) (w : World) : Calls Tryz.prog 41 #[.int .i64 a] w (FindEnd 32768 32771 93 94 (a - 32768) w) := by
  refine (find_c a ⟨by omega, by omega⟩ w).mono fun e u h => ?_
  rcases h with h | h | h | h | h
  all_goals first | omega | exact h.2.2
theorem find_prt (a : Int) (h1 : 32772 ≤ a) (h2 : a ≤ 32776) (w : World) : Calls Tryz.prog 41 #[.int .i64 a] w (FindEnd 32772 32776 95 96 (a - 32772) w) := by
  refine (find_c a ⟨by omega, by omega⟩ w).mono fun e u h => ?_
  rcases h with h | h | h | h | h
  all_goals first | omega | exact h.2.2
theorem find_whl (a : Int) (h1 : 32777 ≤ a) (h2 : a ≤ 32779) (w : World) : Calls Tryz.prog 41 #[.int .i64 a] w (FindEnd 32777 32779 97 98 (a - 32777) w) := by
  refine (find_c a ⟨by omega, by omega⟩ w).mono fun e u h => ?_
  rcases h with h | h | h | h | h
  all_goals first | omega | exact h.2.2
theorem find_not (a : Int) (h1 : 32780 ≤ a) (h2 : a ≤ 32783) (w : World) : Calls Tryz.prog 41 #[.int .i64 a] w (FindEnd 32780 32783 99 100 (a - 32780) w) := by
  refine (find_c a ⟨by omega, by omega⟩ w).mono fun e u h => ?_
  rcases h with h | h | h | h | h
  all_goals first | omega | exact h.2.2
theorem find_mem (a : Int) (ha : i64I a) (h1 : a < 32768 ∨ 32783 < a) (w : World) : Calls Tryz.prog 41 #[.int .i64 a] w (FindEnd 0 0 74 75 a w) := by
  refine (find_c a ha w).mono fun e u h => ?_
  rcases h with h | h | h | h | h
  all_goals first | omega | exact h.2
theorem Pb.newFF {bb mb mbb pb wb : Nat} {B : Bs} {F G : Nat → Prop} {w : World} {nb : Nat} (h : Pb bb mb mbb pb wb B F G w) (hn : w.heap.size ≤ nb) : ¬ footP bb mbb wb F nb := fun e => by
  refine h.new hn ?_
  rcases e with e | e | e | e
  · exact .inl e
  · exact .inr (.inr (.inl e))
  · exact .inr (.inr (.inr (.inl e)))
  · exact .inr (.inr (.inr (.inr ((PO.frm _ _).sub h.p _ e))))
theorem Bg.puts {bb mb mbb pb wb : Nat} {B' : Bs} {F G F' G' H : Nat → Prop} {w u v : World} (h : Bg bb mb mbb pb wb F G w B' F' G' u) (hf : Fr H u v) (hn : ∀ k, H k → w.heap.size ≤ k) (hg : ∀ k, H k → ¬ hangP bb mb mbb wb G' k) : Bg bb mb mbb pb wb F G w B' F' G' v :=
  ⟨h.b.fr hf (fun k hk e => hg k e hk), h.fr.trans hf (fun b hb e => by have := hn b e; omega), h.f, h.g⟩
def H2 (n : Nat) (k : Nat) : Prop := k = n ∨ k = n + 1
section
variable {bb mb mbb pb wb : Nat} {B : Bs} {F G : Nat → Prop} {w : World}
theorem bgEnd_below {r : FuncId} {args : Array Value} {V : Value} {W : World} (hP : Pb bb mb mbb pb wb B F G W) (h : Calls Tryz.prog r args W fun e u => e = .returned V ∧ Below W.heap.size W u) : Calls Tryz.prog r args W (BgEnd bb mb mbb pb wb F G V B W) :=
  h.mono fun e u ⟨h1, h2⟩ => ⟨h1, F, G, (Bg.refl hP).below h2⟩
set_option maxRecDepth 100000 in
set_option maxHeartbeats 4000000 in
theorem busr_not (h : Pb bb mb mbb pb wb B F G w) (hB : B.May) (hL : Laid w) (a : Int) (h1 : 32780 ≤ a) (h2 : a ≤ 32783) :
    Calls Tryz.prog 13 #[.pointer (some ⟨bb, 0, none⟩), .int .i64 a] w (BgEnd bb mb mbb pb wb F G (rdBV (255, 0, 0)) ⟨(B).M, tickT (B).T, (B).S, (B).W, (B).n + 1⟩ w) := by
  have HF := Lib.hid (find_not a h1 h2)
  have HR := Lib.hid (fun W (hP : Pb bb mb mbb pb wb B F G W) (hW : Below w.heap.size w W) => bgEnd_below hP (readnot_c (some ⟨bb, 0, none⟩) (a - 32780) W))
  have HP := Lib.hid h
  have hT' : (B).T.May := hB.t
  have hN' : 0 ≤ (B).n ∧ (B).n ≤ 4611686018427387904 := hB.n
  clear h hB
  unfold rdBV at *
  dsimp only at *
  unfold FindEnd devV fnV at HF
  unfold BgEnd at HR
  have hst := store_fn Tryz.prog
  have hlt := klt HP.out.c0
  have hbb : ¬ bb = w.heap.size := by omega
  have hbb1 : ¬ bb = w.heap.size + 1 := by omega
  go_enter_defers Tryz.func13, Tryz.ntmps13
  go_wp2_with fail
  ((with_reducible refine (HF.out _).mono ?_); rintro _ u ⟨rfl, hb⟩)
  have T : CF u w.heap.size 0 (.int .u8 0) ∧ CF u w.heap.size 1 (.int .u8 0) ∧ CF u (w.heap.size + 1) 0 (.int .i64 0) := by
      refine ⟨⟨?_, ?_⟩, ⟨?_, ?_⟩, ⟨?_, ?_⟩⟩ <;> first | (refine kc hb ?_ <;> (go_simp; first | done | rfl)) | (refine kfz hb ?_ ?_ <;> first | (go_size; done) | (go_simp; done))
  have hz := hb.size
  (try simp only [World.size_alloc, World.size_setCell, World.size_drew] at hz)
  have L : w.heap.size < u.heap.size ∧ w.heap.size + 1 < u.heap.size := by omega
  have hB' : Below w.heap.size w u := by
      refine kb ?_ hb
      go_grown
  clear hb hz
  obtain ⟨⟨hx_0, fx_0⟩, ⟨hx_1, fx_1⟩, ⟨he_0, fe_0⟩⟩ := T
  obtain ⟨hlx, hle⟩ := L
  obtain ⟨hnx0, hnx1, hkx1, hnx2, hkx2⟩ := ap0 hlx
  obtain ⟨hne0, hke1⟩ := ap1 hle
  have hB := hB'; clear hB'
  have hsz := hB.size
  go_wp2_with fail
  obtain ⟨W1, hW1⟩ : ∃ W, W = u.alloc (Obj.cells #[.int .i64 32780, .int .i64 32783, .func (.func 99) #[] #[], .func (.func 100) #[] #[]] 93) := ⟨_, rfl⟩
  have hB1 : Below w.heap.size w W1 := by rw [hW1]; go_grown
  have hbu : Below u.heap.size u W1 := by rw [hW1]; go_grown
  have hz1 : W1.heap.size = u.heap.size + 1 := by rw [hW1]; simp
  have hzu : w.heap.size + 1 < u.heap.size := hle
  have x_0 := kc hbu hx_0
  have fx_0 := kfz hbu hlx fx_0
  have x_1 := kc hbu hx_1
  have fx_1 := kfz hbu hlx fx_1
  have e_0 := kc hbu he_0
  have fe_0 := kfz hbu hle fe_0
  have HB1 := Lib.hid hB1
  have HP1 := Lib.hid (HP.out.below hB1)
  rw [← hW1]
  clear hW1 hbu hB1
  refine (HR.out W1 HP1.out HB1.out).mono ?_
  rintro _ v ⟨rfl, F', G', hg⟩
  have HG := Lib.hid (((Bg.refl HP.out).below HB1.out).trans hg)
  have nx := HP1.out.newFF (nb := w.heap.size)
  have n0 : ¬ footP bb mbb wb F w.heap.size := HP.out.newFF (Nat.le_refl _)
  have n1 : ¬ footP bb mbb wb F (w.heap.size + 1) := HP.out.newFF (Nat.le_succ _)
  have HN := Lib.hid (show ∀ k, H2 w.heap.size k → ¬ hangP bb mb mbb wb G' k from fun k hk => by
    rcases hk with rfl | rfl
    · exact HP.out.newG (Nat.le_refl _) (fun j hj => (hg.g j hj).imp id (fun h => by omega))
    · exact HP.out.newG (Nat.le_succ _) (fun j hj => (hg.g j hj).imp id (fun h => by omega)))
  have x_0 := hg.fr.cell x_0 n0
  have fx_0 := hg.fr.frozen (by omega) fx_0 n0
  have x_1 := hg.fr.cell x_1 n0
  have fx_1 := hg.fr.frozen (by omega) fx_1 n0
  have e_0 := hg.fr.cell e_0 n1
  have fe_0 := hg.fr.frozen (by omega) fe_0 n1
  have hzv := hg.fr.size
  have hxl : w.heap.size < v.heap.size := by omega
  have hel : w.heap.size + 1 < v.heap.size := by omega
  clear hg n0 n1 nx HR HF HP1 hz1
  go_wp2_with fail
  obtain ⟨Z, hZ⟩ : ∃ Z, Z = ((v.setCell ⟨w.heap.size, 0, none⟩ (.int .u8 255)).setCell ⟨w.heap.size, 1, none⟩ (.int .u8 0)).setCell ⟨w.heap.size + 1, 0, none⟩ (.int .i64 0) := ⟨_, rfl⟩
  have q_0 : Z.cell? ⟨w.heap.size, 0, none⟩ = some (.int .u8 255) := by rw [hZ]; go_simp; first | done | rfl
  have q_1 : Z.cell? ⟨w.heap.size, 1, none⟩ = some (.int .u8 0) := by rw [hZ]; go_simp; first | done | rfl
  have q_e : Z.cell? ⟨w.heap.size + 1, 0, none⟩ = some (.int .i64 0) := by rw [hZ]; go_simp; first | done | rfl
  have hFZ : Fr (H2 w.heap.size) v Z := by rw [hZ]; exact (((Fr.refl (H2 w.heap.size) v).setCell _ _ (fun _ => .inl rfl)).setCell _ _ (fun _ => .inl rfl)).setCell _ _ (fun _ => .inr rfl)
  have HGZ := Lib.hid (HG.out.puts hFZ (fun k hk => by rcases hk with rfl | rfl <;> omega) HN.out)
  have hlz : w.heap.size + 1 < Z.heap.size := by rw [hZ]; simp; omega
  rw [← hZ]
  clear hZ hFZ
  refine leaves_cons (f := 40) (args := #[.pointer (some ⟨bb, 0, none⟩), .pointer (some ⟨w.heap.size + 1, 0, none⟩)]) (by simp) (by simp [go_sem]) ?_
  refine (passb_ok HGZ.out.b hT' hN' (w.heap.size + 1) q_e).mono ?_
  rintro e d z ⟨rfl, rfl, hown, hbg⟩
  have q_0 := hown.fr.cell q_0 (fun e => by omega)
  have q_1 := hown.fr.cell q_1 (fun e => by omega)
  have q_e := hown.fr.cell q_e (fun e => by omega)
  have hZz := hown.fr.size
  have HE := Lib.hid (HGZ.out.trans hbg)
  clear hown hbg
  simp [Leaves, settle, results, Tryz.results13, go_sem, q_0, q_1, q_e]
  exact ⟨rfl, _, _, HE.out⟩
set_option maxRecDepth 100000 in
set_option maxHeartbeats 4000000 in
theorem busr_tim (h : Pb bb mb mbb pb wb B F G w) (hB : B.May) (hL : Laid w) (a : Int) (h1 : 32768 ≤ a) (h2 : a ≤ 32771) :
    Calls Tryz.prog 13 #[.pointer (some ⟨bb, 0, none⟩), .int .i64 a] w (BgEnd bb mb mbb pb wb F G (rdBV (readT B.T (a - 32768), 0, 0)) ⟨(B).M, tickT (B).T, (B).S, (B).W, (B).n + 1⟩ w) := by
  have HF := Lib.hid (find_tim a h1 h2)
  have HR := Lib.hid (fun W (hP : Pb bb mb mbb pb wb B F G W) (hW : Below w.heap.size w W) => bgEnd_below hP (by have := readtim_c hP hB.t (a - 32768); rw [show regE (a - 32768) = 0 from if_pos (by omega)] at this; exact this))
  have HP := Lib.hid h
  have hT' : (B).T.May := hB.t
  have hN' : 0 ≤ (B).n ∧ (B).n ≤ 4611686018427387904 := hB.n
  clear h hB
  generalize readT B.T (a - 32768) = xv at *
  unfold rdBV at *
  dsimp only at *
  unfold FindEnd devV fnV at HF
  unfold BgEnd at HR
  have hst := store_fn Tryz.prog
  have hlt := klt HP.out.c0
  have hbb : ¬ bb = w.heap.size := by omega
  have hbb1 : ¬ bb = w.heap.size + 1 := by omega
  go_enter_defers Tryz.func13, Tryz.ntmps13
  go_wp2_with fail
  ((with_reducible refine (HF.out _).mono ?_); rintro _ u ⟨rfl, hb⟩)
  have T : CF u w.heap.size 0 (.int .u8 0) ∧ CF u w.heap.size 1 (.int .u8 0) ∧ CF u (w.heap.size + 1) 0 (.int .i64 0) := by
      refine ⟨⟨?_, ?_⟩, ⟨?_, ?_⟩, ⟨?_, ?_⟩⟩ <;> first | (refine kc hb ?_ <;> (go_simp; first | done | rfl)) | (refine kfz hb ?_ ?_ <;> first | (go_size; done) | (go_simp; done))
  have hz := hb.size
  (try simp only [World.size_alloc, World.size_setCell, World.size_drew] at hz)
  have L : w.heap.size < u.heap.size ∧ w.heap.size + 1 < u.heap.size := by omega
  have hB' : Below w.heap.size w u := by
      refine kb ?_ hb
      go_grown
  clear hb hz
  obtain ⟨⟨hx_0, fx_0⟩, ⟨hx_1, fx_1⟩, ⟨he_0, fe_0⟩⟩ := T
  obtain ⟨hlx, hle⟩ := L
  obtain ⟨hnx0, hnx1, hkx1, hnx2, hkx2⟩ := ap0 hlx
  obtain ⟨hne0, hke1⟩ := ap1 hle
  have hB := hB'; clear hB'
  have hsz := hB.size
  go_wp2_with fail
  obtain ⟨W1, hW1⟩ : ∃ W, W = u.alloc (Obj.cells #[.int .i64 32768, .int .i64 32771, .func (.func 93) #[] #[], .func (.func 94) #[] #[]] 93) := ⟨_, rfl⟩
  have hB1 : Below w.heap.size w W1 := by rw [hW1]; go_grown
  have hbu : Below u.heap.size u W1 := by rw [hW1]; go_grown
  have hz1 : W1.heap.size = u.heap.size + 1 := by rw [hW1]; simp
  have hzu : w.heap.size + 1 < u.heap.size := hle
  have x_0 := kc hbu hx_0
  have fx_0 := kfz hbu hlx fx_0
  have x_1 := kc hbu hx_1
  have fx_1 := kfz hbu hlx fx_1
  have e_0 := kc hbu he_0
  have fe_0 := kfz hbu hle fe_0
  have HB1 := Lib.hid hB1
  have HP1 := Lib.hid (HP.out.below hB1)
  rw [← hW1]
  clear hW1 hbu hB1
  refine (HR.out W1 HP1.out HB1.out).mono ?_
  rintro _ v ⟨rfl, F', G', hg⟩
  have HG := Lib.hid (((Bg.refl HP.out).below HB1.out).trans hg)
  have nx := HP1.out.newFF (nb := w.heap.size)
  have n0 : ¬ footP bb mbb wb F w.heap.size := HP.out.newFF (Nat.le_refl _)
  have n1 : ¬ footP bb mbb wb F (w.heap.size + 1) := HP.out.newFF (Nat.le_succ _)
  have HN := Lib.hid (show ∀ k, H2 w.heap.size k → ¬ hangP bb mb mbb wb G' k from fun k hk => by
    rcases hk with rfl | rfl
    · exact HP.out.newG (Nat.le_refl _) (fun j hj => (hg.g j hj).imp id (fun h => by omega))
    · exact HP.out.newG (Nat.le_succ _) (fun j hj => (hg.g j hj).imp id (fun h => by omega)))
  have x_0 := hg.fr.cell x_0 n0
  have fx_0 := hg.fr.frozen (by omega) fx_0 n0
  have x_1 := hg.fr.cell x_1 n0
  have fx_1 := hg.fr.frozen (by omega) fx_1 n0
  have e_0 := hg.fr.cell e_0 n1
  have fe_0 := hg.fr.frozen (by omega) fe_0 n1
  have hzv := hg.fr.size
  have hxl : w.heap.size < v.heap.size := by omega
  have hel : w.heap.size + 1 < v.heap.size := by omega
  clear hg n0 n1 nx HR HF HP1 hz1
  go_wp2_with fail
  obtain ⟨Z, hZ⟩ : ∃ Z, Z = ((v.setCell ⟨w.heap.size, 0, none⟩ (.int .u8 xv)).setCell ⟨w.heap.size, 1, none⟩ (.int .u8 0)).setCell ⟨w.heap.size + 1, 0, none⟩ (.int .i64 0) := ⟨_, rfl⟩
  have q_0 : Z.cell? ⟨w.heap.size, 0, none⟩ = some (.int .u8 xv) := by rw [hZ]; go_simp; first | done | rfl
  have q_1 : Z.cell? ⟨w.heap.size, 1, none⟩ = some (.int .u8 0) := by rw [hZ]; go_simp; first | done | rfl
  have q_e : Z.cell? ⟨w.heap.size + 1, 0, none⟩ = some (.int .i64 0) := by rw [hZ]; go_simp; first | done | rfl
  have hFZ : Fr (H2 w.heap.size) v Z := by rw [hZ]; exact (((Fr.refl (H2 w.heap.size) v).setCell _ _ (fun _ => .inl rfl)).setCell _ _ (fun _ => .inl rfl)).setCell _ _ (fun _ => .inr rfl)
  have HGZ := Lib.hid (HG.out.puts hFZ (fun k hk => by rcases hk with rfl | rfl <;> omega) HN.out)
  have hlz : w.heap.size + 1 < Z.heap.size := by rw [hZ]; simp; omega
  rw [← hZ]
  clear hZ hFZ
  refine leaves_cons (f := 40) (args := #[.pointer (some ⟨bb, 0, none⟩), .pointer (some ⟨w.heap.size + 1, 0, none⟩)]) (by simp) (by simp [go_sem]) ?_
  refine (passb_ok HGZ.out.b hT' hN' (w.heap.size + 1) q_e).mono ?_
  rintro e d z ⟨rfl, rfl, hown, hbg⟩
  have q_0 := hown.fr.cell q_0 (fun e => by omega)
  have q_1 := hown.fr.cell q_1 (fun e => by omega)
  have q_e := hown.fr.cell q_e (fun e => by omega)
  have hZz := hown.fr.size
  have HE := Lib.hid (HGZ.out.trans hbg)
  clear hown hbg
  simp [Leaves, settle, results, Tryz.results13, go_sem, q_0, q_1, q_e]
  exact ⟨rfl, _, _, HE.out⟩
set_option maxRecDepth 100000 in
set_option maxHeartbeats 4000000 in
theorem busr_whl (h : Pb bb mb mbb pb wb B F G w) (hB : B.May) (hL : Laid w) (a : Int) (h1 : 32777 ≤ a) (h2 : a ≤ 32779) :
    Calls Tryz.prog 13 #[.pointer (some ⟨bb, 0, none⟩), .int .i64 a] w (BgEnd bb mb mbb pb wb F G (rdBV (rdW B.W (a - 32777), 0, 0)) ⟨(B).M, tickT (B).T, (B).S, (B).W, (B).n + 1⟩ w) := by
  have HF := Lib.hid (find_whl a h1 h2)
  have HR := Lib.hid (fun W (hP : Pb bb mb mbb pb wb B F G W) (hW : Below w.heap.size w W) => bgEnd_below hP (by have := readwhl_c hP hB.w (a - 32777); rw [show rdE (a - 32777) = 0 from if_pos (by omega)] at this; exact this))
  have HP := Lib.hid h
  have hT' : (B).T.May := hB.t
  have hN' : 0 ≤ (B).n ∧ (B).n ≤ 4611686018427387904 := hB.n
  clear h hB
  generalize rdW B.W (a - 32777) = xv at *
  unfold rdBV at *
  dsimp only at *
  unfold FindEnd devV fnV at HF
  unfold BgEnd at HR
  have hst := store_fn Tryz.prog
  have hlt := klt HP.out.c0
  have hbb : ¬ bb = w.heap.size := by omega
  have hbb1 : ¬ bb = w.heap.size + 1 := by omega
  go_enter_defers Tryz.func13, Tryz.ntmps13
  go_wp2_with fail
  ((with_reducible refine (HF.out _).mono ?_); rintro _ u ⟨rfl, hb⟩)
  have T : CF u w.heap.size 0 (.int .u8 0) ∧ CF u w.heap.size 1 (.int .u8 0) ∧ CF u (w.heap.size + 1) 0 (.int .i64 0) := by
      refine ⟨⟨?_, ?_⟩, ⟨?_, ?_⟩, ⟨?_, ?_⟩⟩ <;> first | (refine kc hb ?_ <;> (go_simp; first | done | rfl)) | (refine kfz hb ?_ ?_ <;> first | (go_size; done) | (go_simp; done))
  have hz := hb.size
  (try simp only [World.size_alloc, World.size_setCell, World.size_drew] at hz)
  have L : w.heap.size < u.heap.size ∧ w.heap.size + 1 < u.heap.size := by omega
  have hB' : Below w.heap.size w u := by
      refine kb ?_ hb
      go_grown
  clear hb hz
  obtain ⟨⟨hx_0, fx_0⟩, ⟨hx_1, fx_1⟩, ⟨he_0, fe_0⟩⟩ := T
  obtain ⟨hlx, hle⟩ := L
  obtain ⟨hnx0, hnx1, hkx1, hnx2, hkx2⟩ := ap0 hlx
  obtain ⟨hne0, hke1⟩ := ap1 hle
  have hB := hB'; clear hB'
  have hsz := hB.size
  go_wp2_with fail
  obtain ⟨W1, hW1⟩ : ∃ W, W = u.alloc (Obj.cells #[.int .i64 32777, .int .i64 32779, .func (.func 97) #[] #[], .func (.func 98) #[] #[]] 93) := ⟨_, rfl⟩
  have hB1 : Below w.heap.size w W1 := by rw [hW1]; go_grown
  have hbu : Below u.heap.size u W1 := by rw [hW1]; go_grown
  have hz1 : W1.heap.size = u.heap.size + 1 := by rw [hW1]; simp
  have hzu : w.heap.size + 1 < u.heap.size := hle
  have x_0 := kc hbu hx_0
  have fx_0 := kfz hbu hlx fx_0
  have x_1 := kc hbu hx_1
  have fx_1 := kfz hbu hlx fx_1
  have e_0 := kc hbu he_0
  have fe_0 := kfz hbu hle fe_0
  have HB1 := Lib.hid hB1
  have HP1 := Lib.hid (HP.out.below hB1)
  rw [← hW1]
  clear hW1 hbu hB1
  refine (HR.out W1 HP1.out HB1.out).mono ?_
  rintro _ v ⟨rfl, F', G', hg⟩
  have HG := Lib.hid (((Bg.refl HP.out).below HB1.out).trans hg)
  have nx := HP1.out.newFF (nb := w.heap.size)
  have n0 : ¬ footP bb mbb wb F w.heap.size := HP.out.newFF (Nat.le_refl _)
  have n1 : ¬ footP bb mbb wb F (w.heap.size + 1) := HP.out.newFF (Nat.le_succ _)
  have HN := Lib.hid (show ∀ k, H2 w.heap.size k → ¬ hangP bb mb mbb wb G' k from fun k hk => by
    rcases hk with rfl | rfl
    · exact HP.out.newG (Nat.le_refl _) (fun j hj => (hg.g j hj).imp id (fun h => by omega))
    · exact HP.out.newG (Nat.le_succ _) (fun j hj => (hg.g j hj).imp id (fun h => by omega)))
  have x_0 := hg.fr.cell x_0 n0
  have fx_0 := hg.fr.frozen (by omega) fx_0 n0
  have x_1 := hg.fr.cell x_1 n0
  have fx_1 := hg.fr.frozen (by omega) fx_1 n0
  have e_0 := hg.fr.cell e_0 n1
  have fe_0 := hg.fr.frozen (by omega) fe_0 n1
  have hzv := hg.fr.size
  have hxl : w.heap.size < v.heap.size := by omega
  have hel : w.heap.size + 1 < v.heap.size := by omega
  clear hg n0 n1 nx HR HF HP1 hz1
  go_wp2_with fail
  obtain ⟨Z, hZ⟩ : ∃ Z, Z = ((v.setCell ⟨w.heap.size, 0, none⟩ (.int .u8 xv)).setCell ⟨w.heap.size, 1, none⟩ (.int .u8 0)).setCell ⟨w.heap.size + 1, 0, none⟩ (.int .i64 0) := ⟨_, rfl⟩
  have q_0 : Z.cell? ⟨w.heap.size, 0, none⟩ = some (.int .u8 xv) := by rw [hZ]; go_simp; first | done | rfl
  have q_1 : Z.cell? ⟨w.heap.size, 1, none⟩ = some (.int .u8 0) := by rw [hZ]; go_simp; first | done | rfl
  have q_e : Z.cell? ⟨w.heap.size + 1, 0, none⟩ = some (.int .i64 0) := by rw [hZ]; go_simp; first | done | rfl
  have hFZ : Fr (H2 w.heap.size) v Z := by rw [hZ]; exact (((Fr.refl (H2 w.heap.size) v).setCell _ _ (fun _ => .inl rfl)).setCell _ _ (fun _ => .inl rfl)).setCell _ _ (fun _ => .inr rfl)
  have HGZ := Lib.hid (HG.out.puts hFZ (fun k hk => by rcases hk with rfl | rfl <;> omega) HN.out)
  have hlz : w.heap.size + 1 < Z.heap.size := by rw [hZ]; simp; omega
  rw [← hZ]
  clear hZ hFZ
  refine leaves_cons (f := 40) (args := #[.pointer (some ⟨bb, 0, none⟩), .pointer (some ⟨w.heap.size + 1, 0, none⟩)]) (by simp) (by simp [go_sem]) ?_
  refine (passb_ok HGZ.out.b hT' hN' (w.heap.size + 1) q_e).mono ?_
  rintro e d z ⟨rfl, rfl, hown, hbg⟩
  have q_0 := hown.fr.cell q_0 (fun e => by omega)
  have q_1 := hown.fr.cell q_1 (fun e => by omega)
  have q_e := hown.fr.cell q_e (fun e => by omega)
  have hZz := hown.fr.size
  have HE := Lib.hid (HGZ.out.trans hbg)
  clear hown hbg
  simp [Leaves, settle, results, Tryz.results13, go_sem, q_0, q_1, q_e]
  exact ⟨rfl, _, _, HE.out⟩
set_option maxRecDepth 100000 in
set_option maxHeartbeats 4000000 in
theorem busr_prt (h : Pb bb mb mbb pb wb B F G w) (hB : B.May) (hL : Laid w) (a : Int) (h1 : 32772 ≤ a) (h2 : a ≤ 32776) :
    Calls Tryz.prog 13 #[.pointer (some ⟨bb, 0, none⟩), .int .i64 a] w (BgEnd bb mb mbb pb wb F G (rdBV ((rdPo B.S (a - 32772)).1, (rdPo B.S (a - 32772)).2.1, 0)) ⟨((⟨B.M, B.T, readS B.S (a - 32772), B.W, B.n⟩ : Bs)).M, tickT ((⟨B.M, B.T, readS B.S (a - 32772), B.W, B.n⟩ : Bs)).T, ((⟨B.M, B.T, readS B.S (a - 32772), B.W, B.n⟩ : Bs)).S, ((⟨B.M, B.T, readS B.S (a - 32772), B.W, B.n⟩ : Bs)).W, ((⟨B.M, B.T, readS B.S (a - 32772), B.W, B.n⟩ : Bs)).n + 1⟩ w) := by
  have HF := Lib.hid (find_prt a h1 h2)
  have HR := Lib.hid (fun W (hP : Pb bb mb mbb pb wb B F G W) (hW : Below w.heap.size w W) => (by have := readprt_c hP hB.s (a - 32772); rw [show rdPo B.S (a - 32772) = ((rdPo B.S (a - 32772)).1, (rdPo B.S (a - 32772)).2.1, 0) from rdPo_ok (by omega)] at this; exact this))
  have HP := Lib.hid h
  have hT' : ((⟨B.M, B.T, readS B.S (a - 32772), B.W, B.n⟩ : Bs)).T.May := hB.t
  have hN' : 0 ≤ ((⟨B.M, B.T, readS B.S (a - 32772), B.W, B.n⟩ : Bs)).n ∧ ((⟨B.M, B.T, readS B.S (a - 32772), B.W, B.n⟩ : Bs)).n ≤ 4611686018427387904 := hB.n
  clear h hB
  generalize (rdPo B.S (a - 32772)).1 = xv at *
  generalize (rdPo B.S (a - 32772)).2.1 = xt at *
  generalize readS B.S (a - 32772) = S' at *
  unfold rdBV at *
  dsimp only at *
  unfold FindEnd devV fnV at HF
  unfold BgEnd at HR
  have hst := store_fn Tryz.prog
  have hlt := klt HP.out.c0
  have hbb : ¬ bb = w.heap.size := by omega
  have hbb1 : ¬ bb = w.heap.size + 1 := by omega
  go_enter_defers Tryz.func13, Tryz.ntmps13
  go_wp2_with fail
  ((with_reducible refine (HF.out _).mono ?_); rintro _ u ⟨rfl, hb⟩)
  have T : CF u w.heap.size 0 (.int .u8 0) ∧ CF u w.heap.size 1 (.int .u8 0) ∧ CF u (w.heap.size + 1) 0 (.int .i64 0) := by
      refine ⟨⟨?_, ?_⟩, ⟨?_, ?_⟩, ⟨?_, ?_⟩⟩ <;> first | (refine kc hb ?_ <;> (go_simp; first | done | rfl)) | (refine kfz hb ?_ ?_ <;> first | (go_size; done) | (go_simp; done))
  have hz := hb.size
  (try simp only [World.size_alloc, World.size_setCell, World.size_drew] at hz)
  have L : w.heap.size < u.heap.size ∧ w.heap.size + 1 < u.heap.size := by omega
  have hB' : Below w.heap.size w u := by
      refine kb ?_ hb
      go_grown
  clear hb hz
  obtain ⟨⟨hx_0, fx_0⟩, ⟨hx_1, fx_1⟩, ⟨he_0, fe_0⟩⟩ := T
  obtain ⟨hlx, hle⟩ := L
  obtain ⟨hnx0, hnx1, hkx1, hnx2, hkx2⟩ := ap0 hlx
  obtain ⟨hne0, hke1⟩ := ap1 hle
  have hB := hB'; clear hB'
  have hsz := hB.size
  go_wp2_with fail
  obtain ⟨W1, hW1⟩ : ∃ W, W = u.alloc (Obj.cells #[.int .i64 32772, .int .i64 32776, .func (.func 95) #[] #[], .func (.func 96) #[] #[]] 93) := ⟨_, rfl⟩
  have hB1 : Below w.heap.size w W1 := by rw [hW1]; go_grown
  have hbu : Below u.heap.size u W1 := by rw [hW1]; go_grown
  have hz1 : W1.heap.size = u.heap.size + 1 := by rw [hW1]; simp
  have hzu : w.heap.size + 1 < u.heap.size := hle
  have x_0 := kc hbu hx_0
  have fx_0 := kfz hbu hlx fx_0
  have x_1 := kc hbu hx_1
  have fx_1 := kfz hbu hlx fx_1
  have e_0 := kc hbu he_0
  have fe_0 := kfz hbu hle fe_0
  have HB1 := Lib.hid hB1
  have HP1 := Lib.hid (HP.out.below hB1)
  rw [← hW1]
  clear hW1 hbu hB1
  refine (HR.out W1 HP1.out HB1.out).mono ?_
  rintro _ v ⟨rfl, F', G', hg⟩
  have HG := Lib.hid (((Bg.refl HP.out).below HB1.out).trans hg)
  have nx := HP1.out.newFF (nb := w.heap.size)
  have n0 : ¬ footP bb mbb wb F w.heap.size := HP.out.newFF (Nat.le_refl _)
  have n1 : ¬ footP bb mbb wb F (w.heap.size + 1) := HP.out.newFF (Nat.le_succ _)
  have HN := Lib.hid (show ∀ k, H2 w.heap.size k → ¬ hangP bb mb mbb wb G' k from fun k hk => by
    rcases hk with rfl | rfl
    · exact HP.out.newG (Nat.le_refl _) (fun j hj => (hg.g j hj).imp id (fun h => by omega))
    · exact HP.out.newG (Nat.le_succ _) (fun j hj => (hg.g j hj).imp id (fun h => by omega)))
  have x_0 := hg.fr.cell x_0 n0
  have fx_0 := hg.fr.frozen (by omega) fx_0 n0
  have x_1 := hg.fr.cell x_1 n0
  have fx_1 := hg.fr.frozen (by omega) fx_1 n0
  have e_0 := hg.fr.cell e_0 n1
  have fe_0 := hg.fr.frozen (by omega) fe_0 n1
  have hzv := hg.fr.size
  have hxl : w.heap.size < v.heap.size := by omega
  have hel : w.heap.size + 1 < v.heap.size := by omega
  clear hg n0 n1 nx HR HF HP1 hz1
  go_wp2_with fail
  obtain ⟨Z, hZ⟩ : ∃ Z, Z = ((v.setCell ⟨w.heap.size, 0, none⟩ (.int .u8 xv)).setCell ⟨w.heap.size, 1, none⟩ (.int .u8 xt)).setCell ⟨w.heap.size + 1, 0, none⟩ (.int .i64 0) := ⟨_, rfl⟩
  have q_0 : Z.cell? ⟨w.heap.size, 0, none⟩ = some (.int .u8 xv) := by rw [hZ]; go_simp; first | done | rfl
  have q_1 : Z.cell? ⟨w.heap.size, 1, none⟩ = some (.int .u8 xt) := by rw [hZ]; go_simp; first | done | rfl
  have q_e : Z.cell? ⟨w.heap.size + 1, 0, none⟩ = some (.int .i64 0) := by rw [hZ]; go_simp; first | done | rfl
  have hFZ : Fr (H2 w.heap.size) v Z := by rw [hZ]; exact (((Fr.refl (H2 w.heap.size) v).setCell _ _ (fun _ => .inl rfl)).setCell _ _ (fun _ => .inl rfl)).setCell _ _ (fun _ => .inr rfl)
  have HGZ := Lib.hid (HG.out.puts hFZ (fun k hk => by rcases hk with rfl | rfl <;> omega) HN.out)
  have hlz : w.heap.size + 1 < Z.heap.size := by rw [hZ]; simp; omega
  rw [← hZ]
  clear hZ hFZ
  refine leaves_cons (f := 40) (args := #[.pointer (some ⟨bb, 0, none⟩), .pointer (some ⟨w.heap.size + 1, 0, none⟩)]) (by simp) (by simp [go_sem]) ?_
  refine (passb_ok HGZ.out.b hT' hN' (w.heap.size + 1) q_e).mono ?_
  rintro e d z ⟨rfl, rfl, hown, hbg⟩
  have q_0 := hown.fr.cell q_0 (fun e => by omega)
  have q_1 := hown.fr.cell q_1 (fun e => by omega)
  have q_e := hown.fr.cell q_e (fun e => by omega)
  have hZz := hown.fr.size
  have HE := Lib.hid (HGZ.out.trans hbg)
  clear hown hbg
  simp [Leaves, settle, results, Tryz.results13, go_sem, q_0, q_1, q_e]
  exact ⟨rfl, _, _, HE.out⟩
set_option maxRecDepth 100000 in
set_option maxHeartbeats 4000000 in
theorem busr_mem (h : Pb bb mb mbb pb wb B F G w) (hB : B.May) (hL : Laid w) (a : Int) (ha : i64I a) (h1 : a < 32768 ∨ 32783 < a) (h0 : 0 ≤ a ∧ a ≤ 65535) :
    Calls Tryz.prog 13 #[.pointer (some ⟨bb, 0, none⟩), .int .i64 a] w (BgEnd bb mb mbb pb wb F G (rdBV ((memV B.M a).1, (memV B.M a).2, 0)) ⟨(B).M, tickT (B).T, (B).S, (B).W, (B).n + 1⟩ w) := by
  have HF := Lib.hid (find_mem a ha h1)
  have HR := Lib.hid (fun W (hP : Pb bb mb mbb pb wb B F G W) (hW : Below w.heap.size w W) => bgEnd_below hP (by have := readmem_c hP (hL.below hW) a; rw [prM_memV B.M a h0.1 h0.2 (by unfold devB; simp; omega)] at this; exact this))
  have HP := Lib.hid h
  have hT' : (B).T.May := hB.t
  have hN' : 0 ≤ (B).n ∧ (B).n ≤ 4611686018427387904 := hB.n
  clear h hB
  generalize (memV B.M a).1 = xv at *
  generalize (memV B.M a).2 = xt at *
  unfold rdBV at *
  dsimp only at *
  unfold FindEnd devV fnV at HF
  unfold BgEnd at HR
  have hst := store_fn Tryz.prog
  have hlt := klt HP.out.c0
  have hbb : ¬ bb = w.heap.size := by omega
  have hbb1 : ¬ bb = w.heap.size + 1 := by omega
  go_enter_defers Tryz.func13, Tryz.ntmps13
  go_wp2_with fail
  ((with_reducible refine (HF.out _).mono ?_); rintro _ u ⟨rfl, hb⟩)
  have T : CF u w.heap.size 0 (.int .u8 0) ∧ CF u w.heap.size 1 (.int .u8 0) ∧ CF u (w.heap.size + 1) 0 (.int .i64 0) := by
      refine ⟨⟨?_, ?_⟩, ⟨?_, ?_⟩, ⟨?_, ?_⟩⟩ <;> first | (refine kc hb ?_ <;> (go_simp; first | done | rfl)) | (refine kfz hb ?_ ?_ <;> first | (go_size; done) | (go_simp; done))
  have hz := hb.size
  (try simp only [World.size_alloc, World.size_setCell, World.size_drew] at hz)
  have L : w.heap.size < u.heap.size ∧ w.heap.size + 1 < u.heap.size := by omega
  have hB' : Below w.heap.size w u := by
      refine kb ?_ hb
      go_grown
  clear hb hz
  obtain ⟨⟨hx_0, fx_0⟩, ⟨hx_1, fx_1⟩, ⟨he_0, fe_0⟩⟩ := T
  obtain ⟨hlx, hle⟩ := L
  obtain ⟨hnx0, hnx1, hkx1, hnx2, hkx2⟩ := ap0 hlx
  obtain ⟨hne0, hke1⟩ := ap1 hle
  have hB := hB'; clear hB'
  have hsz := hB.size
  go_wp2_with fail
  obtain ⟨W1, hW1⟩ : ∃ W, W = u.alloc (Obj.cells #[.int .i64 0, .int .i64 0, .func (.func 74) #[] #[], .func (.func 75) #[] #[]] 93) := ⟨_, rfl⟩
  have hB1 : Below w.heap.size w W1 := by rw [hW1]; go_grown
  have hbu : Below u.heap.size u W1 := by rw [hW1]; go_grown
  have hz1 : W1.heap.size = u.heap.size + 1 := by rw [hW1]; simp
  have hzu : w.heap.size + 1 < u.heap.size := hle
  have x_0 := kc hbu hx_0
  have fx_0 := kfz hbu hlx fx_0
  have x_1 := kc hbu hx_1
  have fx_1 := kfz hbu hlx fx_1
  have e_0 := kc hbu he_0
  have fe_0 := kfz hbu hle fe_0
  have HB1 := Lib.hid hB1
  have HP1 := Lib.hid (HP.out.below hB1)
  rw [← hW1]
  clear hW1 hbu hB1
  refine (HR.out W1 HP1.out HB1.out).mono ?_
  rintro _ v ⟨rfl, F', G', hg⟩
  have HG := Lib.hid (((Bg.refl HP.out).below HB1.out).trans hg)
  have nx := HP1.out.newFF (nb := w.heap.size)
  have n0 : ¬ footP bb mbb wb F w.heap.size := HP.out.newFF (Nat.le_refl _)
  have n1 : ¬ footP bb mbb wb F (w.heap.size + 1) := HP.out.newFF (Nat.le_succ _)
  have HN := Lib.hid (show ∀ k, H2 w.heap.size k → ¬ hangP bb mb mbb wb G' k from fun k hk => by
    rcases hk with rfl | rfl
    · exact HP.out.newG (Nat.le_refl _) (fun j hj => (hg.g j hj).imp id (fun h => by omega))
    · exact HP.out.newG (Nat.le_succ _) (fun j hj => (hg.g j hj).imp id (fun h => by omega)))
  have x_0 := hg.fr.cell x_0 n0
  have fx_0 := hg.fr.frozen (by omega) fx_0 n0
  have x_1 := hg.fr.cell x_1 n0
  have fx_1 := hg.fr.frozen (by omega) fx_1 n0
  have e_0 := hg.fr.cell e_0 n1
  have fe_0 := hg.fr.frozen (by omega) fe_0 n1
  have hzv := hg.fr.size
  have hxl : w.heap.size < v.heap.size := by omega
  have hel : w.heap.size + 1 < v.heap.size := by omega
  clear hg n0 n1 nx HR HF HP1 hz1
  go_wp2_with fail
  obtain ⟨Z, hZ⟩ : ∃ Z, Z = ((v.setCell ⟨w.heap.size, 0, none⟩ (.int .u8 xv)).setCell ⟨w.heap.size, 1, none⟩ (.int .u8 xt)).setCell ⟨w.heap.size + 1, 0, none⟩ (.int .i64 0) := ⟨_, rfl⟩
  have q_0 : Z.cell? ⟨w.heap.size, 0, none⟩ = some (.int .u8 xv) := by rw [hZ]; go_simp; first | done | rfl
  have q_1 : Z.cell? ⟨w.heap.size, 1, none⟩ = some (.int .u8 xt) := by rw [hZ]; go_simp; first | done | rfl
  have q_e : Z.cell? ⟨w.heap.size + 1, 0, none⟩ = some (.int .i64 0) := by rw [hZ]; go_simp; first | done | rfl
  have hFZ : Fr (H2 w.heap.size) v Z := by rw [hZ]; exact (((Fr.refl (H2 w.heap.size) v).setCell _ _ (fun _ => .inl rfl)).setCell _ _ (fun _ => .inl rfl)).setCell _ _ (fun _ => .inr rfl)
  have HGZ := Lib.hid (HG.out.puts hFZ (fun k hk => by rcases hk with rfl | rfl <;> omega) HN.out)
  have hlz : w.heap.size + 1 < Z.heap.size := by rw [hZ]; simp; omega
  rw [← hZ]
  clear hZ hFZ
  refine leaves_cons (f := 40) (args := #[.pointer (some ⟨bb, 0, none⟩), .pointer (some ⟨w.heap.size + 1, 0, none⟩)]) (by simp) (by simp [go_sem]) ?_
  refine (passb_ok HGZ.out.b hT' hN' (w.heap.size + 1) q_e).mono ?_
  rintro e d z ⟨rfl, rfl, hown, hbg⟩
  have q_0 := hown.fr.cell q_0 (fun e => by omega)
  have q_1 := hown.fr.cell q_1 (fun e => by omega)
  have q_e := hown.fr.cell q_e (fun e => by omega)
  have hZz := hown.fr.size
  have HE := Lib.hid (HGZ.out.trans hbg)
  clear hown hbg
  simp [Leaves, settle, results, Tryz.results13, go_sem, q_0, q_1, q_e]
  exact ⟨rfl, _, _, HE.out⟩
set_option maxRecDepth 100000 in
set_option maxHeartbeats 4000000 in
theorem busr_bad (h : Pb bb mb mbb pb wb B F G w) (hB : B.May) (hL : Laid w) (a : Int) (ha : i64I a) (h1 : a < 32768 ∨ 32783 < a) (h0 : a < 0 ∨ 65535 < a) :
    Calls Tryz.prog 13 #[.pointer (some ⟨bb, 0, none⟩), .int .i64 a] w (BgEnd bb mb mbb pb wb F G (rdBV (0, 0, 10)) B w) := by
  have HF := Lib.hid (find_mem a ha h1)
  have HR := Lib.hid (fun W (hP : Pb bb mb mbb pb wb B F G W) (hW : Below w.heap.size w W) => bgEnd_below hP (by have := readmem_c hP (hL.below hW) a; rw [prM_bad B.M a h0] at this; exact this))
  have HP := Lib.hid h
  clear h hB
  have hE0 : (10 : Int) ≠ 0 := by decide
  unfold rdBV at *
  dsimp only at *
  unfold FindEnd devV fnV at HF
  unfold BgEnd at HR
  have hst := store_fn Tryz.prog
  have hlt := klt HP.out.c0
  have hbb : ¬ bb = w.heap.size := by omega
  have hbb1 : ¬ bb = w.heap.size + 1 := by omega
  go_enter_defers Tryz.func13, Tryz.ntmps13
  go_wp2_with fail
  ((with_reducible refine (HF.out _).mono ?_); rintro _ u ⟨rfl, hb⟩)
  have T : CF u w.heap.size 0 (.int .u8 0) ∧ CF u w.heap.size 1 (.int .u8 0) ∧ CF u (w.heap.size + 1) 0 (.int .i64 0) := by
      refine ⟨⟨?_, ?_⟩, ⟨?_, ?_⟩, ⟨?_, ?_⟩⟩ <;> first | (refine kc hb ?_ <;> (go_simp; first | done | rfl)) | (refine kfz hb ?_ ?_ <;> first | (go_size; done) | (go_simp; done))
  have hz := hb.size
  (try simp only [World.size_alloc, World.size_setCell, World.size_drew] at hz)
  have L : w.heap.size < u.heap.size ∧ w.heap.size + 1 < u.heap.size := by omega
  have hB' : Below w.heap.size w u := by
      refine kb ?_ hb
      go_grown
  clear hb hz
  obtain ⟨⟨hx_0, fx_0⟩, ⟨hx_1, fx_1⟩, ⟨he_0, fe_0⟩⟩ := T
  obtain ⟨hlx, hle⟩ := L
  obtain ⟨hnx0, hnx1, hkx1, hnx2, hkx2⟩ := ap0 hlx
  obtain ⟨hne0, hke1⟩ := ap1 hle
  have hB := hB'; clear hB'
  have hsz := hB.size
  go_wp2_with fail
  obtain ⟨W1, hW1⟩ : ∃ W, W = u.alloc (Obj.cells #[.int .i64 0, .int .i64 0, .func (.func 74) #[] #[], .func (.func 75) #[] #[]] 93) := ⟨_, rfl⟩
  have hB1 : Below w.heap.size w W1 := by rw [hW1]; go_grown
  have hbu : Below u.heap.size u W1 := by rw [hW1]; go_grown
  have hz1 : W1.heap.size = u.heap.size + 1 := by rw [hW1]; simp
  have hzu : w.heap.size + 1 < u.heap.size := hle
  have x_0 := kc hbu hx_0
  have fx_0 := kfz hbu hlx fx_0
  have x_1 := kc hbu hx_1
  have fx_1 := kfz hbu hlx fx_1
  have e_0 := kc hbu he_0
  have fe_0 := kfz hbu hle fe_0
  have HB1 := Lib.hid hB1
  have HP1 := Lib.hid (HP.out.below hB1)
  rw [← hW1]
  clear hW1 hbu hB1
  refine (HR.out W1 HP1.out HB1.out).mono ?_
  rintro _ v ⟨rfl, F', G', hg⟩
  have HG := Lib.hid (((Bg.refl HP.out).below HB1.out).trans hg)
  have nx := HP1.out.newFF (nb := w.heap.size)
  have n0 : ¬ footP bb mbb wb F w.heap.size := HP.out.newFF (Nat.le_refl _)
  have n1 : ¬ footP bb mbb wb F (w.heap.size + 1) := HP.out.newFF (Nat.le_succ _)
  have HN := Lib.hid (show ∀ k, H2 w.heap.size k → ¬ hangP bb mb mbb wb G' k from fun k hk => by
    rcases hk with rfl | rfl
    · exact HP.out.newG (Nat.le_refl _) (fun j hj => (hg.g j hj).imp id (fun h => by omega))
    · exact HP.out.newG (Nat.le_succ _) (fun j hj => (hg.g j hj).imp id (fun h => by omega)))
  have x_0 := hg.fr.cell x_0 n0
  have fx_0 := hg.fr.frozen (by omega) fx_0 n0
  have x_1 := hg.fr.cell x_1 n0
  have fx_1 := hg.fr.frozen (by omega) fx_1 n0
  have e_0 := hg.fr.cell e_0 n1
  have fe_0 := hg.fr.frozen (by omega) fe_0 n1
  have hzv := hg.fr.size
  have hxl : w.heap.size < v.heap.size := by omega
  have hel : w.heap.size + 1 < v.heap.size := by omega
  clear hg n0 n1 nx HR HF HP1 hz1
  go_wp2_with fail
  obtain ⟨Z, hZ⟩ : ∃ Z, Z = ((v.setCell ⟨w.heap.size, 0, none⟩ (.int .u8 0)).setCell ⟨w.heap.size, 1, none⟩ (.int .u8 0)).setCell ⟨w.heap.size + 1, 0, none⟩ (.int .i64 10) := ⟨_, rfl⟩
  have q_0 : Z.cell? ⟨w.heap.size, 0, none⟩ = some (.int .u8 0) := by rw [hZ]; go_simp; first | done | rfl
  have q_1 : Z.cell? ⟨w.heap.size, 1, none⟩ = some (.int .u8 0) := by rw [hZ]; go_simp; first | done | rfl
  have q_e : Z.cell? ⟨w.heap.size + 1, 0, none⟩ = some (.int .i64 10) := by rw [hZ]; go_simp; first | done | rfl
  have hFZ : Fr (H2 w.heap.size) v Z := by rw [hZ]; exact (((Fr.refl (H2 w.heap.size) v).setCell _ _ (fun _ => .inl rfl)).setCell _ _ (fun _ => .inl rfl)).setCell _ _ (fun _ => .inr rfl)
  have HGZ := Lib.hid (HG.out.puts hFZ (fun k hk => by rcases hk with rfl | rfl <;> omega) HN.out)
  have hlz : w.heap.size + 1 < Z.heap.size := by rw [hZ]; simp; omega
  rw [← hZ]
  clear hZ hFZ
  refine leaves_cons (f := 40) (args := #[.pointer (some ⟨bb, 0, none⟩), .pointer (some ⟨w.heap.size + 1, 0, none⟩)]) (by simp) (by simp [go_sem]) ?_
  refine (passb_no bb Z (w.heap.size + 1) _ hE0 q_e).mono ?_
  rintro e d z ⟨rfl, rfl, hb⟩
  have q_0 := kc hb q_0
  have q_1 := kc hb q_1
  have q_e := kc hb q_e
  have HE := Lib.hid (HGZ.out.below hb)
  clear hb
  simp [Leaves, settle, results, Tryz.results13, go_sem, q_0, q_1, q_e]
  exact ⟨rfl, _, _, HE.out⟩
end
theorem rdB_whB (W : Wh) (reg : Int) (h : 0 ≤ reg ∧ reg ≤ 2) : rdW W reg = whB W reg := by
  unfold rdW whB
  by_cases h0 : reg = 0
  · subst h0; rw [if_pos rfl, if_neg (by decide), if_neg (by decide)]
  · rw [if_neg h0]
    by_cases h1 : reg = 1
    · rw [if_pos h1, if_pos h1]
    · rw [if_neg h1, if_neg h1, if_pos (by omega), if_pos (by omega)]
theorem busr_c (bb : Nat) (B : Bs) (F G : Nat → Prop) (a : Int) (w : World) (ha : i64I a) (hB : B.May) (hL : Laid w) (h : BO bb B F G w) :
    Calls Tryz.prog 13 #[.pointer (some ⟨bb, 0, none⟩), .int .i64 a] w (TEnd (BO bb (rdQ B a)) F G (rdBV (rdB (memV B.M) B.T B.S B.W a)) w) := by
  obtain ⟨mb, mbb, pb, wb, F0, G0, h, rfl, rfl⟩ := h
  have fin : ∀ (V V' : Value) (B1 B2 : Bs), V = V' → B1 = B2 → Calls Tryz.prog 13 #[.pointer (some ⟨bb, 0, none⟩), .int .i64 a] w (BgEnd bb mb mbb pb wb F0 G0 V' B2 w) →
      Calls Tryz.prog 13 #[.pointer (some ⟨bb, 0, none⟩), .int .i64 a] w (TEnd (BO bb B1) (footP bb mbb wb F0) (hangP bb mb mbb wb G0) V w) := fun V V' B1 B2 e1 e2 hc => by
    subst e1; subst e2
    exact hc.mono fun e u ⟨h1, F', G', hg⟩ => by subst h1; exact hg.end_
  by_cases hbad : a < 0 ∨ 65535 < a
  · exact fin _ _ _ _ (by unfold rdB; rw [if_pos hbad]) (by unfold rdQ; rw [if_pos hbad]) (busr_bad h hB hL a ha (by omega) hbad)
  by_cases hm : a < 32768 ∨ 32783 < a
  · exact fin _ _ _ _ (by unfold rdB; rw [if_neg hbad, if_pos (by unfold devB; simp; omega)]) (by unfold rdQ rdPs; rw [if_neg hbad, if_neg (by omega)]) (busr_mem h hB hL a ha hm (by omega))
  have hd : ¬ devB a = false := by unfold devB; simp; omega
  by_cases h1 : a < 32772
  · exact fin _ _ _ _ (by unfold rdB; rw [if_neg hbad, if_neg hd, if_pos h1]) (by unfold rdQ rdPs; rw [if_neg hbad, if_neg (by omega)]) (busr_tim h hB hL a (by omega) (by omega))
  by_cases h2 : a < 32777
  · exact fin _ _ _ _ (by unfold rdB; rw [if_neg hbad, if_neg hd, if_neg h1, if_pos h2]) (by unfold rdQ rdPs; rw [if_neg hbad, if_pos (by omega)]) (busr_prt h hB hL a (by omega) (by omega))
  by_cases h3 : a < 32780
  · exact fin _ _ _ _ (by unfold rdB; rw [if_neg hbad, if_neg hd, if_neg h1, if_neg h2, if_pos h3, rdB_whB _ _ (by omega)]) (by unfold rdQ rdPs; rw [if_neg hbad, if_neg (by omega)]) (busr_whl h hB hL a (by omega) (by omega))
  · exact fin _ _ _ _ (by unfold rdB; rw [if_neg hbad, if_neg hd, if_neg h1, if_neg h2, if_neg h3]) (by unfold rdQ rdPs; rw [if_neg hbad, if_neg (by omega)]) (busr_not h hB hL a (by omega) (by omega))
end Go.Proofs.YtcnejgilmciljaaGreatDoor
