/-
  The program's bus: which device has an address.
  The program's bus: what is read of a device, and of memory; what is handed out.
  The program's bus: a cycle that passes, put off by a defer.
  The bytes of a bus's memory, as memory's Read and Write tell them.
-/
import Derived.Test.YtcnejgilmciljaaGreatDoorDevs13
import Derived.Test.YtcnejgilmciljaaGreatDoorBase
import Derived.Test.YtcnejgilmciljaaGreatDoorLoadp8
import Derived.Test.YtcnejgilmciljaaGreatDoorReadp11
import Derived.Test.YtcnejgilmciljaaGreatDoorClonep11
import Derived.Test.YtcnejgilmciljaaGreatDoorBusK13
import Derived.Defers
import Derived.Test.YtcnejgilmciljaaGreatDoorEqArr
set_option linter.unusedSimpArgs false
set_option linter.unusedVariables false
namespace Go.Proofs.YtcnejgilmciljaaGreatDoor
open Go.RowKit Go.PlainAid

/-- What find answers. -/
def FindEnd (f t : Int) (r x : Nat) (reg : Int) (w : World) : Ending → World → Prop := fun e w' => e = .returned (.tuple #[devV f t r x, .int .i64 reg]) ∧ Below w.heap.size w w'
set_option maxRecDepth 100000 in
set_option maxHeartbeats 4000000 in
theorem find_0 (a : Int) (ha : i64I a) (d0 : decide (a < 32768) = true) (w : World) : Calls Tryz.prog 41 #[.int .i64 a] w (FindEnd 0 0 74 75 a w) := by
  obtain ⟨ha1, ha2⟩ := ha
  have hst := store_fn Tryz.prog
  have HD := Lib.hid devs_c
  have hx0 := fun W => (index_devs W).1
  have hx1 := fun W => (index_devs W).2.1
  have hx2 := fun W => (index_devs W).2.2.1
  have hx3 := fun W => (index_devs W).2.2.2
  generalize devsV = DV at *
  unfold FindEnd
  unfold devV fnV at *
  have hw : IntKind.i64.wrap a = a := IntWalk.i64_in _ ⟨ha1, ha2⟩
  go_enter Tryz.func41, Tryz.ntmps41
  go_wp2_with fail
  refine wp_scope_hid 0 fun C hC => ?_
  go_wp2_with fail
  apply wp_label
  go_wp2_with fail
  ((with_reducible refine (HD.out _).mono ?_); rintro _ u ⟨rfl, hb⟩)
  have T : CF u w.heap.size 0 (.int .i64 0) ∧ CF u w.heap.size 1 (.int .i64 0) ∧ CF u w.heap.size 2 (.nilFunc) ∧ CF u w.heap.size 3 (.nilFunc) ∧ CF u (w.heap.size + 1) 0 (.int .i64 0) ∧ CF u (w.heap.size + 1) 1 (.int .i64 0) ∧ CF u (w.heap.size + 1) 2 (.func (.func 74) #[] #[]) ∧ CF u (w.heap.size + 1) 3 (.func (.func 75) #[] #[]) := by
      refine ⟨⟨?_, ?_⟩, ⟨?_, ?_⟩, ⟨?_, ?_⟩, ⟨?_, ?_⟩, ⟨?_, ?_⟩, ⟨?_, ?_⟩, ⟨?_, ?_⟩, ⟨?_, ?_⟩⟩ <;> first | (refine kc hb ?_ <;> (go_simp; first | done | rfl)) | (refine kfz hb ?_ ?_ <;> first | (go_size; done) | (go_simp; done))
  have hz := hb.size
  (try simp only [World.size_alloc, World.size_setCell, World.size_drew] at hz)
  have L : w.heap.size < u.heap.size ∧ w.heap.size + 1 < u.heap.size := by omega
  have hB' : Below w.heap.size w u := by
      refine kb ?_ hb
      go_grown
  clear hb hz
  obtain ⟨⟨hr_0, fr_0⟩, ⟨hr_1, fr_1⟩, ⟨hr_2, fr_2⟩, ⟨hr_3, fr_3⟩, ⟨hf_0, ff_0⟩, ⟨hf_1, ff_1⟩, ⟨hf_2, ff_2⟩, ⟨hf_3, ff_3⟩⟩ := T
  obtain ⟨hlr, hlf⟩ := L
  obtain ⟨hnr0, hnr1, hkr1, hnr2, hkr2⟩ := ap0 hlr
  obtain ⟨hnf0, hkf1⟩ := ap1 hlf
  have hB := hB'; clear hB'
  have hsz := hB.size
  go_wp2_with fail
  refine wp_loop_rounds 5 ?_
  rw [rounds_succ]
  clear ha1 ha2
  go_wp2
  go_region_law fail
  all_goals
    go_wp2
    rw [Into.ret]
    refine bodyPost_ret (v := .tuple #[.agg #[.int .i64 0, .int .i64 0, .func (.func 74) #[] #[], .func (.func 75) #[] #[]], .int .i64 (a)]) (by simp [results, Tryz.results41, go_sem, hlr, hlf, hr_0, hr_1, hr_2, hr_3] <;> first | done | rfl) rfl ⟨rfl, by go_grown⟩
set_option maxRecDepth 100000 in
set_option maxHeartbeats 4000000 in
theorem find_1 (a : Int) (ha : i64I a) (d0 : decide (a < 32768) = false) (d1 : decide (a ≤ 32771) = true) (w : World) : Calls Tryz.prog 41 #[.int .i64 a] w (FindEnd 32768 32771 93 94 (a - 32768) w) := by
  obtain ⟨ha1, ha2⟩ := ha
  have hst := store_fn Tryz.prog
  have HD := Lib.hid devs_c
  have hx0 := fun W => (index_devs W).1
  have hx1 := fun W => (index_devs W).2.1
  have hx2 := fun W => (index_devs W).2.2.1
  have hx3 := fun W => (index_devs W).2.2.2
  generalize devsV = DV at *
  unfold FindEnd
  unfold devV fnV at *
  have hw : IntKind.i64.wrap a = a := IntWalk.i64_in _ ⟨ha1, ha2⟩
  go_enter Tryz.func41, Tryz.ntmps41
  go_wp2_with fail
  refine wp_scope_hid 0 fun C hC => ?_
  go_wp2_with fail
  apply wp_label
  go_wp2_with fail
  ((with_reducible refine (HD.out _).mono ?_); rintro _ u ⟨rfl, hb⟩)
  have T : CF u w.heap.size 0 (.int .i64 0) ∧ CF u w.heap.size 1 (.int .i64 0) ∧ CF u w.heap.size 2 (.nilFunc) ∧ CF u w.heap.size 3 (.nilFunc) ∧ CF u (w.heap.size + 1) 0 (.int .i64 0) ∧ CF u (w.heap.size + 1) 1 (.int .i64 0) ∧ CF u (w.heap.size + 1) 2 (.func (.func 74) #[] #[]) ∧ CF u (w.heap.size + 1) 3 (.func (.func 75) #[] #[]) := by
      refine ⟨⟨?_, ?_⟩, ⟨?_, ?_⟩, ⟨?_, ?_⟩, ⟨?_, ?_⟩, ⟨?_, ?_⟩, ⟨?_, ?_⟩, ⟨?_, ?_⟩, ⟨?_, ?_⟩⟩ <;> first | (refine kc hb ?_ <;> (go_simp; first | done | rfl)) | (refine kfz hb ?_ ?_ <;> first | (go_size; done) | (go_simp; done))
  have hz := hb.size
  (try simp only [World.size_alloc, World.size_setCell, World.size_drew] at hz)
  have L : w.heap.size < u.heap.size ∧ w.heap.size + 1 < u.heap.size := by omega
  have hB' : Below w.heap.size w u := by
      refine kb ?_ hb
      go_grown
  clear hb hz
  obtain ⟨⟨hr_0, fr_0⟩, ⟨hr_1, fr_1⟩, ⟨hr_2, fr_2⟩, ⟨hr_3, fr_3⟩, ⟨hf_0, ff_0⟩, ⟨hf_1, ff_1⟩, ⟨hf_2, ff_2⟩, ⟨hf_3, ff_3⟩⟩ := T
  obtain ⟨hlr, hlf⟩ := L
  obtain ⟨hnr0, hnr1, hkr1, hnr2, hkr2⟩ := ap0 hlr
  obtain ⟨hnf0, hkf1⟩ := ap1 hlf
  have hB := hB'; clear hB'
  have hsz := hB.size
  go_wp2_with fail
  refine wp_loop_rounds 5 ?_
  rw [rounds_succ]
  have hw2 : IntKind.i64.wrap (a - 32768) = a - 32768 := IntWalk.i64_in _ (by simp at *; omega)
  clear ha1 ha2
  go_wp2
  go_region_law fail
  all_goals
    go_wp2
    rw [Into.ret]
    refine bodyPost_ret (v := .tuple #[.agg #[.int .i64 32768, .int .i64 32771, .func (.func 93) #[] #[], .func (.func 94) #[] #[]], .int .i64 (a - 32768)]) (by simp [results, Tryz.results41, go_sem, hlr, hlf, hr_0, hr_1, hr_2, hr_3] <;> first | done | rfl) rfl ⟨rfl, by go_grown⟩
set_option maxRecDepth 100000 in
set_option maxHeartbeats 4000000 in
theorem find_2 (a : Int) (ha : i64I a) (d0 : decide (a < 32768) = false) (d1 : decide (a ≤ 32771) = false) (d2 : decide (a < 32772) = false) (d3 : decide (a ≤ 32776) = true) (w : World) : Calls Tryz.prog 41 #[.int .i64 a] w (FindEnd 32772 32776 95 96 (a - 32772) w) := by
  obtain ⟨ha1, ha2⟩ := ha
  have hst := store_fn Tryz.prog
  have HD := Lib.hid devs_c
  have hx0 := fun W => (index_devs W).1
  have hx1 := fun W => (index_devs W).2.1
  have hx2 := fun W => (index_devs W).2.2.1
  have hx3 := fun W => (index_devs W).2.2.2
  generalize devsV = DV at *
  unfold FindEnd
  unfold devV fnV at *
  have hw : IntKind.i64.wrap a = a := IntWalk.i64_in _ ⟨ha1, ha2⟩
  go_enter Tryz.func41, Tryz.ntmps41
  go_wp2_with fail
  refine wp_scope_hid 0 fun C hC => ?_
  go_wp2_with fail
  apply wp_label
  go_wp2_with fail
  ((with_reducible refine (HD.out _).mono ?_); rintro _ u ⟨rfl, hb⟩)
  have T : CF u w.heap.size 0 (.int .i64 0) ∧ CF u w.heap.size 1 (.int .i64 0) ∧ CF u w.heap.size 2 (.nilFunc) ∧ CF u w.heap.size 3 (.nilFunc) ∧ CF u (w.heap.size + 1) 0 (.int .i64 0) ∧ CF u (w.heap.size + 1) 1 (.int .i64 0) ∧ CF u (w.heap.size + 1) 2 (.func (.func 74) #[] #[]) ∧ CF u (w.heap.size + 1) 3 (.func (.func 75) #[] #[]) := by
      refine ⟨⟨?_, ?_⟩, ⟨?_, ?_⟩, ⟨?_, ?_⟩, ⟨?_, ?_⟩, ⟨?_, ?_⟩, ⟨?_, ?_⟩, ⟨?_, ?_⟩, ⟨?_, ?_⟩⟩ <;> first | (refine kc hb ?_ <;> (go_simp; first | done | rfl)) | (refine kfz hb ?_ ?_ <;> first | (go_size; done) | (go_simp; done))
  have hz := hb.size
  (try simp only [World.size_alloc, World.size_setCell, World.size_drew] at hz)
  have L : w.heap.size < u.heap.size ∧ w.heap.size + 1 < u.heap.size := by omega
  have hB' : Below w.heap.size w u := by
      refine kb ?_ hb
      go_grown
  clear hb hz
  obtain ⟨⟨hr_0, fr_0⟩, ⟨hr_1, fr_1⟩, ⟨hr_2, fr_2⟩, ⟨hr_3, fr_3⟩, ⟨hf_0, ff_0⟩, ⟨hf_1, ff_1⟩, ⟨hf_2, ff_2⟩, ⟨hf_3, ff_3⟩⟩ := T
  obtain ⟨hlr, hlf⟩ := L
  obtain ⟨hnr0, hnr1, hkr1, hnr2, hkr2⟩ := ap0 hlr
  obtain ⟨hnf0, hkf1⟩ := ap1 hlf
  have hB := hB'; clear hB'
  have hsz := hB.size
  go_wp2_with fail
  refine wp_loop_rounds 5 ?_
  rw [rounds_succ]
  have hw2 : IntKind.i64.wrap (a - 32772) = a - 32772 := IntWalk.i64_in _ (by simp at *; omega)
  clear ha1 ha2
  go_wp2
  rw [rounds_succ]
  refine wp_pin (fun w' => w'.cell? ⟨w.heap.size, 0, none⟩ = some (.int .i64 0) ∧ w'.frozen? ⟨w.heap.size, 0, none⟩ = false ∧ w'.cell? ⟨w.heap.size, 1, none⟩ = some (.int .i64 0) ∧ w'.frozen? ⟨w.heap.size, 1, none⟩ = false ∧ w'.cell? ⟨w.heap.size, 2, none⟩ = some (.nilFunc) ∧ w'.frozen? ⟨w.heap.size, 2, none⟩ = false ∧ w'.cell? ⟨w.heap.size, 3, none⟩ = some (.nilFunc) ∧ w'.frozen? ⟨w.heap.size, 3, none⟩ = false ∧ w'.cell? ⟨w.heap.size + 1, 0, none⟩ = some (.int .i64 0) ∧ w'.frozen? ⟨w.heap.size + 1, 0, none⟩ = false ∧ w'.cell? ⟨w.heap.size + 1, 1, none⟩ = some (.int .i64 0) ∧ w'.frozen? ⟨w.heap.size + 1, 1, none⟩ = false ∧ w'.cell? ⟨w.heap.size + 1, 2, none⟩ = some (.func (.func 74) #[] #[]) ∧ w'.frozen? ⟨w.heap.size + 1, 2, none⟩ = false ∧ w'.cell? ⟨w.heap.size + 1, 3, none⟩ = some (.func (.func 75) #[] #[]) ∧ w'.frozen? ⟨w.heap.size + 1, 3, none⟩ = false ∧ Below w.heap.size w w') ?_ ?_
  · (try dsimp only)
    refine ⟨?_, ?_, ?_, ?_, ?_, ?_, ?_, ?_, ?_, ?_, ?_, ?_, ?_, ?_, ?_, ?_, ?_⟩ <;> first | (go_simp; done) | (simp [*]; done) | go_grown
  intro u1 T
  (try dsimp only at T)
  clear hr_0 fr_0 hr_1 fr_1 hr_2 fr_2 hr_3 fr_3 hf_0 ff_0 hf_1 ff_1 hf_2 ff_2 hf_3 ff_3 hlr hlf hnr0 hnr1 hkr1 hnr2 hkr2 hnf0 hkf1 hB hsz
  obtain ⟨hr_0, fr_0, hr_1, fr_1, hr_2, fr_2, hr_3, fr_3, hf_0, ff_0, hf_1, ff_1, hf_2, ff_2, hf_3, ff_3, hB⟩ := T
  have hsz := hB.size
  have hlr := klt hr_0
  have hlf := klt hf_0
  obtain ⟨hnr0, hnr1, hkr1, hnr2, hkr2⟩ := ap0 hlr
  obtain ⟨hnf0, hkf1⟩ := ap1 hlf
  go_wp2
  go_region_law fail
  all_goals
    go_wp2
    rw [Into.ret]
    refine bodyPost_ret (v := .tuple #[.agg #[.int .i64 32772, .int .i64 32776, .func (.func 95) #[] #[], .func (.func 96) #[] #[]], .int .i64 (a - 32772)]) (by simp [results, Tryz.results41, go_sem, hlr, hlf, hr_0, hr_1, hr_2, hr_3] <;> first | done | rfl) rfl ⟨rfl, by go_grown⟩
set_option maxRecDepth 100000 in
set_option maxHeartbeats 4000000 in
theorem find_3 (a : Int) (ha : i64I a) (d0 : decide (a < 32768) = false) (d1 : decide (a ≤ 32771) = false) (d2 : decide (a < 32772) = false) (d3 : decide (a ≤ 32776) = false) (d4 : decide (a < 32777) = false) (d5 : decide (a ≤ 32779) = true) (w : World) : Calls Tryz.prog 41 #[.int .i64 a] w (FindEnd 32777 32779 97 98 (a - 32777) w) := by
  obtain ⟨ha1, ha2⟩ := ha
  have hst := store_fn Tryz.prog
  have HD := Lib.hid devs_c
  have hx0 := fun W => (index_devs W).1
  have hx1 := fun W => (index_devs W).2.1
  have hx2 := fun W => (index_devs W).2.2.1
  have hx3 := fun W => (index_devs W).2.2.2
  generalize devsV = DV at *
  unfold FindEnd
  unfold devV fnV at *
  have hw : IntKind.i64.wrap a = a := IntWalk.i64_in _ ⟨ha1, ha2⟩
  go_enter Tryz.func41, Tryz.ntmps41
  go_wp2_with fail
  refine wp_scope_hid 0 fun C hC => ?_
  go_wp2_with fail
  apply wp_label
  go_wp2_with fail
  ((with_reducible refine (HD.out _).mono ?_); rintro _ u ⟨rfl, hb⟩)
  have T : CF u w.heap.size 0 (.int .i64 0) ∧ CF u w.heap.size 1 (.int .i64 0) ∧ CF u w.heap.size 2 (.nilFunc) ∧ CF u w.heap.size 3 (.nilFunc) ∧ CF u (w.heap.size + 1) 0 (.int .i64 0) ∧ CF u (w.heap.size + 1) 1 (.int .i64 0) ∧ CF u (w.heap.size + 1) 2 (.func (.func 74) #[] #[]) ∧ CF u (w.heap.size + 1) 3 (.func (.func 75) #[] #[]) := by
      refine ⟨⟨?_, ?_⟩, ⟨?_, ?_⟩, ⟨?_, ?_⟩, ⟨?_, ?_⟩, ⟨?_, ?_⟩, ⟨?_, ?_⟩, ⟨?_, ?_⟩, ⟨?_, ?_⟩⟩ <;> first | (refine kc hb ?_ <;> (go_simp; first | done | rfl)) | (refine kfz hb ?_ ?_ <;> first | (go_size; done) | (go_simp; done))
  have hz := hb.size
  (try simp only [World.size_alloc, World.size_setCell, World.size_drew] at hz)
  have L : w.heap.size < u.heap.size ∧ w.heap.size + 1 < u.heap.size := by omega
  have hB' : Below w.heap.size w u := by
      refine kb ?_ hb
      go_grown
  clear hb hz
  obtain ⟨⟨hr_0, fr_0⟩, ⟨hr_1, fr_1⟩, ⟨hr_2, fr_2⟩, ⟨hr_3, fr_3⟩, ⟨hf_0, ff_0⟩, ⟨hf_1, ff_1⟩, ⟨hf_2, ff_2⟩, ⟨hf_3, ff_3⟩⟩ := T
  obtain ⟨hlr, hlf⟩ := L
  obtain ⟨hnr0, hnr1, hkr1, hnr2, hkr2⟩ := ap0 hlr
  obtain ⟨hnf0, hkf1⟩ := ap1 hlf
  have hB := hB'; clear hB'
  have hsz := hB.size
  go_wp2_with fail
  refine wp_loop_rounds 5 ?_
  rw [rounds_succ]
  have hw2 : IntKind.i64.wrap (a - 32777) = a - 32777 := IntWalk.i64_in _ (by simp at *; omega)
  clear ha1 ha2
  go_wp2
  rw [rounds_succ]
  refine wp_pin (fun w' => w'.cell? ⟨w.heap.size, 0, none⟩ = some (.int .i64 0) ∧ w'.frozen? ⟨w.heap.size, 0, none⟩ = false ∧ w'.cell? ⟨w.heap.size, 1, none⟩ = some (.int .i64 0) ∧ w'.frozen? ⟨w.heap.size, 1, none⟩ = false ∧ w'.cell? ⟨w.heap.size, 2, none⟩ = some (.nilFunc) ∧ w'.frozen? ⟨w.heap.size, 2, none⟩ = false ∧ w'.cell? ⟨w.heap.size, 3, none⟩ = some (.nilFunc) ∧ w'.frozen? ⟨w.heap.size, 3, none⟩ = false ∧ w'.cell? ⟨w.heap.size + 1, 0, none⟩ = some (.int .i64 0) ∧ w'.frozen? ⟨w.heap.size + 1, 0, none⟩ = false ∧ w'.cell? ⟨w.heap.size + 1, 1, none⟩ = some (.int .i64 0) ∧ w'.frozen? ⟨w.heap.size + 1, 1, none⟩ = false ∧ w'.cell? ⟨w.heap.size + 1, 2, none⟩ = some (.func (.func 74) #[] #[]) ∧ w'.frozen? ⟨w.heap.size + 1, 2, none⟩ = false ∧ w'.cell? ⟨w.heap.size + 1, 3, none⟩ = some (.func (.func 75) #[] #[]) ∧ w'.frozen? ⟨w.heap.size + 1, 3, none⟩ = false ∧ Below w.heap.size w w') ?_ ?_
  · (try dsimp only)
    refine ⟨?_, ?_, ?_, ?_, ?_, ?_, ?_, ?_, ?_, ?_, ?_, ?_, ?_, ?_, ?_, ?_, ?_⟩ <;> first | (go_simp; done) | (simp [*]; done) | go_grown
  intro u1 T
  (try dsimp only at T)
  clear hr_0 fr_0 hr_1 fr_1 hr_2 fr_2 hr_3 fr_3 hf_0 ff_0 hf_1 ff_1 hf_2 ff_2 hf_3 ff_3 hlr hlf hnr0 hnr1 hkr1 hnr2 hkr2 hnf0 hkf1 hB hsz
  obtain ⟨hr_0, fr_0, hr_1, fr_1, hr_2, fr_2, hr_3, fr_3, hf_0, ff_0, hf_1, ff_1, hf_2, ff_2, hf_3, ff_3, hB⟩ := T
  have hsz := hB.size
  have hlr := klt hr_0
  have hlf := klt hf_0
  obtain ⟨hnr0, hnr1, hkr1, hnr2, hkr2⟩ := ap0 hlr
  obtain ⟨hnf0, hkf1⟩ := ap1 hlf
  go_wp2
  rw [rounds_succ]
  refine wp_pin (fun w' => w'.cell? ⟨w.heap.size, 0, none⟩ = some (.int .i64 0) ∧ w'.frozen? ⟨w.heap.size, 0, none⟩ = false ∧ w'.cell? ⟨w.heap.size, 1, none⟩ = some (.int .i64 0) ∧ w'.frozen? ⟨w.heap.size, 1, none⟩ = false ∧ w'.cell? ⟨w.heap.size, 2, none⟩ = some (.nilFunc) ∧ w'.frozen? ⟨w.heap.size, 2, none⟩ = false ∧ w'.cell? ⟨w.heap.size, 3, none⟩ = some (.nilFunc) ∧ w'.frozen? ⟨w.heap.size, 3, none⟩ = false ∧ w'.cell? ⟨w.heap.size + 1, 0, none⟩ = some (.int .i64 0) ∧ w'.frozen? ⟨w.heap.size + 1, 0, none⟩ = false ∧ w'.cell? ⟨w.heap.size + 1, 1, none⟩ = some (.int .i64 0) ∧ w'.frozen? ⟨w.heap.size + 1, 1, none⟩ = false ∧ w'.cell? ⟨w.heap.size + 1, 2, none⟩ = some (.func (.func 74) #[] #[]) ∧ w'.frozen? ⟨w.heap.size + 1, 2, none⟩ = false ∧ w'.cell? ⟨w.heap.size + 1, 3, none⟩ = some (.func (.func 75) #[] #[]) ∧ w'.frozen? ⟨w.heap.size + 1, 3, none⟩ = false ∧ Below w.heap.size w w') ?_ ?_
  · (try dsimp only)
    refine ⟨?_, ?_, ?_, ?_, ?_, ?_, ?_, ?_, ?_, ?_, ?_, ?_, ?_, ?_, ?_, ?_, ?_⟩ <;> first | (go_simp; done) | (simp [*]; done) | go_grown
  intro u2 T
  (try dsimp only at T)
  clear hr_0 fr_0 hr_1 fr_1 hr_2 fr_2 hr_3 fr_3 hf_0 ff_0 hf_1 ff_1 hf_2 ff_2 hf_3 ff_3 hB hsz hlr hlf hnr0 hnr1 hkr1 hnr2 hkr2 hnf0 hkf1
  obtain ⟨hr_0, fr_0, hr_1, fr_1, hr_2, fr_2, hr_3, fr_3, hf_0, ff_0, hf_1, ff_1, hf_2, ff_2, hf_3, ff_3, hB⟩ := T
  have hsz := hB.size
  have hlr := klt hr_0
  have hlf := klt hf_0
  obtain ⟨hnr0, hnr1, hkr1, hnr2, hkr2⟩ := ap0 hlr
  obtain ⟨hnf0, hkf1⟩ := ap1 hlf
  go_wp2
  go_region_law fail
  all_goals
    go_wp2
    rw [Into.ret]
    refine bodyPost_ret (v := .tuple #[.agg #[.int .i64 32777, .int .i64 32779, .func (.func 97) #[] #[], .func (.func 98) #[] #[]], .int .i64 (a - 32777)]) (by simp [results, Tryz.results41, go_sem, hlr, hlf, hr_0, hr_1, hr_2, hr_3] <;> first | done | rfl) rfl ⟨rfl, by go_grown⟩
set_option maxRecDepth 100000 in
set_option maxHeartbeats 4000000 in
theorem find_4 (a : Int) (ha : i64I a) (d0 : decide (a < 32768) = false) (d1 : decide (a ≤ 32771) = false) (d2 : decide (a < 32772) = false) (d3 : decide (a ≤ 32776) = false) (d4 : decide (a < 32777) = false) (d5 : decide (a ≤ 32779) = false) (d6 : decide (a < 32780) = false) (d7 : decide (a ≤ 32783) = true) (w : World) : Calls Tryz.prog 41 #[.int .i64 a] w (FindEnd 32780 32783 99 100 (a - 32780) w) := by
  obtain ⟨ha1, ha2⟩ := ha
  have hst := store_fn Tryz.prog
  have HD := Lib.hid devs_c
  have hx0 := fun W => (index_devs W).1
  have hx1 := fun W => (index_devs W).2.1
  have hx2 := fun W => (index_devs W).2.2.1
  have hx3 := fun W => (index_devs W).2.2.2
  generalize devsV = DV at *
  unfold FindEnd
  unfold devV fnV at *
  have hw : IntKind.i64.wrap a = a := IntWalk.i64_in _ ⟨ha1, ha2⟩
  go_enter Tryz.func41, Tryz.ntmps41
  go_wp2_with fail
  refine wp_scope_hid 0 fun C hC => ?_
  go_wp2_with fail
  apply wp_label
  go_wp2_with fail
  ((with_reducible refine (HD.out _).mono ?_); rintro _ u ⟨rfl, hb⟩)
  have T : CF u w.heap.size 0 (.int .i64 0) ∧ CF u w.heap.size 1 (.int .i64 0) ∧ CF u w.heap.size 2 (.nilFunc) ∧ CF u w.heap.size 3 (.nilFunc) ∧ CF u (w.heap.size + 1) 0 (.int .i64 0) ∧ CF u (w.heap.size + 1) 1 (.int .i64 0) ∧ CF u (w.heap.size + 1) 2 (.func (.func 74) #[] #[]) ∧ CF u (w.heap.size + 1) 3 (.func (.func 75) #[] #[]) := by
      refine ⟨⟨?_, ?_⟩, ⟨?_, ?_⟩, ⟨?_, ?_⟩, ⟨?_, ?_⟩, ⟨?_, ?_⟩, ⟨?_, ?_⟩, ⟨?_, ?_⟩, ⟨?_, ?_⟩⟩ <;> first | (refine kc hb ?_ <;> (go_simp; first | done | rfl)) | (refine kfz hb ?_ ?_ <;> first | (go_size; done) | (go_simp; done))
  have hz := hb.size
  (try simp only [World.size_alloc, World.size_setCell, World.size_drew] at hz)
  have L : w.heap.size < u.heap.size ∧ w.heap.size + 1 < u.heap.size := by omega
  have hB' : Below w.heap.size w u := by
      refine kb ?_ hb
      go_grown
  clear hb hz
  obtain ⟨⟨hr_0, fr_0⟩, ⟨hr_1, fr_1⟩, ⟨hr_2, fr_2⟩, ⟨hr_3, fr_3⟩, ⟨hf_0, ff_0⟩, ⟨hf_1, ff_1⟩, ⟨hf_2, ff_2⟩, ⟨hf_3, ff_3⟩⟩ := T
  obtain ⟨hlr, hlf⟩ := L
  obtain ⟨hnr0, hnr1, hkr1, hnr2, hkr2⟩ := ap0 hlr
  obtain ⟨hnf0, hkf1⟩ := ap1 hlf
  have hB := hB'; clear hB'
  have hsz := hB.size
  go_wp2_with fail
  refine wp_loop_rounds 5 ?_
  rw [rounds_succ]
  have hw2 : IntKind.i64.wrap (a - 32780) = a - 32780 := IntWalk.i64_in _ (by simp at *; omega)
  clear ha1 ha2
  go_wp2
  rw [rounds_succ]
  refine wp_pin (fun w' => w'.cell? ⟨w.heap.size, 0, none⟩ = some (.int .i64 0) ∧ w'.frozen? ⟨w.heap.size, 0, none⟩ = false ∧ w'.cell? ⟨w.heap.size, 1, none⟩ = some (.int .i64 0) ∧ w'.frozen? ⟨w.heap.size, 1, none⟩ = false ∧ w'.cell? ⟨w.heap.size, 2, none⟩ = some (.nilFunc) ∧ w'.frozen? ⟨w.heap.size, 2, none⟩ = false ∧ w'.cell? ⟨w.heap.size, 3, none⟩ = some (.nilFunc) ∧ w'.frozen? ⟨w.heap.size, 3, none⟩ = false ∧ w'.cell? ⟨w.heap.size + 1, 0, none⟩ = some (.int .i64 0) ∧ w'.frozen? ⟨w.heap.size + 1, 0, none⟩ = false ∧ w'.cell? ⟨w.heap.size + 1, 1, none⟩ = some (.int .i64 0) ∧ w'.frozen? ⟨w.heap.size + 1, 1, none⟩ = false ∧ w'.cell? ⟨w.heap.size + 1, 2, none⟩ = some (.func (.func 74) #[] #[]) ∧ w'.frozen? ⟨w.heap.size + 1, 2, none⟩ = false ∧ w'.cell? ⟨w.heap.size + 1, 3, none⟩ = some (.func (.func 75) #[] #[]) ∧ w'.frozen? ⟨w.heap.size + 1, 3, none⟩ = false ∧ Below w.heap.size w w') ?_ ?_
  · (try dsimp only)
    refine ⟨?_, ?_, ?_, ?_, ?_, ?_, ?_, ?_, ?_, ?_, ?_, ?_, ?_, ?_, ?_, ?_, ?_⟩ <;> first | (go_simp; done) | (simp [*]; done) | go_grown
  intro u1 T
  (try dsimp only at T)
  clear hr_0 fr_0 hr_1 fr_1 hr_2 fr_2 hr_3 fr_3 hf_0 ff_0 hf_1 ff_1 hf_2 ff_2 hf_3 ff_3 hlr hlf hnr0 hnr1 hkr1 hnr2 hkr2 hnf0 hkf1 hB hsz
  obtain ⟨hr_0, fr_0, hr_1, fr_1, hr_2, fr_2, hr_3, fr_3, hf_0, ff_0, hf_1, ff_1, hf_2, ff_2, hf_3, ff_3, hB⟩ := T
  have hsz := hB.size
  have hlr := klt hr_0
  have hlf := klt hf_0
  obtain ⟨hnr0, hnr1, hkr1, hnr2, hkr2⟩ := ap0 hlr
  obtain ⟨hnf0, hkf1⟩ := ap1 hlf
  go_wp2
  rw [rounds_succ]
  refine wp_pin (fun w' => w'.cell? ⟨w.heap.size, 0, none⟩ = some (.int .i64 0) ∧ w'.frozen? ⟨w.heap.size, 0, none⟩ = false ∧ w'.cell? ⟨w.heap.size, 1, none⟩ = some (.int .i64 0) ∧ w'.frozen? ⟨w.heap.size, 1, none⟩ = false ∧ w'.cell? ⟨w.heap.size, 2, none⟩ = some (.nilFunc) ∧ w'.frozen? ⟨w.heap.size, 2, none⟩ = false ∧ w'.cell? ⟨w.heap.size, 3, none⟩ = some (.nilFunc) ∧ w'.frozen? ⟨w.heap.size, 3, none⟩ = false ∧ w'.cell? ⟨w.heap.size + 1, 0, none⟩ = some (.int .i64 0) ∧ w'.frozen? ⟨w.heap.size + 1, 0, none⟩ = false ∧ w'.cell? ⟨w.heap.size + 1, 1, none⟩ = some (.int .i64 0) ∧ w'.frozen? ⟨w.heap.size + 1, 1, none⟩ = false ∧ w'.cell? ⟨w.heap.size + 1, 2, none⟩ = some (.func (.func 74) #[] #[]) ∧ w'.frozen? ⟨w.heap.size + 1, 2, none⟩ = false ∧ w'.cell? ⟨w.heap.size + 1, 3, none⟩ = some (.func (.func 75) #[] #[]) ∧ w'.frozen? ⟨w.heap.size + 1, 3, none⟩ = false ∧ Below w.heap.size w w') ?_ ?_
  · (try dsimp only)
    refine ⟨?_, ?_, ?_, ?_, ?_, ?_, ?_, ?_, ?_, ?_, ?_, ?_, ?_, ?_, ?_, ?_, ?_⟩ <;> first | (go_simp; done) | (simp [*]; done) | go_grown
  intro u2 T
  (try dsimp only at T)
  clear hr_0 fr_0 hr_1 fr_1 hr_2 fr_2 hr_3 fr_3 hf_0 ff_0 hf_1 ff_1 hf_2 ff_2 hf_3 ff_3 hB hsz hlr hlf hnr0 hnr1 hkr1 hnr2 hkr2 hnf0 hkf1
  obtain ⟨hr_0, fr_0, hr_1, fr_1, hr_2, fr_2, hr_3, fr_3, hf_0, ff_0, hf_1, ff_1, hf_2, ff_2, hf_3, ff_3, hB⟩ := T
  have hsz := hB.size
  have hlr := klt hr_0
  have hlf := klt hf_0
  obtain ⟨hnr0, hnr1, hkr1, hnr2, hkr2⟩ := ap0 hlr
  obtain ⟨hnf0, hkf1⟩ := ap1 hlf
  go_wp2
  rw [rounds_succ]
  refine wp_pin (fun w' => w'.cell? ⟨w.heap.size, 0, none⟩ = some (.int .i64 0) ∧ w'.frozen? ⟨w.heap.size, 0, none⟩ = false ∧ w'.cell? ⟨w.heap.size, 1, none⟩ = some (.int .i64 0) ∧ w'.frozen? ⟨w.heap.size, 1, none⟩ = false ∧ w'.cell? ⟨w.heap.size, 2, none⟩ = some (.nilFunc) ∧ w'.frozen? ⟨w.heap.size, 2, none⟩ = false ∧ w'.cell? ⟨w.heap.size, 3, none⟩ = some (.nilFunc) ∧ w'.frozen? ⟨w.heap.size, 3, none⟩ = false ∧ w'.cell? ⟨w.heap.size + 1, 0, none⟩ = some (.int .i64 0) ∧ w'.frozen? ⟨w.heap.size + 1, 0, none⟩ = false ∧ w'.cell? ⟨w.heap.size + 1, 1, none⟩ = some (.int .i64 0) ∧ w'.frozen? ⟨w.heap.size + 1, 1, none⟩ = false ∧ w'.cell? ⟨w.heap.size + 1, 2, none⟩ = some (.func (.func 74) #[] #[]) ∧ w'.frozen? ⟨w.heap.size + 1, 2, none⟩ = false ∧ w'.cell? ⟨w.heap.size + 1, 3, none⟩ = some (.func (.func 75) #[] #[]) ∧ w'.frozen? ⟨w.heap.size + 1, 3, none⟩ = false ∧ Below w.heap.size w w') ?_ ?_
  · (try dsimp only)
    refine ⟨?_, ?_, ?_, ?_, ?_, ?_, ?_, ?_, ?_, ?_, ?_, ?_, ?_, ?_, ?_, ?_, ?_⟩ <;> first | (go_simp; done) | (simp [*]; done) | go_grown
  intro u3 T
  (try dsimp only at T)
  clear hr_0 fr_0 hr_1 fr_1 hr_2 fr_2 hr_3 fr_3 hf_0 ff_0 hf_1 ff_1 hf_2 ff_2 hf_3 ff_3 hB hsz hlr hlf hnr0 hnr1 hkr1 hnr2 hkr2 hnf0 hkf1
  obtain ⟨hr_0, fr_0, hr_1, fr_1, hr_2, fr_2, hr_3, fr_3, hf_0, ff_0, hf_1, ff_1, hf_2, ff_2, hf_3, ff_3, hB⟩ := T
  have hsz := hB.size
  have hlr := klt hr_0
  have hlf := klt hf_0
  obtain ⟨hnr0, hnr1, hkr1, hnr2, hkr2⟩ := ap0 hlr
  obtain ⟨hnf0, hkf1⟩ := ap1 hlf
  go_wp2
  go_region_law fail
  all_goals
    go_wp2
    rw [Into.ret]
    refine bodyPost_ret (v := .tuple #[.agg #[.int .i64 32780, .int .i64 32783, .func (.func 99) #[] #[], .func (.func 100) #[] #[]], .int .i64 (a - 32780)]) (by simp [results, Tryz.results41, go_sem, hlr, hlf, hr_0, hr_1, hr_2, hr_3] <;> first | done | rfl) rfl ⟨rfl, by go_grown⟩
set_option maxRecDepth 100000 in
set_option maxHeartbeats 4000000 in
theorem find_5 (a : Int) (ha : i64I a) (d0 : decide (a < 32768) = false) (d1 : decide (a ≤ 32771) = false) (d2 : decide (a < 32772) = false) (d3 : decide (a ≤ 32776) = false) (d4 : decide (a < 32777) = false) (d5 : decide (a ≤ 32779) = false) (d6 : decide (a < 32780) = false) (d7 : decide (a ≤ 32783) = false) (w : World) : Calls Tryz.prog 41 #[.int .i64 a] w (FindEnd 0 0 74 75 a w) := by
  obtain ⟨ha1, ha2⟩ := ha
  have hst := store_fn Tryz.prog
  have HD := Lib.hid devs_c
  have hx0 := fun W => (index_devs W).1
  have hx1 := fun W => (index_devs W).2.1
  have hx2 := fun W => (index_devs W).2.2.1
  have hx3 := fun W => (index_devs W).2.2.2
  generalize devsV = DV at *
  unfold FindEnd
  unfold devV fnV at *
  have hw : IntKind.i64.wrap a = a := IntWalk.i64_in _ ⟨ha1, ha2⟩
  go_enter Tryz.func41, Tryz.ntmps41
  go_wp2_with fail
  refine wp_scope_hid 0 fun C hC => ?_
  go_wp2_with fail
  apply wp_label
  go_wp2_with fail
  ((with_reducible refine (HD.out _).mono ?_); rintro _ u ⟨rfl, hb⟩)
  have T : CF u w.heap.size 0 (.int .i64 0) ∧ CF u w.heap.size 1 (.int .i64 0) ∧ CF u w.heap.size 2 (.nilFunc) ∧ CF u w.heap.size 3 (.nilFunc) ∧ CF u (w.heap.size + 1) 0 (.int .i64 0) ∧ CF u (w.heap.size + 1) 1 (.int .i64 0) ∧ CF u (w.heap.size + 1) 2 (.func (.func 74) #[] #[]) ∧ CF u (w.heap.size + 1) 3 (.func (.func 75) #[] #[]) := by
      refine ⟨⟨?_, ?_⟩, ⟨?_, ?_⟩, ⟨?_, ?_⟩, ⟨?_, ?_⟩, ⟨?_, ?_⟩, ⟨?_, ?_⟩, ⟨?_, ?_⟩, ⟨?_, ?_⟩⟩ <;> first | (refine kc hb ?_ <;> (go_simp; first | done | rfl)) | (refine kfz hb ?_ ?_ <;> first | (go_size; done) | (go_simp; done))
  have hz := hb.size
  (try simp only [World.size_alloc, World.size_setCell, World.size_drew] at hz)
  have L : w.heap.size < u.heap.size ∧ w.heap.size + 1 < u.heap.size := by omega
  have hB' : Below w.heap.size w u := by
      refine kb ?_ hb
      go_grown
  clear hb hz
  obtain ⟨⟨hr_0, fr_0⟩, ⟨hr_1, fr_1⟩, ⟨hr_2, fr_2⟩, ⟨hr_3, fr_3⟩, ⟨hf_0, ff_0⟩, ⟨hf_1, ff_1⟩, ⟨hf_2, ff_2⟩, ⟨hf_3, ff_3⟩⟩ := T
  obtain ⟨hlr, hlf⟩ := L
  obtain ⟨hnr0, hnr1, hkr1, hnr2, hkr2⟩ := ap0 hlr
  obtain ⟨hnf0, hkf1⟩ := ap1 hlf
  have hB := hB'; clear hB'
  have hsz := hB.size
  go_wp2_with fail
  refine wp_loop_rounds 5 ?_
  rw [rounds_succ]
  clear ha1 ha2
  go_wp2
  rw [rounds_succ]
  refine wp_pin (fun w' => w'.cell? ⟨w.heap.size, 0, none⟩ = some (.int .i64 0) ∧ w'.frozen? ⟨w.heap.size, 0, none⟩ = false ∧ w'.cell? ⟨w.heap.size, 1, none⟩ = some (.int .i64 0) ∧ w'.frozen? ⟨w.heap.size, 1, none⟩ = false ∧ w'.cell? ⟨w.heap.size, 2, none⟩ = some (.nilFunc) ∧ w'.frozen? ⟨w.heap.size, 2, none⟩ = false ∧ w'.cell? ⟨w.heap.size, 3, none⟩ = some (.nilFunc) ∧ w'.frozen? ⟨w.heap.size, 3, none⟩ = false ∧ w'.cell? ⟨w.heap.size + 1, 0, none⟩ = some (.int .i64 0) ∧ w'.frozen? ⟨w.heap.size + 1, 0, none⟩ = false ∧ w'.cell? ⟨w.heap.size + 1, 1, none⟩ = some (.int .i64 0) ∧ w'.frozen? ⟨w.heap.size + 1, 1, none⟩ = false ∧ w'.cell? ⟨w.heap.size + 1, 2, none⟩ = some (.func (.func 74) #[] #[]) ∧ w'.frozen? ⟨w.heap.size + 1, 2, none⟩ = false ∧ w'.cell? ⟨w.heap.size + 1, 3, none⟩ = some (.func (.func 75) #[] #[]) ∧ w'.frozen? ⟨w.heap.size + 1, 3, none⟩ = false ∧ Below w.heap.size w w') ?_ ?_
  · (try dsimp only)
    refine ⟨?_, ?_, ?_, ?_, ?_, ?_, ?_, ?_, ?_, ?_, ?_, ?_, ?_, ?_, ?_, ?_, ?_⟩ <;> first | (go_simp; done) | (simp [*]; done) | go_grown
  intro u1 T
  (try dsimp only at T)
  clear hr_0 fr_0 hr_1 fr_1 hr_2 fr_2 hr_3 fr_3 hf_0 ff_0 hf_1 ff_1 hf_2 ff_2 hf_3 ff_3 hlr hlf hnr0 hnr1 hkr1 hnr2 hkr2 hnf0 hkf1 hB hsz
  obtain ⟨hr_0, fr_0, hr_1, fr_1, hr_2, fr_2, hr_3, fr_3, hf_0, ff_0, hf_1, ff_1, hf_2, ff_2, hf_3, ff_3, hB⟩ := T
  have hsz := hB.size
  have hlr := klt hr_0
  have hlf := klt hf_0
  obtain ⟨hnr0, hnr1, hkr1, hnr2, hkr2⟩ := ap0 hlr
  obtain ⟨hnf0, hkf1⟩ := ap1 hlf
  go_wp2
  rw [rounds_succ]
  refine wp_pin (fun w' => w'.cell? ⟨w.heap.size, 0, none⟩ = some (.int .i64 0) ∧ w'.frozen? ⟨w.heap.size, 0, none⟩ = false ∧ w'.cell? ⟨w.heap.size, 1, none⟩ = some (.int .i64 0) ∧ w'.frozen? ⟨w.heap.size, 1, none⟩ = false ∧ w'.cell? ⟨w.heap.size, 2, none⟩ = some (.nilFunc) ∧ w'.frozen? ⟨w.heap.size, 2, none⟩ = false ∧ w'.cell? ⟨w.heap.size, 3, none⟩ = some (.nilFunc) ∧ w'.frozen? ⟨w.heap.size, 3, none⟩ = false ∧ w'.cell? ⟨w.heap.size + 1, 0, none⟩ = some (.int .i64 0) ∧ w'.frozen? ⟨w.heap.size + 1, 0, none⟩ = false ∧ w'.cell? ⟨w.heap.size + 1, 1, none⟩ = some (.int .i64 0) ∧ w'.frozen? ⟨w.heap.size + 1, 1, none⟩ = false ∧ w'.cell? ⟨w.heap.size + 1, 2, none⟩ = some (.func (.func 74) #[] #[]) ∧ w'.frozen? ⟨w.heap.size + 1, 2, none⟩ = false ∧ w'.cell? ⟨w.heap.size + 1, 3, none⟩ = some (.func (.func 75) #[] #[]) ∧ w'.frozen? ⟨w.heap.size + 1, 3, none⟩ = false ∧ Below w.heap.size w w') ?_ ?_
  · (try dsimp only)
    refine ⟨?_, ?_, ?_, ?_, ?_, ?_, ?_, ?_, ?_, ?_, ?_, ?_, ?_, ?_, ?_, ?_, ?_⟩ <;> first | (go_simp; done) | (simp [*]; done) | go_grown
  intro u2 T
  (try dsimp only at T)
  clear hr_0 fr_0 hr_1 fr_1 hr_2 fr_2 hr_3 fr_3 hf_0 ff_0 hf_1 ff_1 hf_2 ff_2 hf_3 ff_3 hB hsz hlr hlf hnr0 hnr1 hkr1 hnr2 hkr2 hnf0 hkf1
  obtain ⟨hr_0, fr_0, hr_1, fr_1, hr_2, fr_2, hr_3, fr_3, hf_0, ff_0, hf_1, ff_1, hf_2, ff_2, hf_3, ff_3, hB⟩ := T
  have hsz := hB.size
  have hlr := klt hr_0
  have hlf := klt hf_0
  obtain ⟨hnr0, hnr1, hkr1, hnr2, hkr2⟩ := ap0 hlr
  obtain ⟨hnf0, hkf1⟩ := ap1 hlf
  go_wp2
  rw [rounds_succ]
  refine wp_pin (fun w' => w'.cell? ⟨w.heap.size, 0, none⟩ = some (.int .i64 0) ∧ w'.frozen? ⟨w.heap.size, 0, none⟩ = false ∧ w'.cell? ⟨w.heap.size, 1, none⟩ = some (.int .i64 0) ∧ w'.frozen? ⟨w.heap.size, 1, none⟩ = false ∧ w'.cell? ⟨w.heap.size, 2, none⟩ = some (.nilFunc) ∧ w'.frozen? ⟨w.heap.size, 2, none⟩ = false ∧ w'.cell? ⟨w.heap.size, 3, none⟩ = some (.nilFunc) ∧ w'.frozen? ⟨w.heap.size, 3, none⟩ = false ∧ w'.cell? ⟨w.heap.size + 1, 0, none⟩ = some (.int .i64 0) ∧ w'.frozen? ⟨w.heap.size + 1, 0, none⟩ = false ∧ w'.cell? ⟨w.heap.size + 1, 1, none⟩ = some (.int .i64 0) ∧ w'.frozen? ⟨w.heap.size + 1, 1, none⟩ = false ∧ w'.cell? ⟨w.heap.size + 1, 2, none⟩ = some (.func (.func 74) #[] #[]) ∧ w'.frozen? ⟨w.heap.size + 1, 2, none⟩ = false ∧ w'.cell? ⟨w.heap.size + 1, 3, none⟩ = some (.func (.func 75) #[] #[]) ∧ w'.frozen? ⟨w.heap.size + 1, 3, none⟩ = false ∧ Below w.heap.size w w') ?_ ?_
  · (try dsimp only)
    refine ⟨?_, ?_, ?_, ?_, ?_, ?_, ?_, ?_, ?_, ?_, ?_, ?_, ?_, ?_, ?_, ?_, ?_⟩ <;> first | (go_simp; done) | (simp [*]; done) | go_grown
  intro u3 T
  (try dsimp only at T)
  clear hr_0 fr_0 hr_1 fr_1 hr_2 fr_2 hr_3 fr_3 hf_0 ff_0 hf_1 ff_1 hf_2 ff_2 hf_3 ff_3 hB hsz hlr hlf hnr0 hnr1 hkr1 hnr2 hkr2 hnf0 hkf1
  obtain ⟨hr_0, fr_0, hr_1, fr_1, hr_2, fr_2, hr_3, fr_3, hf_0, ff_0, hf_1, ff_1, hf_2, ff_2, hf_3, ff_3, hB⟩ := T
  have hsz := hB.size
  have hlr := klt hr_0
  have hlf := klt hf_0
  obtain ⟨hnr0, hnr1, hkr1, hnr2, hkr2⟩ := ap0 hlr
  obtain ⟨hnf0, hkf1⟩ := ap1 hlf
  go_wp2
  rw [rounds_succ]
  refine wp_pin (fun w' => w'.cell? ⟨w.heap.size, 0, none⟩ = some (.int .i64 0) ∧ w'.frozen? ⟨w.heap.size, 0, none⟩ = false ∧ w'.cell? ⟨w.heap.size, 1, none⟩ = some (.int .i64 0) ∧ w'.frozen? ⟨w.heap.size, 1, none⟩ = false ∧ w'.cell? ⟨w.heap.size, 2, none⟩ = some (.nilFunc) ∧ w'.frozen? ⟨w.heap.size, 2, none⟩ = false ∧ w'.cell? ⟨w.heap.size, 3, none⟩ = some (.nilFunc) ∧ w'.frozen? ⟨w.heap.size, 3, none⟩ = false ∧ w'.cell? ⟨w.heap.size + 1, 0, none⟩ = some (.int .i64 0) ∧ w'.frozen? ⟨w.heap.size + 1, 0, none⟩ = false ∧ w'.cell? ⟨w.heap.size + 1, 1, none⟩ = some (.int .i64 0) ∧ w'.frozen? ⟨w.heap.size + 1, 1, none⟩ = false ∧ w'.cell? ⟨w.heap.size + 1, 2, none⟩ = some (.func (.func 74) #[] #[]) ∧ w'.frozen? ⟨w.heap.size + 1, 2, none⟩ = false ∧ w'.cell? ⟨w.heap.size + 1, 3, none⟩ = some (.func (.func 75) #[] #[]) ∧ w'.frozen? ⟨w.heap.size + 1, 3, none⟩ = false ∧ Below w.heap.size w w') ?_ ?_
  · (try dsimp only)
    refine ⟨?_, ?_, ?_, ?_, ?_, ?_, ?_, ?_, ?_, ?_, ?_, ?_, ?_, ?_, ?_, ?_, ?_⟩ <;> first | (go_simp; done) | (simp [*]; done) | go_grown
  intro u9 T
  (try dsimp only at T)
  clear hr_0 fr_0 hr_1 fr_1 hr_2 fr_2 hr_3 fr_3 hf_0 ff_0 hf_1 ff_1 hf_2 ff_2 hf_3 ff_3 hB hsz hlr hlf hnr0 hnr1 hkr1 hnr2 hkr2 hnf0 hkf1
  obtain ⟨hr_0, fr_0, hr_1, fr_1, hr_2, fr_2, hr_3, fr_3, hf_0, ff_0, hf_1, ff_1, hf_2, ff_2, hf_3, ff_3, hB⟩ := T
  have hsz := hB.size
  have hlr := klt hr_0
  have hlf := klt hf_0
  obtain ⟨hnr0, hnr1, hkr1, hnr2, hkr2⟩ := ap0 hlr
  obtain ⟨hnf0, hkf1⟩ := ap1 hlf
  go_wp2
  go_region_law fail
  all_goals
    go_wp2
    rw [Into.ret]
    refine bodyPost_ret (v := .tuple #[.agg #[.int .i64 0, .int .i64 0, .func (.func 74) #[] #[], .func (.func 75) #[] #[]], .int .i64 (a)]) (by simp [results, Tryz.results41, go_sem, hlr, hlf, hr_0, hr_1, hr_2, hr_3] <;> first | done | rfl) rfl ⟨rfl, by go_grown⟩
theorem find_c (a : Int) (ha : i64I a) (w : World) : Calls Tryz.prog 41 #[.int .i64 a] w fun e w' =>
    (32768 ≤ a ∧ a ≤ 32771 ∧ FindEnd 32768 32771 93 94 (a - 32768) w e w') ∨
    (32772 ≤ a ∧ a ≤ 32776 ∧ FindEnd 32772 32776 95 96 (a - 32772) w e w') ∨
    (32777 ≤ a ∧ a ≤ 32779 ∧ FindEnd 32777 32779 97 98 (a - 32777) w e w') ∨
    (32780 ≤ a ∧ a ≤ 32783 ∧ FindEnd 32780 32783 99 100 (a - 32780) w e w') ∨
    ((a < 32768 ∨ 32783 < a) ∧ FindEnd 0 0 74 75 a w e w') := by
  by_cases d0 : a < 32768
  · exact (find_0 a ha (by simpa using d0) w).mono fun e u h => .inr (.inr (.inr (.inr ⟨.inl d0, h⟩)))
  by_cases d1 : a ≤ 32771
  · exact (find_1 a ha (by simpa using d0) (by simpa using d1) w).mono fun e u h => .inl ⟨by omega, d1, h⟩
  by_cases d3 : a ≤ 32776
  · exact (find_2 a ha (by simpa using d0) (by simpa using d1) (by simp; omega) (by simpa using d3) w).mono fun e u h => .inr (.inl ⟨by omega, d3, h⟩)
  by_cases d5 : a ≤ 32779
  · exact (find_3 a ha (by simpa using d0) (by simpa using d1) (by simp; omega) (by simpa using d3) (by simp; omega) (by simpa using d5) w).mono fun e u h => .inr (.inr (.inl ⟨by omega, d5, h⟩))
  by_cases d7 : a ≤ 32783
  · exact (find_4 a ha (by simpa using d0) (by simpa using d1) (by simp; omega) (by simpa using d3) (by simp; omega) (by simpa using d5) (by simp; omega) (by simpa using d7) w).mono fun e u h => .inr (.inr (.inr (.inl ⟨by omega, d7, h⟩)))
  · exact (find_5 a ha (by simpa using d0) (by simpa using d1) (by simp; omega) (by simpa using d3) (by simp; omega) (by simpa using d5) (by simp; omega) (by simpa using d7) w).mono fun e u h => .inr (.inr (.inr (.inr ⟨.inr (by omega), h⟩)))
end Go.Proofs.YtcnejgilmciljaaGreatDoor
set_option linter.unusedSimpArgs false
set_option linter.unusedVariables false
namespace Go.Proofs.YtcnejgilmciljaaGreatDoor
open Go.RowKit Go.PlainAid

/-- A byte is stored. -/
theorem fr_two (nb : Nat) (u : World) (x y : Value) : Fr (fun k => k = nb) u ((u.setCell ⟨nb, 0, none⟩ x).setCell ⟨nb, 1, none⟩ y) := ((Fr.refl (fun k => k = nb) u).setCell _ _ (fun _ => rfl)).setCell _ _ (fun _ => rfl)
section
variable {bb mb mbb pb wb : Nat} {B : Bs} {F G : Nat → Prop} {w : World}
set_option maxRecDepth 100000 in
set_option maxHeartbeats 4000000 in
theorem readmem_c (h : Pb bb mb mbb pb wb B F G w) (hL : Laid w) (a : Int) :
    Calls Tryz.prog 74 #[.pointer (some ⟨bb, 0, none⟩), .int .i64 a] w fun e u => e = .returned (rdBV ((prM B.M a).v, (prM B.M a).t, (prM B.M a).e)) ∧ Below w.heap.size w u := by
  have HR := Lib.hid (fun W (hW : Below w.heap.size w W) => readp_c B.M a mb mbb W (h.m.below hW) (hL.below hW))
  have c0 := h.c0
  have hlt := klt c0
  clear h hL
  unfold rdBV
  generalize prM B.M a = X at *
  obtain ⟨xv, xt, xe⟩ := X
  dsimp only at *
  go_enter Tryz.func74, Tryz.ntmps74
  go_wp2_with fail
  ((with_reducible refine (HR.out _ (by go_grown)).mono ?_); rintro _ u ⟨rfl, hb⟩)
  have T : CF u w.heap.size 0 (.int .u8 0) ∧ CF u w.heap.size 1 (.int .u8 0) := by
      refine ⟨⟨?_, ?_⟩, ⟨?_, ?_⟩⟩ <;> first | (refine kc hb ?_ <;> (go_simp; first | done | rfl)) | (refine kfz hb ?_ ?_ <;> first | (go_size; done) | (go_simp; done))
  have hz := hb.size
  (try simp only [World.size_alloc, World.size_setCell, World.size_drew] at hz)
  have L : w.heap.size < u.heap.size := by omega
  have hB' : Below w.heap.size w u := by
      refine kb ?_ hb
      go_grown
  clear hb hz
  obtain ⟨⟨hr_0, fr_0⟩, ⟨hr_1, fr_1⟩⟩ := T
  have hlr := L; clear L
  obtain ⟨hnr0, hnr1, hkr1, hnr2, hkr2⟩ := ap0 hlr
  have hB := hB'; clear hB'
  have hsz := hB.size
  go_wp2
  refine bodyPost_ret (v := .tuple #[.agg #[.int .u8 xv, .int .u8 xt], .int .i64 xe]) (by simp [results, Tryz.results74, go_sem, hlr, hr_0, hr_1] <;> first | done | rfl | exact dec_eq Iff.rfl) rfl ⟨rfl, by go_grown⟩
set_option maxRecDepth 100000 in
set_option maxHeartbeats 4000000 in
theorem readtim_c (h : Pb bb mb mbb pb wb B F G w) (hT : B.T.May) (reg : Int) :
    Calls Tryz.prog 93 #[.pointer (some ⟨bb, 0, none⟩), .int .i64 reg] w fun e u => e = .returned (rdBV (readT B.T reg, 0, regE reg)) ∧ Below w.heap.size w u := by
  have HR := Lib.hid (fun W (hW : Below w.heap.size w W) => readp_t reg bb 1 B.T hT W (h.t.below hW))
  have c0 := h.c0
  have hlt := klt c0
  clear h
  unfold rdBV
  generalize readT B.T reg = xv at *
  generalize regE reg = xe at *
  go_enter Tryz.func93, Tryz.ntmps93
  go_wp2_with fail
  ((with_reducible refine (HR.out _ (by go_grown)).mono ?_); rintro _ u ⟨rfl, hb⟩)
  have T : CF u w.heap.size 0 (.int .u8 0) ∧ CF u w.heap.size 1 (.int .u8 0) := by
      refine ⟨⟨?_, ?_⟩, ⟨?_, ?_⟩⟩ <;> first | (refine kc hb ?_ <;> (go_simp; first | done | rfl)) | (refine kfz hb ?_ ?_ <;> first | (go_size; done) | (go_simp; done))
  have hz := hb.size
  (try simp only [World.size_alloc, World.size_setCell, World.size_drew] at hz)
  have L : w.heap.size < u.heap.size := by omega
  have hB' : Below w.heap.size w u := by
      refine kb ?_ hb
      go_grown
  clear hb hz
  obtain ⟨⟨hr_0, fr_0⟩, ⟨hr_1, fr_1⟩⟩ := T
  have hlr := L; clear L
  obtain ⟨hnr0, hnr1, hkr1, hnr2, hkr2⟩ := ap0 hlr
  have hB := hB'; clear hB'
  have hsz := hB.size
  go_wp2
  refine bodyPost_ret (v := .tuple #[.agg #[.int .u8 xv, .int .u8 0], .int .i64 xe]) (by simp [results, Tryz.results93, go_sem, hlr, hr_0, hr_1] <;> first | done | rfl | exact dec_eq Iff.rfl) rfl ⟨rfl, by go_grown⟩
set_option maxRecDepth 100000 in
set_option maxHeartbeats 4000000 in
theorem readwhl_c (h : Pb bb mb mbb pb wb B F G w) (hW : B.W.May) (reg : Int) :
    Calls Tryz.prog 97 #[.pointer (some ⟨bb, 0, none⟩), .int .i64 reg] w fun e u => e = .returned (rdBV (rdW B.W reg, 0, rdE reg)) ∧ Below w.heap.size w u := by
  have HR := Lib.hid (fun W (hW' : Below w.heap.size w W) => wread_c wb B.W hW reg W (h.h.below hW'))
  unfold rdV at HR
  have c8 := h.c8
  have hlt := klt c8
  clear h
  unfold rdBV
  generalize rdW B.W reg = xv at *
  generalize rdE reg = xe at *
  go_enter Tryz.func97, Tryz.ntmps97
  go_wp2_with fail
  ((with_reducible refine (HR.out _ (by go_grown)).mono ?_); rintro _ u ⟨rfl, hb⟩)
  have T : CF u w.heap.size 0 (.int .u8 0) ∧ CF u w.heap.size 1 (.int .u8 0) := by
      refine ⟨⟨?_, ?_⟩, ⟨?_, ?_⟩⟩ <;> first | (refine kc hb ?_ <;> (go_simp; first | done | rfl)) | (refine kfz hb ?_ ?_ <;> first | (go_size; done) | (go_simp; done))
  have hz := hb.size
  (try simp only [World.size_alloc, World.size_setCell, World.size_drew] at hz)
  have L : w.heap.size < u.heap.size := by omega
  have hB' : Below w.heap.size w u := by
      refine kb ?_ hb
      go_grown
  clear hb hz
  obtain ⟨⟨hr_0, fr_0⟩, ⟨hr_1, fr_1⟩⟩ := T
  have hlr := L; clear L
  obtain ⟨hnr0, hnr1, hkr1, hnr2, hkr2⟩ := ap0 hlr
  have hB := hB'; clear hB'
  have hsz := hB.size
  go_wp2
  refine bodyPost_ret (v := .tuple #[.agg #[.int .u8 xv, .int .u8 0], .int .i64 xe]) (by simp [results, Tryz.results97, go_sem, hlr, hr_0, hr_1] <;> first | done | rfl | exact dec_eq Iff.rfl) rfl ⟨rfl, by go_grown⟩
set_option maxRecDepth 100000 in
theorem readnot_c (p : Option Addr) (reg : Int) (w : World) :
    Calls Tryz.prog 99 #[.pointer p, .int .i64 reg] w fun e u => e = .returned (rdBV (255, 0, 0)) ∧ Below w.heap.size w u := by
  unfold rdBV
  go_enter Tryz.func99, Tryz.ntmps99
  go_wp2
  refine bodyPost_ret (v := .tuple #[.agg #[.int .u8 255, .int .u8 0], .int .i64 0]) (by simp [results, Tryz.results99, go_sem] <;> first | done | rfl | exact dec_eq Iff.rfl) rfl ⟨rfl, by go_grown⟩
/-- What a call that may turn ports leaves. -/
def BgEnd (bb mb mbb pb wb : Nat) (F G : Nat → Prop) (V : Value) (B' : Bs) (w : World) : Ending → World → Prop := fun e u => e = .returned V ∧ ∃ F' G', Bg bb mb mbb pb wb F G w B' F' G' u
set_option maxRecDepth 100000 in
set_option maxHeartbeats 4000000 in
theorem readprt_c (h : Pb bb mb mbb pb wb B F G w) (hS : Fit B.S) (reg : Int) :
    Calls Tryz.prog 95 #[.pointer (some ⟨bb, 0, none⟩), .int .i64 reg] w (BgEnd bb mb mbb pb wb F G (rdBV (rdPo B.S reg)) ⟨B.M, B.T, readS B.S reg, B.W, B.n⟩ w) := by
  have HR := Lib.hid (fun W (hW : Below w.heap.size w W) => pread_c pb B.S F G reg hS.cyc W (h.below hW).p)
  unfold PEnd readV at HR
  have c7 := h.c7
  have hlt := klt c7
  have HP := Lib.hid h
  clear h
  unfold rdBV
  generalize readS B.S reg = S' at *
  obtain ⟨⟨xv, xt, xe⟩, hX⟩ : ∃ X, rdPo B.S reg = X := ⟨_, rfl⟩
  rw [hX] at HR ⊢
  dsimp only at HR ⊢
  clear hX
  go_enter Tryz.func95, Tryz.ntmps95
  go_wp2_with fail
  have hB0 : Below w.heap.size w (w.alloc (Obj.cells #[.int .u8 0, .int .u8 0] 49)) := by go_grown
  refine (HR.out _ hB0).mono ?_
  rintro _ u ⟨rfl, F', G', hpo, hM⟩
  have HP1 := Lib.hid (HP.out.below hB0)
  have HG := Lib.hid (((Bg.refl HP.out).below hB0).trans (HP1.out.ports hM hpo))
  have nF : ¬ F w.heap.size := fun e => by have := HP.out.lt _ (.inr (.inr (.inr (.inr ((PO.frm _ _).sub HP.out.p _ e))))); omega
  have HN := Lib.hid (HP.out.newG (Nat.le_refl _) (fun k hk => (hM.g k hk).imp id (fun h => by simp at h; omega)))
  have r0 : u.cell? ⟨w.heap.size, 0, none⟩ = some (.int .u8 0) := hM.fr.cell (by go_simp; first | done | rfl) nF
  have r1 : u.cell? ⟨w.heap.size, 1, none⟩ = some (.int .u8 0) := hM.fr.cell (by go_simp; first | done | rfl) nF
  have f0 : u.frozen? ⟨w.heap.size, 0, none⟩ = false := hM.fr.frozen (by simp) (by go_simp) nF
  have f1 : u.frozen? ⟨w.heap.size, 1, none⟩ = false := hM.fr.frozen (by simp) (by go_simp) nF
  have hru := klt r0
  clear hM hpo HR HP1 nF
  go_wp2
  refine bodyPost_ret (v := .tuple #[.agg #[.int .u8 xv, .int .u8 xt], .int .i64 xe]) (by simp [results, Tryz.results95, go_sem, hru, r0, r1] <;> first | done | rfl) rfl ⟨rfl, F', G', HG.out.put (fr_two _ _ _ _) (Nat.le_refl _) HN.out⟩
end
end Go.Proofs.YtcnejgilmciljaaGreatDoor
set_option linter.unusedSimpArgs false
set_option linter.unusedVariables false
namespace Go.Proofs.YtcnejgilmciljaaGreatDoor
open Go.RowKit Go.PlainAid

theorem Tw.set9 {bb : Nat} {T : Tm} {u : World} (h : Tw bb 1 T u) (x : Value) : Tw bb 1 T (u.setCell ⟨bb, 9, none⟩ x) :=
  ⟨fun i v hv => by
      have hi : i < 6 := by
        have := (List.getElem?_eq_some_iff.1 hv).1
        simpa [tmV] using this
      rw [World.cell?_setCell_other _ _ _ _ (fun e => by have := congrArg Addr.off e; dsimp only at this; omega)]
      exact h.c i v hv, fun i hi => by rw [World.frozen?_setCell]; exact h.f i hi⟩
section
variable {bb mb mbb pb wb : Nat} {B : Bs} {F G : Nat → Prop} {w : World}
set_option maxRecDepth 100000 in
set_option maxHeartbeats 4000000 in
theorem passb_ok (h : Pb bb mb mbb pb wb B F G w) (hT : B.T.May) (hn : 0 ≤ B.n ∧ B.n ≤ 4611686018427387904) (eb : Nat) (he : w.cell? ⟨eb, 0, none⟩ = some (.int .i64 0)) :
    CallsD Tryz.prog 40 #[.pointer (some ⟨bb, 0, none⟩), .pointer (some ⟨eb, 0, none⟩)] .returning w fun e d u => d = .returning ∧ (e = .returned (.tuple #[]) ∧ Own bb w u ∧ Bg bb mb mbb pb wb F G w ⟨B.M, tickT B.T, B.S, B.W, B.n + 1⟩ F G u) := by
  have HT := Lib.hid (tickp_c bb 1 B.T hT w h.t)
  unfold TmEnd at HT
  have HP := Lib.hid h
  have hw : IntKind.i64.wrap (B.n + 1) = B.n + 1 := IntWalk.i64_in _ (by omega)
  clear h hn
  go_enter_d Tryz.func40, Tryz.ntmps40
  go_wp2_with fail
  refine HT.out.mono ?_
  rintro _ u ⟨rfl, hq⟩
  have HQ := Lib.hid hq
  have c9 : u.cell? ⟨bb, 9, none⟩ = some (.int .i64 B.n) := (hq.ot 9 (by omega)).1.trans HP.out.c9
  have f9 : u.frozen? ⟨bb, 9, none⟩ = false := (hq.ot 9 (by omega)).2.trans HP.out.f9
  clear hq HT
  go_wp2
  go_end0
  have ho : Own bb w (u.setCell ⟨bb, 9, none⟩ (.int .i64 (B.n + 1))) := (Own.ofTq HQ.out).set _
  exact ⟨rfl, ho, HP.out.own ho (HQ.out.t.set9 _) (World.cell?_setCell_same _ _ _ c9) (by rw [World.frozen?_setCell]; exact f9)⟩
set_option maxRecDepth 100000 in
theorem passb_no (bb : Nat) (w : World) (eb : Nat) (E : Int) (hE : E ≠ 0) (he : w.cell? ⟨eb, 0, none⟩ = some (.int .i64 E)) :
    CallsD Tryz.prog 40 #[.pointer (some ⟨bb, 0, none⟩), .pointer (some ⟨eb, 0, none⟩)] .returning w fun e d u => d = .returning ∧ (e = .returned (.tuple #[]) ∧ Below w.heap.size w u) := by
  have h2 : (E == 0) = false := by simpa using hE
  go_enter_d Tryz.func40, Tryz.ntmps40
  go_wp2
  go_end0
  exact ⟨rfl, by go_grown⟩
end
end Go.Proofs.YtcnejgilmciljaaGreatDoor
set_option linter.unusedSimpArgs false
set_option linter.unusedVariables false
namespace Go.Proofs.YtcnejgilmciljaaGreatDoor
open Go.RowKit Go.PlainAid

theorem prM_memV (M : Int → Int × Int) (a : Int) (h0 : 0 ≤ a) (h1 : a ≤ 65535) (hd : devB a = false) : prM M a = ⟨(memV M a).1, (memV M a).2, 0⟩ := by
  unfold prM memV realB
  rcases kindI_cases a a with ⟨k, h, -⟩ | ⟨k, h, -⟩ | ⟨k, h, -⟩ | ⟨k, h, -⟩ | ⟨k, n1, n2, n3, n4⟩
  · rw [k, if_neg (by decide), if_neg (by decide), if_neg (by decide), if_pos (by rw [h]; rfl)]
  · rw [h] at hd; cases hd
  · have e1 : ramB a = false := by unfold ramB; simp; omega
    have e2 : romB a = false := by unfold romB; simp; omega
    rw [k, if_neg (by decide), if_neg (by decide), if_pos rfl, e1, e2]
    rfl
  · rw [k, if_neg (by decide), if_neg (by decide), if_neg (by decide), if_pos (by rw [h]; simp)]
  · exfalso
    have e1 : ¬ ramB a = true := fun h => n1 ⟨h, h⟩
    have e4 : ¬ romB a = true := fun h => n4 ⟨h, h⟩
    unfold ramB at e1
    unfold romB at e4
    unfold devB at hd
    simp at e1 e4 hd
    omega
theorem kindI_bad {a : Int} (h : a < 0 ∨ 65535 < a) : kindI a a = 0 := by
  rcases kindI_cases a a with ⟨k, h1, -⟩ | ⟨k, h1, -⟩ | ⟨k, h1, -⟩ | ⟨k, h1, -⟩ | ⟨k, n1, n2, n3, n4⟩
  · unfold ramB at h1; simp at h1; omega
  · unfold devB at h1; simp at h1; omega
  · omega
  · unfold romB at h1; simp at h1; omega
  · exact k
theorem prM_bad (M : Int → Int × Int) (a : Int) (h : a < 0 ∨ 65535 < a) : prM M a = ⟨0, 0, 10⟩ := by
  unfold prM
  rw [if_pos (kindI_bad h)]
theorem writeM_bad (M : Int → Int × Int) (a v t : Int) (h : a < 0 ∨ 65535 < a) : writeM M a v t = (10, M) := by
  unfold writeM
  rw [if_pos (kindI_bad h)]
theorem writeM_ok (M : Int → Int × Int) (a v t : Int) (h0 : 0 ≤ a) (h1 : a ≤ 65535) (hd : devB a = false) : writeM M a v t = (0, wrM M a v t) := by
  unfold writeM wrM
  rcases kindI_cases a a with ⟨k, h, -⟩ | ⟨k, h, -⟩ | ⟨k, h, -⟩ | ⟨k, h, -⟩ | ⟨k, n1, n2, n3, n4⟩
  · rw [k, if_neg (by decide), if_neg (by decide), if_pos rfl, if_pos h]
  · rw [h] at hd; cases hd
  · have e1 : ¬ ramB a = true := by unfold ramB; simp; omega
    rw [k, if_neg (by decide), if_neg (by decide), if_neg (by decide), if_neg e1]
  · have e1 : ¬ ramB a = true := by unfold romB at h; unfold ramB; simp at h ⊢; omega
    rw [k, if_neg (by decide), if_neg (by decide), if_neg (by decide), if_neg e1]
  · exfalso
    have e1 : ¬ ramB a = true := fun h => n1 ⟨h, h⟩
    have e4 : ¬ romB a = true := fun h => n4 ⟨h, h⟩
    unfold ramB at e1
    unfold romB at e4
    unfold devB at hd
    simp at e1 e4 hd
    omega
end Go.Proofs.YtcnejgilmciljaaGreatDoor
