/-
  Which register letters are, as the program reads them: a range over the text; each letter held against three; a jump to the next round.
-/
import Derived.Test.YtdpoonmgailonaaDoorRegD
import Derived.LoopN
import Derived.Test.YtdpoonmgailonaaDoorScope
set_option linter.unusedSimpArgs false
set_option linter.unusedVariables false
namespace Go.Proofs.YtdpoonmgailonaaDoor
open Go.RowKit Go.PlainAid

/-- The rune at a place is the byte there, where that is a letter; else it is none of the three. -/
theorem rune_ok {s : ByteArray} {k : Nat} (hs : k < s.size) (hk : k < 8) (h : bt s k < 128) : (((Utf8.decode s k).1 : Nat) : Int) = bt s k ∧ (Utf8.decode s k).2 = 1 := by
  have hb : bt s k = ((s[k]'hs).toNat : Int) := by unfold bt; rw [dif_pos hs]
  rw [hb] at h
  have := decode_ascii s k hs (by omega)
  rw [this, hb]
  exact ⟨rfl, rfl⟩
theorem rune_no {s : ByteArray} {k : Nat} (hs : k < s.size) (hk : k < 8) (h : okAt s k = false) :
    ((((Utf8.decode s k).1 : Nat) : Int) == 63) = false ∧ ((((Utf8.decode s k).1 : Nat) : Int) == lt k) = false ∧ ((((Utf8.decode s k).1 : Nat) : Int) == lt k + 32) = false := by
  have hlo := lt_lo k hk
  have hhi := lt_hi k hk
  by_cases ha : bt s k < 128
  · rw [(rune_ok hs hk ha).1]
    unfold okAt at h
    simp only [Bool.or_eq_false_iff] at h
    exact ⟨h.1.1, h.1.2, h.2⟩
  · have hb : bt s k = ((s[k]'hs).toNat : Int) := by unfold bt; rw [dif_pos hs]
    have := (decode_high s k hs (by omega)).1
    simp only [beq_eq_false_iff_ne]
    omega
theorem ok_small {s : ByteArray} {k : Nat} (hk : k < 8) (h : okAt s k = true) : bt s k < 128 := by
  have hhi := lt_hi k hk
  unfold okAt at h
  simp only [Bool.or_eq_true, beq_iff_eq] at h
  omega
theorem iter_frozen {W : World} {k b o : Nat} {s : ByteArray} {p : Nat} (h : W.frozen? ⟨b, o, none⟩ = false) (hk : b ≠ k) : (W.iterAt k s p).frozen? ⟨b, o, none⟩ = false :=
  (World.frozen?_of_block (w := W) (Lib.iterAt_other W k b s p hk)).trans h

theorem ix0 (w : World) : (Instr.index 51 (.agg #[.bool false, .bool false, .bool true, .bool false, .bool false, .bool true]) (.int .i64 0)).run Tryd.prog w = .ok (TBit false false) w := by kernel_rfl
theorem ix1 (w : World) : (Instr.index 51 (.agg #[.bool false, .bool false, .bool true, .bool false, .bool false, .bool true]) (.int .i64 1)).run Tryd.prog w = .ok (TBit true false) w := by kernel_rfl
theorem ix2 (w : World) : (Instr.index 51 (.agg #[.bool false, .bool false, .bool true, .bool false, .bool false, .bool true]) (.int .i64 2)).run Tryd.prog w = .ok (TBit false true) w := by kernel_rfl
/-- What stands at the head of Parse's round k. -/
structure ParseMid (s : ByteArray) (wo : World) (p k : Nat) (wr : World) : Prop where
  hk : k ≤ 8
  good : goodTo s k = true
  it : wr.heap[wo.heap.size + 1 + 1]? = some (.stringIter s p)
  r0 : wr.cell? ⟨wo.heap.size, 0, none⟩ = some (.int .u8 0)
  g0 : wr.frozen? ⟨wo.heap.size, 0, none⟩ = false
  r1 : wr.cell? ⟨wo.heap.size, 1, none⟩ = some (.int .u8 0)
  g1 : wr.frozen? ⟨wo.heap.size, 1, none⟩ = false
  p0 : wr.cell? ⟨wo.heap.size + 1, 0, none⟩ = some (B8 (accV s k))
  f0 : wr.frozen? ⟨wo.heap.size + 1, 0, none⟩ = false
  p1 : wr.cell? ⟨wo.heap.size + 1, 1, none⟩ = some (B8 (accT s k))
  f1 : wr.frozen? ⟨wo.heap.size + 1, 1, none⟩ = false
  sz : wo.heap.size + 3 ≤ wr.heap.size
  hB : Below wo.heap.size wo wr
theorem ParseMid.step {s : ByteArray} {wo : World} {p k : Nat} {W : World} (h : ParseMid s wo p k W) (p' : Nat) : ParseMid s wo p' k (W.iterAt (wo.heap.size + 1 + 1) s p') where
  hk := h.hk
  good := h.good
  it := Lib.iterAt_heap W (wo.heap.size + 1 + 1) s p p' h.it
  r0 := iter_cell h.r0 (by omega)
  g0 := iter_frozen h.g0 (by omega)
  r1 := iter_cell h.r1 (by omega)
  g1 := iter_frozen h.g1 (by omega)
  p0 := iter_cell h.p0 (by omega)
  f0 := iter_frozen h.f0 (by omega)
  p1 := iter_cell h.p1 (by omega)
  f1 := iter_frozen h.f1 (by omega)
  sz := by rw [Lib.iterAt_size]; exact h.sz
  hB := Lib.below_iterAt h.hB (by omega) s p'
/-- Behind calls that turn nothing old, and the register's store. -/
theorem ParseMid.put {s : ByteArray} {wo : World} {k : Nat} {w W : World} (h : ParseMid s wo (k + 1) k w) (hlt : k < 8) (hok : okAt s k = true) (hb : Below w.heap.size w W) {V T : BitVec 8} (hV : accV s (k + 1) = V) (hT : accT s (k + 1) = T) :
    ParseMid s wo (k + 1) (k + 1) ((W.setCell ⟨wo.heap.size + 1, 0, none⟩ (B8 V)).setCell ⟨wo.heap.size + 1, 1, none⟩ (B8 T)) := by
  subst hV; subst hT
  have h1 := kc hb h.r0
  have h2 := kfz hb (klt h.r0) h.g0
  have h3 := kc hb h.r1
  have h4 := kfz hb (klt h.r1) h.g1
  have h5 := kc hb h.p0
  have h6 := kfz hb (klt h.p0) h.f0
  have h7 := kc hb h.p1
  have h8 := kfz hb (klt h.p1) h.f1
  have hsz := hb.size
  have hsw := h.sz
  refine ⟨by omega, by show (goodTo s k && okAt s k) = true; rw [h.good, hok]; rfl, ?_, ?_, ?_, ?_, ?_, ?_, ?_, ?_, ?_, by simp; omega, ?_⟩
  · rw [Below.heap_setCell _ _ _ _ (by dsimp only; omega), Below.heap_setCell _ _ _ _ (by dsimp only; omega)]
    exact iter_kept h.it hb
  all_goals first | (go_simp; done) | exact (((h.hB.trans (hb.mono (by omega))).setCell (by dsimp only; omega) _).setCell (by dsimp only; omega) _)

set_option maxHeartbeats 4000000 in
set_option maxRecDepth 100000 in
theorem parse_c (s : ByteArray) (wo : World) : Calls Tryd.prog 18 #[.string s] wo fun e w' => e = .returned (.tuple #[TB (pV s) (pT s), .int .i64 (pE s)]) ∧ Below wo.heap.size wo w' := by
  by_cases hs : s.size = 8
  · go_enter Tryd.func18, Tryd.ntmps18
    go_wp2_with fail
    refine wp_scope_hid 0 fun C hC => ?_
    go_wp2_with fail
    apply wp_label
    go_wp2_with fail
    go_loopw [] (fun wr => ∃ k : Nat, ParseMid s wo k k wr) (fun wr => 8 - wr.iterPos (wo.heap.size + 1 + 1))
    case atStart =>
      refine ⟨0, by omega, rfl, ?_, ?_, ?_, ?_, ?_, ?_, ?_, ?_, ?_, ?_, ?_⟩
      all_goals unfold World.iter
      · have := heap_alloc_new ((wo.alloc (.cells #[.int .u8 0, .int .u8 0] 23)).alloc (.cells #[.int .u8 0, .int .u8 0] 23)) (.stringIter s 0)
        simpa using this
      · go_simp
      · go_simp
      · go_simp
      · go_simp
      · go_simp; rfl
      · go_simp
      · go_simp; rfl
      · go_simp
      · simp
      · exact (((Below.refl _ wo).alloc (Nat.le_refl _) _).alloc (by simp) _).alloc (by simp; omega) _
    case round =>
      obtain ⟨k, hm⟩ := hrel
      by_cases hlt : k < 8
      · have hsk : k < s.size := by omega
        have hlo := lt_lo k hlt
        have hhi := lt_hi k hlt
        have hk9 : ¬ (8 ≤ (k : Int)) := by omega
        have hix := lt_at
        have i0 := ix0
        have i1 := ix1
        have i2 := ix2
        have hw32 : IntKind.i32.wrap (lt k) = lt k := by rw [IntKind.wrap_i32]; omega
        have L0 : letR (lt k) false false = lt k + 32 := rfl
        have L1 : letR (lt k) true false = lt k := rfl
        have L2 : letR (lt k) false true = 63 := rfl
        have hit := hm.it
        obtain ⟨R, hR⟩ : ∃ R : Int, (((Utf8.decode s k).1 : Nat) : Int) = R := ⟨_, rfl⟩
        obtain ⟨K, hK⟩ : ∃ K : Nat, (Utf8.decode s k).2 = K := ⟨_, rfl⟩
        have hnx : ∀ ty, (Instr.next (.pointer (some ⟨wo.heap.size + 1 + 1, 0, none⟩)) true ty).run Tryd.prog wr = .ok (.tuple #[.bool true, .int .i64 k, .int .i32 R]) (wr.iterAt (wo.heap.size + 1 + 1) s (k + K)) := fun ty => by
          rw [Lib.run_next_any_at wr _ s k ty hm.it hsk, hR, hK]
        obtain ⟨w, hW⟩ : ∃ w, wr.iterAt (wo.heap.size + 1 + 1) s (k + K) = w := ⟨_, rfl⟩
        have hm' := hm.step (k + K)
        rw [hW] at hnx hm'
        clear hW hm
        have T : (w.cell? ⟨wo.heap.size, 0, none⟩ = some (.int .u8 0) ∧ w.frozen? ⟨wo.heap.size, 0, none⟩ = false ∧ w.cell? ⟨wo.heap.size, 1, none⟩ = some (.int .u8 0) ∧ w.frozen? ⟨wo.heap.size, 1, none⟩ = false ∧
          w.cell? ⟨wo.heap.size + 1, 0, none⟩ = some (B8 (accV s k)) ∧ w.frozen? ⟨wo.heap.size + 1, 0, none⟩ = false ∧ w.cell? ⟨wo.heap.size + 1, 1, none⟩ = some (B8 (accT s k)) ∧ w.frozen? ⟨wo.heap.size + 1, 1, none⟩ = false ∧ Below w.heap.size w w) :=
          ⟨hm'.r0, hm'.g0, hm'.r1, hm'.g1, hm'.p0, hm'.f0, hm'.p1, hm'.f1, Below.refl _ _⟩
        have hsw := hm'.sz
        have k5 : wo.heap.size ≤ w.heap.size := by omega
        have k6 : wo.heap.size + 1 ≤ w.heap.size := by omega
        obtain ⟨hr_0, fr_0, hr_1, fr_1, hp_0, fp_0, hp_1, fp_1, hB⟩ := T
        have hsz := hB.size
        have hlr := klt hr_0
        have hlp := klt hp_0
        have hnr0 : ¬ (wo.heap.size = w.heap.size) := by omega
        have hnr1 : ¬ (wo.heap.size = w.heap.size + 1) := by omega
        have hkr1 : wo.heap.size < w.heap.size + 1 := by omega
        have hnr2 : ¬ (wo.heap.size = w.heap.size + 1 + 1) := by omega
        have hkr2 : wo.heap.size < w.heap.size + 1 + 1 := by omega
        have hnp0 : ¬ (wo.heap.size + 1 = w.heap.size) := by omega
        have hkp1 : wo.heap.size < w.heap.size := by omega
        by_cases hok : okAt s k = true
        · have hro := rune_ok hsk hlt (ok_small hlt hok)
          obtain rfl : R = bt s k := by rw [← hR]; exact hro.1
          obtain rfl : K = 1 := by rw [← hK]; exact hro.2
          clear hro hR hK
          rcases way s k hlt with ⟨⟨h1, h2, h3⟩, hok⟩ | ⟨⟨h1, h2, h3⟩, hok⟩ | ⟨⟨h1, h2, h3⟩, hok⟩ | ⟨⟨h1, h2, h3⟩, hno⟩
          · have _g := hhi
            have _h := hlo
            go_wp2_with fail
            refine wp_loop_rounds 4 ?_
            rw [rounds_succ]
            go_wp2_with fail
            refine wp_region_plan (fun w' => w'.cell? ⟨wo.heap.size, 0, none⟩ = some (.int .u8 0) ∧ w'.frozen? ⟨wo.heap.size, 0, none⟩ = false ∧ w'.cell? ⟨wo.heap.size, 1, none⟩ = some (.int .u8 0) ∧ w'.frozen? ⟨wo.heap.size, 1, none⟩ = false ∧ w'.cell? ⟨wo.heap.size + 1, 0, none⟩ = some (B8 (accV s k)) ∧ w'.frozen? ⟨wo.heap.size + 1, 0, none⟩ = false ∧ w'.cell? ⟨wo.heap.size + 1, 1, none⟩ = some (B8 (accT s k)) ∧ w'.frozen? ⟨wo.heap.size + 1, 1, none⟩ = false ∧ w'.cell? ⟨w.heap.size, 0, none⟩ = some (.bool false) ∧ w'.frozen? ⟨w.heap.size, 0, none⟩ = false ∧ w'.cell? ⟨w.heap.size, 1, none⟩ = some (.bool false) ∧ w'.frozen? ⟨w.heap.size, 1, none⟩ = false ∧ Below w.heap.size w w') (by kernel_rfl) (by kernel_rfl) (by kernel_rfl) ?_ ?_
            · (try dsimp only)
              refine ⟨?_, ?_, ?_, ?_, ?_, ?_, ?_, ?_, ?_, ?_, ?_, ?_, ?_⟩ <;> first | (go_simp; done) | (simp [*]; done) | go_grown
            repeat (first
              | (refine Plan.val (v := ?_) ?_ ?_ ?_; rotate_left; (· rfl); (· (intro W hSw; (try dsimp only at hSw); go_simp; all_goals (first | (with_reducible rfl) | (constructor <;> (with_reducible rfl))))); (try simp only [Act.put, List.setIfInBounds_toArray, List.set_cons_zero, List.set_cons_succ]))
              | (refine Plan.no ?_ ?_; (· rfl); (try simp only [Act.put, List.setIfInBounds_toArray, List.set_cons_zero, List.set_cons_succ]))
              | (refine Plan.call (v := ?_) (f := ?_) (args := ?_) ?_ ?_ ?_ ?_; rotate_left 3; (· rfl); (· (intro W hSw; (try dsimp only at hSw); go_simp; all_goals (first | (with_reducible rfl) | (constructor <;> (with_reducible rfl))))); (· (intro W hSw; (try dsimp only at hSw); first | (go_at_call 31; ((with_reducible refine (letter_c (lt k) false false hlo hhi _).mono ?_); rintro _ wz ⟨rfl, hb⟩; (refine ⟨?_, ?_⟩; (· with_reducible rfl); exact ⟨kc hb hSw.1, kfz hb (klt hSw.1) hSw.2.1, kc hb hSw.2.2.1, kfz hb (klt hSw.2.2.1) hSw.2.2.2.1, kc hb hSw.2.2.2.2.1, kfz hb (klt hSw.2.2.2.2.1) hSw.2.2.2.2.2.1, kc hb hSw.2.2.2.2.2.2.1, kfz hb (klt hSw.2.2.2.2.2.2.1) hSw.2.2.2.2.2.2.2.1, kc hb hSw.2.2.2.2.2.2.2.2.1, kfz hb (klt hSw.2.2.2.2.2.2.2.2.1) hSw.2.2.2.2.2.2.2.2.2.1, kc hb hSw.2.2.2.2.2.2.2.2.2.2.1, kfz hb (klt hSw.2.2.2.2.2.2.2.2.2.2.1) hSw.2.2.2.2.2.2.2.2.2.2.2.1, kb hSw.2.2.2.2.2.2.2.2.2.2.2.2 hb⟩))))); (try simp only [Act.put, List.setIfInBounds_toArray, List.set_cons_zero, List.set_cons_succ])))
            refine Plan.done ?_
            intro w1 T
            (try dsimp only at T)
            clear hr_0 fr_0 hr_1 fr_1 hp_0 fp_0 hp_1 fp_1 hB hsz hlr hlp hnr0 hnr1 hkr1 hnr2 hkr2 hnp0 hkp1
            obtain ⟨hr_0, fr_0, hr_1, fr_1, hp_0, fp_0, hp_1, fp_1, hb_0, fb_0, hb_1, fb_1, hB⟩ := T
            have hsz := hB.size
            have hlr := klt hr_0
            have hlp := klt hp_0
            have hlb := klt hb_0
            have hnr0 : ¬ (wo.heap.size = w1.heap.size) := by omega
            have hnr1 : ¬ (wo.heap.size = w1.heap.size + 1) := by omega
            have hkr1 : wo.heap.size < w1.heap.size + 1 := by omega
            have hnr2 : ¬ (wo.heap.size = w1.heap.size + 1 + 1) := by omega
            have hkr2 : wo.heap.size < w1.heap.size + 1 + 1 := by omega
            have hnp0 : ¬ (wo.heap.size + 1 = w1.heap.size) := by omega
            have hkp1 : wo.heap.size < w1.heap.size := by omega
            have hnb0 : ¬ (w.heap.size = w1.heap.size) := by omega
            have hnb1 : ¬ (w.heap.size = w1.heap.size + 1) := by omega
            have hkb1 : w.heap.size < w1.heap.size + 1 := by omega
            have hnb2 : ¬ (w.heap.size = w1.heap.size + 1 + 1) := by omega
            have hkb2 : w.heap.size < w1.heap.size + 1 + 1 := by omega
            go_wp2_with fail
            rw [rounds_succ]
            go_wp2_with fail
            refine wp_region_plan (fun w' => w'.cell? ⟨wo.heap.size, 0, none⟩ = some (.int .u8 0) ∧ w'.frozen? ⟨wo.heap.size, 0, none⟩ = false ∧ w'.cell? ⟨wo.heap.size, 1, none⟩ = some (.int .u8 0) ∧ w'.frozen? ⟨wo.heap.size, 1, none⟩ = false ∧ w'.cell? ⟨wo.heap.size + 1, 0, none⟩ = some (B8 (accV s k)) ∧ w'.frozen? ⟨wo.heap.size + 1, 0, none⟩ = false ∧ w'.cell? ⟨wo.heap.size + 1, 1, none⟩ = some (B8 (accT s k)) ∧ w'.frozen? ⟨wo.heap.size + 1, 1, none⟩ = false ∧ w'.cell? ⟨w1.heap.size, 0, none⟩ = some (.bool true) ∧ w'.frozen? ⟨w1.heap.size, 0, none⟩ = false ∧ w'.cell? ⟨w1.heap.size, 1, none⟩ = some (.bool false) ∧ w'.frozen? ⟨w1.heap.size, 1, none⟩ = false ∧ Below w.heap.size w w') (by kernel_rfl) (by kernel_rfl) (by kernel_rfl) ?_ ?_
            · (try dsimp only)
              refine ⟨?_, ?_, ?_, ?_, ?_, ?_, ?_, ?_, ?_, ?_, ?_, ?_, ?_⟩ <;> first | (go_simp; done) | (simp [*]; done) | go_grown
            repeat (first
              | (refine Plan.val (v := ?_) ?_ ?_ ?_; rotate_left; (· rfl); (· (intro W hSw; (try dsimp only at hSw); go_simp; all_goals (first | (with_reducible rfl) | (constructor <;> (with_reducible rfl))))); (try simp only [Act.put, List.setIfInBounds_toArray, List.set_cons_zero, List.set_cons_succ]))
              | (refine Plan.no ?_ ?_; (· rfl); (try simp only [Act.put, List.setIfInBounds_toArray, List.set_cons_zero, List.set_cons_succ]))
              | (refine Plan.call (v := ?_) (f := ?_) (args := ?_) ?_ ?_ ?_ ?_; rotate_left 3; (· rfl); (· (intro W hSw; (try dsimp only at hSw); go_simp; all_goals (first | (with_reducible rfl) | (constructor <;> (with_reducible rfl))))); (· (intro W hSw; (try dsimp only at hSw); first | (go_at_call 31; ((with_reducible refine (letter_c (lt k) true false hlo hhi _).mono ?_); rintro _ wz ⟨rfl, hb⟩; (refine ⟨?_, ?_⟩; (· with_reducible rfl); exact ⟨kc hb hSw.1, kfz hb (klt hSw.1) hSw.2.1, kc hb hSw.2.2.1, kfz hb (klt hSw.2.2.1) hSw.2.2.2.1, kc hb hSw.2.2.2.2.1, kfz hb (klt hSw.2.2.2.2.1) hSw.2.2.2.2.2.1, kc hb hSw.2.2.2.2.2.2.1, kfz hb (klt hSw.2.2.2.2.2.2.1) hSw.2.2.2.2.2.2.2.1, kc hb hSw.2.2.2.2.2.2.2.2.1, kfz hb (klt hSw.2.2.2.2.2.2.2.2.1) hSw.2.2.2.2.2.2.2.2.2.1, kc hb hSw.2.2.2.2.2.2.2.2.2.2.1, kfz hb (klt hSw.2.2.2.2.2.2.2.2.2.2.1) hSw.2.2.2.2.2.2.2.2.2.2.2.1, kb hSw.2.2.2.2.2.2.2.2.2.2.2.2 hb⟩))))); (try simp only [Act.put, List.setIfInBounds_toArray, List.set_cons_zero, List.set_cons_succ])))
            refine Plan.done ?_
            intro w2 T
            (try dsimp only at T)
            clear hr_0 fr_0 hr_1 fr_1 hp_0 fp_0 hp_1 fp_1 hb_0 fb_0 hb_1 fb_1 hB hsz hlr hlp hlb hnr0 hnr1 hkr1 hnr2 hkr2 hnp0 hkp1 hnb0 hnb1 hkb1 hnb2 hkb2
            obtain ⟨hr_0, fr_0, hr_1, fr_1, hp_0, fp_0, hp_1, fp_1, hb1_0, fb1_0, hb1_1, fb1_1, hB⟩ := T
            have hsz := hB.size
            have hlr := klt hr_0
            have hlp := klt hp_0
            have hlb1 := klt hb1_0
            have hnr0 : ¬ (wo.heap.size = w2.heap.size) := by omega
            have hnr1 : ¬ (wo.heap.size = w2.heap.size + 1) := by omega
            have hkr1 : wo.heap.size < w2.heap.size + 1 := by omega
            have hnr2 : ¬ (wo.heap.size = w2.heap.size + 1 + 1) := by omega
            have hkr2 : wo.heap.size < w2.heap.size + 1 + 1 := by omega
            have hnp0 : ¬ (wo.heap.size + 1 = w2.heap.size) := by omega
            have hkp1 : wo.heap.size < w2.heap.size := by omega
            have hnb10 : ¬ (w1.heap.size = w2.heap.size) := by omega
            have hnb11 : ¬ (w1.heap.size = w2.heap.size + 1) := by omega
            have hkb11 : w1.heap.size < w2.heap.size + 1 := by omega
            have hnb12 : ¬ (w1.heap.size = w2.heap.size + 1 + 1) := by omega
            have hkb12 : w1.heap.size < w2.heap.size + 1 + 1 := by omega
            go_wp2_with fail
            rw [rounds_succ]
            go_wp2_with fail
            refine wp_region_plan (fun w' => w'.cell? ⟨wo.heap.size, 0, none⟩ = some (.int .u8 0) ∧ w'.frozen? ⟨wo.heap.size, 0, none⟩ = false ∧ w'.cell? ⟨wo.heap.size, 1, none⟩ = some (.int .u8 0) ∧ w'.frozen? ⟨wo.heap.size, 1, none⟩ = false ∧ w'.cell? ⟨wo.heap.size + 1, 0, none⟩ = some (B8 (accV s k)) ∧ w'.frozen? ⟨wo.heap.size + 1, 0, none⟩ = false ∧ w'.cell? ⟨wo.heap.size + 1, 1, none⟩ = some (B8 (accT s k)) ∧ w'.frozen? ⟨wo.heap.size + 1, 1, none⟩ = false ∧ w'.cell? ⟨w2.heap.size, 0, none⟩ = some (.bool false) ∧ w'.frozen? ⟨w2.heap.size, 0, none⟩ = false ∧ w'.cell? ⟨w2.heap.size, 1, none⟩ = some (.bool true) ∧ w'.frozen? ⟨w2.heap.size, 1, none⟩ = false ∧ Below w.heap.size w w') (by kernel_rfl) (by kernel_rfl) (by kernel_rfl) ?_ ?_
            · (try dsimp only)
              refine ⟨?_, ?_, ?_, ?_, ?_, ?_, ?_, ?_, ?_, ?_, ?_, ?_, ?_⟩ <;> first | (go_simp; done) | (simp [*]; done) | go_grown
            repeat (first
              | (refine Plan.val (v := ?_) ?_ ?_ ?_; rotate_left; (· rfl); (· (intro W hSw; (try dsimp only at hSw); go_simp; all_goals (first | (with_reducible rfl) | (constructor <;> (with_reducible rfl))))); (try simp only [Act.put, List.setIfInBounds_toArray, List.set_cons_zero, List.set_cons_succ]))
              | (refine Plan.no ?_ ?_; (· rfl); (try simp only [Act.put, List.setIfInBounds_toArray, List.set_cons_zero, List.set_cons_succ]))
              | (refine Plan.call (v := ?_) (f := ?_) (args := ?_) ?_ ?_ ?_ ?_; rotate_left 3; (· rfl); (· (intro W hSw; (try dsimp only at hSw); go_simp; all_goals (first | (with_reducible rfl) | (constructor <;> (with_reducible rfl))))); (· (intro W hSw; (try dsimp only at hSw); first | (go_at_call 31; ((with_reducible refine (letter_c (lt k) false true hlo hhi _).mono ?_); rintro _ wz ⟨rfl, hb⟩; (refine ⟨?_, ?_⟩; (· with_reducible rfl); exact ⟨kc hb hSw.1, kfz hb (klt hSw.1) hSw.2.1, kc hb hSw.2.2.1, kfz hb (klt hSw.2.2.1) hSw.2.2.2.1, kc hb hSw.2.2.2.2.1, kfz hb (klt hSw.2.2.2.2.1) hSw.2.2.2.2.2.1, kc hb hSw.2.2.2.2.2.2.1, kfz hb (klt hSw.2.2.2.2.2.2.1) hSw.2.2.2.2.2.2.2.1, kc hb hSw.2.2.2.2.2.2.2.2.1, kfz hb (klt hSw.2.2.2.2.2.2.2.2.1) hSw.2.2.2.2.2.2.2.2.2.1, kc hb hSw.2.2.2.2.2.2.2.2.2.2.1, kfz hb (klt hSw.2.2.2.2.2.2.2.2.2.2.1) hSw.2.2.2.2.2.2.2.2.2.2.2.1, kb hSw.2.2.2.2.2.2.2.2.2.2.2.2 hb⟩))))); (try simp only [Act.put, List.setIfInBounds_toArray, List.set_cons_zero, List.set_cons_succ])))
            refine Plan.done ?_
            intro w3 T
            (try dsimp only at T)
            clear hr_0 fr_0 hr_1 fr_1 hp_0 fp_0 hp_1 fp_1 hb1_0 fb1_0 hb1_1 fb1_1 hB hsz hlr hlp hlb1 hnr0 hnr1 hkr1 hnr2 hkr2 hnp0 hkp1 hnb10 hnb11 hkb11 hnb12 hkb12
            obtain ⟨hr_0, fr_0, hr_1, fr_1, hp_0, fp_0, hp_1, fp_1, hb2_0, fb2_0, hb2_1, fb2_1, hB⟩ := T
            have hsz := hB.size
            have hlr := klt hr_0
            have hlp := klt hp_0
            have hlb2 := klt hb2_0
            have hnr0 : ¬ (wo.heap.size = w3.heap.size) := by omega
            have hnr1 : ¬ (wo.heap.size = w3.heap.size + 1) := by omega
            have hkr1 : wo.heap.size < w3.heap.size + 1 := by omega
            have hnr2 : ¬ (wo.heap.size = w3.heap.size + 1 + 1) := by omega
            have hkr2 : wo.heap.size < w3.heap.size + 1 + 1 := by omega
            have hnp0 : ¬ (wo.heap.size + 1 = w3.heap.size) := by omega
            have hkp1 : wo.heap.size < w3.heap.size := by omega
            have hnb20 : ¬ (w2.heap.size = w3.heap.size) := by omega
            have hnb21 : ¬ (w2.heap.size = w3.heap.size + 1) := by omega
            have hkb21 : w2.heap.size < w3.heap.size + 1 := by omega
            have hnb22 : ¬ (w2.heap.size = w3.heap.size + 1 + 1) := by omega
            have hkb22 : w2.heap.size < w3.heap.size + 1 + 1 := by omega
            go_wp2_with fail
            ((with_reducible refine (set_i _ _ _ false true _).mono ?_); rintro _ w4 ⟨rfl, hb⟩)
            have T : w4.cell? ⟨wo.heap.size, 0, none⟩ = some (.int .u8 0) ∧ w4.frozen? ⟨wo.heap.size, 0, none⟩ = false ∧ w4.cell? ⟨wo.heap.size, 1, none⟩ = some (.int .u8 0) ∧ w4.frozen? ⟨wo.heap.size, 1, none⟩ = false ∧ w4.cell? ⟨wo.heap.size + 1, 0, none⟩ = some (B8 (accV s k)) ∧ w4.frozen? ⟨wo.heap.size + 1, 0, none⟩ = false ∧ w4.cell? ⟨wo.heap.size + 1, 1, none⟩ = some (B8 (accT s k)) ∧ w4.frozen? ⟨wo.heap.size + 1, 1, none⟩ = false := by
                refine ⟨?_, ?_, ?_, ?_, ?_, ?_, ?_, ?_⟩ <;> first | (refine kc hb ?_ <;> (go_simp; first | done | rfl)) | (refine kfz hb ?_ ?_ <;> first | (go_size; done) | (go_simp; done))
            have hz := hb.size
            (try simp only [World.size_alloc, World.size_setCell, World.size_drew] at hz)
            have hlr' : wo.heap.size < w4.heap.size := by omega
            have hlp' : wo.heap.size + 1 < w4.heap.size := by omega
            have hB' : Below w.heap.size w w4 := by
                refine kb ?_ hb
                go_grown
            clear hr_0 fr_0 hr_1 fr_1 hp_0 fp_0 hp_1 fp_1 hb2_0 fb2_0 hb2_1 fb2_1 hB hsz hlr hlp hlb2 hnr0 hnr1 hkr1 hnr2 hkr2 hnp0 hkp1 hnb20 hnb21 hkb21 hnb22 hkb22
            clear hb hz
            obtain ⟨hr_0, fr_0, hr_1, fr_1, hp_0, fp_0, hp_1, fp_1⟩ := T
            have hlr := hlr'; clear hlr'
            have hlp := hlp'; clear hlp'
            have hnr0 : ¬ (wo.heap.size = w4.heap.size) := by omega
            have hnr1 : ¬ (wo.heap.size = w4.heap.size + 1) := by omega
            have hkr1 : wo.heap.size < w4.heap.size + 1 := by omega
            have hnr2 : ¬ (wo.heap.size = w4.heap.size + 1 + 1) := by omega
            have hkr2 : wo.heap.size < w4.heap.size + 1 + 1 := by omega
            have hnp0 : ¬ (wo.heap.size + 1 = w4.heap.size) := by omega
            have hkp1 : wo.heap.size < w4.heap.size := by omega
            have hB := hB'; clear hB'
            have hsz := hB.size
            have R := hm'.put hlt hok hB (V := setI (accV s k) (7 - k) false) (T := setI (accT s k) (7 - k) true) (by show setI (accV s k) (7 - k) (bt s k == lt k) = _; rw [h2]) (by show setI (accT s k) (7 - k) (bt s k == 63) = _; rw [h1])
            go_wp2
            go_roundw
            case rel => exact ⟨k + 1, R⟩
            case measure =>
              rw [iterPos_of R.it, iterPos_of hit]
              omega
          · have _g := hhi
            have _h := hlo
            go_wp2_with fail
            refine wp_loop_rounds 4 ?_
            rw [rounds_succ]
            go_wp2_with fail
            refine wp_region_plan (fun w' => w'.cell? ⟨wo.heap.size, 0, none⟩ = some (.int .u8 0) ∧ w'.frozen? ⟨wo.heap.size, 0, none⟩ = false ∧ w'.cell? ⟨wo.heap.size, 1, none⟩ = some (.int .u8 0) ∧ w'.frozen? ⟨wo.heap.size, 1, none⟩ = false ∧ w'.cell? ⟨wo.heap.size + 1, 0, none⟩ = some (B8 (accV s k)) ∧ w'.frozen? ⟨wo.heap.size + 1, 0, none⟩ = false ∧ w'.cell? ⟨wo.heap.size + 1, 1, none⟩ = some (B8 (accT s k)) ∧ w'.frozen? ⟨wo.heap.size + 1, 1, none⟩ = false ∧ w'.cell? ⟨w.heap.size, 0, none⟩ = some (.bool false) ∧ w'.frozen? ⟨w.heap.size, 0, none⟩ = false ∧ w'.cell? ⟨w.heap.size, 1, none⟩ = some (.bool false) ∧ w'.frozen? ⟨w.heap.size, 1, none⟩ = false ∧ Below w.heap.size w w') (by kernel_rfl) (by kernel_rfl) (by kernel_rfl) ?_ ?_
            · (try dsimp only)
              refine ⟨?_, ?_, ?_, ?_, ?_, ?_, ?_, ?_, ?_, ?_, ?_, ?_, ?_⟩ <;> first | (go_simp; done) | (simp [*]; done) | go_grown
            repeat (first
              | (refine Plan.val (v := ?_) ?_ ?_ ?_; rotate_left; (· rfl); (· (intro W hSw; (try dsimp only at hSw); go_simp; all_goals (first | (with_reducible rfl) | (constructor <;> (with_reducible rfl))))); (try simp only [Act.put, List.setIfInBounds_toArray, List.set_cons_zero, List.set_cons_succ]))
              | (refine Plan.no ?_ ?_; (· rfl); (try simp only [Act.put, List.setIfInBounds_toArray, List.set_cons_zero, List.set_cons_succ]))
              | (refine Plan.call (v := ?_) (f := ?_) (args := ?_) ?_ ?_ ?_ ?_; rotate_left 3; (· rfl); (· (intro W hSw; (try dsimp only at hSw); go_simp; all_goals (first | (with_reducible rfl) | (constructor <;> (with_reducible rfl))))); (· (intro W hSw; (try dsimp only at hSw); first | (go_at_call 31; ((with_reducible refine (letter_c (lt k) false false hlo hhi _).mono ?_); rintro _ wz ⟨rfl, hb⟩; (refine ⟨?_, ?_⟩; (· with_reducible rfl); exact ⟨kc hb hSw.1, kfz hb (klt hSw.1) hSw.2.1, kc hb hSw.2.2.1, kfz hb (klt hSw.2.2.1) hSw.2.2.2.1, kc hb hSw.2.2.2.2.1, kfz hb (klt hSw.2.2.2.2.1) hSw.2.2.2.2.2.1, kc hb hSw.2.2.2.2.2.2.1, kfz hb (klt hSw.2.2.2.2.2.2.1) hSw.2.2.2.2.2.2.2.1, kc hb hSw.2.2.2.2.2.2.2.2.1, kfz hb (klt hSw.2.2.2.2.2.2.2.2.1) hSw.2.2.2.2.2.2.2.2.2.1, kc hb hSw.2.2.2.2.2.2.2.2.2.2.1, kfz hb (klt hSw.2.2.2.2.2.2.2.2.2.2.1) hSw.2.2.2.2.2.2.2.2.2.2.2.1, kb hSw.2.2.2.2.2.2.2.2.2.2.2.2 hb⟩))))); (try simp only [Act.put, List.setIfInBounds_toArray, List.set_cons_zero, List.set_cons_succ])))
            refine Plan.done ?_
            intro w1 T
            (try dsimp only at T)
            clear hr_0 fr_0 hr_1 fr_1 hp_0 fp_0 hp_1 fp_1 hB hsz hlr hlp hnr0 hnr1 hkr1 hnr2 hkr2 hnp0 hkp1
            obtain ⟨hr_0, fr_0, hr_1, fr_1, hp_0, fp_0, hp_1, fp_1, hb_0, fb_0, hb_1, fb_1, hB⟩ := T
            have hsz := hB.size
            have hlr := klt hr_0
            have hlp := klt hp_0
            have hlb := klt hb_0
            have hnr0 : ¬ (wo.heap.size = w1.heap.size) := by omega
            have hnr1 : ¬ (wo.heap.size = w1.heap.size + 1) := by omega
            have hkr1 : wo.heap.size < w1.heap.size + 1 := by omega
            have hnr2 : ¬ (wo.heap.size = w1.heap.size + 1 + 1) := by omega
            have hkr2 : wo.heap.size < w1.heap.size + 1 + 1 := by omega
            have hnp0 : ¬ (wo.heap.size + 1 = w1.heap.size) := by omega
            have hkp1 : wo.heap.size < w1.heap.size := by omega
            have hnb0 : ¬ (w.heap.size = w1.heap.size) := by omega
            have hnb1 : ¬ (w.heap.size = w1.heap.size + 1) := by omega
            have hkb1 : w.heap.size < w1.heap.size + 1 := by omega
            have hnb2 : ¬ (w.heap.size = w1.heap.size + 1 + 1) := by omega
            have hkb2 : w.heap.size < w1.heap.size + 1 + 1 := by omega
            go_wp2_with fail
            rw [rounds_succ]
            go_wp2_with fail
            refine wp_region_plan (fun w' => w'.cell? ⟨wo.heap.size, 0, none⟩ = some (.int .u8 0) ∧ w'.frozen? ⟨wo.heap.size, 0, none⟩ = false ∧ w'.cell? ⟨wo.heap.size, 1, none⟩ = some (.int .u8 0) ∧ w'.frozen? ⟨wo.heap.size, 1, none⟩ = false ∧ w'.cell? ⟨wo.heap.size + 1, 0, none⟩ = some (B8 (accV s k)) ∧ w'.frozen? ⟨wo.heap.size + 1, 0, none⟩ = false ∧ w'.cell? ⟨wo.heap.size + 1, 1, none⟩ = some (B8 (accT s k)) ∧ w'.frozen? ⟨wo.heap.size + 1, 1, none⟩ = false ∧ w'.cell? ⟨w1.heap.size, 0, none⟩ = some (.bool true) ∧ w'.frozen? ⟨w1.heap.size, 0, none⟩ = false ∧ w'.cell? ⟨w1.heap.size, 1, none⟩ = some (.bool false) ∧ w'.frozen? ⟨w1.heap.size, 1, none⟩ = false ∧ Below w.heap.size w w') (by kernel_rfl) (by kernel_rfl) (by kernel_rfl) ?_ ?_
            · (try dsimp only)
              refine ⟨?_, ?_, ?_, ?_, ?_, ?_, ?_, ?_, ?_, ?_, ?_, ?_, ?_⟩ <;> first | (go_simp; done) | (simp [*]; done) | go_grown
            repeat (first
              | (refine Plan.val (v := ?_) ?_ ?_ ?_; rotate_left; (· rfl); (· (intro W hSw; (try dsimp only at hSw); go_simp; all_goals (first | (with_reducible rfl) | (constructor <;> (with_reducible rfl))))); (try simp only [Act.put, List.setIfInBounds_toArray, List.set_cons_zero, List.set_cons_succ]))
              | (refine Plan.no ?_ ?_; (· rfl); (try simp only [Act.put, List.setIfInBounds_toArray, List.set_cons_zero, List.set_cons_succ]))
              | (refine Plan.call (v := ?_) (f := ?_) (args := ?_) ?_ ?_ ?_ ?_; rotate_left 3; (· rfl); (· (intro W hSw; (try dsimp only at hSw); go_simp; all_goals (first | (with_reducible rfl) | (constructor <;> (with_reducible rfl))))); (· (intro W hSw; (try dsimp only at hSw); first | (go_at_call 31; ((with_reducible refine (letter_c (lt k) true false hlo hhi _).mono ?_); rintro _ wz ⟨rfl, hb⟩; (refine ⟨?_, ?_⟩; (· with_reducible rfl); exact ⟨kc hb hSw.1, kfz hb (klt hSw.1) hSw.2.1, kc hb hSw.2.2.1, kfz hb (klt hSw.2.2.1) hSw.2.2.2.1, kc hb hSw.2.2.2.2.1, kfz hb (klt hSw.2.2.2.2.1) hSw.2.2.2.2.2.1, kc hb hSw.2.2.2.2.2.2.1, kfz hb (klt hSw.2.2.2.2.2.2.1) hSw.2.2.2.2.2.2.2.1, kc hb hSw.2.2.2.2.2.2.2.2.1, kfz hb (klt hSw.2.2.2.2.2.2.2.2.1) hSw.2.2.2.2.2.2.2.2.2.1, kc hb hSw.2.2.2.2.2.2.2.2.2.2.1, kfz hb (klt hSw.2.2.2.2.2.2.2.2.2.2.1) hSw.2.2.2.2.2.2.2.2.2.2.2.1, kb hSw.2.2.2.2.2.2.2.2.2.2.2.2 hb⟩))))); (try simp only [Act.put, List.setIfInBounds_toArray, List.set_cons_zero, List.set_cons_succ])))
            refine Plan.done ?_
            intro w2 T
            (try dsimp only at T)
            clear hr_0 fr_0 hr_1 fr_1 hp_0 fp_0 hp_1 fp_1 hb_0 fb_0 hb_1 fb_1 hB hsz hlr hlp hlb hnr0 hnr1 hkr1 hnr2 hkr2 hnp0 hkp1 hnb0 hnb1 hkb1 hnb2 hkb2
            obtain ⟨hr_0, fr_0, hr_1, fr_1, hp_0, fp_0, hp_1, fp_1, hb1_0, fb1_0, hb1_1, fb1_1, hB⟩ := T
            have hsz := hB.size
            have hlr := klt hr_0
            have hlp := klt hp_0
            have hlb1 := klt hb1_0
            have hnr0 : ¬ (wo.heap.size = w2.heap.size) := by omega
            have hnr1 : ¬ (wo.heap.size = w2.heap.size + 1) := by omega
            have hkr1 : wo.heap.size < w2.heap.size + 1 := by omega
            have hnr2 : ¬ (wo.heap.size = w2.heap.size + 1 + 1) := by omega
            have hkr2 : wo.heap.size < w2.heap.size + 1 + 1 := by omega
            have hnp0 : ¬ (wo.heap.size + 1 = w2.heap.size) := by omega
            have hkp1 : wo.heap.size < w2.heap.size := by omega
            have hnb10 : ¬ (w1.heap.size = w2.heap.size) := by omega
            have hnb11 : ¬ (w1.heap.size = w2.heap.size + 1) := by omega
            have hkb11 : w1.heap.size < w2.heap.size + 1 := by omega
            have hnb12 : ¬ (w1.heap.size = w2.heap.size + 1 + 1) := by omega
            have hkb12 : w1.heap.size < w2.heap.size + 1 + 1 := by omega
            go_wp2_with fail
            ((with_reducible refine (set_i _ _ _ true false _).mono ?_); rintro _ w4 ⟨rfl, hb⟩)
            have T : w4.cell? ⟨wo.heap.size, 0, none⟩ = some (.int .u8 0) ∧ w4.frozen? ⟨wo.heap.size, 0, none⟩ = false ∧ w4.cell? ⟨wo.heap.size, 1, none⟩ = some (.int .u8 0) ∧ w4.frozen? ⟨wo.heap.size, 1, none⟩ = false ∧ w4.cell? ⟨wo.heap.size + 1, 0, none⟩ = some (B8 (accV s k)) ∧ w4.frozen? ⟨wo.heap.size + 1, 0, none⟩ = false ∧ w4.cell? ⟨wo.heap.size + 1, 1, none⟩ = some (B8 (accT s k)) ∧ w4.frozen? ⟨wo.heap.size + 1, 1, none⟩ = false := by
                refine ⟨?_, ?_, ?_, ?_, ?_, ?_, ?_, ?_⟩ <;> first | (refine kc hb ?_ <;> (go_simp; first | done | rfl)) | (refine kfz hb ?_ ?_ <;> first | (go_size; done) | (go_simp; done))
            have hz := hb.size
            (try simp only [World.size_alloc, World.size_setCell, World.size_drew] at hz)
            have hlr' : wo.heap.size < w4.heap.size := by omega
            have hlp' : wo.heap.size + 1 < w4.heap.size := by omega
            have hB' : Below w.heap.size w w4 := by
                refine kb ?_ hb
                go_grown
            clear hr_0 fr_0 hr_1 fr_1 hp_0 fp_0 hp_1 fp_1 hb1_0 fb1_0 hb1_1 fb1_1 hB hsz hlr hlp hlb1 hnr0 hnr1 hkr1 hnr2 hkr2 hnp0 hkp1 hnb10 hnb11 hkb11 hnb12 hkb12
            clear hb hz
            obtain ⟨hr_0, fr_0, hr_1, fr_1, hp_0, fp_0, hp_1, fp_1⟩ := T
            have hlr := hlr'; clear hlr'
            have hlp := hlp'; clear hlp'
            have hnr0 : ¬ (wo.heap.size = w4.heap.size) := by omega
            have hnr1 : ¬ (wo.heap.size = w4.heap.size + 1) := by omega
            have hkr1 : wo.heap.size < w4.heap.size + 1 := by omega
            have hnr2 : ¬ (wo.heap.size = w4.heap.size + 1 + 1) := by omega
            have hkr2 : wo.heap.size < w4.heap.size + 1 + 1 := by omega
            have hnp0 : ¬ (wo.heap.size + 1 = w4.heap.size) := by omega
            have hkp1 : wo.heap.size < w4.heap.size := by omega
            have hB := hB'; clear hB'
            have hsz := hB.size
            have R := hm'.put hlt hok hB (V := setI (accV s k) (7 - k) true) (T := setI (accT s k) (7 - k) false) (by show setI (accV s k) (7 - k) (bt s k == lt k) = _; rw [h2]) (by show setI (accT s k) (7 - k) (bt s k == 63) = _; rw [h1])
            go_wp2
            go_roundw
            case rel => exact ⟨k + 1, R⟩
            case measure =>
              rw [iterPos_of R.it, iterPos_of hit]
              omega
          · have _g := hhi
            have _h := hlo
            go_wp2_with fail
            refine wp_loop_rounds 4 ?_
            rw [rounds_succ]
            go_wp2_with fail
            refine wp_region_plan (fun w' => w'.cell? ⟨wo.heap.size, 0, none⟩ = some (.int .u8 0) ∧ w'.frozen? ⟨wo.heap.size, 0, none⟩ = false ∧ w'.cell? ⟨wo.heap.size, 1, none⟩ = some (.int .u8 0) ∧ w'.frozen? ⟨wo.heap.size, 1, none⟩ = false ∧ w'.cell? ⟨wo.heap.size + 1, 0, none⟩ = some (B8 (accV s k)) ∧ w'.frozen? ⟨wo.heap.size + 1, 0, none⟩ = false ∧ w'.cell? ⟨wo.heap.size + 1, 1, none⟩ = some (B8 (accT s k)) ∧ w'.frozen? ⟨wo.heap.size + 1, 1, none⟩ = false ∧ w'.cell? ⟨w.heap.size, 0, none⟩ = some (.bool false) ∧ w'.frozen? ⟨w.heap.size, 0, none⟩ = false ∧ w'.cell? ⟨w.heap.size, 1, none⟩ = some (.bool false) ∧ w'.frozen? ⟨w.heap.size, 1, none⟩ = false ∧ Below w.heap.size w w') (by kernel_rfl) (by kernel_rfl) (by kernel_rfl) ?_ ?_
            · (try dsimp only)
              refine ⟨?_, ?_, ?_, ?_, ?_, ?_, ?_, ?_, ?_, ?_, ?_, ?_, ?_⟩ <;> first | (go_simp; done) | (simp [*]; done) | go_grown
            repeat (first
              | (refine Plan.val (v := ?_) ?_ ?_ ?_; rotate_left; (· rfl); (· (intro W hSw; (try dsimp only at hSw); go_simp; all_goals (first | (with_reducible rfl) | (constructor <;> (with_reducible rfl))))); (try simp only [Act.put, List.setIfInBounds_toArray, List.set_cons_zero, List.set_cons_succ]))
              | (refine Plan.no ?_ ?_; (· rfl); (try simp only [Act.put, List.setIfInBounds_toArray, List.set_cons_zero, List.set_cons_succ]))
              | (refine Plan.call (v := ?_) (f := ?_) (args := ?_) ?_ ?_ ?_ ?_; rotate_left 3; (· rfl); (· (intro W hSw; (try dsimp only at hSw); go_simp; all_goals (first | (with_reducible rfl) | (constructor <;> (with_reducible rfl))))); (· (intro W hSw; (try dsimp only at hSw); first | (go_at_call 31; ((with_reducible refine (letter_c (lt k) false false hlo hhi _).mono ?_); rintro _ wz ⟨rfl, hb⟩; (refine ⟨?_, ?_⟩; (· with_reducible rfl); exact ⟨kc hb hSw.1, kfz hb (klt hSw.1) hSw.2.1, kc hb hSw.2.2.1, kfz hb (klt hSw.2.2.1) hSw.2.2.2.1, kc hb hSw.2.2.2.2.1, kfz hb (klt hSw.2.2.2.2.1) hSw.2.2.2.2.2.1, kc hb hSw.2.2.2.2.2.2.1, kfz hb (klt hSw.2.2.2.2.2.2.1) hSw.2.2.2.2.2.2.2.1, kc hb hSw.2.2.2.2.2.2.2.2.1, kfz hb (klt hSw.2.2.2.2.2.2.2.2.1) hSw.2.2.2.2.2.2.2.2.2.1, kc hb hSw.2.2.2.2.2.2.2.2.2.2.1, kfz hb (klt hSw.2.2.2.2.2.2.2.2.2.2.1) hSw.2.2.2.2.2.2.2.2.2.2.2.1, kb hSw.2.2.2.2.2.2.2.2.2.2.2.2 hb⟩))))); (try simp only [Act.put, List.setIfInBounds_toArray, List.set_cons_zero, List.set_cons_succ])))
            refine Plan.done ?_
            intro w1 T
            (try dsimp only at T)
            clear hr_0 fr_0 hr_1 fr_1 hp_0 fp_0 hp_1 fp_1 hB hsz hlr hlp hnr0 hnr1 hkr1 hnr2 hkr2 hnp0 hkp1
            obtain ⟨hr_0, fr_0, hr_1, fr_1, hp_0, fp_0, hp_1, fp_1, hb_0, fb_0, hb_1, fb_1, hB⟩ := T
            have hsz := hB.size
            have hlr := klt hr_0
            have hlp := klt hp_0
            have hlb := klt hb_0
            have hnr0 : ¬ (wo.heap.size = w1.heap.size) := by omega
            have hnr1 : ¬ (wo.heap.size = w1.heap.size + 1) := by omega
            have hkr1 : wo.heap.size < w1.heap.size + 1 := by omega
            have hnr2 : ¬ (wo.heap.size = w1.heap.size + 1 + 1) := by omega
            have hkr2 : wo.heap.size < w1.heap.size + 1 + 1 := by omega
            have hnp0 : ¬ (wo.heap.size + 1 = w1.heap.size) := by omega
            have hkp1 : wo.heap.size < w1.heap.size := by omega
            have hnb0 : ¬ (w.heap.size = w1.heap.size) := by omega
            have hnb1 : ¬ (w.heap.size = w1.heap.size + 1) := by omega
            have hkb1 : w.heap.size < w1.heap.size + 1 := by omega
            have hnb2 : ¬ (w.heap.size = w1.heap.size + 1 + 1) := by omega
            have hkb2 : w.heap.size < w1.heap.size + 1 + 1 := by omega
            go_wp2_with fail
            ((with_reducible refine (set_i _ _ _ false false _).mono ?_); rintro _ w4 ⟨rfl, hb⟩)
            have T : w4.cell? ⟨wo.heap.size, 0, none⟩ = some (.int .u8 0) ∧ w4.frozen? ⟨wo.heap.size, 0, none⟩ = false ∧ w4.cell? ⟨wo.heap.size, 1, none⟩ = some (.int .u8 0) ∧ w4.frozen? ⟨wo.heap.size, 1, none⟩ = false ∧ w4.cell? ⟨wo.heap.size + 1, 0, none⟩ = some (B8 (accV s k)) ∧ w4.frozen? ⟨wo.heap.size + 1, 0, none⟩ = false ∧ w4.cell? ⟨wo.heap.size + 1, 1, none⟩ = some (B8 (accT s k)) ∧ w4.frozen? ⟨wo.heap.size + 1, 1, none⟩ = false := by
                refine ⟨?_, ?_, ?_, ?_, ?_, ?_, ?_, ?_⟩ <;> first | (refine kc hb ?_ <;> (go_simp; first | done | rfl)) | (refine kfz hb ?_ ?_ <;> first | (go_size; done) | (go_simp; done))
            have hz := hb.size
            (try simp only [World.size_alloc, World.size_setCell, World.size_drew] at hz)
            have hlr' : wo.heap.size < w4.heap.size := by omega
            have hlp' : wo.heap.size + 1 < w4.heap.size := by omega
            have hB' : Below w.heap.size w w4 := by
                refine kb ?_ hb
                go_grown
            clear hr_0 fr_0 hr_1 fr_1 hp_0 fp_0 hp_1 fp_1 hb_0 fb_0 hb_1 fb_1 hB hsz hlr hlp hlb hnr0 hnr1 hkr1 hnr2 hkr2 hnp0 hkp1 hnb0 hnb1 hkb1 hnb2 hkb2
            clear hb hz
            obtain ⟨hr_0, fr_0, hr_1, fr_1, hp_0, fp_0, hp_1, fp_1⟩ := T
            have hlr := hlr'; clear hlr'
            have hlp := hlp'; clear hlp'
            have hnr0 : ¬ (wo.heap.size = w4.heap.size) := by omega
            have hnr1 : ¬ (wo.heap.size = w4.heap.size + 1) := by omega
            have hkr1 : wo.heap.size < w4.heap.size + 1 := by omega
            have hnr2 : ¬ (wo.heap.size = w4.heap.size + 1 + 1) := by omega
            have hkr2 : wo.heap.size < w4.heap.size + 1 + 1 := by omega
            have hnp0 : ¬ (wo.heap.size + 1 = w4.heap.size) := by omega
            have hkp1 : wo.heap.size < w4.heap.size := by omega
            have hB := hB'; clear hB'
            have hsz := hB.size
            have R := hm'.put hlt hok hB (V := setI (accV s k) (7 - k) false) (T := setI (accT s k) (7 - k) false) (by show setI (accV s k) (7 - k) (bt s k == lt k) = _; rw [h2]) (by show setI (accT s k) (7 - k) (bt s k == 63) = _; rw [h1])
            go_wp2
            go_roundw
            case rel => exact ⟨k + 1, R⟩
            case measure =>
              rw [iterPos_of R.it, iterPos_of hit]
              omega
          · rw [hok] at hno; cases hno
        · have hok' : okAt s k = false := by simpa using hok
          have hno := rune_no hsk hlt hok'
          rw [hR] at hno
          obtain ⟨h1, h2, h3⟩ := hno
          clear hR hK
          have hn := not_reg_at k hlt hok'
          go_wp2_with fail
          refine wp_loop_rounds 4 ?_
          rw [rounds_succ]
          go_wp2_with fail
          refine wp_region_plan (fun w' => w'.cell? ⟨wo.heap.size, 0, none⟩ = some (.int .u8 0) ∧ w'.frozen? ⟨wo.heap.size, 0, none⟩ = false ∧ w'.cell? ⟨wo.heap.size, 1, none⟩ = some (.int .u8 0) ∧ w'.frozen? ⟨wo.heap.size, 1, none⟩ = false ∧ w'.cell? ⟨wo.heap.size + 1, 0, none⟩ = some (B8 (accV s k)) ∧ w'.frozen? ⟨wo.heap.size + 1, 0, none⟩ = false ∧ w'.cell? ⟨wo.heap.size + 1, 1, none⟩ = some (B8 (accT s k)) ∧ w'.frozen? ⟨wo.heap.size + 1, 1, none⟩ = false ∧ w'.cell? ⟨w.heap.size, 0, none⟩ = some (.bool false) ∧ w'.frozen? ⟨w.heap.size, 0, none⟩ = false ∧ w'.cell? ⟨w.heap.size, 1, none⟩ = some (.bool false) ∧ w'.frozen? ⟨w.heap.size, 1, none⟩ = false ∧ Below w.heap.size w w') (by kernel_rfl) (by kernel_rfl) (by kernel_rfl) ?_ ?_
          · (try dsimp only)
            refine ⟨?_, ?_, ?_, ?_, ?_, ?_, ?_, ?_, ?_, ?_, ?_, ?_, ?_⟩ <;> first | (go_simp; done) | (simp [*]; done) | go_grown
          repeat (first
            | (refine Plan.val (v := ?_) ?_ ?_ ?_; rotate_left; (· rfl); (· (intro W hSw; (try dsimp only at hSw); go_simp; all_goals (first | (with_reducible rfl) | (constructor <;> (with_reducible rfl))))); (try simp only [Act.put, List.setIfInBounds_toArray, List.set_cons_zero, List.set_cons_succ]))
            | (refine Plan.no ?_ ?_; (· rfl); (try simp only [Act.put, List.setIfInBounds_toArray, List.set_cons_zero, List.set_cons_succ]))
            | (refine Plan.call (v := ?_) (f := ?_) (args := ?_) ?_ ?_ ?_ ?_; rotate_left 3; (· rfl); (· (intro W hSw; (try dsimp only at hSw); go_simp; all_goals (first | (with_reducible rfl) | (constructor <;> (with_reducible rfl))))); (· (intro W hSw; (try dsimp only at hSw); first | (go_at_call 31; ((with_reducible refine (letter_c (lt k) false false hlo hhi _).mono ?_); rintro _ wz ⟨rfl, hb⟩; (refine ⟨?_, ?_⟩; (· with_reducible rfl); exact ⟨kc hb hSw.1, kfz hb (klt hSw.1) hSw.2.1, kc hb hSw.2.2.1, kfz hb (klt hSw.2.2.1) hSw.2.2.2.1, kc hb hSw.2.2.2.2.1, kfz hb (klt hSw.2.2.2.2.1) hSw.2.2.2.2.2.1, kc hb hSw.2.2.2.2.2.2.1, kfz hb (klt hSw.2.2.2.2.2.2.1) hSw.2.2.2.2.2.2.2.1, kc hb hSw.2.2.2.2.2.2.2.2.1, kfz hb (klt hSw.2.2.2.2.2.2.2.2.1) hSw.2.2.2.2.2.2.2.2.2.1, kc hb hSw.2.2.2.2.2.2.2.2.2.2.1, kfz hb (klt hSw.2.2.2.2.2.2.2.2.2.2.1) hSw.2.2.2.2.2.2.2.2.2.2.2.1, kb hSw.2.2.2.2.2.2.2.2.2.2.2.2 hb⟩))))); (try simp only [Act.put, List.setIfInBounds_toArray, List.set_cons_zero, List.set_cons_succ])))
          refine Plan.done ?_
          intro w1 T
          (try dsimp only at T)
          clear hr_0 fr_0 hr_1 fr_1 hp_0 fp_0 hp_1 fp_1 hB hsz hlr hlp hnr0 hnr1 hkr1 hnr2 hkr2 hnp0 hkp1
          obtain ⟨hr_0, fr_0, hr_1, fr_1, hp_0, fp_0, hp_1, fp_1, hb_0, fb_0, hb_1, fb_1, hB⟩ := T
          have hsz := hB.size
          have hlr := klt hr_0
          have hlp := klt hp_0
          have hlb := klt hb_0
          have hnr0 : ¬ (wo.heap.size = w1.heap.size) := by omega
          have hnr1 : ¬ (wo.heap.size = w1.heap.size + 1) := by omega
          have hkr1 : wo.heap.size < w1.heap.size + 1 := by omega
          have hnr2 : ¬ (wo.heap.size = w1.heap.size + 1 + 1) := by omega
          have hkr2 : wo.heap.size < w1.heap.size + 1 + 1 := by omega
          have hnp0 : ¬ (wo.heap.size + 1 = w1.heap.size) := by omega
          have hkp1 : wo.heap.size < w1.heap.size := by omega
          have hnb0 : ¬ (w.heap.size = w1.heap.size) := by omega
          have hnb1 : ¬ (w.heap.size = w1.heap.size + 1) := by omega
          have hkb1 : w.heap.size < w1.heap.size + 1 := by omega
          have hnb2 : ¬ (w.heap.size = w1.heap.size + 1 + 1) := by omega
          have hkb2 : w.heap.size < w1.heap.size + 1 + 1 := by omega
          go_wp2_with fail
          rw [rounds_succ]
          go_wp2_with fail
          refine wp_region_plan (fun w' => w'.cell? ⟨wo.heap.size, 0, none⟩ = some (.int .u8 0) ∧ w'.frozen? ⟨wo.heap.size, 0, none⟩ = false ∧ w'.cell? ⟨wo.heap.size, 1, none⟩ = some (.int .u8 0) ∧ w'.frozen? ⟨wo.heap.size, 1, none⟩ = false ∧ w'.cell? ⟨wo.heap.size + 1, 0, none⟩ = some (B8 (accV s k)) ∧ w'.frozen? ⟨wo.heap.size + 1, 0, none⟩ = false ∧ w'.cell? ⟨wo.heap.size + 1, 1, none⟩ = some (B8 (accT s k)) ∧ w'.frozen? ⟨wo.heap.size + 1, 1, none⟩ = false ∧ w'.cell? ⟨w1.heap.size, 0, none⟩ = some (.bool true) ∧ w'.frozen? ⟨w1.heap.size, 0, none⟩ = false ∧ w'.cell? ⟨w1.heap.size, 1, none⟩ = some (.bool false) ∧ w'.frozen? ⟨w1.heap.size, 1, none⟩ = false ∧ Below w.heap.size w w') (by kernel_rfl) (by kernel_rfl) (by kernel_rfl) ?_ ?_
          · (try dsimp only)
            refine ⟨?_, ?_, ?_, ?_, ?_, ?_, ?_, ?_, ?_, ?_, ?_, ?_, ?_⟩ <;> first | (go_simp; done) | (simp [*]; done) | go_grown
          repeat (first
            | (refine Plan.val (v := ?_) ?_ ?_ ?_; rotate_left; (· rfl); (· (intro W hSw; (try dsimp only at hSw); go_simp; all_goals (first | (with_reducible rfl) | (constructor <;> (with_reducible rfl))))); (try simp only [Act.put, List.setIfInBounds_toArray, List.set_cons_zero, List.set_cons_succ]))
            | (refine Plan.no ?_ ?_; (· rfl); (try simp only [Act.put, List.setIfInBounds_toArray, List.set_cons_zero, List.set_cons_succ]))
            | (refine Plan.call (v := ?_) (f := ?_) (args := ?_) ?_ ?_ ?_ ?_; rotate_left 3; (· rfl); (· (intro W hSw; (try dsimp only at hSw); go_simp; all_goals (first | (with_reducible rfl) | (constructor <;> (with_reducible rfl))))); (· (intro W hSw; (try dsimp only at hSw); first | (go_at_call 31; ((with_reducible refine (letter_c (lt k) true false hlo hhi _).mono ?_); rintro _ wz ⟨rfl, hb⟩; (refine ⟨?_, ?_⟩; (· with_reducible rfl); exact ⟨kc hb hSw.1, kfz hb (klt hSw.1) hSw.2.1, kc hb hSw.2.2.1, kfz hb (klt hSw.2.2.1) hSw.2.2.2.1, kc hb hSw.2.2.2.2.1, kfz hb (klt hSw.2.2.2.2.1) hSw.2.2.2.2.2.1, kc hb hSw.2.2.2.2.2.2.1, kfz hb (klt hSw.2.2.2.2.2.2.1) hSw.2.2.2.2.2.2.2.1, kc hb hSw.2.2.2.2.2.2.2.2.1, kfz hb (klt hSw.2.2.2.2.2.2.2.2.1) hSw.2.2.2.2.2.2.2.2.2.1, kc hb hSw.2.2.2.2.2.2.2.2.2.2.1, kfz hb (klt hSw.2.2.2.2.2.2.2.2.2.2.1) hSw.2.2.2.2.2.2.2.2.2.2.2.1, kb hSw.2.2.2.2.2.2.2.2.2.2.2.2 hb⟩))))); (try simp only [Act.put, List.setIfInBounds_toArray, List.set_cons_zero, List.set_cons_succ])))
          refine Plan.done ?_
          intro w2 T
          (try dsimp only at T)
          clear hr_0 fr_0 hr_1 fr_1 hp_0 fp_0 hp_1 fp_1 hb_0 fb_0 hb_1 fb_1 hB hsz hlr hlp hlb hnr0 hnr1 hkr1 hnr2 hkr2 hnp0 hkp1 hnb0 hnb1 hkb1 hnb2 hkb2
          obtain ⟨hr_0, fr_0, hr_1, fr_1, hp_0, fp_0, hp_1, fp_1, hb1_0, fb1_0, hb1_1, fb1_1, hB⟩ := T
          have hsz := hB.size
          have hlr := klt hr_0
          have hlp := klt hp_0
          have hlb1 := klt hb1_0
          have hnr0 : ¬ (wo.heap.size = w2.heap.size) := by omega
          have hnr1 : ¬ (wo.heap.size = w2.heap.size + 1) := by omega
          have hkr1 : wo.heap.size < w2.heap.size + 1 := by omega
          have hnr2 : ¬ (wo.heap.size = w2.heap.size + 1 + 1) := by omega
          have hkr2 : wo.heap.size < w2.heap.size + 1 + 1 := by omega
          have hnp0 : ¬ (wo.heap.size + 1 = w2.heap.size) := by omega
          have hkp1 : wo.heap.size < w2.heap.size := by omega
          have hnb10 : ¬ (w1.heap.size = w2.heap.size) := by omega
          have hnb11 : ¬ (w1.heap.size = w2.heap.size + 1) := by omega
          have hkb11 : w1.heap.size < w2.heap.size + 1 := by omega
          have hnb12 : ¬ (w1.heap.size = w2.heap.size + 1 + 1) := by omega
          have hkb12 : w1.heap.size < w2.heap.size + 1 + 1 := by omega
          go_wp2_with fail
          rw [rounds_succ]
          go_wp2_with fail
          refine wp_region_plan (fun w' => w'.cell? ⟨wo.heap.size, 0, none⟩ = some (.int .u8 0) ∧ w'.frozen? ⟨wo.heap.size, 0, none⟩ = false ∧ w'.cell? ⟨wo.heap.size, 1, none⟩ = some (.int .u8 0) ∧ w'.frozen? ⟨wo.heap.size, 1, none⟩ = false ∧ w'.cell? ⟨wo.heap.size + 1, 0, none⟩ = some (B8 (accV s k)) ∧ w'.frozen? ⟨wo.heap.size + 1, 0, none⟩ = false ∧ w'.cell? ⟨wo.heap.size + 1, 1, none⟩ = some (B8 (accT s k)) ∧ w'.frozen? ⟨wo.heap.size + 1, 1, none⟩ = false ∧ w'.cell? ⟨w2.heap.size, 0, none⟩ = some (.bool false) ∧ w'.frozen? ⟨w2.heap.size, 0, none⟩ = false ∧ w'.cell? ⟨w2.heap.size, 1, none⟩ = some (.bool true) ∧ w'.frozen? ⟨w2.heap.size, 1, none⟩ = false ∧ Below w.heap.size w w') (by kernel_rfl) (by kernel_rfl) (by kernel_rfl) ?_ ?_
          · (try dsimp only)
            refine ⟨?_, ?_, ?_, ?_, ?_, ?_, ?_, ?_, ?_, ?_, ?_, ?_, ?_⟩ <;> first | (go_simp; done) | (simp [*]; done) | go_grown
          repeat (first
            | (refine Plan.val (v := ?_) ?_ ?_ ?_; rotate_left; (· rfl); (· (intro W hSw; (try dsimp only at hSw); go_simp; all_goals (first | (with_reducible rfl) | (constructor <;> (with_reducible rfl))))); (try simp only [Act.put, List.setIfInBounds_toArray, List.set_cons_zero, List.set_cons_succ]))
            | (refine Plan.no ?_ ?_; (· rfl); (try simp only [Act.put, List.setIfInBounds_toArray, List.set_cons_zero, List.set_cons_succ]))
            | (refine Plan.call (v := ?_) (f := ?_) (args := ?_) ?_ ?_ ?_ ?_; rotate_left 3; (· rfl); (· (intro W hSw; (try dsimp only at hSw); go_simp; all_goals (first | (with_reducible rfl) | (constructor <;> (with_reducible rfl))))); (· (intro W hSw; (try dsimp only at hSw); first | (go_at_call 31; ((with_reducible refine (letter_c (lt k) false true hlo hhi _).mono ?_); rintro _ wz ⟨rfl, hb⟩; (refine ⟨?_, ?_⟩; (· with_reducible rfl); exact ⟨kc hb hSw.1, kfz hb (klt hSw.1) hSw.2.1, kc hb hSw.2.2.1, kfz hb (klt hSw.2.2.1) hSw.2.2.2.1, kc hb hSw.2.2.2.2.1, kfz hb (klt hSw.2.2.2.2.1) hSw.2.2.2.2.2.1, kc hb hSw.2.2.2.2.2.2.1, kfz hb (klt hSw.2.2.2.2.2.2.1) hSw.2.2.2.2.2.2.2.1, kc hb hSw.2.2.2.2.2.2.2.2.1, kfz hb (klt hSw.2.2.2.2.2.2.2.2.1) hSw.2.2.2.2.2.2.2.2.2.1, kc hb hSw.2.2.2.2.2.2.2.2.2.2.1, kfz hb (klt hSw.2.2.2.2.2.2.2.2.2.2.1) hSw.2.2.2.2.2.2.2.2.2.2.2.1, kb hSw.2.2.2.2.2.2.2.2.2.2.2.2 hb⟩))))); (try simp only [Act.put, List.setIfInBounds_toArray, List.set_cons_zero, List.set_cons_succ])))
          refine Plan.done ?_
          intro w3 T
          (try dsimp only at T)
          clear hr_0 fr_0 hr_1 fr_1 hp_0 fp_0 hp_1 fp_1 hb1_0 fb1_0 hb1_1 fb1_1 hB hsz hlr hlp hlb1 hnr0 hnr1 hkr1 hnr2 hkr2 hnp0 hkp1 hnb10 hnb11 hkb11 hnb12 hkb12
          obtain ⟨hr_0, fr_0, hr_1, fr_1, hp_0, fp_0, hp_1, fp_1, hb2_0, fb2_0, hb2_1, fb2_1, hB⟩ := T
          have hsz := hB.size
          have hlr := klt hr_0
          have hlp := klt hp_0
          have hlb2 := klt hb2_0
          have hnr0 : ¬ (wo.heap.size = w3.heap.size) := by omega
          have hnr1 : ¬ (wo.heap.size = w3.heap.size + 1) := by omega
          have hkr1 : wo.heap.size < w3.heap.size + 1 := by omega
          have hnr2 : ¬ (wo.heap.size = w3.heap.size + 1 + 1) := by omega
          have hkr2 : wo.heap.size < w3.heap.size + 1 + 1 := by omega
          have hnp0 : ¬ (wo.heap.size + 1 = w3.heap.size) := by omega
          have hkp1 : wo.heap.size < w3.heap.size := by omega
          have hnb20 : ¬ (w2.heap.size = w3.heap.size) := by omega
          have hnb21 : ¬ (w2.heap.size = w3.heap.size + 1) := by omega
          have hkb21 : w2.heap.size < w3.heap.size + 1 := by omega
          have hnb22 : ¬ (w2.heap.size = w3.heap.size + 1 + 1) := by omega
          have hkb22 : w2.heap.size < w3.heap.size + 1 + 1 := by omega
          go_wp2_with fail
          rw [rounds_succ]
          go_wp2
          rw [Into.ret]
          refine bodyPost_ret (v := .tuple #[TB 0#8 0#8, .int .i64 11]) (by simp [results, Tryd.results18, go_sem, hr_0, hr_1] <;> first | done | rfl) rfl ⟨by rw [pV_no hn, pT_no hn, pE_no hn], ((hm'.hB.trans (hB.mono k5)).setCell (by dsimp only; omega) _).setCell (by dsimp only; omega) _⟩
      · have hk8 : k = 8 := by have := hm.hk; omega
        subst hk8
        have hnx : ∀ ty, (Instr.next (.pointer (some ⟨wo.heap.size + 1 + 1, 0, none⟩)) true ty).run Tryd.prog wr = .ok (.tuple #[.bool false]) wr := fun ty => by
          rw [Lib.run_next_end_at wr _ s 8 ty hm.it (by omega)]
        have hreg := is_reg hs hm.good
        obtain ⟨-, -, -, hr_0, fr_0, hr_1, fr_1, hp_0, fp_0, hp_1, fp_1, hsz, hB⟩ := hm
        go_wp2
        rw [Into.ret]
        refine bodyPost_ret (v := .tuple #[TB (accV s 8) (accT s 8), .int .i64 0]) (by simp [results, Tryd.results18, go_sem, hr_0, hr_1] <;> first | done | rfl) rfl ⟨by rw [pV_yes hreg, pT_yes hreg, pE_yes hreg], (hB.setCell (by dsimp only; omega) _).setCell (by dsimp only; omega) _⟩
  · have hn := not_reg_size hs
    go_enter Tryd.func18, Tryd.ntmps18
    go_wp2_with fail
    refine wp_scope_hid 0 fun C hC => ?_
    go_wp2
    rw [Into.ret]
    refine bodyPost_ret (v := .tuple #[TB 0#8 0#8, .int .i64 11]) (by simp [results, Tryd.results18, go_sem] <;> first | done | rfl) rfl ⟨by rw [pV_no hn, pT_no hn, pE_no hn], by go_grown⟩
end Go.Proofs.YtdpoonmgailonaaDoor
