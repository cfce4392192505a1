/-
  The document's timer: After.
-/
import Derived.Test.YtcpegglfgfgekaaDocw10
import Derived.Test.YtcpegglfgfgekaaRow10
set_option linter.unusedSimpArgs false
set_option linter.unusedVariables false
namespace Go.Proofs.Ytcpegglfgfgekaa
open Go.RowKit Go.PlainAid

/-- A timer stored whole. -/
theorem Tw.store6 {tb : Nat} {x : Tm} {u : World} (h : Tw tb 0 x u) (y : Tm) : Tw tb 0 y ((((((u.setCell ⟨tb, 0, none⟩ (.int .i64 y.l)).setCell ⟨tb, 1, none⟩ (.int .i64 y.c)).setCell ⟨tb, 2, none⟩ (.bool y.r)).setCell ⟨tb, 3, none⟩ (.bool y.a)).setCell ⟨tb, 4, none⟩ (.bool y.s)).setCell ⟨tb, 5, none⟩ (.bool y.g)) := by
  obtain ⟨l, c, r, a, s, g⟩ := x
  have := ((((((h.start.setL y.l).setC y.c).setR y.r).setA y.a).setS y.s).setG y.g).t
  simpa only [Nat.zero_add] using this
theorem Tw.setCell {tb b i : Nat} {x : Tm} {u : World} {v : Value} (h : Tw tb 0 x u) (hn : tb ≠ b) : Tw tb 0 x (u.setCell ⟨b, i, none⟩ v) :=
  ⟨fun j z hz => by rw [World.cell?_setCell_other _ _ _ _ (by intro hh; have := congrArg Addr.block hh; dsimp only at this; omega)]; exact h.c j z hz, fun j hj => by rw [World.frozen?_setCell]; exact h.f j hj⟩
/-- Which timer the document's loop begins with, and how often it goes round. -/
theorem after_ways (x : Tm) (n : Int) (hm : x.May) (h0 : 0 ≤ n) : ∃ (y : Tm) (N : Int), y.May ∧ 0 ≤ N ∧ N ≤ n ∧ afterT x n = ticks N.toNat y ∧
    ((x.r = false ∧ y = x ∧ N = n) ∨ (x.r = true ∧ x.a = false ∧ y = x ∧ N = n) ∨ (x.r = true ∧ x.a = true ∧ n ≤ x.c + 1 ∧ y = x ∧ N = n) ∨
     (x.r = true ∧ x.a = true ∧ x.c + 1 < n ∧ y = ⟨x.l, x.l, true, true, x.s, true⟩ ∧ N = (n - x.c - 1) % (x.l + 1))) := by
  obtain ⟨m1, m2⟩ := hm
  cases hr : x.r
  · exact ⟨x, n, ⟨m1, m2⟩, h0, Int.le_refl _, rfl, .inl ⟨rfl, rfl, rfl⟩⟩
  · cases ha : x.a
    · exact ⟨x, n, ⟨m1, m2⟩, h0, Int.le_refl _, rfl, .inr (.inl ⟨rfl, rfl, rfl, rfl⟩)⟩
    · by_cases hn : n ≤ x.c + 1
      · exact ⟨x, n, ⟨m1, m2⟩, h0, Int.le_refl _, rfl, .inr (.inr (.inl ⟨rfl, rfl, hn, rfl, rfl⟩))⟩
      · have e : ringT x = ⟨x.l, x.l, true, true, x.s, true⟩ := by unfold ringT; rw [if_pos ha, hr, ha]
        have hM0 : 0 ≤ (n - x.c - 1) % (x.l + 1) := Int.emod_nonneg _ (by omega)
        have hM1 : (n - x.c - 1) % (x.l + 1) ≤ n - x.c - 1 := by
          have := Int.mul_ediv_add_emod (n - x.c - 1) (x.l + 1)
          have h2 : 0 ≤ (n - x.c - 1) / (x.l + 1) := Int.ediv_nonneg (by omega) (by omega)
          have h3 : 0 ≤ (x.l + 1) * ((n - x.c - 1) / (x.l + 1)) := Int.mul_nonneg (by omega) h2
          omega
        refine ⟨⟨x.l, x.l, true, true, x.s, true⟩, (n - x.c - 1) % (x.l + 1), ⟨m1, m1⟩, hM0, by omega, ?_, .inr (.inr (.inr ⟨rfl, rfl, by omega, rfl, rfl⟩))⟩
        rw [afterT_past x n hr ⟨m1, m2⟩ (by omega), e, show n - (x.c + 1) = n - x.c - 1 by omega]
        rfl
set_option maxRecDepth 100000 in
set_option maxHeartbeats 4000000 in
theorem afterd_c (x : Tm) (n : Int) (hm : x.May) (h0 : 0 ≤ n) (hn : n ≤ 1099511627776) (w : World) : Calls Try.prog 21 #[.agg #[.int .i64 x.l, .int .i64 x.c, .bool x.r, .bool x.a, .bool x.s, .bool x.g], .int .i64 n] w
    fun e w' => e = .returned (.agg #[.int .i64 (afterT x n).l, .int .i64 (afterT x n).c, .bool (afterT x n).r, .bool (afterT x n).a, .bool (afterT x n).s, .bool (afterT x n).g]) ∧ Below w.heap.size w w' := by
  obtain ⟨y, N, hy, hN0, hNn, hA, hW⟩ := after_ways x n hm h0
  rw [hA]
  have HTK := Lib.hid (fun k W => tickd_c (ticks k y) (ticks_may k y hy) W)
  have HST := Lib.hid (fun k (h : (ticks k y).r = false) (hk : k ≤ N.toNat) => show ticks N.toNat y = ticks k y by rw [show N.toNat = k + (N.toNat - k) by omega, ticks_add, ticks_still _ _ h])
  have HLS := Lib.hid (fun k => ticks_last k y)
  obtain ⟨l, c, r, a, s, g⟩ := x
  obtain ⟨m1, m2⟩ := hm
  dsimp only at m1 m2 hW ⊢
  clear hA hy
  obtain ⟨K, rfl⟩ : ∃ K : Nat, N = (K : Int) := ⟨N.toNat, by omega⟩
  rw [Int.toNat_natCast] at HST ⊢
  have HKn := Lib.hid (And.intro hN0 hNn)
  have hK0 : (K : Int) ≤ 1099511627776 := by omega
  clear hN0 hNn
  rcases hW with ⟨rfl, hy, hN⟩ | ⟨rfl, rfl, hy, hN⟩ | ⟨rfl, rfl, hc, hy, hN⟩ | ⟨rfl, rfl, hc, hy, hN⟩
  all_goals
    have HY := Lib.hid hy
    first
    | (subst hN; clear hy; (try have hnc : ¬ (c + 1 < (K : Int)) := by omega))
    | (have hN' := hN.symm; have hN1 : 0 ≤ (n - c - 1) % (l + 1) := by omega
       have hn1 : ¬ (n ≤ c + 1) := by omega
       clear hy hN)
    go_enter Try.func21, Try.ntmps21
    go_wp2_with fail
    go_loopg [6] K (fun kx s6 wr => ∃ k : Nat, s6 = .int .i64 k ∧ k ≤ K ∧ K - k ≤ kx ∧ Hid (Tw w.heap.size 0 (ticks k y) wr) ∧ Hid (Tw (w.heap.size + 1) 0 ⟨0, 0, false, false, false, false⟩ wr) ∧ Hid (Below w.heap.size w wr))
    case atStart =>
      refine ⟨0, by simp, Nat.zero_le _, by omega, Lib.hid ?_, Lib.hid ?_, Lib.hid (by go_grown)⟩
      · rw [ticks_zero, HY.out]
        refine Tw.mk0 ?_ ?_ ?_ ?_ ?_ ?_ ?_ ?_ ?_ ?_ ?_ ?_ <;> go_simp
      · refine Tw.mk0 ?_ ?_ ?_ ?_ ?_ ?_ ?_ ?_ ?_ ?_ ?_ ?_ <;> go_simp
    case round =>
      obtain ⟨k, rfl, hk, hkx, HT, HZ, HB⟩ := hrel
      have hlt1 := HT.out.lt
      have hlt2 := HZ.out.lt
      have HTKk := Lib.hid (fun W => HTK.out k W)
      have HSTk := Lib.hid (HST.out k)
      have HLSk := Lib.hid (HLS.out k)
      rw [← HLSk.out] at HTKk
      obtain ⟨Y', hY'⟩ : ∃ Y, ticks (k + 1) y = Y := ⟨_, rfl⟩
      rw [hY'] at HTKk
      have HY' := Lib.hid hY'
      obtain ⟨Y, hYY⟩ : ∃ Y, ticks k y = Y := ⟨_, rfl⟩
      rw [hYY] at HT HTKk HSTk
      have HYY := Lib.hid hYY
      clear hY' hYY
      obtain ⟨yl, yc, yr, ya, ys, yg⟩ := Y
      obtain ⟨t0, t1, t2, t3, t4, t5⟩ := HT.out.at0
      obtain ⟨f0, f1, f2, f3, f4, f5⟩ := HT.out.free0
      obtain ⟨z0, z1, z2, z3, z4, z5⟩ := HZ.out.at0
      obtain ⟨e0, e1, e2, e3, e4, e5⟩ := HZ.out.free0
      dsimp only at t0 t1 t2 t3 t4 t5 z0 z1 z2 z3 z4 z5 HTKk HSTk
      by_cases hlt : k < K
      · cases yr
        · have HE := Lib.hid (HSTk.out rfl hk)
          go_wp2
          have hB := HB.out
          rw [HE.out]
          dsimp only
          refine bodyPost_ret (v := .agg #[.int .i64 yl, .int .i64 yc, .bool false, .bool ya, .bool ys, .bool yg]) (by simp [results, Try.results21, go_sem, z0, z1, z2, z3, z4, z5] <;> first | done | rfl) rfl ⟨rfl, by go_grown⟩
        · go_wp2_with fail
          refine (HTKk.out _).mono ?_
          rintro _ u ⟨rfl, hb⟩
          have HT2 := Lib.hid (((HT.out.below hb).store6 Y'))
          have HZ2 := Lib.hid (HZ.out.below hb)
          have HB2 := Lib.hid (kb HB.out hb)
          have t0 := kc hb t0
          have t1 := kc hb t1
          have t2 := kc hb t2
          have t3 := kc hb t3
          have t4 := kc hb t4
          have t5 := kc hb t5
          have f0 := kfz hb hlt1 f0
          have f1 := kfz hb hlt1 f1
          have f2 := kfz hb hlt1 f2
          have f3 := kfz hb hlt1 f3
          have f4 := kfz hb hlt1 f4
          have f5 := kfz hb hlt1 f5
          clear hb z0 z1 z2 z3 z4 z5 e0 e1 e2 e3 e4 e5
          go_wp2
          go_roundg (K - (k + 1))
          case measure => omega
          case rel =>
            refine ⟨k + 1, by go_num, by omega, by omega, Lib.hid ?_, Lib.hid ?_, Lib.hid ?_⟩
            · rw [HY'.out]; exact HT2.out
            · refine ((((((HZ2.out.setCell ?_).setCell ?_).setCell ?_).setCell ?_).setCell ?_).setCell ?_) <;> omega
            · have hB := HB2.out
              go_grown
      · have hkK : k = K := by omega
        have hE := HYY.out
        rw [hkK] at hE
        have HE := Lib.hid hE
        clear hE
        go_wp2
        have hB := HB.out
        rw [HE.out]
        dsimp only
        refine bodyPost_ret (v := .agg #[.int .i64 yl, .int .i64 yc, .bool yr, .bool ya, .bool ys, .bool yg]) (by simp [results, Try.results21, go_sem, z0, z1, z2, z3, z4, z5] <;> first | done | rfl) rfl ⟨rfl, by go_grown⟩
end Go.Proofs.Ytcpegglfgfgekaa
