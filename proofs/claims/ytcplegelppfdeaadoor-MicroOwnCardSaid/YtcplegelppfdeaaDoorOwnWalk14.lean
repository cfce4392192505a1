/-
  Layer 14's laws: MicroOwn: its walk.
-/
import Derived.Test.YtcplegelppfdeaaDoorOwn14
set_option linter.unusedSimpArgs false
set_option linter.unusedVariables false
namespace Go.Proofs.YtcplegelppfdeaaDoor
open Go.RowKit Go.PlainAid

/-- What a call answers: numbers in a row of their own. -/
def AnsI (l : List Int) (E : Int) (w : World) : Ending → World → Prop := fun e u => ∃ v, e = .returned (.tuple #[v, .int .i64 E]) ∧ MineI w.heap.size v l u ∧ Below w.heap.size w u
set_option maxRecDepth 100000 in
set_option maxHeartbeats 16000000 in
theorem own_walk14 {LW : World → Prop} (K : MicroK LW) (b c : Int) (hb0 : 0 ≤ b ∧ b ≤ 255) (hc0 : 0 ≤ c ∧ c ≤ 255) (w : World) (hL : LW w) : Calls Tryd.prog 6 #[.int .u8 b, .int .u8 c] w fun e u => e = .returned (.bool true) ∧ Below w.heap.size w u := by
  have HA := Lib.hid (fun u (hu : Below w.heap.size w u) => awake14_c K u (K.stay hL hu))
  have HP1 := Lib.hid (fun u (hu : Below w.heap.size w u) => show Calls Tryd.prog 8 #[.int .u8 b] u (AnsI (pgL b.toNat) (pgE b.toNat) u) from by
    have := K.any b.toNat (by omega) u (K.stay hL hu)
    rw [Int.toNat_of_nonneg hb0.1] at this
    exact this)
  have HP2 := Lib.hid (fun u (hu : Below w.heap.size w u) => show Calls Tryd.prog 8 #[.int .u8 c] u (AnsI (pgL c.toNat) (pgE c.toNat) u) from by
    have := K.any c.toNat (by omega) u (K.stay hL hu)
    rw [Int.toNat_of_nonneg hc0.1] at this
    exact this)
  have HSq := Lib.hid (fun u (hu : Below w.heap.size w u) => show Calls Tryd.prog 13 #[.int .i64 1] u (AnsI [0, 0, 14, 15, 16, 29, 30] 0 u) from K.seq 1 (by omega) u (K.stay hL hu))
  have hq1 : (pgL b.toNat).length ≤ 6 := pgL_len _ (by omega)
  have hq2 : (pgL c.toNat).length ≤ 6 := pgL_len _ (by omega)
  generalize pgL b.toNat = L at *
  generalize pgL c.toNat = M at *
  generalize pgE b.toNat = E at *
  generalize pgE c.toNat = F at *
  have HI1 := Lib.hid (fun v1 v2 W h1 h2 => ints14_c L L (by omega) (by omega) v1 v2 W h1 h2)
  have HI2 := Lib.hid (fun v1 v2 W h1 h2 => ints14_c M M (by omega) (by omega) v1 v2 W h1 h2)
  rw [beq_self_eq_true] at HI1 HI2
  obtain ⟨i0, hi, hz0, hz1, hz2⟩ := info_parts Tryd.infoN14
  clear hL
  obtain ⟨q, hq⟩ : ∃ q, L.length = q := ⟨_, rfl⟩
  obtain ⟨r, hr⟩ : ∃ r, M.length = r := ⟨_, rfl⟩
  rw [hq] at hq1
  rw [hr] at hq2
  have HQ := Lib.hid (And.intro hq hr)
  clear hq hr
  go_enter Tryd.func6, Tryd.ntmps6
  go_wp2_with fail
  refine (HP1.out w (Below.refl _ _)).mono ?_
  rintro _ u1 ⟨v1, rfl, h1, hB⟩
  have HB1 := Lib.hid hB
  have H1 := Lib.hid (HQ.out.1 ▸ h1.o)
  obtain ⟨p1, c1, rfl⟩ := own_form (HQ.out.1 ▸ h1.o)
  clear hB h1
  go_wp2_with fail
  refine (HP2.out u1 HB1.out).mono ?_
  rintro _ u2 ⟨v2, rfl, h2, hB⟩
  have HB2 := Lib.hid (kb HB1.out hB)
  have H12 := Lib.hid (And.intro (own_below H1.out hB) (And.intro (HQ.out.2 ▸ h2.o) (show ∀ g, (Value.slice p1 q c1).ownBlock = some g → g < u1.heap.size from fun g hg => (H1.out.lt g hg).2)))
  obtain ⟨p2, c2, rfl⟩ := own_form (HQ.out.2 ▸ h2.o)
  clear hB h2 H1
  go_wp2_with fail
  refine (HSq.out u2 HB2.out).mono ?_
  rintro _ u3 ⟨v3, rfl, h3, hB⟩
  have HB3 := Lib.hid (kb HB2.out hB)
  have hz12 := hB.size
  have hz01 := HB1.out.size
  have hz02 := HB2.out.size
  obtain ⟨p3, c3, rfl⟩ := own_form h3.o
  rw [show ([0, 0, 14, 15, 16, 29, 30] : List Int).length = 7 from rfl]
  have H123 := Lib.hid (show (u3.ownsRow w.heap.size 3 1 (.slice p1 q c1) q (L.flatMap nE) ∧ u3.ownsRow w.heap.size 3 1 (.slice p2 r c2) r (M.flatMap nE) ∧ u3.ownsRow w.heap.size 3 1 (.slice p3 7 c3) 7 (([0, 0, 14, 15, 16, 29, 30] : List Int).flatMap nE)) ∧
      ∀ g, (Value.slice p1 q c1).ownBlock = some g → (Value.slice p2 r c2).ownBlock ≠ some g ∧ (Value.slice p3 7 c3).ownBlock ≠ some g from
    ⟨⟨own_below H12.out.1 hB, own_low (own_below H12.out.2.1 hB) hz01, own_low h3.o hz02⟩, fun g hg => by
      have k1 := H12.out.2.2 g hg
      have k0 := HB2.out
      refine ⟨fun e => ?_, fun e => ?_⟩
      · have := (H12.out.2.1.lt g e).1; omega
      · have k2 := (h3.o.lt g e).1
        have k3 := (H12.out.1.lt g hg).2
        omega⟩)
  have H23 := Lib.hid (show ∀ g, (Value.slice p2 r c2).ownBlock = some g → (Value.slice p3 7 c3).ownBlock ≠ some g from fun g hg e => by
    have k2 := (h3.o.lt g e).1
    have k3 := (H12.out.2.1.lt g hg).2
    omega)
  clear hB h3 H12 hz12 hz01 hz02 HB2 HB1
  have hM := HoldsW.own (l := M) nE_len (show u3.ownsRow w.heap.size 3 1 (.slice p2 r c2) M.length (M.flatMap nE) from by rw [HQ.out.2]; exact H123.out.1.2.1)
  go_wp2_with (at_builtin; refine wpList_append_n _ rfl _ _ 22 rfl 3 i0 _ 8 Tryd.underlying22 hi hz0 hz1 hz2 rfl rfl M _ rfl hM ?c1 ?c2 ?_)
  case c1 => rw [HQ.out.2]; unfold maxLen; omega
  case c2 => rw [HQ.out.2]; omega
  intro va u4 hva hB
  have HB4 := Lib.hid (kb HB3.out hB)
  have HVa := Lib.hid (HQ.out.2 ▸ hva)
  obtain ⟨pa, ca, rfl⟩ := own_form (HQ.out.2 ▸ hva)
  have H4 := Lib.hid (And.intro (own_below H123.out.1.1 hB) (And.intro (own_below H123.out.1.2.1 hB) (own_below H123.out.1.2.2 hB)))
  have HL1 := Lib.hid (show ∀ g, (Value.slice p1 q c1).ownBlock = some g ∨ (Value.slice p3 7 c3).ownBlock = some g → g < u3.heap.size from fun g hg => hg.elim (fun e => (H123.out.1.1.lt g e).2) (fun e => (H123.out.1.2.2.lt g e).2))
  have hz3 := HB3.out.size
  have hz4 := hB.size
  clear hB hva
  clear hM
  have hM := HoldsW.own (l := L) nE_len (show u4.ownsRow w.heap.size 3 1 (.slice p1 q c1) L.length (L.flatMap nE) from by rw [HQ.out.1]; exact H4.out.1)
  go_wp2_with (at_builtin; refine wpList_append_n _ rfl _ _ 22 rfl 3 i0 _ 8 Tryd.underlying22 hi hz0 hz1 hz2 rfl rfl L _ rfl hM ?c1 ?c2 ?_)
  case c1 => rw [HQ.out.1]; unfold maxLen; omega
  case c2 => rw [HQ.out.1]; omega
  intro vb u5 hvb hB
  have HB5 := Lib.hid (kb HB4.out hB)
  obtain ⟨pb, cb, rfl⟩ := own_form (HQ.out.1 ▸ hvb)
  have hzb := hB.size
  have H5 := Lib.hid (show u5.ownsRow w.heap.size 3 1 (.slice p1 q c1) q (L.flatMap nE) ∧ u5.ownsRow w.heap.size 3 1 (.slice p2 r c2) r (M.flatMap nE) ∧ u5.ownsRow w.heap.size 3 1 (.slice p3 7 c3) 7 (([0, 0, 14, 15, 16, 29, 30] : List Int).flatMap nE) ∧
      u5.ownsRow u3.heap.size 3 1 (.slice pa r ca) r (M.flatMap nE) ∧ u5.ownsRow u3.heap.size 3 1 (.slice pb q cb) q (L.flatMap nE) from
    ⟨own_below H4.out.1 hB, own_below H4.out.2.1 hB, own_below H4.out.2.2 hB, own_below HVa.out hB, own_low (HQ.out.1 ▸ hvb) hz4⟩)
  have HNa := Lib.hid (show ∀ g, (Value.slice p1 q c1).ownBlock = some g ∨ (Value.slice p3 7 c3).ownBlock = some g → (Value.slice pa r ca).ownBlock ≠ some g ∧ (Value.slice pb q cb).ownBlock ≠ some g from fun g hg => ⟨fun e => by
    have k1 := HL1.out g hg
    have k2 := (HVa.out.lt g e).1
    omega, fun e => by
    have k1 := HL1.out g hg
    have k2 := ((HQ.out.1 ▸ hvb : u5.ownsRow u4.heap.size 3 1 (.slice pb q cb) q (L.flatMap nE)).lt g e).1
    omega⟩)
  have HS13 := Lib.hid H123.out.2
  clear hB hvb hz4 H4 HVa HL1 HB4 HB3 H123 hzb hM
  go_wp2_with fail
  go_loopg [13] q (fun kx s wr => ∃ j : Nat, s = .int .i64 j ∧ j ≤ q ∧ q - j ≤ kx ∧ Hid (Fr (fun k => (Value.slice p1 q c1).ownBlock = some k) u5 wr ∧ ∃ ys : List Int, wr.ownsRow w.heap.size 3 1 (.slice p1 q c1) q (ys.flatMap nE)))
  case atStart => exact ⟨0, by simp, Nat.zero_le _, by omega, Lib.hid ⟨Fr.refl _ _, L, H5.out.1⟩⟩
  case round =>
    obtain ⟨j, rfl, hj, hjx, HR⟩ := hrel
    by_cases hjl : j < q
    · obtain ⟨hT, ys, hown⟩ := HR.out
      obtain ⟨g, rfl⟩ := rown_some hown (by omega)
      have y0 := rown_get hown hjl
      have f0 := hown.frozenAt j
      obtain ⟨y, y0⟩ := y0
      have hgl := klt y0
      have HS := Lib.hid (fun z => And.intro (hT.setCell ⟨g, j, none⟩ (.int .i64 z) (fun _ => rfl)) (rown_set (j := j) hown z))
      have hinj : (0 : Int) ≤ (j : Int) ∧ (j : Int) < (q : Int) := by omega
      clear hT hown HR
      go_wp2_with fail
      go_roundg (q - (j + 1))
      case measure => omega
      case rel => exact ⟨j + 1, by go_num, by omega, by omega, Lib.hid ⟨(HS.out _).1, _, (HS.out _).2⟩⟩
    · obtain rfl : j = q := by omega
      have hge : decide ((j : Int) < (j : Int)) = false := by simp
      obtain ⟨hT, ys, hown⟩ := HR.out
      have hlt : ∀ g, (Value.slice p1 j c1).ownBlock = some g → w.heap.size ≤ g := fun g hg => (hown.lt g hg).1
      have HO := Lib.hid hown
      have HLT := Lib.hid hlt
      have hbl : Below w.heap.size w wr := Fr.toBelow HB5.out hT (fun g hg => hlt g hg) (Nat.le_refl _)
      have HBr := Lib.hid hbl
      have H6 := Lib.hid (show wr.ownsRow w.heap.size 3 1 (.slice p2 r c2) r (M.flatMap nE) ∧ wr.ownsRow w.heap.size 3 1 (.slice p3 7 c3) 7 (([0, 0, 14, 15, 16, 29, 30] : List Int).flatMap nE) ∧
          wr.ownsRow u3.heap.size 3 1 (.slice pa r ca) r (M.flatMap nE) ∧ wr.ownsRow u3.heap.size 3 1 (.slice pb j cb) j (L.flatMap nE) from
        ⟨hT.row H5.out.2.1 (fun g hg hf => (HS13.out g hf).1 hg), hT.row H5.out.2.2.1 (fun g hg hf => (HS13.out g hf).2 hg), hT.row H5.out.2.2.2.1 (fun g hg hf => (HNa.out g (.inl hf)).1 hg), hT.row H5.out.2.2.2.2 (fun g hg hf => (HNa.out g (.inl hf)).2 hg)⟩)
      clear hT hown hbl hlt HR H5
      have hal : Below wr.heap.size wr (wr.alloc (Obj.cells #[.int .i64 7, .int .i64 7, .int .i64 7] 3)) := by go_grown
      have hO0 := own_low (B' := 0) (own_below HO.out hal) (Nat.zero_le _)
      have H7 := Lib.hid (And.intro (own_below H6.out.1 hal) (And.intro (own_below H6.out.2.1 hal) (And.intro (own_below H6.out.2.2.1 hal) (own_below H6.out.2.2.2 hal))))
      have HB7 := Lib.hid (kb HBr.out hal)
      have n0 : (wr.alloc (Obj.cells #[.int .i64 7, .int .i64 7, .int .i64 7] 3)).cell? ⟨wr.heap.size, 0, none⟩ = some (.int .i64 7) := by go_simp; first | done | rfl
      have n1 : (wr.alloc (Obj.cells #[.int .i64 7, .int .i64 7, .int .i64 7] 3)).cell? ⟨wr.heap.size, 1, none⟩ = some (.int .i64 7) := by go_simp; first | done | rfl
      have n2 : (wr.alloc (Obj.cells #[.int .i64 7, .int .i64 7, .int .i64 7] 3)).cell? ⟨wr.heap.size, 2, none⟩ = some (.int .i64 7) := by go_simp; first | done | rfl
      have hnew : ∀ k u, ([.int .i64 7, .int .i64 7, .int .i64 7] : List Value)[k]? = some u → (wr.alloc (Obj.cells #[.int .i64 7, .int .i64 7, .int .i64 7] 3)).cell? ((⟨wr.heap.size, 0, none⟩ : Addr).add k) = some u := by
        intro k u hu
        rw [Addr.add_lit, Nat.zero_add]
        match k, hu with
        | 0, hu => cases hu; exact n0
        | 1, hu => cases hu; exact n1
        | 2, hu => cases hu; exact n2
        | k + 3, hu => simp at hu
      have H1c : ∀ u ∈ ([.int .i64 7, .int .i64 7, .int .i64 7] : List Value), u.oneCell' = true := by
        intro u hu
        simp at hu
        subst hu
        rfl
      have HNEW := Lib.hid (And.intro hnew H1c)
      have HO0 := Lib.hid hO0
      clear n0 n1 n2 hnew hO0 H1c H6 HBr HO hal
      go_wp2_with (at_builtin; refine wpList_append_f _ rfl _ _ 22 rfl 3 i0 _ 1 8 Tryd.underlying22 hi hz0 hz1 hz2 rfl (by decide) _ j (ys.flatMap nE) rfl HO0.out ⟨_, 0, none⟩ 3 3 [.int .i64 7, .int .i64 7, .int .i64 7] rfl rfl HNEW.out.1 HNEW.out.2 ?c3 ?c4 ?_)
      case c3 => unfold maxLen; omega
      case c4 => omega
      intro vn u8 hn hG
      have hF := Fr.ofGrown (F := fun b => (Value.slice p1 j c1).ownBlock = some b) hG.1 (fun b _ e => e)
      have HB8 := Lib.hid (Fr.toBelow HB7.out hF (fun g hg => HLT.out g hg) (Nat.le_refl _))
      have H8 := Lib.hid (show u8.ownsRow w.heap.size 3 1 (.slice p2 r c2) r (M.flatMap nE) ∧ u8.ownsRow w.heap.size 3 1 (.slice p3 7 c3) 7 (([0, 0, 14, 15, 16, 29, 30] : List Int).flatMap nE) ∧
          u8.ownsRow u3.heap.size 3 1 (.slice pa r ca) r (M.flatMap nE) ∧ u8.ownsRow u3.heap.size 3 1 (.slice pb j cb) j (L.flatMap nE) from
        ⟨hF.row H7.out.1 (fun g hg hf => (HS13.out g hf).1 hg), hF.row H7.out.2.1 (fun g hg hf => (HS13.out g hf).2 hg), hF.row H7.out.2.2.1 (fun g hg hf => (HNa.out g (.inl hf)).1 hg), hF.row H7.out.2.2.2 (fun g hg hf => (HNa.out g (.inl hf)).2 hg)⟩)
      obtain ⟨pn, cn, rfl⟩ := own_form hn
      clear hn hG hF H7 HB7 HNEW HO0
      go_wp2_with fail
      go_loopg [14] 7 (fun kx s wr => ∃ k : Nat, s = .int .i64 k ∧ k ≤ 7 ∧ 7 - k ≤ kx ∧ Hid (Fr (fun k => (Value.slice p3 7 c3).ownBlock = some k) u8 wr ∧ ∃ ys : List Int, wr.ownsRow w.heap.size 3 1 (.slice p3 7 c3) 7 (ys.flatMap nE)))
      case atStart => exact ⟨0, by simp, Nat.zero_le _, by omega, Lib.hid ⟨Fr.refl _ _, _, H8.out.2.1⟩⟩
      case round =>
        obtain ⟨k, rfl, hk, hkx, HR⟩ := hrel
        by_cases hkl : k < 7
        · obtain ⟨hT, ys, hown⟩ := HR.out
          obtain ⟨g, rfl⟩ := rown_some hown (by omega)
          have y0 := rown_get hown hkl
          have f0 := hown.frozenAt k
          obtain ⟨y, y0⟩ := y0
          have hgl := klt y0
          have HS := Lib.hid (fun z => And.intro (hT.setCell ⟨g, k, none⟩ (.int .i64 z) (fun _ => rfl)) (rown_set (j := k) hown z))
          have hinj : (0 : Int) ≤ (k : Int) ∧ (k : Int) < 7 := by omega
          have hdk : decide ((k : Int) < 7) = true := decide_eq_true (by omega)
          clear hT hown HR
          go_wp2_with fail
          go_roundg (7 - (k + 1))
          case measure => omega
          case rel => exact ⟨k + 1, by go_num, by omega, by omega, Lib.hid ⟨(HS.out _).1, _, (HS.out _).2⟩⟩
        · obtain rfl : k = 7 := by omega
          obtain ⟨hT, zs, hown⟩ := HR.out
          have HBr := Lib.hid (Fr.toBelow HB8.out hT (fun g hg => (hown.lt g hg).1) (Nat.le_refl _))
          have H9 := Lib.hid (show wr.ownsRow w.heap.size 3 1 (.slice p2 r c2) r (M.flatMap nE) ∧ wr.ownsRow u3.heap.size 3 1 (.slice pa r ca) r (M.flatMap nE) ∧ wr.ownsRow u3.heap.size 3 1 (.slice pb j cb) j (L.flatMap nE) from
            ⟨hT.row H8.out.1 (fun g hg hf => H23.out g hg hf), hT.row H8.out.2.2.1 (fun g hg hf => (HNa.out g (.inr hf)).1 hg), hT.row H8.out.2.2.2 (fun g hg hf => (HNa.out g (.inr hf)).2 hg)⟩)
          clear hT hown HR H8 HB8 HS13 HNa H23
          go_wp2_with fail
          refine (HP1.out wr HBr.out).mono ?_
          rintro _ t1 ⟨w1, rfl, h1, hB⟩
          have HC1 := Lib.hid (kb HBr.out hB)
          have G1 := Lib.hid (show (HoldsW nE 1 t1 w1 L ∧ HoldsW nE 1 t1 (.slice pb j cb) L) ∧ HoldsW nE 1 t1 (.slice p2 r c2) M ∧ HoldsW nE 1 t1 (.slice pa r ca) M from
            ⟨⟨h1.h, HoldsW.own (l := L) nE_len (by rw [HQ.out.1]; exact own_below H9.out.2.2 hB)⟩, HoldsW.own (l := M) nE_len (by rw [HQ.out.2]; exact own_below H9.out.1 hB), HoldsW.own (l := M) nE_len (by rw [HQ.out.2]; exact own_below H9.out.2.1 hB)⟩)
          obtain ⟨s1, d1, rfl⟩ := G1.out.1.1.form
          clear hB h1 H9 HBr
          go_wp2_with fail
          refine (HP2.out t1 HC1.out).mono ?_
          rintro _ t2 ⟨w2, rfl, h2, hB⟩
          have HC2 := Lib.hid (kb HC1.out hB)
          have G2 := Lib.hid (And.intro (And.intro (G1.out.1.1.below hB) (G1.out.1.2.below hB)) (And.intro (And.intro h2.h (G1.out.2.2.below hB)) (And.intro (G1.out.2.1.below hB) (G1.out.2.2.below hB))))
          obtain ⟨s2, d2, rfl⟩ := G2.out.2.1.1.form
          clear hB h2 HC1 G1
          go_wp2_with fail
          refine (HSq.out t2 HC2.out).mono ?_
          rintro _ t3 ⟨w3, rfl, h3, hB⟩
          have HC3 := Lib.hid (kb HC2.out hB)
          have G3 := Lib.hid (show (HoldsW nE 1 t3 _ L ∧ HoldsW nE 1 t3 _ L) ∧ (HoldsW nE 1 t3 _ M ∧ HoldsW nE 1 t3 _ M) ∧ (HoldsW nE 1 t3 _ M ∧ HoldsW nE 1 t3 _ M) from ⟨⟨G2.out.1.1.below hB, G2.out.1.2.below hB⟩, ⟨G2.out.2.1.1.below hB, G2.out.2.1.2.below hB⟩, ⟨G2.out.2.2.1.below hB, G2.out.2.2.2.below hB⟩⟩)
          have H3 := Lib.hid h3.h
          obtain ⟨g3, o3, d3, rfl, -, hc3⟩ := h3.h.some (by decide)
          have y0 := hc3 0 _ rfl 0 _ rfl
          simp only [Nat.zero_mul, Nat.add_zero] at y0
          rw [show ([0, 0, 14, 15, 16, 29, 30] : List Int).length = 7 from rfl]
          clear hB h3 HC2 G2 hc3
          have hyl := klt y0
          go_wp2_with fail
          refine (HI1.out _ _ _ G3.out.1.1 G3.out.1.2).mono ?_
          rintro _ t4 ⟨rfl, hB⟩
          have HC4 := Lib.hid (kb HC3.out hB)
          have y0 := kc hB y0
          have hyl := klt y0
          have G4 := Lib.hid (show (HoldsW nE 1 t4 _ M ∧ HoldsW nE 1 t4 _ M) ∧ (HoldsW nE 1 t4 _ M ∧ HoldsW nE 1 t4 _ M) from ⟨⟨G3.out.2.1.1.below hB, G3.out.2.1.2.below hB⟩, ⟨G3.out.2.2.1.below hB, G3.out.2.2.2.below hB⟩⟩)
          clear hB HC3 G3
          go_wp2_with fail
          refine (HI2.out _ _ _ G4.out.1.1 G4.out.1.2).mono ?_
          rintro _ t5 ⟨rfl, hB⟩
          have HC5 := Lib.hid (kb HC4.out hB)
          have y0 := kc hB y0
          have hyl := klt y0
          have G5 := Lib.hid (show (HoldsW nE 1 t5 _ M ∧ HoldsW nE 1 t5 _ M) from ⟨G4.out.2.1.below hB, G4.out.2.2.below hB⟩)
          clear hB HC4 G4
          by_cases hbc : b = c
          · have hbc' : (b == c) = true := by rw [hbc]; exact beq_self_eq_true c
            clear hbc
            go_wp2_with fail
            refine (HA.out _ HC5.out).mono ?_
            rintro _ z ⟨rfl, hb⟩
            have HZ := Lib.hid (kb HC5.out hb)
            clear hb
            go_wp2
            go_ret
            exact ⟨rfl, HZ.out⟩
          · have hbc' : (b == c) = false := by rw [beq_eq_false_iff_ne]; exact hbc
            clear hbc
            go_wp2_with fail
            refine (HI2.out _ _ _ G5.out.1 G5.out.2).mono ?_
            rintro _ t6 ⟨rfl, hB⟩
            have HC6 := Lib.hid (kb HC5.out hB)
            clear hB
            go_wp2_with fail
            refine (HA.out _ HC6.out).mono ?_
            rintro _ z ⟨rfl, hb⟩
            have HZ := Lib.hid (kb HC6.out hb)
            clear hb
            go_wp2
            go_ret
            exact ⟨rfl, HZ.out⟩
end Go.Proofs.YtcplegelppfdeaaDoor
