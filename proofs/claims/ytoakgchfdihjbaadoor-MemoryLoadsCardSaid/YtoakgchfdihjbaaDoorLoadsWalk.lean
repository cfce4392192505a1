/-
  MemoryLoads: its walk.
-/
import Derived.Test.YtoakgchfdihjbaaDoorLaw8
set_option linter.unusedSimpArgs false
set_option linter.unusedVariables false
namespace Go.Proofs.YtoakgchfdihjbaaDoor
open Go.RowKit Go.PlainAid

/-- What is read where nothing was put: an error, 0, or 255, not secret. -/
def blankR (o : RdO) : Prop := (o.e == 0) = false ∨ (o.e = 0 ∧ o.t = 0 ∧ o.v = 0) ∨ (o.e = 0 ∧ o.t = 0 ∧ o.v = 255)
theorem blank_of {M : Int → Int × Int} {a : Int} (h : M a = (0, 0)) : blankR (prM M a) := by
  unfold blankR prM
  rcases kindI_cases a a with ⟨k, _⟩ | ⟨k, _⟩ | ⟨k, _⟩ | ⟨k, _⟩ | ⟨k, _⟩ <;> simp [k, h]
/-- What a byte of RAM, or ROM, reads. -/
theorem read_real {M : Int → Int × Int} {a : Int} (h : realB a = true) : prM M a = ⟨(M a).1, (M a).2, 0⟩ := by
  unfold realB at h
  unfold prM
  rcases kindI_cases a a with ⟨k, _⟩ | ⟨k, h1, _⟩ | ⟨k, h1, _⟩ | ⟨k, _⟩ | ⟨k, h1⟩
  · simp [k]
  · unfold ramB romB at h; unfold devB at h1; simp at h h1; omega
  · unfold ramB romB at h; simp at h; omega
  · simp [k]
  · simp only [Bool.or_eq_true] at h
    rcases h with h | h
    · exact absurd ⟨h, h⟩ h1.1
    · exact absurd ⟨h, h⟩ h1.2.2.2
theorem real_only {a : Int} (h : realB a = true) : onlyB a a = true := by
  unfold realB at h
  rw [onlyB_eq]
  unfold oneB
  simp only [Bool.or_eq_true] at h
  rcases h with h | h <;> simp [h]
theorem only_real {f t a : Int} (h : onlyB f t = true) (h1 : f ≤ a) (h2 : a ≤ t) : realB a = true := by
  rw [onlyB_eq] at h
  simp only [Bool.not_eq_true', Bool.or_eq_false_iff, Bool.not_eq_false'] at h
  exact one_real h.2 h1 h2
/-- The calls' answers, where the bytes fit. -/
theorem loads_yes (a t : Int) (bs : List Int) (hl : 1 ≤ bs.length) (hZ : onlyB a (a + bs.length - 1) = true) : ∃ (M1 M2 M3 : Int → Int × Int) (b0 : Int), bs[0]? = some b0 ∧
    loadMp zeroM a bs = (0, M1) ∧ labelMp M1 a (a + bs.length - 1) t = (0, M2) ∧ (∀ (i : Nat) x, bs[i]? = some x → prM M2 (a + (i : Int)) = ⟨x, t, 0⟩) ∧
    blankR (prM M2 (a - 1)) ∧ blankR (prM M2 (a + bs.length)) ∧ loadMp M2 a [b0] = (0, M3) ∧ prM M3 a = ⟨b0, 0, 0⟩ := by
  have hlast : lastA a bs.length = a + bs.length - 1 := by unfold lastA; rw [if_neg (by omega)]
  have hr0 : realB a = true := only_real hZ (Int.le_refl _) (by omega)
  refine ⟨loadM zeroM a bs, labelM bs.length (loadM zeroM a bs) a t, setM (labelM bs.length (loadM zeroM a bs) a t) a (bs[0]'(by omega), 0), bs[0]'(by omega), List.getElem?_eq_getElem _, ?_, ?_, ?_, ?_, ?_, ?_, ?_⟩
  · unfold loadMp
    rw [hlast, hZ, if_pos rfl]
  · unfold labelMp
    rw [hZ, if_pos rfl]
    congr 2
    omega
  · intro i x hx
    have hi : i < bs.length := (List.getElem?_eq_some_iff.1 hx).1
    rw [read_real (only_real hZ (by omega) (by omega)), labelM_at, if_pos (by omega), loadM_at, dif_pos (by omega)]
    have e : (a + (i : Int) - a).toNat = i := by omega
    have hx' : bs[i] = x := by rw [List.getElem?_eq_getElem hi] at hx; exact Option.some.inj hx
    simp only [e, hx']
  · refine blank_of ?_
    rw [labelM_at, if_neg (by omega), loadM_at, dif_neg (by omega)]
    rfl
  · refine blank_of ?_
    rw [labelM_at, if_neg (by omega), loadM_at, dif_neg (by omega)]
    rfl
  · have e : lastA a [bs[0]'(by omega)].length = a := by unfold lastA; simp
    unfold loadMp
    rw [e, real_only hr0, if_pos rfl]
    rfl
  · rw [read_real hr0, setM_at]
theorem loads_no (a : Int) (bs : List Int) (hl : 1 ≤ bs.length) (hZ : onlyB a (a + bs.length - 1) = false) : loadMp zeroM a bs = (10, zeroM) := by
  have hlast : lastA a bs.length = a + bs.length - 1 := by unfold lastA; rw [if_neg (by omega)]
  unfold loadMp
  rw [hlast, hZ]
  rfl
theorem label_no (M : Int → Int × Int) (f t tt : Int) (h : onlyB f t = false) : labelMp M f t tt = (10, M) := by
  unfold labelMp
  rw [h]
  rfl
theorem ne_own {g o n c g' bb : Nat} (h : g ≠ bb) (hg : (Value.slice (some ⟨g, o, none⟩) n c).ownBlock = some g') : g' ≠ bb := by
  obtain rfl : g = g' := by simpa [Value.ownBlock] using hg
  exact h
set_option maxRecDepth 100000 in
set_option maxHeartbeats 8000000 in
theorem loads_walk (a : Int) (hi : -9223372036854775808 ≤ a ∧ a ≤ 9223372036854775807) (bs : List Int) (v : Value) (t : Int) (w : World) (hv : HoldsB w v bs) (hb : ∀ x ∈ bs, 0 ≤ x ∧ x ≤ 255) (hl : bs.length ≤ 9223372036854775807) (hg : 0 < bs.length → ∀ g, v.ownBlock = some g → g < w.heap.size) (hL : Laid w) :
    Calls Tryd.prog 7 #[.int .i64 a, v, .int .u8 t] w fun e w' => e = .returned (.bool true) ∧ Below w.heap.size w w' := by
  have hlt := hL.lt
  have HA := Lib.hid (fun W (h : Below w.heap.size w W) => awake_c W (hL.below h))
  have HLd := Lib.hid (fun W (h : Below w.heap.size w W) => hL.below h)
  obtain ⟨bp, bc, rfl⟩ := hv.form
  obtain ⟨m, hm⟩ : ∃ m, bs.length = m := ⟨_, rfl⟩
  have HV := Lib.hid (show HoldsB w (.slice bp m bc) bs from by rw [← hm]; exact hv)
  have HB := Lib.hid hb
  have HG := Lib.hid hg
  have HN := Lib.hid hm
  rw [hm] at hl ⊢
  clear hv hb hg hm hL
  by_cases hm1 : ¬ (1 ≤ m ∧ m ≤ 100)
  · by_cases h0 : m = 0
    · subst h0
      go_enter Tryd.func7, Tryd.ntmps7
      go_wp2_with fail
      refine (new_x _ hlt).mono ?_
      rintro _ u1 ⟨mb, bb, rfl, hb, hP, hmb, hbb⟩
      go_wp2_with fail
      refine (HA.out _ hb).mono ?_
      rintro _ u2 ⟨rfl, hb2⟩
      go_wp2
      go_ret
      exact ⟨rfl, kb hb hb2⟩
    · have h1 : ¬ (m : Int) < 1 := by omega
      have h2 : (100 : Int) < (m : Int) := by omega
      clear hm1 h0
      go_enter Tryd.func7, Tryd.ntmps7
      go_wp2_with fail
      refine (new_x _ hlt).mono ?_
      rintro _ u1 ⟨mb, bb, rfl, hb, hP, hmb, hbb⟩
      go_wp2_with fail
      refine (HA.out _ hb).mono ?_
      rintro _ u2 ⟨rfl, hb2⟩
      go_wp2
      go_ret
      exact ⟨rfl, kb hb hb2⟩
  have h1 : ¬ (m : Int) < 1 := by omega
  have h2 : ¬ (100 : Int) < (m : Int) := by omega
  obtain ⟨g, o, cap, e1, hcap, hcc⟩ := HV.out.some (by have := HN.out; omega)
  obtain ⟨rfl, n1, rfl⟩ := Value.slice.inj e1
  have hgw : g < w.heap.size := HG.out (by have := HN.out; omega) g rfl
  have HCC := Lib.hid hcc
  have hcap2 : m ≤ bc := by have := HN.out; omega
  clear e1 n1 hcc
  have hm2 : 1 ≤ m ∧ m ≤ 100 := by omega
  clear hm1
  cases hZ : onlyB a (a + (m : Int) - 1)
  · have hno : loadMp zeroM a bs = (10, zeroM) := loads_no a bs (by have := HN.out; omega) (by rw [HN.out]; exact hZ)
    have HC1 := Lib.hid (fun W mb bb (h : Pm mb bb W zeroM) (hb : Below w.heap.size w W) (hne : g ≠ bb) => loadp_c zeroM a bs (by have := HN.out; omega) mb bb (.slice (some ⟨g, o, none⟩) m bc) W h (HLd.out W hb) (HV.out.below hb) (fun _ g' hg' => ne_own hne hg'))
    rw [hno] at HC1
    have hwr : onlyB a (wrap64 (wrap64 (a + m) - 1)) = false := by
      have e := lastA_wrap a m (by omega)
      rw [if_neg (by omega)] at e
      simp only [IntWalk.i64_left] at e
      rw [e]
      unfold lastA
      rw [if_neg (by omega)]
      exact hZ
    have HC2 := Lib.hid (fun W mb bb (h : Pm mb bb W zeroM) (hb : Below w.heap.size w W) => labelp_c zeroM a (wrap64 (wrap64 (a + m) - 1)) t mb bb W h (HLd.out W hb))
    rw [label_no zeroM a _ t hwr] at HC2
    have HC3 := Lib.hid (fun W mb bb nb nbb (h : Pm mb bb W zeroM) (h' : Pm nb nbb W zeroM) => samep_c zeroM zeroM mb bb nb nbb W h h')
    rw [sameM_refl] at HC3
    clear hno hwr hZ
    go_enter Tryd.func7, Tryd.ntmps7
    go_wp2_with fail
    ((with_reducible refine (new_x _ hlt).mono ?_); rintro _ u1 ⟨mb, bb, rfl, hb, hP, hmb, hbb⟩)
    have hs_u1 := Lib.hid hb
    have hz := hb.size
    (try simp only [World.size_alloc, World.size_setCell, World.size_drew] at hz)
    have hB' : Below w.heap.size w u1 := by
        refine kb ?_ hb
        go_grown
    clear hb hz
    have hB := hB'; clear hB'
    have hsz := hB.size
    have HP1 := Lib.hid hP
    clear hP
    go_wp2_with fail
    ((with_reducible refine (HC1.out _ _ _ HP1.out hB (by omega)).mono ?_); rintro _ u2 ⟨rfl, hb, hP⟩)
    have hs_u2 := Lib.hid hb
    have hz := hb.size
    (try simp only [World.size_alloc, World.size_setCell, World.size_drew] at hz)
    have hB' : Below w.heap.size w u2 := by
        refine below_grown2 ?_ hb (by omega)
        go_grown
    clear hB hsz
    clear hb hz
    have hB := hB'; clear hB'
    have hsz := hB.size
    have HP2 := Lib.hid hP
    clear hP
    go_wp2_with fail
    ((with_reducible refine (HC2.out _ _ _ HP2.out hB).mono ?_); rintro _ u3 ⟨rfl, hb, hP⟩)
    have hs_u3 := Lib.hid hb
    have hz := hb.size
    (try simp only [World.size_alloc, World.size_setCell, World.size_drew] at hz)
    have hB' : Below w.heap.size w u3 := by
        refine below_grown2 ?_ hb (by omega)
        go_grown
    clear hB hsz
    clear hb hz
    have hB := hB'; clear hB'
    have hsz := hB.size
    have HP3 := Lib.hid hP
    have hz3 := hP.lt
    clear hP
    go_wp2_with fail
    ((with_reducible refine (new_x _ (by omega)).mono ?_); rintro _ u4 ⟨nb, nbb, rfl, hb, hQ, hnb, hnbb⟩)
    have hs_u4 := Lib.hid hb
    have hz := hb.size
    (try simp only [World.size_alloc, World.size_setCell, World.size_drew] at hz)
    have hB' : Below w.heap.size w u4 := by
        refine kb ?_ hb
        go_grown
    clear hB hsz
    clear hb hz
    have hB := hB'; clear hB'
    have hsz := hB.size
    have HP4 := Lib.hid (HP3.out.below hs_u4.out)
    have HQ4 := Lib.hid hQ
    clear hQ
    go_wp2_with fail
    ((with_reducible refine (HC3.out _ _ _ _ _ HP4.out HQ4.out).mono ?_); rintro _ u5 ⟨rfl, hb⟩)
    have hz := hb.size
    (try simp only [World.size_alloc, World.size_setCell, World.size_drew] at hz)
    have hB' : Below w.heap.size w u5 := by
        refine kb ?_ hb
        go_grown
    clear hB hsz
    clear hb hz
    have hB := hB'; clear hB'
    have hsz := hB.size
    go_wp2_with fail
    ((with_reducible refine (HA.out _ hB).mono ?_); rintro _ u6 ⟨rfl, hb⟩)
    have hz := hb.size
    (try simp only [World.size_alloc, World.size_setCell, World.size_drew] at hz)
    have hB' : Below w.heap.size w u6 := by
        refine kb ?_ hb
        go_grown
    clear hB hsz
    clear hb hz
    have hB := hB'; clear hB'
    have hsz := hB.size
    go_wp2
    go_ret
    exact ⟨rfl, hB⟩
  · obtain ⟨M1, M2, M3, b0, hb0, e1, e2, e3, e4, e5, e6, e7⟩ := loads_yes a t bs (by have := HN.out; omega) (by rw [HN.out]; exact hZ)
    rw [HN.out] at e2 e5
    have hr := onlyB_real hZ
    have hin0 : 0 ≤ a ∧ a + (m : Int) ≤ 65536 := by omega
    have hw1 : IntKind.i64.wrap (a + (m : Int)) = a + m := IntWalk.i64_in _ (by omega)
    have hw2 : IntKind.i64.wrap (a + (m : Int) - 1) = a + m - 1 := IntWalk.i64_in _ (by omega)
    have hw3 : IntKind.i64.wrap (a - 1) = a - 1 := IntWalk.i64_in _ (by omega)
    have HC1 := Lib.hid (fun W mb bb (h : Pm mb bb W zeroM) (hb : Below w.heap.size w W) (hne : g ≠ bb) => loadp_c zeroM a bs (by have := HN.out; omega) mb bb (.slice (some ⟨g, o, none⟩) m bc) W h (HLd.out W hb) (HV.out.below hb) (fun _ g' hg' => ne_own hne hg'))
    rw [e1] at HC1
    have HC2 := Lib.hid (fun W mb bb (h : Pm mb bb W M1) (hb : Below w.heap.size w W) => labelp_c M1 a (a + (m : Int) - 1) t mb bb W h (HLd.out W hb))
    rw [e2] at HC2
    have HC3 := Lib.hid (fun (i : Nat) x (hx : bs[i]? = some x) W mb bb (h : Pm mb bb W M2) (hb : Below w.heap.size w W) => show Calls Tryd.prog 12 #[.pointer (some ⟨mb, 0, none⟩), .int .i64 (a + (i : Int))] W (fun e w' => e = .returned (.tuple #[.agg #[.int .u8 x, .int .u8 t], .int .i64 0]) ∧ Below W.heap.size W w') from by
      have := readp_c M2 (a + (i : Int)) mb bb W h (HLd.out W hb)
      rw [e3 i x hx] at this
      exact this)
    have HC4 := Lib.hid (fun W mb bb (h : Pm mb bb W M2) (hb : Below w.heap.size w W) => readp_c M2 (a - 1) mb bb W h (HLd.out W hb))
    have HC5 := Lib.hid (fun W mb bb (h : Pm mb bb W M2) (hb : Below w.heap.size w W) => readp_c M2 (a + (m : Int)) mb bb W h (HLd.out W hb))
    obtain ⟨⟨xv, xt, xe⟩, hX⟩ : ∃ X, prM M2 (a - 1) = X := ⟨_, rfl⟩
    obtain ⟨⟨yv, yt, ye⟩, hY⟩ : ∃ Y, prM M2 (a + (m : Int)) = Y := ⟨_, rfl⟩
    rw [hX] at HC4 e4
    rw [hY] at HC5 e5
    unfold blankR at e4 e5
    dsimp only at HC4 HC5 e4 e5
    have HX := Lib.hid e4
    have HY := Lib.hid e5
    have hc0 : w.cell? ⟨g, o, none⟩ = some (.int .u8 b0) := by
      have := HCC.out 0 b0 hb0 0 _ rfl
      simpa using this
    have HC6 := Lib.hid (fun W mb bb (h : Pm mb bb W M2) (hb : Below w.heap.size w W) (hne : g ≠ bb) => loadp_c M2 a [b0] (by simp) mb bb (.slice (some ⟨g, o, none⟩) 1 bc) W h (HLd.out W hb) (.inr ⟨g, o, bc, rfl, by simp; omega, fun j x hx i u hu => by
      match j, hx with
      | 0, hx =>
        obtain rfl : b0 = x := by simpa using hx
        match i, hu with
        | 0, hu =>
          obtain rfl := Option.some.inj hu
          simpa using kc hb hc0
      | j + 1, hx => simp at hx⟩) (fun _ g' hg' => ne_own hne hg'))
    rw [e6] at HC6
    have HC7 := Lib.hid (fun W mb bb (h : Pm mb bb W M3) (hb : Below w.heap.size w W) => readp_c M3 a mb bb W h (HLd.out W hb))
    rw [e7] at HC7
    dsimp only at HC7
    have hb0b : 0 ≤ b0 ∧ b0 ≤ 255 := HB.out b0 (List.mem_of_getElem? hb0)
    have HO1 := Lib.hid (fun W => of_c 255 W)
    have HO2 := Lib.hid (fun W => of_c b0 W)
    rw [show IntKind.u8.wrap 255 = 255 from rfl] at HO1
    rw [show IntKind.u8.wrap b0 = b0 from by rw [IntKind.wrap_u8]; omega] at HO2
    have hwb : IntKind.i64.wrap b0 = b0 := IntWalk.i64_in _ (by omega)
    clear e1 e2 e3 e4 e5 e6 e7 hX hY hZ hr
    have hxx : w.cell? ⟨g, o, none⟩ = some (.int .u8 b0) := hc0
    clear hc0
    go_enter Tryd.func7, Tryd.ntmps7
    go_wp2_with fail
    ((with_reducible refine (new_x _ hlt).mono ?_); rintro _ u1 ⟨mb, bb, rfl, hb, hP, hmb, hbb⟩)
    have hs_u1 := Lib.hid hb
    have hz := hb.size
    (try simp only [World.size_alloc, World.size_setCell, World.size_drew] at hz)
    have hB' : Below w.heap.size w u1 := by
        refine kb ?_ hb
        go_grown
    clear hb hz
    have hB := hB'; clear hB'
    have hsz := hB.size
    have HP1 := Lib.hid hP
    clear hP
    go_wp2_with fail
    ((with_reducible refine (HC1.out _ _ _ HP1.out hB (by omega)).mono ?_); rintro _ u2 ⟨rfl, hb, hP⟩)
    have hs_u2 := Lib.hid hb
    have hz := hb.size
    (try simp only [World.size_alloc, World.size_setCell, World.size_drew] at hz)
    have hB' : Below w.heap.size w u2 := by
        refine below_grown2 ?_ hb (by omega)
        go_grown
    clear hB hsz
    clear hb hz
    have hB := hB'; clear hB'
    have hsz := hB.size
    have HP2 := Lib.hid hP
    clear hP
    go_wp2_with fail
    ((with_reducible refine (HC2.out _ _ _ HP2.out hB).mono ?_); rintro _ u3 ⟨rfl, hb, hP⟩)
    have hs_u3 := Lib.hid hb
    have hz := hb.size
    (try simp only [World.size_alloc, World.size_setCell, World.size_drew] at hz)
    have hB' : Below w.heap.size w u3 := by
        refine below_grown2 ?_ hb (by omega)
        go_grown
    clear hB hsz
    clear hb hz
    have hB := hB'; clear hB'
    have hsz := hB.size
    have HP3 := Lib.hid hP
    have HB3 := Lib.hid hB
    clear hP HP1 HP2
    go_wp2_with fail
    go_loopw [10] (fun s10 wr => ∃ k : Nat, k ≤ m ∧ s10 = .int .i64 k ∧ Hid (Pm mb bb wr M2) ∧ Below w.heap.size w wr) (fun i _ => m - (intOf i).toNat)
    case atStart => exact ⟨0, Nat.zero_le _, rfl, HP3, HB3.out⟩
    case round =>
      obtain ⟨k, hk, rfl, HPr, hBr⟩ := hrel
      clear hB hsz
      have hB : Below wr.heap.size wr wr := Below.refl _ _
      have hsz := hB.size
      have hwz := hBr.size
      by_cases hlt2 : k < m
      · have hd : decide ((k : Int) < (m : Int)) = true := decide_eq_true (by omega)
        have hlk : k < bs.length := by rw [HN.out]; exact hlt2
        obtain ⟨x, hx⟩ : ∃ x, bs[k]? = some x := ⟨_, List.getElem?_eq_getElem hlk⟩
        have hx0 := HCC.out k x hx 0 _ rfl
        rw [Nat.mul_one, Nat.add_zero] at hx0
        have HR := Lib.hid (HC3.out k x hx)
        have hw4 : IntKind.i64.wrap (a + (k : Int)) = a + k := IntWalk.i64_in _ (by omega)
        have hw5 : IntKind.i64.wrap ((k : Int) + 1) = (k : Int) + 1 := IntWalk.i64_in _ (by omega)
        have hin : (0 : Int) ≤ (k : Int) ∧ (k : Int) < (m : Int) := by omega
        have hsx0 := kc hBr hx0
        have hgr : g < wr.heap.size := by omega
        clear hx hx0 hlk
        go_wp2_with fail
        ((with_reducible refine (HR.out _ mb bb HPr.out hBr).mono ?_); rintro _ u4 ⟨rfl, hb⟩)
        have T : u4.cell? ⟨g, o + k, none⟩ = some (.int .u8 x) := by
            refine kc hb ?_ <;> (go_simp; first | done | rfl)
        have hz := hb.size
        (try simp only [World.size_alloc, World.size_setCell, World.size_drew] at hz)
        have L : g < u4.heap.size := by omega
        have hB' : Below wr.heap.size wr u4 := by
            refine kb ?_ hb
            go_grown
        clear hB hsz
        clear hb hz
        have hsx_0 := T; clear T
        have hlsx := L; clear L
        obtain ⟨hnsx0, hnsx1, hksx1, hnsx2, hksx2⟩ := ap0 hlsx
        have hB := hB'; clear hB'
        have hsz := hB.size
        go_wp2_with fail
        refine wp_region_plan (fun w' => w'.cell? ⟨u4.heap.size, 0, none⟩ = some (.int .u8 x) ∧ w'.cell? ⟨u4.heap.size, 1, none⟩ = some (.int .u8 t) ∧ w'.cell? ⟨g, o + k, none⟩ = some (.int .u8 x) ∧ Below wr.heap.size wr w') (by kernel_rfl) (by kernel_rfl) (by kernel_rfl) ?_ ?_
        · (try dsimp only)
          refine ⟨?_, ?_, ?_, ?_⟩ <;> first | (go_simp; done) | (simp [*]; done) | go_grown
        repeat (first
          | (refine Plan.val (v := ?_) ?_ ?_ ?_; rotate_left; (· rfl); (· (intro W hSw; (try dsimp only at hSw); go_simp; all_goals (first | (with_reducible rfl) | (constructor <;> (with_reducible rfl)) | (rw [if_neg (by omega)]; done) | (rw [if_neg (by omega)]; with_reducible rfl)))); (try simp only [Act.put, List.setIfInBounds_toArray, List.set_cons_zero, List.set_cons_succ]))
          | (refine Plan.no ?_ ?_; (· rfl); (try simp only [Act.put, List.setIfInBounds_toArray, List.set_cons_zero, List.set_cons_succ])))
        refine Plan.done ?_
        intro u5 T
        (try dsimp only at T)
        clear hsx_0 hlsx hnsx0 hnsx1 hksx1 hnsx2 hksx2 hB hsz
        obtain ⟨he_0, he_1, hsx_0, hB⟩ := T
        have hsz := hB.size
        have hle := klt he_0
        have hlsx := klt hsx_0
        obtain ⟨hne0, hne1, hke1, hne2, hke2⟩ := ap0 hle
        obtain ⟨hnsx0, hnsx1, hksx1, hnsx2, hksx2⟩ := ap0 hlsx
        have HB5 := Lib.hid hB
        go_wp2
        go_roundw
        case rel => exact ⟨k + 1, by omega, by go_num, Lib.hid (HPr.out.below HB5.out), kb hBr HB5.out⟩
        case measure => simp [intOf] <;> omega
      · have hd : decide ((k : Int) < (m : Int)) = false := decide_eq_false (by omega)
        have hgr : g < wr.heap.size := by omega
        go_wp2_with fail
        ((with_reducible refine (HC4.out _ mb bb HPr.out hBr).mono ?_); rintro _ u4 ⟨rfl, hb⟩)
        have hz := hb.size
        (try simp only [World.size_alloc, World.size_setCell, World.size_drew] at hz)
        have hB' : Below wr.heap.size wr u4 := by
            refine kb ?_ hb
            go_grown
        clear hB hsz
        clear hb hz
        have hB := hB'; clear hB'
        have hsz := hB.size
        go_wp2_with fail
        ((with_reducible refine (HC5.out _ mb bb (HPr.out.below (by go_grown)) (kb hBr (by go_grown))).mono ?_); rintro _ u5 ⟨rfl, hb⟩)
        have T : CC u5 u4.heap.size 0 1 (.int .u8 xv) (.int .u8 xt) := by
            refine ⟨?_, ?_⟩ <;> refine kc hb ?_ <;> (go_simp; first | done | rfl)
        have hz := hb.size
        (try simp only [World.size_alloc, World.size_setCell, World.size_drew] at hz)
        have L : u4.heap.size < u5.heap.size := by omega
        have hB' : Below wr.heap.size wr u5 := by
            refine kb ?_ hb
            go_grown
        clear hB hsz
        clear hb hz
        obtain ⟨he_0, he_1⟩ := T
        have hle := L; clear L
        obtain ⟨hne0, hne1, hke1, hne2, hke2⟩ := ap0 hle
        have hB := hB'; clear hB'
        have hsz := hB.size
        go_upto_region 18 with fail
        go_cut [133] (fun s133 wx => s133 = .bool false ∧ Below wr.heap.size wr wx)
        case first =>
          rcases HX.out with hxe | ⟨rfl, rfl, rfl⟩ | ⟨rfl, rfl, rfl⟩
          · rcases HY.out with hye | ⟨rfl, rfl, rfl⟩ | ⟨rfl, rfl, rfl⟩
            · skip
              refine wp_region_plan (fun w' => w'.cell? ⟨u4.heap.size, 0, none⟩ = some (.int .u8 xv) ∧ w'.cell? ⟨u4.heap.size, 1, none⟩ = some (.int .u8 xt) ∧ w'.cell? ⟨u5.heap.size, 0, none⟩ = some (.int .u8 yv) ∧ w'.cell? ⟨u5.heap.size, 1, none⟩ = some (.int .u8 yt) ∧ Below wr.heap.size wr w') (by kernel_rfl) (by kernel_rfl) (by kernel_rfl) ?_ ?_
              · (try dsimp only)
                refine ⟨?_, ?_, ?_, ?_, ?_⟩ <;> first | (go_simp; done) | (simp [*]; done) | go_grown
              repeat (first
                | (refine Plan.val (v := ?_) ?_ ?_ ?_; rotate_left; (· rfl); (· (intro W hSw; (try dsimp only at hSw); go_simp; all_goals (first | (with_reducible rfl) | (constructor <;> (with_reducible rfl)) | (rw [if_neg (by omega)]; done) | (rw [if_neg (by omega)]; with_reducible rfl)))); (try simp only [Act.put, List.setIfInBounds_toArray, List.set_cons_zero, List.set_cons_succ]))
                | (refine Plan.no ?_ ?_; (· rfl); (try simp only [Act.put, List.setIfInBounds_toArray, List.set_cons_zero, List.set_cons_succ]))
                | (refine Plan.call (v := ?_) (f := ?_) (args := ?_) ?_ ?_ ?_ ?_; rotate_left 3; (· rfl); (· (intro W hSw; (try dsimp only at hSw); go_simp; all_goals (first | (with_reducible rfl) | (constructor <;> (with_reducible rfl)) | (rw [if_neg (by omega)]; done) | (rw [if_neg (by omega)]; with_reducible rfl)))); (· (intro W hSw; (try dsimp only at hSw); first | (go_at_call 24; ((with_reducible refine (HO1.out _).mono ?_); rintro _ wz ⟨rfl, hb⟩; (refine ⟨?_, ?_⟩; (· with_reducible rfl); exact ⟨kc hb hSw.1, kc hb hSw.2.1, kc hb hSw.2.2.1, kc hb hSw.2.2.2.1, kb hSw.2.2.2.2 hb⟩))))); (try simp only [Act.put, List.setIfInBounds_toArray, List.set_cons_zero, List.set_cons_succ])))
              refine Plan.done ?_
              intro u6 T
              (try dsimp only at T)
              clear he_0 he_1 hle hne0 hne1 hke1 hne2 hke2 hB hsz
              obtain ⟨he_0, he_1, hf_0, hf_1, hB⟩ := T
              have hsz := hB.size
              have hle := klt he_0
              have hlf := klt hf_0
              obtain ⟨hne0, hne1, hke1, hne2, hke2⟩ := ap0 hle
              obtain ⟨hnf0, hnf1, hkf1, hnf2, hkf2⟩ := ap0 hlf
              go_wp2_with fail
              go_meet
              exact ⟨rfl, hB⟩
            · skip
              refine wp_region_plan (fun w' => w'.cell? ⟨u4.heap.size, 0, none⟩ = some (.int .u8 xv) ∧ w'.cell? ⟨u4.heap.size, 1, none⟩ = some (.int .u8 xt) ∧ w'.cell? ⟨u5.heap.size, 0, none⟩ = some (.int .u8 0) ∧ w'.cell? ⟨u5.heap.size, 1, none⟩ = some (.int .u8 0) ∧ Below wr.heap.size wr w') (by kernel_rfl) (by kernel_rfl) (by kernel_rfl) ?_ ?_
              · (try dsimp only)
                refine ⟨?_, ?_, ?_, ?_, ?_⟩ <;> first | (go_simp; done) | (simp [*]; done) | go_grown
              repeat (first
                | (refine Plan.val (v := ?_) ?_ ?_ ?_; rotate_left; (· rfl); (· (intro W hSw; (try dsimp only at hSw); go_simp; all_goals (first | (with_reducible rfl) | (constructor <;> (with_reducible rfl)) | (rw [if_neg (by omega)]; done) | (rw [if_neg (by omega)]; with_reducible rfl)))); (try simp only [Act.put, List.setIfInBounds_toArray, List.set_cons_zero, List.set_cons_succ]))
                | (refine Plan.no ?_ ?_; (· rfl); (try simp only [Act.put, List.setIfInBounds_toArray, List.set_cons_zero, List.set_cons_succ]))
                | (refine Plan.call (v := ?_) (f := ?_) (args := ?_) ?_ ?_ ?_ ?_; rotate_left 3; (· rfl); (· (intro W hSw; (try dsimp only at hSw); go_simp; all_goals (first | (with_reducible rfl) | (constructor <;> (with_reducible rfl)) | (rw [if_neg (by omega)]; done) | (rw [if_neg (by omega)]; with_reducible rfl)))); (· (intro W hSw; (try dsimp only at hSw); first | (go_at_call 24; ((with_reducible refine (HO1.out _).mono ?_); rintro _ wz ⟨rfl, hb⟩; (refine ⟨?_, ?_⟩; (· with_reducible rfl); exact ⟨kc hb hSw.1, kc hb hSw.2.1, kc hb hSw.2.2.1, kc hb hSw.2.2.2.1, kb hSw.2.2.2.2 hb⟩))))); (try simp only [Act.put, List.setIfInBounds_toArray, List.set_cons_zero, List.set_cons_succ])))
              refine Plan.done ?_
              intro u6 T
              (try dsimp only at T)
              clear he_0 he_1 hle hne0 hne1 hke1 hne2 hke2 hB hsz
              obtain ⟨he_0, he_1, hf0_0, hf0_1, hB⟩ := T
              have hsz := hB.size
              have hle := klt he_0
              have hlf0 := klt hf0_0
              obtain ⟨hne0, hne1, hke1, hne2, hke2⟩ := ap0 hle
              obtain ⟨hnf00, hnf01, hkf01, hnf02, hkf02⟩ := ap0 hlf0
              go_wp2_with fail
              go_meet
              exact ⟨rfl, hB⟩
            · skip
              refine wp_region_plan (fun w' => w'.cell? ⟨u4.heap.size, 0, none⟩ = some (.int .u8 xv) ∧ w'.cell? ⟨u4.heap.size, 1, none⟩ = some (.int .u8 xt) ∧ w'.cell? ⟨u5.heap.size, 0, none⟩ = some (.int .u8 255) ∧ w'.cell? ⟨u5.heap.size, 1, none⟩ = some (.int .u8 0) ∧ Below wr.heap.size wr w') (by kernel_rfl) (by kernel_rfl) (by kernel_rfl) ?_ ?_
              · (try dsimp only)
                refine ⟨?_, ?_, ?_, ?_, ?_⟩ <;> first | (go_simp; done) | (simp [*]; done) | go_grown
              repeat (first
                | (refine Plan.val (v := ?_) ?_ ?_ ?_; rotate_left; (· rfl); (· (intro W hSw; (try dsimp only at hSw); go_simp; all_goals (first | (with_reducible rfl) | (constructor <;> (with_reducible rfl)) | (rw [if_neg (by omega)]; done) | (rw [if_neg (by omega)]; with_reducible rfl)))); (try simp only [Act.put, List.setIfInBounds_toArray, List.set_cons_zero, List.set_cons_succ]))
                | (refine Plan.no ?_ ?_; (· rfl); (try simp only [Act.put, List.setIfInBounds_toArray, List.set_cons_zero, List.set_cons_succ]))
                | (refine Plan.call (v := ?_) (f := ?_) (args := ?_) ?_ ?_ ?_ ?_; rotate_left 3; (· rfl); (· (intro W hSw; (try dsimp only at hSw); go_simp; all_goals (first | (with_reducible rfl) | (constructor <;> (with_reducible rfl)) | (rw [if_neg (by omega)]; done) | (rw [if_neg (by omega)]; with_reducible rfl)))); (· (intro W hSw; (try dsimp only at hSw); first | (go_at_call 24; ((with_reducible refine (HO1.out _).mono ?_); rintro _ wz ⟨rfl, hb⟩; (refine ⟨?_, ?_⟩; (· with_reducible rfl); exact ⟨kc hb hSw.1, kc hb hSw.2.1, kc hb hSw.2.2.1, kc hb hSw.2.2.2.1, kb hSw.2.2.2.2 hb⟩))))); (try simp only [Act.put, List.setIfInBounds_toArray, List.set_cons_zero, List.set_cons_succ])))
              refine Plan.done ?_
              intro u6 T
              (try dsimp only at T)
              clear he_0 he_1 hle hne0 hne1 hke1 hne2 hke2 hB hsz
              obtain ⟨he_0, he_1, hf9_0, hf9_1, hB⟩ := T
              have hsz := hB.size
              have hle := klt he_0
              have hlf9 := klt hf9_0
              obtain ⟨hne0, hne1, hke1, hne2, hke2⟩ := ap0 hle
              obtain ⟨hnf90, hnf91, hkf91, hnf92, hkf92⟩ := ap0 hlf9
              go_wp2_with fail
              go_meet
              exact ⟨rfl, hB⟩
          · rcases HY.out with hye | ⟨rfl, rfl, rfl⟩ | ⟨rfl, rfl, rfl⟩
            · skip
              refine wp_region_plan (fun w' => w'.cell? ⟨u4.heap.size, 0, none⟩ = some (.int .u8 0) ∧ w'.cell? ⟨u4.heap.size, 1, none⟩ = some (.int .u8 0) ∧ w'.cell? ⟨u5.heap.size, 0, none⟩ = some (.int .u8 yv) ∧ w'.cell? ⟨u5.heap.size, 1, none⟩ = some (.int .u8 yt) ∧ Below wr.heap.size wr w') (by kernel_rfl) (by kernel_rfl) (by kernel_rfl) ?_ ?_
              · (try dsimp only)
                refine ⟨?_, ?_, ?_, ?_, ?_⟩ <;> first | (go_simp; done) | (simp [*]; done) | go_grown
              repeat (first
                | (refine Plan.val (v := ?_) ?_ ?_ ?_; rotate_left; (· rfl); (· (intro W hSw; (try dsimp only at hSw); go_simp; all_goals (first | (with_reducible rfl) | (constructor <;> (with_reducible rfl)) | (rw [if_neg (by omega)]; done) | (rw [if_neg (by omega)]; with_reducible rfl)))); (try simp only [Act.put, List.setIfInBounds_toArray, List.set_cons_zero, List.set_cons_succ]))
                | (refine Plan.no ?_ ?_; (· rfl); (try simp only [Act.put, List.setIfInBounds_toArray, List.set_cons_zero, List.set_cons_succ]))
                | (refine Plan.call (v := ?_) (f := ?_) (args := ?_) ?_ ?_ ?_ ?_; rotate_left 3; (· rfl); (· (intro W hSw; (try dsimp only at hSw); go_simp; all_goals (first | (with_reducible rfl) | (constructor <;> (with_reducible rfl)) | (rw [if_neg (by omega)]; done) | (rw [if_neg (by omega)]; with_reducible rfl)))); (· (intro W hSw; (try dsimp only at hSw); first | (go_at_call 24; ((with_reducible refine (HO1.out _).mono ?_); rintro _ wz ⟨rfl, hb⟩; (refine ⟨?_, ?_⟩; (· with_reducible rfl); exact ⟨kc hb hSw.1, kc hb hSw.2.1, kc hb hSw.2.2.1, kc hb hSw.2.2.2.1, kb hSw.2.2.2.2 hb⟩))))); (try simp only [Act.put, List.setIfInBounds_toArray, List.set_cons_zero, List.set_cons_succ])))
              refine Plan.done ?_
              intro u6 T
              (try dsimp only at T)
              clear he_0 he_1 hle hne0 hne1 hke1 hne2 hke2 hB hsz
              obtain ⟨he0_0, he0_1, hf_0, hf_1, hB⟩ := T
              have hsz := hB.size
              have hle0 := klt he0_0
              have hlf := klt hf_0
              obtain ⟨hne00, hne01, hke01, hne02, hke02⟩ := ap0 hle0
              obtain ⟨hnf0, hnf1, hkf1, hnf2, hkf2⟩ := ap0 hlf
              go_wp2_with fail
              go_meet
              exact ⟨rfl, hB⟩
            · skip
              refine wp_region_plan (fun w' => w'.cell? ⟨u4.heap.size, 0, none⟩ = some (.int .u8 0) ∧ w'.cell? ⟨u4.heap.size, 1, none⟩ = some (.int .u8 0) ∧ w'.cell? ⟨u5.heap.size, 0, none⟩ = some (.int .u8 0) ∧ w'.cell? ⟨u5.heap.size, 1, none⟩ = some (.int .u8 0) ∧ Below wr.heap.size wr w') (by kernel_rfl) (by kernel_rfl) (by kernel_rfl) ?_ ?_
              · (try dsimp only)
                refine ⟨?_, ?_, ?_, ?_, ?_⟩ <;> first | (go_simp; done) | (simp [*]; done) | go_grown
              repeat (first
                | (refine Plan.val (v := ?_) ?_ ?_ ?_; rotate_left; (· rfl); (· (intro W hSw; (try dsimp only at hSw); go_simp; all_goals (first | (with_reducible rfl) | (constructor <;> (with_reducible rfl)) | (rw [if_neg (by omega)]; done) | (rw [if_neg (by omega)]; with_reducible rfl)))); (try simp only [Act.put, List.setIfInBounds_toArray, List.set_cons_zero, List.set_cons_succ]))
                | (refine Plan.no ?_ ?_; (· rfl); (try simp only [Act.put, List.setIfInBounds_toArray, List.set_cons_zero, List.set_cons_succ]))
                | (refine Plan.call (v := ?_) (f := ?_) (args := ?_) ?_ ?_ ?_ ?_; rotate_left 3; (· rfl); (· (intro W hSw; (try dsimp only at hSw); go_simp; all_goals (first | (with_reducible rfl) | (constructor <;> (with_reducible rfl)) | (rw [if_neg (by omega)]; done) | (rw [if_neg (by omega)]; with_reducible rfl)))); (· (intro W hSw; (try dsimp only at hSw); first | (go_at_call 24; ((with_reducible refine (HO1.out _).mono ?_); rintro _ wz ⟨rfl, hb⟩; (refine ⟨?_, ?_⟩; (· with_reducible rfl); exact ⟨kc hb hSw.1, kc hb hSw.2.1, kc hb hSw.2.2.1, kc hb hSw.2.2.2.1, kb hSw.2.2.2.2 hb⟩))))); (try simp only [Act.put, List.setIfInBounds_toArray, List.set_cons_zero, List.set_cons_succ])))
              refine Plan.done ?_
              intro u6 T
              (try dsimp only at T)
              clear he_0 he_1 hle hne0 hne1 hke1 hne2 hke2 hB hsz
              obtain ⟨he0_0, he0_1, hf0_0, hf0_1, hB⟩ := T
              have hsz := hB.size
              have hle0 := klt he0_0
              have hlf0 := klt hf0_0
              obtain ⟨hne00, hne01, hke01, hne02, hke02⟩ := ap0 hle0
              obtain ⟨hnf00, hnf01, hkf01, hnf02, hkf02⟩ := ap0 hlf0
              go_wp2_with fail
              go_meet
              exact ⟨rfl, hB⟩
            · skip
              refine wp_region_plan (fun w' => w'.cell? ⟨u4.heap.size, 0, none⟩ = some (.int .u8 0) ∧ w'.cell? ⟨u4.heap.size, 1, none⟩ = some (.int .u8 0) ∧ w'.cell? ⟨u5.heap.size, 0, none⟩ = some (.int .u8 255) ∧ w'.cell? ⟨u5.heap.size, 1, none⟩ = some (.int .u8 0) ∧ Below wr.heap.size wr w') (by kernel_rfl) (by kernel_rfl) (by kernel_rfl) ?_ ?_
              · (try dsimp only)
                refine ⟨?_, ?_, ?_, ?_, ?_⟩ <;> first | (go_simp; done) | (simp [*]; done) | go_grown
              repeat (first
                | (refine Plan.val (v := ?_) ?_ ?_ ?_; rotate_left; (· rfl); (· (intro W hSw; (try dsimp only at hSw); go_simp; all_goals (first | (with_reducible rfl) | (constructor <;> (with_reducible rfl)) | (rw [if_neg (by omega)]; done) | (rw [if_neg (by omega)]; with_reducible rfl)))); (try simp only [Act.put, List.setIfInBounds_toArray, List.set_cons_zero, List.set_cons_succ]))
                | (refine Plan.no ?_ ?_; (· rfl); (try simp only [Act.put, List.setIfInBounds_toArray, List.set_cons_zero, List.set_cons_succ]))
                | (refine Plan.call (v := ?_) (f := ?_) (args := ?_) ?_ ?_ ?_ ?_; rotate_left 3; (· rfl); (· (intro W hSw; (try dsimp only at hSw); go_simp; all_goals (first | (with_reducible rfl) | (constructor <;> (with_reducible rfl)) | (rw [if_neg (by omega)]; done) | (rw [if_neg (by omega)]; with_reducible rfl)))); (· (intro W hSw; (try dsimp only at hSw); first | (go_at_call 24; ((with_reducible refine (HO1.out _).mono ?_); rintro _ wz ⟨rfl, hb⟩; (refine ⟨?_, ?_⟩; (· with_reducible rfl); exact ⟨kc hb hSw.1, kc hb hSw.2.1, kc hb hSw.2.2.1, kc hb hSw.2.2.2.1, kb hSw.2.2.2.2 hb⟩))))); (try simp only [Act.put, List.setIfInBounds_toArray, List.set_cons_zero, List.set_cons_succ])))
              refine Plan.done ?_
              intro u6 T
              (try dsimp only at T)
              clear he_0 he_1 hle hne0 hne1 hke1 hne2 hke2 hB hsz
              obtain ⟨he0_0, he0_1, hf9_0, hf9_1, hB⟩ := T
              have hsz := hB.size
              have hle0 := klt he0_0
              have hlf9 := klt hf9_0
              obtain ⟨hne00, hne01, hke01, hne02, hke02⟩ := ap0 hle0
              obtain ⟨hnf90, hnf91, hkf91, hnf92, hkf92⟩ := ap0 hlf9
              go_wp2_with fail
              go_meet
              exact ⟨rfl, hB⟩
          · rcases HY.out with hye | ⟨rfl, rfl, rfl⟩ | ⟨rfl, rfl, rfl⟩
            · skip
              refine wp_region_plan (fun w' => w'.cell? ⟨u4.heap.size, 0, none⟩ = some (.int .u8 255) ∧ w'.cell? ⟨u4.heap.size, 1, none⟩ = some (.int .u8 0) ∧ w'.cell? ⟨u5.heap.size, 0, none⟩ = some (.int .u8 yv) ∧ w'.cell? ⟨u5.heap.size, 1, none⟩ = some (.int .u8 yt) ∧ Below wr.heap.size wr w') (by kernel_rfl) (by kernel_rfl) (by kernel_rfl) ?_ ?_
              · (try dsimp only)
                refine ⟨?_, ?_, ?_, ?_, ?_⟩ <;> first | (go_simp; done) | (simp [*]; done) | go_grown
              repeat (first
                | (refine Plan.val (v := ?_) ?_ ?_ ?_; rotate_left; (· rfl); (· (intro W hSw; (try dsimp only at hSw); go_simp; all_goals (first | (with_reducible rfl) | (constructor <;> (with_reducible rfl)) | (rw [if_neg (by omega)]; done) | (rw [if_neg (by omega)]; with_reducible rfl)))); (try simp only [Act.put, List.setIfInBounds_toArray, List.set_cons_zero, List.set_cons_succ]))
                | (refine Plan.no ?_ ?_; (· rfl); (try simp only [Act.put, List.setIfInBounds_toArray, List.set_cons_zero, List.set_cons_succ]))
                | (refine Plan.call (v := ?_) (f := ?_) (args := ?_) ?_ ?_ ?_ ?_; rotate_left 3; (· rfl); (· (intro W hSw; (try dsimp only at hSw); go_simp; all_goals (first | (with_reducible rfl) | (constructor <;> (with_reducible rfl)) | (rw [if_neg (by omega)]; done) | (rw [if_neg (by omega)]; with_reducible rfl)))); (· (intro W hSw; (try dsimp only at hSw); first | (go_at_call 24; ((with_reducible refine (HO1.out _).mono ?_); rintro _ wz ⟨rfl, hb⟩; (refine ⟨?_, ?_⟩; (· with_reducible rfl); exact ⟨kc hb hSw.1, kc hb hSw.2.1, kc hb hSw.2.2.1, kc hb hSw.2.2.2.1, kb hSw.2.2.2.2 hb⟩))))); (try simp only [Act.put, List.setIfInBounds_toArray, List.set_cons_zero, List.set_cons_succ])))
              refine Plan.done ?_
              intro u6 T
              (try dsimp only at T)
              clear he_0 he_1 hle hne0 hne1 hke1 hne2 hke2 hB hsz
              obtain ⟨he9_0, he9_1, hf_0, hf_1, hB⟩ := T
              have hsz := hB.size
              have hle9 := klt he9_0
              have hlf := klt hf_0
              obtain ⟨hne90, hne91, hke91, hne92, hke92⟩ := ap0 hle9
              obtain ⟨hnf0, hnf1, hkf1, hnf2, hkf2⟩ := ap0 hlf
              go_wp2_with fail
              go_meet
              exact ⟨rfl, hB⟩
            · skip
              refine wp_region_plan (fun w' => w'.cell? ⟨u4.heap.size, 0, none⟩ = some (.int .u8 255) ∧ w'.cell? ⟨u4.heap.size, 1, none⟩ = some (.int .u8 0) ∧ w'.cell? ⟨u5.heap.size, 0, none⟩ = some (.int .u8 0) ∧ w'.cell? ⟨u5.heap.size, 1, none⟩ = some (.int .u8 0) ∧ Below wr.heap.size wr w') (by kernel_rfl) (by kernel_rfl) (by kernel_rfl) ?_ ?_
              · (try dsimp only)
                refine ⟨?_, ?_, ?_, ?_, ?_⟩ <;> first | (go_simp; done) | (simp [*]; done) | go_grown
              repeat (first
                | (refine Plan.val (v := ?_) ?_ ?_ ?_; rotate_left; (· rfl); (· (intro W hSw; (try dsimp only at hSw); go_simp; all_goals (first | (with_reducible rfl) | (constructor <;> (with_reducible rfl)) | (rw [if_neg (by omega)]; done) | (rw [if_neg (by omega)]; with_reducible rfl)))); (try simp only [Act.put, List.setIfInBounds_toArray, List.set_cons_zero, List.set_cons_succ]))
                | (refine Plan.no ?_ ?_; (· rfl); (try simp only [Act.put, List.setIfInBounds_toArray, List.set_cons_zero, List.set_cons_succ]))
                | (refine Plan.call (v := ?_) (f := ?_) (args := ?_) ?_ ?_ ?_ ?_; rotate_left 3; (· rfl); (· (intro W hSw; (try dsimp only at hSw); go_simp; all_goals (first | (with_reducible rfl) | (constructor <;> (with_reducible rfl)) | (rw [if_neg (by omega)]; done) | (rw [if_neg (by omega)]; with_reducible rfl)))); (· (intro W hSw; (try dsimp only at hSw); first | (go_at_call 24; ((with_reducible refine (HO1.out _).mono ?_); rintro _ wz ⟨rfl, hb⟩; (refine ⟨?_, ?_⟩; (· with_reducible rfl); exact ⟨kc hb hSw.1, kc hb hSw.2.1, kc hb hSw.2.2.1, kc hb hSw.2.2.2.1, kb hSw.2.2.2.2 hb⟩))))); (try simp only [Act.put, List.setIfInBounds_toArray, List.set_cons_zero, List.set_cons_succ])))
              refine Plan.done ?_
              intro u6 T
              (try dsimp only at T)
              clear he_0 he_1 hle hne0 hne1 hke1 hne2 hke2 hB hsz
              obtain ⟨he9_0, he9_1, hf0_0, hf0_1, hB⟩ := T
              have hsz := hB.size
              have hle9 := klt he9_0
              have hlf0 := klt hf0_0
              obtain ⟨hne90, hne91, hke91, hne92, hke92⟩ := ap0 hle9
              obtain ⟨hnf00, hnf01, hkf01, hnf02, hkf02⟩ := ap0 hlf0
              go_wp2_with fail
              go_meet
              exact ⟨rfl, hB⟩
            · skip
              refine wp_region_plan (fun w' => w'.cell? ⟨u4.heap.size, 0, none⟩ = some (.int .u8 255) ∧ w'.cell? ⟨u4.heap.size, 1, none⟩ = some (.int .u8 0) ∧ w'.cell? ⟨u5.heap.size, 0, none⟩ = some (.int .u8 255) ∧ w'.cell? ⟨u5.heap.size, 1, none⟩ = some (.int .u8 0) ∧ Below wr.heap.size wr w') (by kernel_rfl) (by kernel_rfl) (by kernel_rfl) ?_ ?_
              · (try dsimp only)
                refine ⟨?_, ?_, ?_, ?_, ?_⟩ <;> first | (go_simp; done) | (simp [*]; done) | go_grown
              repeat (first
                | (refine Plan.val (v := ?_) ?_ ?_ ?_; rotate_left; (· rfl); (· (intro W hSw; (try dsimp only at hSw); go_simp; all_goals (first | (with_reducible rfl) | (constructor <;> (with_reducible rfl)) | (rw [if_neg (by omega)]; done) | (rw [if_neg (by omega)]; with_reducible rfl)))); (try simp only [Act.put, List.setIfInBounds_toArray, List.set_cons_zero, List.set_cons_succ]))
                | (refine Plan.no ?_ ?_; (· rfl); (try simp only [Act.put, List.setIfInBounds_toArray, List.set_cons_zero, List.set_cons_succ]))
                | (refine Plan.call (v := ?_) (f := ?_) (args := ?_) ?_ ?_ ?_ ?_; rotate_left 3; (· rfl); (· (intro W hSw; (try dsimp only at hSw); go_simp; all_goals (first | (with_reducible rfl) | (constructor <;> (with_reducible rfl)) | (rw [if_neg (by omega)]; done) | (rw [if_neg (by omega)]; with_reducible rfl)))); (· (intro W hSw; (try dsimp only at hSw); first | (go_at_call 24; ((with_reducible refine (HO1.out _).mono ?_); rintro _ wz ⟨rfl, hb⟩; (refine ⟨?_, ?_⟩; (· with_reducible rfl); exact ⟨kc hb hSw.1, kc hb hSw.2.1, kc hb hSw.2.2.1, kc hb hSw.2.2.2.1, kb hSw.2.2.2.2 hb⟩))))); (try simp only [Act.put, List.setIfInBounds_toArray, List.set_cons_zero, List.set_cons_succ])))
              refine Plan.done ?_
              intro u6 T
              (try dsimp only at T)
              clear he_0 he_1 hle hne0 hne1 hke1 hne2 hke2 hB hsz
              obtain ⟨he9_0, he9_1, hf9_0, hf9_1, hB⟩ := T
              have hsz := hB.size
              have hle9 := klt he9_0
              have hlf9 := klt hf9_0
              obtain ⟨hne90, hne91, hke91, hne92, hke92⟩ := ap0 hle9
              obtain ⟨hnf90, hnf91, hkf91, hnf92, hkf92⟩ := ap0 hlf9
              go_wp2_with fail
              go_meet
              exact ⟨rfl, hB⟩
        case rest =>
          obtain ⟨wd, hwd⟩ : ∃ W, W = wc := ⟨_, rfl⟩
          rw [← hwd] at hcut ⊢
          clear hwd
          obtain ⟨rfl, hcut⟩ := hcut
          have HPd := Lib.hid (HPr.out.below hcut)
          have HBd := Lib.hid (kb hBr hcut)
          have hc1 : (1 : Int) ≤ (bc : Int) := by omega
          have hc2 : 1 ≤ bc := by omega
          go_wp2_with fail
          refine (HC6.out _ mb bb HPd.out HBd.out (by omega)).mono ?_
          rintro _ u8 ⟨rfl, hg8, hP8⟩
          have HB8 := Lib.hid (below_grown2 HBd.out hg8 (by omega))
          have HP8 := Lib.hid hP8
          have hxs_0 := kc HB8.out hxx
          have HA8 := Lib.hid (fun W (h : Below u8.heap.size u8 W) => HA.out W (kb HB8.out h))
          have hg8' : g < u8.heap.size := klt hxs_0
          clear hP8 hg8
          go_wp2_with fail
          ((with_reducible refine (HC7.out _ mb bb HP8.out HB8.out).mono ?_); rintro _ u9 ⟨rfl, hb⟩)
          have T : u9.cell? ⟨g, o, none⟩ = some (.int .u8 b0) := by
              refine kc hb ?_ <;> (go_simp; first | done | rfl)
          have hz := hb.size
          (try simp only [World.size_alloc, World.size_setCell, World.size_drew] at hz)
          have L : g < u9.heap.size := by omega
          have hB' : Below u8.heap.size u8 u9 := by
              refine kb ?_ hb
              go_grown
          clear he_0 he_1 hle hne0 hne1 hke1 hne2 hke2 hB hsz
          clear hb hz
          have hxs_0 := T; clear T
          have hlxs := L; clear L
          obtain ⟨hnxs0, hnxs1, hkxs1, hnxs2, hkxs2⟩ := ap0 hlxs
          have hB := hB'; clear hB'
          have hsz := hB.size
          go_wp2_with fail
          have hm3 : (0 : Int) < (m : Int) := by omega
          have hm4 : 0 < m := by omega
          refine wp_region_plan (fun w' => w'.cell? ⟨u9.heap.size, 0, none⟩ = some (.int .u8 b0) ∧ w'.cell? ⟨u9.heap.size, 1, none⟩ = some (.int .u8 0) ∧ w'.cell? ⟨g, o, none⟩ = some (.int .u8 b0) ∧ Below u8.heap.size u8 w') (by kernel_rfl) (by kernel_rfl) (by kernel_rfl) ?_ ?_
          · (try dsimp only)
            refine ⟨?_, ?_, ?_, ?_⟩ <;> first | (go_simp; done) | (simp [*]; done) | go_grown
          repeat (first
            | (refine Plan.val (v := ?_) ?_ ?_ ?_; rotate_left; (· rfl); (· (intro W hSw; (try dsimp only at hSw); go_simp; all_goals (first | (with_reducible rfl) | (constructor <;> (with_reducible rfl)) | (rw [if_neg (by omega)]; done) | (rw [if_neg (by omega)]; with_reducible rfl)))); (try simp only [Act.put, List.setIfInBounds_toArray, List.set_cons_zero, List.set_cons_succ]))
            | (refine Plan.no ?_ ?_; (· rfl); (try simp only [Act.put, List.setIfInBounds_toArray, List.set_cons_zero, List.set_cons_succ]))
            | (refine Plan.call (v := ?_) (f := ?_) (args := ?_) ?_ ?_ ?_ ?_; rotate_left 3; (· rfl); (· (intro W hSw; (try dsimp only at hSw); go_simp; all_goals (first | (with_reducible rfl) | (constructor <;> (with_reducible rfl)) | (rw [if_neg (by omega)]; done) | (rw [if_neg (by omega)]; with_reducible rfl)))); (· (intro W hSw; (try dsimp only at hSw); first | (go_at_call 24; ((with_reducible refine (HO2.out _).mono ?_); rintro _ wz ⟨rfl, hb⟩; (refine ⟨?_, ?_⟩; (· with_reducible rfl); exact ⟨kc hb hSw.1, kc hb hSw.2.1, kc hb hSw.2.2.1, kb hSw.2.2.2 hb⟩))) | (go_at_call 10; ((with_reducible refine (HA8.out _ hSw.2.2.2).mono ?_); rintro _ wz ⟨rfl, hb⟩; (refine ⟨?_, ?_⟩; (· with_reducible rfl); exact ⟨kc hb hSw.1, kc hb hSw.2.1, kc hb hSw.2.2.1, kb hSw.2.2.2 hb⟩))))); (try simp only [Act.put, List.setIfInBounds_toArray, List.set_cons_zero, List.set_cons_succ])))
          refine Plan.done ?_
          intro u10 T
          (try dsimp only at T)
          clear hxs_0 hlxs hnxs0 hnxs1 hkxs1 hnxs2 hkxs2 hB hsz
          obtain ⟨hz_0, hz_1, hxs_0, hB⟩ := T
          have hsz := hB.size
          have hlz := klt hz_0
          have hlxs := klt hxs_0
          obtain ⟨hnz0, hnz1, hkz1, hnz2, hkz2⟩ := ap0 hlz
          obtain ⟨hnxs0, hnxs1, hkxs1, hnxs2, hkxs2⟩ := ap0 hlxs
          go_wp2
          go_ret
          exact ⟨rfl, kb HB8.out hB⟩
end Go.Proofs.YtoakgchfdihjbaaDoor
