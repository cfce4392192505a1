/-
  Layer 8's document: its row of what was put where, and the byte at an address.
-/
import Derived.Test.YtcnejgilmciljaaGreatDoorKind8
import Derived.Test.YtcnejgilmciljaaGreatDoorEnts
import Derived.Deep.DeepCutAuto
set_option linter.unusedSimpArgs false
set_option linter.unusedVariables false
namespace Go.Proofs.YtcnejgilmciljaaGreatDoor
open Go.RowKit Go.PlainAid

/-- What was put: where, and the byte's two numbers. -/
structure Pt where
  a : Int
  v : Int
  t : Int
instance : Inhabited Pt := ⟨⟨0, 0, 0⟩⟩
def Pt.cells (x : Pt) : List Value := [.int .i64 x.a, .int .u8 x.v, .int .u8 x.t]
theorem pt_len (x : Pt) : x.cells.length = 3 := rfl
theorem pt_one (x : Pt) : ∀ u ∈ x.cells, u.oneCell' = true := by
  intro u hu
  simp only [Pt.cells, List.mem_cons, List.not_mem_nil, or_false] at hu
  rcases hu with rfl | rfl | rfl <;> rfl
/-- The last of the first k that was put there. -/
def lastK (L : List Pt) (a : Int) : Nat → Int × Int
  | 0 => (0, 0)
  | k + 1 => match L[k]? with
    | some x => if x.a = a then (x.v, x.t) else lastK L a k
    | none => lastK L a k
def lastP (L : List Pt) (a : Int) : Int × Int := lastK L a L.length
def atP (L : List Pt) (a : Int) : Int × Int := if ramB a = false ∧ romB a = false then (255, 0) else lastP L a
/-- The document's memory at the block mb; its row lies from S0 on. -/
structure Rm (mb S0 : Nat) (w : World) (L : List Pt) (v : Value) : Prop where
  c0 : w.cell? ⟨mb, 0, none⟩ = some v
  ow : w.ownsRow S0 103 3 v L.length (L.flatMap Pt.cells)
  fr : w.frozen? ⟨mb, 0, none⟩ = false
  lt : mb < S0
  sz : S0 ≤ w.heap.size
theorem Rm.on {mb S0 : Nat} {w u : World} {L : List Pt} {v : Value} (h : Rm mb S0 w L v) (hb : Below w.heap.size w u) : Rm mb S0 u L v :=
  ⟨kc hb h.c0, own_below h.ow hb, kfz hb (klt h.c0) h.fr, h.lt, Nat.le_trans h.sz hb.size⟩
theorem get3p {w : World} {g o k : Nat} {l : List Pt} {x : Pt} (h : ∀ j (x : Pt), l[j]? = some x → ∀ i u, x.cells[i]? = some u → w.cell? ⟨g, o + j * 3 + i, none⟩ = some u) (hx : l[k]? = some x) :
    w.cell? ⟨g, o + k * 3, none⟩ = some (.int .i64 x.a) ∧ w.cell? ⟨g, o + k * 3 + 1, none⟩ = some (.int .u8 x.v) ∧ w.cell? ⟨g, o + k * 3 + 2, none⟩ = some (.int .u8 x.t) :=
  ⟨h k x hx 0 _ rfl, h k x hx 1 _ rfl, h k x hx 2 _ rfl⟩
set_option maxRecDepth 100000 in
set_option maxHeartbeats 2000000 in
theorem atn_c (L : List Pt) (hl : L.length ≤ 100000) (a : Int) (mb S0 : Nat) (v : Value) (w : World) (hc0 : w.cell? ⟨mb, 0, none⟩ = some v) (how : w.ownsRow S0 103 3 v L.length (L.flatMap Pt.cells)) :
    Calls Tryz.prog 48 #[.pointer (some ⟨mb, 0, none⟩), .int .i64 a] w fun e w' => e = .returned (.agg #[.int .u8 (atP L a).1, .int .u8 (atP L a).2]) ∧ Below w.heap.size w w' := by
  have H1 := Lib.hid (fun W => ramr_c a W)
  have H2 := Lib.hid (fun W => romr_c a W)
  obtain ⟨R, hRR⟩ : ∃ R, atP L a = R := ⟨_, rfl⟩
  rw [hRR]
  have HR := Lib.hid hRR
  clear hRR
  unfold atP at HR
  generalize ramB a = B1 at *
  generalize romB a = B2 at *
  have HH := Lib.hid (HoldsW.own pt_len how)
  have hmw : mb < w.heap.size := klt hc0
  obtain ⟨p, c, rfl⟩ := own_form how
  obtain ⟨n, hn⟩ : ∃ n, L.length = n := ⟨_, rfl⟩
  rw [hn] at hc0 hl
  have HN := Lib.hid hn
  clear how hn
  have hm_0 := hc0
  clear hc0
  go_enter Tryz.func48, Tryz.ntmps48
  go_upto_region 1 with fail
  go_cut [13] (fun s13 wx => s13 = .bool (!B1 && !B2) ∧ wx.cell? ⟨w.heap.size, 0, none⟩ = some (.int .u8 0) ∧ wx.frozen? ⟨w.heap.size, 0, none⟩ = false ∧ wx.cell? ⟨w.heap.size, 1, none⟩ = some (.int .u8 0) ∧ wx.frozen? ⟨w.heap.size, 1, none⟩ = false ∧ wx.cell? ⟨mb, 0, none⟩ = some (.slice p n c) ∧ Below w.heap.size w wx)
  case first =>
    go_wp2_with fail
    ((with_reducible refine (H1.out _).mono ?_); rintro _ u1 ⟨rfl, hb⟩)
    have T : CF u1 w.heap.size 0 (.int .u8 0) ∧ CF u1 w.heap.size 1 (.int .u8 0) ∧ u1.cell? ⟨mb, 0, none⟩ = some (.slice p n c) := by
        refine ⟨⟨?_, ?_⟩, ⟨?_, ?_⟩, ?_⟩ <;> first | (refine kc hb ?_ <;> (go_simp; first | done | rfl)) | (refine kfz hb ?_ ?_ <;> first | (go_size; done) | (go_simp; done))
    have hz := hb.size
    (try simp only [World.size_alloc, World.size_setCell, World.size_drew] at hz)
    have L : w.heap.size < u1.heap.size ∧ mb < u1.heap.size := by omega
    have hB' : Below w.heap.size w u1 := by
        refine kb ?_ hb
        go_grown
    clear hb hz
    obtain ⟨⟨hz_0, fz_0⟩, ⟨hz_1, fz_1⟩, hm_0⟩ := T
    obtain ⟨hlz, hlm⟩ := L
    obtain ⟨hnz0, hnz1, hkz1, hnz2, hkz2⟩ := ap0 hlz
    obtain ⟨hnm0, hnm1, hkm1, hnm2, hkm2⟩ := ap0 hlm
    have hB := hB'; clear hB'
    have hsz := hB.size
    cases B1
    · go_wp2_with fail
      ((with_reducible refine (H2.out _).mono ?_); rintro _ u2 ⟨rfl, hb⟩)
      have T : CF u2 w.heap.size 0 (.int .u8 0) ∧ CF u2 w.heap.size 1 (.int .u8 0) ∧ u2.cell? ⟨mb, 0, none⟩ = some (.slice p n c) := by
          refine ⟨⟨?_, ?_⟩, ⟨?_, ?_⟩, ?_⟩ <;> first | (refine kc hb ?_ <;> (go_simp; first | done | rfl)) | (refine kfz hb ?_ ?_ <;> first | (go_size; done) | (go_simp; done))
      have hz := hb.size
      (try simp only [World.size_alloc, World.size_setCell, World.size_drew] at hz)
      have L : w.heap.size < u2.heap.size ∧ mb < u2.heap.size := by omega
      have hB' : Below w.heap.size w u2 := by
          refine kb ?_ hb
          go_grown
      clear hz_0 fz_0 hz_1 fz_1 hm_0 hlz hlm hnz0 hnz1 hkz1 hnz2 hkz2 hnm0 hnm1 hkm1 hnm2 hkm2 hB hsz
      clear hb hz
      obtain ⟨⟨hz_0, fz_0⟩, ⟨hz_1, fz_1⟩, hm_0⟩ := T
      obtain ⟨hlz, hlm⟩ := L
      obtain ⟨hnz0, hnz1, hkz1, hnz2, hkz2⟩ := ap0 hlz
      obtain ⟨hnm0, hnm1, hkm1, hnm2, hkm2⟩ := ap0 hlm
      have hB := hB'; clear hB'
      have hsz := hB.size
      cases B2
      · go_wp2_with fail
        go_meet
        exact ⟨rfl, ⟨hz_0, fz_0, hz_1, fz_1, hm_0, hB⟩⟩
      · go_wp2_with fail
        go_meet
        exact ⟨rfl, ⟨hz_0, fz_0, hz_1, fz_1, hm_0, hB⟩⟩
    · go_wp2_with fail
      go_meet
      exact ⟨rfl, ⟨hz_0, fz_0, hz_1, fz_1, hm_0, hB⟩⟩
  case rest =>
    obtain ⟨wd, hwd⟩ : ∃ W, W = wc := ⟨_, rfl⟩
    rw [← hwd] at hcut ⊢
    clear hwd
    obtain ⟨rfl, hcut⟩ := hcut
    obtain ⟨hz_0, fz_0, hz_1, fz_1, hm_0, hB⟩ := hcut
    have hsz := hB.size
    have hlz := klt hz_0
    have hlm := klt hm_0
    obtain ⟨hnz0, hnz1, hkz1, hnz2, hkz2⟩ := ap0 hlz
    obtain ⟨hnm0, hnm1, hkm1, hnm2, hkm2⟩ := ap0 hlm
    obtain ⟨D, hD⟩ : ∃ D, (!B1 && !B2) = D := ⟨_, rfl⟩
    rw [hD]
    have HD := Lib.hid hD
    clear hD
    cases D
    · have HF := Lib.hid (show lastK L a n = R from by
        have h := HR.out
        have hd := HD.out
        rw [if_neg (by rintro ⟨h1, h2⟩; rw [h1, h2] at hd; cases hd)] at h
        unfold lastP at h
        rw [HN.out] at h
        exact h)
      have hw0 : IntKind.i64.wrap ((n : Int) - 1) = (n : Int) - 1 := IntWalk.i64_in _ (by omega)
      go_wp2_with fail
      go_loopw [5] (fun i wr => ∃ k : Nat, k ≤ n ∧ i = .int .i64 ((k : Int) - 1) ∧ Hid (lastK L a k = R) ∧ wr.cell? ⟨w.heap.size, 0, none⟩ = some (.int .u8 0) ∧ wr.frozen? ⟨w.heap.size, 0, none⟩ = false ∧ wr.cell? ⟨w.heap.size, 1, none⟩ = some (.int .u8 0) ∧ wr.frozen? ⟨w.heap.size, 1, none⟩ = false ∧ wr.cell? ⟨mb, 0, none⟩ = some (.slice p n c) ∧ Below w.heap.size w wr) (fun i _ => (intOf i + 1).toNat)
      case atStart => exact ⟨n, Nat.le_refl n, rfl, HF, by go_simp, by go_simp, by go_simp, by go_simp, by go_simp, by go_grown⟩
      case round =>
        obtain ⟨k, hk, rfl, HK, hrel⟩ := hrel
        clear hz_0 fz_0 hz_1 fz_1 hm_0 hB hsz hlz hlm hnz0 hnz1 hkz1 hnz2 hkz2 hnm0 hnm1 hkm1 hnm2 hkm2
        obtain ⟨hz_0, fz_0, hz_1, fz_1, hm_0, hB⟩ := hrel
        have hsz := hB.size
        have hlz := klt hz_0
        have hlm := klt hm_0
        obtain ⟨hnz0, hnz1, hkz1, hnz2, hkz2⟩ := ap0 hlz
        obtain ⟨hnm0, hnm1, hkm1, hnm2, hkm2⟩ := ap0 hlm
        cases k with
        | zero =>
          have HF0 := Lib.hid (show R = (0, 0) from HK.out.symm)
          have hd0 : decide ((0 : Int) ≤ ((0 : Nat) : Int) - 1) = false := decide_eq_false (by omega)
          go_wp2
          refine bodyPost_ret (v := .agg #[.int .u8 0, .int .u8 0]) (by simp [results, Tryz.results48, go_sem, hz_0, hz_1] <;> first | done | rfl) rfl ⟨by rw [HF0.out], by go_grown⟩
        | succ k =>
          have hlt : k < L.length := by have := HN.out; omega
          have hkn : k < n := by omega
          obtain ⟨g, o, cap, e1, hcap, hcc⟩ := HH.out.some (by omega)
          obtain ⟨rfl, n1, rfl⟩ := Value.slice.inj e1
          clear e1 n1
          obtain ⟨x, hx⟩ : ∃ x, L[k]? = some x := ⟨_, List.getElem?_eq_getElem hlt⟩
          obtain ⟨x0, x1, x2⟩ := get3p hcc hx
          have hst := HK.out
          rw [lastK, hx] at hst
          dsimp only at hst
          obtain ⟨xa, xv, xt⟩ := x
          dsimp only at x0 x1 x2 hst
          have hx_0 := kc hB x0
          have hx_1 := kc hB x1
          have hx_2 := kc hB x2
          have hk1 : ((k + 1 : Nat) : Int) - 1 = (k : Int) := by omega
          rw [hk1]
          have hd0 : decide ((0 : Int) ≤ (k : Int)) = true := decide_eq_true (by omega)
          have hin : (0 : Int) ≤ (k : Int) ∧ (k : Int) < (n : Int) := by omega
          have hw1 : IntKind.i64.wrap ((k : Int) - 1) = (k : Int) - 1 := IntWalk.i64_in _ (by omega)
          have hgw : g < w.heap.size := klt x0
          have HST := Lib.hid hst
          clear hcc hx x0 x1 x2 hst hk1 HK
          by_cases he : xa = a
          · have he1 : (xa == a) = true := by simp [he]
            have HF2 := Lib.hid (show R = (xv, xt) from by rw [← HST.out, if_pos he])
            clear HST
            go_wp2
            refine bodyPost_ret (v := .agg #[.int .u8 xv, .int .u8 xt]) (by simp [results, Tryz.results48, go_sem, hz_0, hz_1] <;> first | done | rfl) rfl ⟨by rw [HF2.out], by go_grown⟩
          · have he1 : (xa == a) = false := by simpa using he
            have HF2 := Lib.hid (show lastK L a k = R from by rw [← HST.out, if_neg he])
            clear HST
            go_wp2
            go_roundw
            case rel => exact ⟨k, by omega, rfl, HF2, by go_simp, by go_simp, by go_simp, by go_simp, by go_simp, by go_grown⟩
            case measure => simp [intOf] <;> omega
    · have HF := Lib.hid (show R = (255, 0) from by
        have h := HR.out
        have hd := HD.out
        rw [if_pos (by revert hd; cases B1 <;> cases B2 <;> simp)] at h
        exact h.symm)
      go_wp2
      refine bodyPost_ret (v := .agg #[.int .u8 255, .int .u8 0]) (by simp [results, Tryz.results48, go_sem, hz_0, hz_1] <;> first | done | rfl) rfl ⟨by rw [HF.out], by go_grown⟩
theorem atr_c (L : List Pt) (hl : L.length ≤ 100000) (a : Int) (mb S0 : Nat) (v : Value) (w : World) (hR : Rm mb S0 w L v) :
    Calls Tryz.prog 48 #[.pointer (some ⟨mb, 0, none⟩), .int .i64 a] w fun e w' => e = .returned (.agg #[.int .u8 (atP L a).1, .int .u8 (atP L a).2]) ∧ Below w.heap.size w w' := atn_c L hl a mb S0 v w hR.c0 hR.ow
end Go.Proofs.YtcnejgilmciljaaGreatDoor
