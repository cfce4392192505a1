/-
  The law's example.
-/
import Derived.Test.YtbahjcnamalhcaaClonep11
set_option linter.unusedSimpArgs false
set_option linter.unusedVariables false
namespace Go.Proofs.Ytbahjcnamalhcaa
open Go.RowKit Go.PlainAid

section
variable {F G F' G' : Nat → Prop} {w u : World}
theorem Mv.cell (h : Mv F G F' G' w u) {b o : Nat} {x : Value} (hc : w.cell? ⟨b, o, none⟩ = some x) (hn : ¬ F b) : u.cell? ⟨b, o, none⟩ = some x := h.fr.cell hc hn
theorem Mv.froz (h : Mv F G F' G' w u) {b o : Nat} (hb : b < w.heap.size) (hc : w.frozen? ⟨b, o, none⟩ = false) (hn : ¬ F b) : u.frozen? ⟨b, o, none⟩ = false := h.fr.frozen hb hc hn
theorem Mv.off (h : Mv F G F' G' w u) {b : Nat} (hb : b < w.heap.size) (hn : ¬ F b) : ¬ F' b := fun hf => (h.f b hf).elim hn (fun h1 => by omega)
end
theorem holds_one {W : World} (x : Int) (T : TypeId) : HoldsW bE 1 (W.alloc (.cells #[.int .u8 x] T)) (.slice (some ⟨W.heap.size, 0, none⟩) 1 1) [x] := by
  refine .inr ⟨W.heap.size, 0, 1, rfl, Nat.le_refl _, fun j z hz i u hu => ?_⟩
  have := one_at (W := W) T (.int .u8 x)
  match j, hz with
  | 0, hz =>
    obtain rfl : x = z := by simpa using hz
    have := this i u hu
    rwa [Addr.add_lit] at this
  | j + 1, hz => simp at hz
set_option maxRecDepth 100000 in
set_option maxHeartbeats 8000000 in
theorem awake11_c (w : World) : Calls Try.prog 8 #[] w fun e w' => e = .returned (.bool true) ∧ Below w.heap.size w w' := by
  have HN := Lib.hid (fun W v (hv : HoldsW bE 1 W v [5]) => newp_c [5] [] (by decide) (by decide) v (.slice none 0 0) W hv (HoldsW.nil _))
  have HR1 : Hid (∀ pb F G W, PO pb ⟨[5], [], [], [], [], []⟩ F G W → Calls Try.prog 14 #[.pointer (some ⟨pb, 0, none⟩), .int .i64 0] W (PEnd pb ⟨[], [], [], [], [], []⟩ F G (.tuple #[.agg #[.int .u8 5, .int .u8 0], .int .i64 0]) W)) := Lib.hid (fun pb F G W h => readp_c pb _ F G 0 rfl W h)
  have HR2 : Hid (∀ pb F G W, PO pb ⟨[], [], [], [], [], []⟩ F G W → Calls Try.prog 14 #[.pointer (some ⟨pb, 0, none⟩), .int .i64 0] W (PEnd pb ⟨[], [], [], [], [], []⟩ F G (.tuple #[.agg #[.int .u8 0, .int .u8 0], .int .i64 0]) W)) := Lib.hid (fun pb F G W h => readp_c pb _ F G 0 rfl W h)
  have HW : Hid (∀ pb F G W, PO pb ⟨[], [], [], [], [], []⟩ F G W → Calls Try.prog 15 #[.pointer (some ⟨pb, 0, none⟩), .int .i64 4, .agg #[.int .u8 7, .int .u8 255], .int .i64 12] W (PEnd pb ⟨[], [], [], [], [12], [7]⟩ F G (.tuple #[.int .i64 0, .int .i64 0]) W)) := Lib.hid (fun pb F G W h => writep_c pb _ F G 4 7 255 12 (by decide) rfl W h)
  have HR3 : Hid (∀ pb F G W, PO pb ⟨[], [], [], [], [12], [7]⟩ F G W → Calls Try.prog 14 #[.pointer (some ⟨pb, 0, none⟩), .int .i64 4] W (PEnd pb ⟨[], [], [], [], [12], [7]⟩ F G (.tuple #[.agg #[.int .u8 7, .int .u8 0], .int .i64 0]) W)) := Lib.hid (fun pb F G W h => readp_c pb _ F G 4 rfl W h)
  have HL : Hid (∀ pb F G W, PO pb ⟨[], [], [], [], [12], [7]⟩ F G W → Calls Try.prog 19 #[.pointer (some ⟨pb, 0, none⟩)] W fun e w' => ∃ v', e = .returned v' ∧ w'.ownsRow W.heap.size 58 2 v' 1 [.int .i64 12, .int .u8 7] ∧ Below W.heap.size W w') := Lib.hid (fun pb F G W h => out_e pb _ ⟨by decide, by decide, by decide, by decide, by decide, rfl⟩ F G W h)
  go_enter Try.func8, Try.ntmps8
  go_wp2_with fail
  refine (HN.out _ _ (holds_one _ _)).mono ?_
  rintro _ u ⟨pb, F, G, rfl, hP, hG, hpb, hb⟩
  have HP := Lib.hid hP
  have HB := Lib.hid (show Below w.heap.size w u from kb ((Below.refl _ _).alloc (Nat.le_refl _) _) hb)
  have hlow : ∀ b, F b → w.heap.size ≤ b := fun b hf => by have := hG b ((PO.frm _ _).sub hP b hf); simp only [World.size_alloc] at this; omega
  have hlow := Lib.hid hlow
  clear hP hG hb
  unfold okV
  have hBu := Below.refl u.heap.size u
  have hFl := Lib.hid (fun b hf => (PO.frm _ _).lt HP.out b ((PO.frm _ _).sub HP.out b hf))
  have hwl : w.heap.size ≤ u.heap.size := HB.out.size
  go_wp2_with fail
  refine (HR1.out _ F G _ ((PO.frm _ _).below HP.out ?bel)).mono ?_
  case bel => go_grown
  rintro _ u2 ⟨rfl, F2, G2, hP, hM⟩
  have HP := Lib.hid hP
  have hMs := hM.fr.size
  (try simp only [World.size_alloc, World.size_setCell, World.size_drew] at hMs)
  have hb' := Fr.toBelow (N := w.heap.size) (w0 := w) (kb HB.out (show Below u.heap.size u _ from by go_grown)) hM.fr hlow.out (Nat.le_refl _)
  have HB := Lib.hid hb'
  have hlo : ∀ b, F2 b → w.heap.size ≤ b := fun b hf => (hM.f b hf).elim (hlow.out b) (fun h1 => by have := hwl; (try simp only [World.size_alloc, World.size_setCell, World.size_drew] at h1); omega)
  have hlow := Lib.hid hlo
  have hwl : w.heap.size ≤ u2.heap.size := HB.out.size
  have hFl := Lib.hid (fun b hf => (PO.frm _ _).lt HP.out b ((PO.frm _ _).sub HP.out b hf))
  clear hP hM hb' hlo hBu hMs
  have hBu := Below.refl u2.heap.size u2
  have na : ¬ F2 u2.heap.size := fun hf => by have := hFl.out _ hf; omega
  go_wp2_with fail
  refine (HR2.out _ F2 G2 _ ((PO.frm _ _).below HP.out ?bel)).mono ?_
  case bel => go_grown
  rintro _ u3 ⟨rfl, F3, G3, hP, hM⟩
  have HP := Lib.hid hP
  have hMs := hM.fr.size
  (try simp only [World.size_alloc, World.size_setCell, World.size_drew] at hMs)
  have ha_0 : u3.cell? ⟨u2.heap.size, 0, none⟩ = some (.int .u8 5) := hM.cell (by go_simp; first | done | rfl) na
  have ha_1 : u3.cell? ⟨u2.heap.size, 1, none⟩ = some (.int .u8 0) := hM.cell (by go_simp; first | done | rfl) na
  have la : u2.heap.size < u3.heap.size := klt ha_0
  have na : ¬ F3 u2.heap.size := hM.off (by first | go_size | (simp; omega)) na
  have hb' := Fr.toBelow (N := w.heap.size) (w0 := w) (kb HB.out (show Below u2.heap.size u2 _ from by go_grown)) hM.fr hlow.out (Nat.le_refl _)
  have HB := Lib.hid hb'
  have hlo : ∀ b, F3 b → w.heap.size ≤ b := fun b hf => (hM.f b hf).elim (hlow.out b) (fun h1 => by have := hwl; (try simp only [World.size_alloc, World.size_setCell, World.size_drew] at h1); omega)
  have hlow := Lib.hid hlo
  have hwl : w.heap.size ≤ u3.heap.size := HB.out.size
  have hFl := Lib.hid (fun b hf => (PO.frm _ _).lt HP.out b ((PO.frm _ _).sub HP.out b hf))
  clear hP hM hb' hlo hBu hMs
  have hBu := Below.refl u3.heap.size u3
  have nb : ¬ F3 u3.heap.size := fun hf => by have := hFl.out _ hf; omega
  go_wp2_with fail
  refine (HW.out _ F3 G3 _ ((PO.frm _ _).below HP.out ?bel)).mono ?_
  case bel => go_grown
  rintro _ u4 ⟨rfl, F4, G4, hP, hM⟩
  have HP := Lib.hid hP
  have hMs := hM.fr.size
  (try simp only [World.size_alloc, World.size_setCell, World.size_drew] at hMs)
  have ha_0 : u4.cell? ⟨u2.heap.size, 0, none⟩ = some (.int .u8 5) := hM.cell (by go_simp; first | done | rfl) na
  have ha_1 : u4.cell? ⟨u2.heap.size, 1, none⟩ = some (.int .u8 0) := hM.cell (by go_simp; first | done | rfl) na
  have la : u2.heap.size < u4.heap.size := klt ha_0
  have na : ¬ F4 u2.heap.size := hM.off (by first | go_size | (simp; omega)) na
  have hb_0 : u4.cell? ⟨u3.heap.size, 0, none⟩ = some (.int .u8 0) := hM.cell (by go_simp; first | done | rfl) nb
  have hb_1 : u4.cell? ⟨u3.heap.size, 1, none⟩ = some (.int .u8 0) := hM.cell (by go_simp; first | done | rfl) nb
  have lb : u3.heap.size < u4.heap.size := klt hb_0
  have nb : ¬ F4 u3.heap.size := hM.off (by first | go_size | (simp; omega)) nb
  have hb' := Fr.toBelow (N := w.heap.size) (w0 := w) (kb HB.out (show Below u3.heap.size u3 _ from by go_grown)) hM.fr hlow.out (Nat.le_refl _)
  have HB := Lib.hid hb'
  have hlo : ∀ b, F4 b → w.heap.size ≤ b := fun b hf => (hM.f b hf).elim (hlow.out b) (fun h1 => by have := hwl; (try simp only [World.size_alloc, World.size_setCell, World.size_drew] at h1); omega)
  have hlow := Lib.hid hlo
  have hwl : w.heap.size ≤ u4.heap.size := HB.out.size
  have hFl := Lib.hid (fun b hf => (PO.frm _ _).lt HP.out b ((PO.frm _ _).sub HP.out b hf))
  clear hP hM hb' hlo hBu hMs
  have hBu := Below.refl u4.heap.size u4
  go_wp2_with fail
  refine (HR3.out _ F4 G4 _ ((PO.frm _ _).below HP.out ?bel)).mono ?_
  case bel => go_grown
  rintro _ u5 ⟨rfl, F5, G5, hP, hM⟩
  have HP := Lib.hid hP
  have hMs := hM.fr.size
  (try simp only [World.size_alloc, World.size_setCell, World.size_drew] at hMs)
  have ha_0 : u5.cell? ⟨u2.heap.size, 0, none⟩ = some (.int .u8 5) := hM.cell (by go_simp; first | done | rfl) na
  have ha_1 : u5.cell? ⟨u2.heap.size, 1, none⟩ = some (.int .u8 0) := hM.cell (by go_simp; first | done | rfl) na
  have la : u2.heap.size < u5.heap.size := klt ha_0
  have na : ¬ F5 u2.heap.size := hM.off (by first | go_size | (simp; omega)) na
  have hb_0 : u5.cell? ⟨u3.heap.size, 0, none⟩ = some (.int .u8 0) := hM.cell (by go_simp; first | done | rfl) nb
  have hb_1 : u5.cell? ⟨u3.heap.size, 1, none⟩ = some (.int .u8 0) := hM.cell (by go_simp; first | done | rfl) nb
  have lb : u3.heap.size < u5.heap.size := klt hb_0
  have nb : ¬ F5 u3.heap.size := hM.off (by first | go_size | (simp; omega)) nb
  have hb' := Fr.toBelow (N := w.heap.size) (w0 := w) (kb HB.out (show Below u4.heap.size u4 _ from by go_grown)) hM.fr hlow.out (Nat.le_refl _)
  have HB := Lib.hid hb'
  have hlo : ∀ b, F5 b → w.heap.size ≤ b := fun b hf => (hM.f b hf).elim (hlow.out b) (fun h1 => by have := hwl; (try simp only [World.size_alloc, World.size_setCell, World.size_drew] at h1); omega)
  have hlow := Lib.hid hlo
  have hwl : w.heap.size ≤ u5.heap.size := HB.out.size
  have hFl := Lib.hid (fun b hf => (PO.frm _ _).lt HP.out b ((PO.frm _ _).sub HP.out b hf))
  clear hP hM hb' hlo hBu hMs
  have hBu := Below.refl u5.heap.size u5
  have nc : ¬ F5 u5.heap.size := fun hf => by have := hFl.out _ hf; omega
  go_wp2_with fail
  refine (HL.out _ F5 G5 _ ((PO.frm _ _).below HP.out ?bel)).mono ?_
  case bel => go_grown
  rintro _ u6 ⟨vl, rfl, hl, hb⟩
  have HB6 := Lib.hid (kb (kb HB.out (show Below u5.heap.size u5 _ from by go_grown)) hb)
  have ha6_0 := kc hb (show World.cell? (World.alloc u5 _) ⟨u2.heap.size, 0, none⟩ = some (.int .u8 5) from by go_simp; first | done | rfl)
  have ha6_1 := kc hb (show World.cell? (World.alloc u5 _) ⟨u2.heap.size, 1, none⟩ = some (.int .u8 0) from by go_simp; first | done | rfl)
  have hb6_0 := kc hb (show World.cell? (World.alloc u5 _) ⟨u3.heap.size, 0, none⟩ = some (.int .u8 0) from by go_simp; first | done | rfl)
  have hb6_1 := kc hb (show World.cell? (World.alloc u5 _) ⟨u3.heap.size, 1, none⟩ = some (.int .u8 0) from by go_simp; first | done | rfl)
  have hc6_0 := kc hb (show World.cell? (World.alloc u5 (.cells #[.int .u8 7, .int .u8 0] 40)) ⟨u5.heap.size, 0, none⟩ = some (.int .u8 7) from by go_simp; first | done | rfl)
  have hc6_1 := kc hb (show World.cell? (World.alloc u5 (.cells #[.int .u8 7, .int .u8 0] 40)) ⟨u5.heap.size, 1, none⟩ = some (.int .u8 0) from by go_simp; first | done | rfl)
  obtain ⟨g, cl, rfl, -, hcell⟩ := row_last (l := [((12 : Int), (7 : Int))]) eE_len (show World.ownsRow u6 _ 58 2 vl [((12 : Int), (7 : Int))].length ([((12 : Int), (7 : Int))].flatMap eE) from hl) (m := 0) rfl
  have hd0 := hcell 0 (.int .i64 12) rfl
  have hd1 := hcell 1 (.int .u8 7) rfl
  rw [Nat.zero_mul, Nat.add_zero] at hd0
  rw [Nat.zero_mul, Nat.zero_add] at hd1
  have l1 := klt ha6_0
  have l2 := klt hb6_0
  have l3 := klt hc6_0
  have l4 := klt hd0
  clear hcell hl hb ha_0 ha_1 hb_0 hb_1
  go_wp2
  go_ret
  exact ⟨rfl, HB6.out⟩
end Go.Proofs.Ytbahjcnamalhcaa
