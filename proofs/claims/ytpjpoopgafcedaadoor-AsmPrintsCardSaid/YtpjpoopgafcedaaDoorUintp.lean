/-
  strconv.ParseUint, the public one: a number, or an error that is not nil.
-/
import Derived.Test.YtpjpoopgafcedaaDoorUint
set_option linter.unusedSimpArgs false
set_option linter.unusedVariables false
namespace Go.Proofs.YtpjpoopgafcedaaDoor
open Go.RowKit Go.PlainAid

/-- The library's error of a wrong form lies in its variable. -/
def LaidE (w : World) : Prop := ∃ te pe, w.cell? ⟨4, 0, none⟩ = some (.iface te pe)
theorem LaidE.below {w u : World} (h : LaidE w) (hb : Below w.heap.size w u) : LaidE u := by
  obtain ⟨te, pe, h⟩ := h
  exact ⟨te, pe, kc hb h⟩
set_option maxRecDepth 100000 in
set_option maxHeartbeats 1000000 in
theorem uintp_ok (l : List UInt8) (hne : l ≠ []) (hl : l.length ≤ 4) (hn : 0 ≤ numL l 0) (w : World) :
    Calls Tryd.prog 54 #[.string (txB l), .int .i64 16, .int .i64 16] w fun e w' => e = .returned (.tuple #[.int .u64 (numL l 0), .nilIface]) ∧ Below w.heap.size w w' := by
  have hv : uintT (numL l 0) = .tuple #[.int .u64 (numL l 0), .nilIface] := by unfold uintT; rw [if_neg (by omega)]
  have HU := Lib.hid (fun w => uint_c l hne hl w)
  rw [hv] at HU
  generalize txB l = S at *
  generalize numL l 0 = V at *
  clear hne hl hn hv
  go_enter Tryd.func54, Tryd.ntmps54
  go_wp2_with fail
  ((with_reducible refine (HU.out _).mono ?_); rintro _ u ⟨rfl, hb⟩)
  have hz := hb.size
  (try simp only [World.size_alloc, World.size_setCell, World.size_drew] at hz)
  have hB' : Below w.heap.size w u := by
      refine kb ?_ hb
      go_grown
  clear hb hz
  have hB := hB'; clear hB'
  have hsz := hB.size
  go_wp2
  refine bodyPost_ret (v := .tuple #[.int .u64 V, .nilIface]) (by simp [results, Tryd.results54, go_sem]) rfl ⟨rfl, by go_grown⟩
theorem toerr_c (S : ByteArray) (hz : S.size ≤ 4) (w : World) (hE : LaidE w) : Calls Tryd.prog 68 #[.string ⟨#[80, 97, 114, 115, 101, 85, 105, 110, 116]⟩, .string S, .int .i64 16, .int .i64 16, .iface 129 (.int .i64 2)] w fun e w' => ∃ N, e = .returned (.iface 132 (.pointer (some ⟨N, 0, none⟩))) ∧ Below w.heap.size w w' := by
  obtain ⟨te, pe, h⟩ := hE
  refine (Tryd.strconv_toError_syntax ⟨#[80, 97, 114, 115, 101, 85, 105, 110, 116]⟩ S 16 16 (.iface te pe) w (by omega) h (.inr ⟨te, pe, rfl⟩)).mono ?_
  rintro e w' ⟨N, rfl, _, _, hb⟩
  exact ⟨N, rfl, hb⟩
set_option maxRecDepth 100000 in
set_option maxHeartbeats 1000000 in
theorem uintp_no (l : List UInt8) (hne : l ≠ []) (hl : l.length ≤ 4) (hn : numL l 0 < 0) (w : World) (hE : LaidE w) :
    Calls Tryd.prog 54 #[.string (txB l), .int .i64 16, .int .i64 16] w fun e w' => ∃ N, e = .returned (.tuple #[.int .u64 0, .iface 132 (.pointer (some ⟨N, 0, none⟩))]) ∧ Below w.heap.size w w' := by
  have hv : uintT (numL l 0) = .tuple #[.int .u64 0, .iface 129 (.int .i64 2)] := by unfold uintT; rw [if_pos hn]
  have HU := Lib.hid (fun w => uint_c l hne hl w)
  rw [hv] at HU
  have hz : (txB l).size ≤ 4 := by rw [txB_size]; exact hl
  have HT := Lib.hid (fun w hE => toerr_c (txB l) hz w hE)
  generalize txB l = S at *
  clear hne hl hn hv
  go_enter Tryd.func54, Tryd.ntmps54
  go_wp2_with fail
  ((with_reducible refine (HU.out _).mono ?_); rintro _ u ⟨rfl, hb⟩)
  have hz := hb.size
  (try simp only [World.size_alloc, World.size_setCell, World.size_drew] at hz)
  have hB' : Below w.heap.size w u := by
      refine kb ?_ hb
      go_grown
  clear hb hz
  have hB := hB'; clear hB'
  have hsz := hB.size
  have hE2 := hE.below hB
  go_wp2_with fail
  refine (HT.out _ hE2).mono ?_
  rintro _ u2 ⟨N, rfl, hb⟩
  have hB2 := kb hB hb
  clear hb hB
  go_wp2
  refine bodyPost_ret (v := .tuple #[.int .u64 0, .iface 132 (.pointer (some ⟨N, 0, none⟩))]) (by simp [results, Tryd.results54, go_sem]) rfl ⟨N, rfl, hB2⟩
end Go.Proofs.YtpjpoopgafcedaaDoor
