/- Layer 7's laws: the chapter's -/
import Derived.Test.YtjcmblbnbpikfaaGreatDoorParsp
import Derived.Test.YtjcmblbnbpikfaaGreatDoorPrintp
set_option linter.unusedSimpArgs false
set_option linter.unusedVariables false
set_option maxRecDepth 100000
namespace Go.Proofs.YtjcmblbnbpikfaaGreatDoor
open Lib (hid)
open Go.RowKit Go.PlainAid

def exP : List UInt8 := [115, 105, 110, 107, 32, 36, 48, 51, 48, 48, 10, 115, 101, 99, 114, 101, 116, 32, 36, 48, 50, 48, 48, 46, 46, 36, 48, 50, 102, 102, 32, 98, 105, 116, 115, 32, 36, 48, 102]
def exO : List UInt8 := [115, 101, 99, 114, 101, 116, 32, 36, 48, 50, 48, 48, 32, 46, 46, 32, 36, 48, 50, 102, 102, 32, 98, 105, 116, 115, 32, 36, 48, 102, 10, 115, 105, 110, 107, 32, 36, 48, 51, 48, 48, 10, 100, 101, 99, 108, 97, 115, 115, 105, 102, 121, 32, 36, 48, 48, 10, 116, 114, 97, 99, 101, 32, 36, 48, 52, 48, 48, 10]
def exQ : Pol := ⟨[⟨512, 767, 15⟩], [⟨768, 768, 255⟩], 0, 1024⟩
theorem ex_parse : parseM exP = ⟨0, 0, 0, exQ⟩ := by kernel_rfl
theorem ex_print : printM exQ = (exO, 0) := by kernel_rfl
set_option maxHeartbeats 4000000 in
theorem awake7_c (w : World) (hT : w.cell? ⟨5, 15, none⟩ = some (.int .u8 4)) : Calls Tryz.prog 7 #[] w fun e w' => e = .returned (.bool true) ∧ Below w.heap.size w w' := by
 have HS := hid (fun W => parse_c exP W)
 rw [ex_parse] at HS
 unfold ParseEnd exQ exP at HS
 dsimp only at HS
 go_enter Tryz.func7, Tryz.ntmps7
 generalize hL : ByteArray.mk (List.toArray (List.append _ _)) = L
 have hLO : L = txB exO := by rw [← hL]; kernel_rfl
 clear hL
 go_wp2_with fail
 refine (HS.out _).mono ?_
 rintro _ u ⟨v1, v2, rfl, h1, h2, _, _, hB⟩
 obtain ⟨p1, c1, rfl⟩ := h1.form
 obtain ⟨p2, c2, rfl⟩ := h2.form
 have HP := hid (fun W (hb : Below u.heap.size u W) => print_c exQ (by decide) ⟨fun x hx => by simp only [exQ, List.mem_cons, List.not_mem_nil, or_false] at hx; subst hx; decide, fun x hx => by simp only [exQ, List.mem_cons, List.not_mem_nil, or_false] at hx; subst hx; decide⟩ (.agg #[.slice p1 1 c1, .slice p2 1 c2, .int .i64 0, .int .i64 1024]) W ⟨_, _, rfl, h1.below hb, h2.below hb⟩ (kc (hB.trans (hb.mono hB.size)) hT))
 rw [ex_print, ← hLO] at HP
 simp only [List.length_cons, List.length_nil, Nat.zero_add]
 dsimp only at HP
 clear h1 h2 hLO HS
 have hsz := hB.size
 go_wp2_with fail
 ((with_reducible refine (HP.out _ (((Below.refl _ u).alloc (Nat.le_refl _) _).alloc (by simp) _)).mono ?_); rintro _ y ⟨rfl, hb⟩)
 have T : CC y (u.heap.size + 1) 0 1 (.int .i64 0) (.int .i64 0) := by
   refine ⟨?_, ?_⟩ <;> refine kc hb ?_ <;> (go_simp; first | done | rfl)
 have hz := hb.size
 (try simp only [szA] at hz)
 have L : u.heap.size + 1 < y.heap.size := by omega
 have hB' : Below w.heap.size w y := by
   refine kb ?_ hb
   go_grown
 clear hb hz
 obtain ⟨hb_0, hb_1⟩ := T
 have hlb := L; clear L
 obtain ⟨hnb0, hnb1, hkb1, hnb2, hkb2⟩ := ap1f hlb
 have hB := hB'; clear hB'
 have hsz := hB.size
 go_wp2
 go_ret
 exact ⟨rfl, hB⟩
end Go.Proofs.YtjcmblbnbpikfaaGreatDoor
