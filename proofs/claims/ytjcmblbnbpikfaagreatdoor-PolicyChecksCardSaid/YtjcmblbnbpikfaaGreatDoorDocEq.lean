/-
  Layer 7's document: a number's text; a span's line.
  Layer 7's document: the text of a policy.
  Layer 7's document: what is wrong with a policy.
  Layer 7: what the program's lists come to is what the document's do: what is wrong with a policy, and its text.
-/
import Derived.Test.YtjcmblbnbpikfaaGreatDoorDoc4
import Derived.Test.YtjcmblbnbpikfaaGreatDoorTextr
import Derived.Test.YtjcmblbnbpikfaaGreatDoorPol
import Derived.Test.YtjcmblbnbpikfaaGreatDoorDoc2
import Derived.Test.YtjcmblbnbpikfaaGreatDoorAppendH
import Derived.Test.YtjcmblbnbpikfaaGreatDoorPlace
set_option linter.unusedSimpArgs false
set_option linter.unusedVariables false
namespace Go.Proofs.YtjcmblbnbpikfaaGreatDoor
open Go.RowKit Go.PlainAid

/-- A number's text. -/
def numL (n : Int) : List UInt8 := textL 2 [] n
set_option maxRecDepth 100000 in
theorem numr_c (n : Int) (w : World) : Calls Tryz.prog 30 #[.int .i64 n] w fun e w' => e = .returned (.string (txB (numL n))) ∧ Below w.heap.size w w' := by
  have H : ∀ W, Calls Tryz.prog 48 #[.agg #[.int .i64 2, .string ⟨#[]⟩, .int .i64 n, .int .i64 0, .int .i64 0]] W fun e w' => e = .returned (.tuple #[.string (txB (numL n)), .int .i64 (textE 2 [] n)]) ∧ Below W.heap.size W w' := fun W => textr_c 2 [] n 0 0 (by simp) W
  have HT := Lib.hid H
  clear H
  go_enter Tryz.func30, Tryz.ntmps30
  go_wp2_with (go_at_call 48; (with_reducible refine (HT.out _).mono ?_); rintro _ u ⟨rfl, hb⟩)
  go_wp2
  go_ret
  exact ⟨rfl, hb⟩
/-- A span's line. -/
def toldL (nm : List UInt8) (x : Sp) : List UInt8 := nm ++ [32] ++ numL x.f ++ (if x.t = x.f then [] else [32, 46, 46, 32] ++ numL x.t) ++ (if x.b = 255 then [] else [32, 98, 105, 116, 115, 32] ++ numL x.b) ++ [10]
theorem ret_str {a b : ByteArray} (h : a = b) : Ending.returned (.string a) = .returned (.string b) := by rw [h]
theorem numL_size (n : Int) : (txB (numL n)).size ≤ 100 := by rw [txB_size]; exact textL_len 2 [] n (by simp)
set_option maxRecDepth 100000 in
set_option maxHeartbeats 1000000 in
theorem toldr_c (nm : List UInt8) (hn : nm.length ≤ 100) (f t b : Int) (w : World) : Calls Tryz.prog 29 #[.string (txB nm), .agg #[.int .i64 f, .int .i64 t, .int .i64 b]] w fun e w' => e = .returned (.string (txB (toldL nm ⟨f, t, b⟩))) ∧ Below w.heap.size w w' := by
  obtain ⟨N, hN⟩ : ∃ N, txB nm = N := ⟨_, rfl⟩
  obtain ⟨F, hF⟩ : ∃ N, txB (numL f) = N := ⟨_, rfl⟩
  obtain ⟨T, hT⟩ : ∃ N, txB (numL t) = N := ⟨_, rfl⟩
  obtain ⟨B, hB0⟩ : ∃ N, txB (numL b) = N := ⟨_, rfl⟩
  obtain ⟨R, hR⟩ : ∃ N, txB (toldL nm ⟨f, t, b⟩) = N := ⟨_, rfl⟩
  have sN : N.size ≤ 100 := by rw [← hN, txB_size]; exact hn
  have sF : F.size ≤ 100 := by rw [← hF]; exact numL_size f
  have sT : T.size ≤ 100 := by rw [← hT]; exact numL_size t
  have sB : B.size ≤ 100 := by rw [← hB0]; exact numL_size b
  have HF := Lib.hid (fun W => hF ▸ numr_c f W)
  have HT := Lib.hid (fun W => hT ▸ numr_c t W)
  have HB := Lib.hid (fun W => hB0 ▸ numr_c b W)
  have HR := Lib.hid (show R = txB (nm ++ [32] ++ numL f ++ (if t = f then [] else [32, 46, 46, 32] ++ numL t) ++ (if b = 255 then [] else [32, 98, 105, 116, 115, 32] ++ numL b) ++ [10]) from hR.symm)
  have HX := Lib.hid (And.intro hN (And.intro hF (And.intro hT hB0)))
  rw [hN, hR]
  clear hN hF hT hB0 hR
  by_cases d1 : t = f
  · by_cases d2 : b = 255
    · go_enter Tryz.func29, Tryz.ntmps29
      go_wp2_with fail
      ((with_reducible refine (HF.out _).mono ?_); rintro _ u1 ⟨rfl, hb⟩)
      have T : CC u1 w.heap.size 0 1 (.int .i64 f) (.int .i64 t) ∧ u1.cell? ⟨w.heap.size, 2, none⟩ = some (.int .i64 b) := by
          refine ⟨⟨?_, ?_⟩, ?_⟩ <;> refine kc hb ?_ <;> (go_simp; first | done | rfl)
      have hz := hb.size
      (try simp only [World.size_alloc, World.size_setCell, World.size_drew] at hz)
      have L : w.heap.size < u1.heap.size := by omega
      have hB' : Below w.heap.size w u1 := by
          refine kb ?_ hb
          go_grown
      clear hb hz
      obtain ⟨⟨hx_0, hx_1⟩, hx_2⟩ := T
      have hlx := L; clear L
      obtain ⟨hnx0, hnx1, hkx1, hnx2, hkx2⟩ := ap0 hlx
      have hB := hB'; clear hB'
      have hsz := hB.size
      go_wp2
      go_ret
      refine ⟨ret_str ?_, hB⟩
      rw [HR.out, if_pos d1, if_pos d2]
      obtain ⟨hx1, hx2, hx3, hx4⟩ := HX.out
      rw [← hx1, ← hx2]
      rw [show (⟨#[32]⟩ : ByteArray) = txB [32] from rfl, show (⟨#[10]⟩ : ByteArray) = txB [10] from rfl]
      simp only [txB_append, List.append_assoc, List.append_nil, List.nil_append]
    · go_enter Tryz.func29, Tryz.ntmps29
      go_wp2_with fail
      ((with_reducible refine (HF.out _).mono ?_); rintro _ u1 ⟨rfl, hb⟩)
      have T : CC u1 w.heap.size 0 1 (.int .i64 f) (.int .i64 t) ∧ u1.cell? ⟨w.heap.size, 2, none⟩ = some (.int .i64 b) := by
          refine ⟨⟨?_, ?_⟩, ?_⟩ <;> refine kc hb ?_ <;> (go_simp; first | done | rfl)
      have hz := hb.size
      (try simp only [World.size_alloc, World.size_setCell, World.size_drew] at hz)
      have L : w.heap.size < u1.heap.size := by omega
      have hB' : Below w.heap.size w u1 := by
          refine kb ?_ hb
          go_grown
      clear hb hz
      obtain ⟨⟨hx_0, hx_1⟩, hx_2⟩ := T
      have hlx := L; clear L
      obtain ⟨hnx0, hnx1, hkx1, hnx2, hkx2⟩ := ap0 hlx
      have hB := hB'; clear hB'
      have hsz := hB.size
      go_wp2_with fail
      ((with_reducible refine (HB.out _).mono ?_); rintro _ u3 ⟨rfl, hb⟩)
      have T : CC u3 w.heap.size 0 1 (.int .i64 f) (.int .i64 t) ∧ u3.cell? ⟨w.heap.size, 2, none⟩ = some (.int .i64 b) := by
          refine ⟨⟨?_, ?_⟩, ?_⟩ <;> refine kc hb ?_ <;> (go_simp; first | done | rfl)
      have hz := hb.size
      (try simp only [World.size_alloc, World.size_setCell, World.size_drew] at hz)
      have L : w.heap.size < u3.heap.size := by omega
      have hB' : Below w.heap.size w u3 := by
          refine kb ?_ hb
          go_grown
      clear hx_0 hx_1 hx_2 hlx hnx0 hnx1 hkx1 hnx2 hkx2 hB hsz
      clear hb hz
      obtain ⟨⟨hx_0, hx_1⟩, hx_2⟩ := T
      have hlx := L; clear L
      obtain ⟨hnx0, hnx1, hkx1, hnx2, hkx2⟩ := ap0 hlx
      have hB := hB'; clear hB'
      have hsz := hB.size
      go_wp2
      go_ret
      refine ⟨ret_str ?_, hB⟩
      rw [HR.out, if_pos d1, if_neg d2]
      obtain ⟨hx1, hx2, hx3, hx4⟩ := HX.out
      rw [← hx1, ← hx2, ← hx4]
      rw [show (⟨#[32]⟩ : ByteArray) = txB [32] from rfl, show (⟨#[10]⟩ : ByteArray) = txB [10] from rfl, show (⟨#[32, 98, 105, 116, 115, 32]⟩ : ByteArray) = txB [32, 98, 105, 116, 115, 32] from rfl]
      simp only [txB_append, List.append_assoc, List.append_nil, List.nil_append]
  · by_cases d2 : b = 255
    · go_enter Tryz.func29, Tryz.ntmps29
      go_wp2_with fail
      ((with_reducible refine (HF.out _).mono ?_); rintro _ u1 ⟨rfl, hb⟩)
      have T : CC u1 w.heap.size 0 1 (.int .i64 f) (.int .i64 t) ∧ u1.cell? ⟨w.heap.size, 2, none⟩ = some (.int .i64 b) := by
          refine ⟨⟨?_, ?_⟩, ?_⟩ <;> refine kc hb ?_ <;> (go_simp; first | done | rfl)
      have hz := hb.size
      (try simp only [World.size_alloc, World.size_setCell, World.size_drew] at hz)
      have L : w.heap.size < u1.heap.size := by omega
      have hB' : Below w.heap.size w u1 := by
          refine kb ?_ hb
          go_grown
      clear hb hz
      obtain ⟨⟨hx_0, hx_1⟩, hx_2⟩ := T
      have hlx := L; clear L
      obtain ⟨hnx0, hnx1, hkx1, hnx2, hkx2⟩ := ap0 hlx
      have hB := hB'; clear hB'
      have hsz := hB.size
      go_wp2_with fail
      ((with_reducible refine (HT.out _).mono ?_); rintro _ u2 ⟨rfl, hb⟩)
      have T : CC u2 w.heap.size 0 1 (.int .i64 f) (.int .i64 t) ∧ u2.cell? ⟨w.heap.size, 2, none⟩ = some (.int .i64 b) := by
          refine ⟨⟨?_, ?_⟩, ?_⟩ <;> refine kc hb ?_ <;> (go_simp; first | done | rfl)
      have hz := hb.size
      (try simp only [World.size_alloc, World.size_setCell, World.size_drew] at hz)
      have L : w.heap.size < u2.heap.size := by omega
      have hB' : Below w.heap.size w u2 := by
          refine kb ?_ hb
          go_grown
      clear hx_0 hx_1 hx_2 hlx hnx0 hnx1 hkx1 hnx2 hkx2 hB hsz
      clear hb hz
      obtain ⟨⟨hx_0, hx_1⟩, hx_2⟩ := T
      have hlx := L; clear L
      obtain ⟨hnx0, hnx1, hkx1, hnx2, hkx2⟩ := ap0 hlx
      have hB := hB'; clear hB'
      have hsz := hB.size
      go_wp2
      go_ret
      refine ⟨ret_str ?_, hB⟩
      rw [HR.out, if_neg d1, if_pos d2]
      obtain ⟨hx1, hx2, hx3, hx4⟩ := HX.out
      rw [← hx1, ← hx2, ← hx3]
      rw [show (⟨#[32]⟩ : ByteArray) = txB [32] from rfl, show (⟨#[10]⟩ : ByteArray) = txB [10] from rfl, show (⟨#[32, 46, 46, 32]⟩ : ByteArray) = txB [32, 46, 46, 32] from rfl]
      simp only [txB_append, List.append_assoc, List.append_nil, List.nil_append]
    · go_enter Tryz.func29, Tryz.ntmps29
      go_wp2_with fail
      ((with_reducible refine (HF.out _).mono ?_); rintro _ u1 ⟨rfl, hb⟩)
      have T : CC u1 w.heap.size 0 1 (.int .i64 f) (.int .i64 t) ∧ u1.cell? ⟨w.heap.size, 2, none⟩ = some (.int .i64 b) := by
          refine ⟨⟨?_, ?_⟩, ?_⟩ <;> refine kc hb ?_ <;> (go_simp; first | done | rfl)
      have hz := hb.size
      (try simp only [World.size_alloc, World.size_setCell, World.size_drew] at hz)
      have L : w.heap.size < u1.heap.size := by omega
      have hB' : Below w.heap.size w u1 := by
          refine kb ?_ hb
          go_grown
      clear hb hz
      obtain ⟨⟨hx_0, hx_1⟩, hx_2⟩ := T
      have hlx := L; clear L
      obtain ⟨hnx0, hnx1, hkx1, hnx2, hkx2⟩ := ap0 hlx
      have hB := hB'; clear hB'
      have hsz := hB.size
      go_wp2_with fail
      ((with_reducible refine (HT.out _).mono ?_); rintro _ u2 ⟨rfl, hb⟩)
      have T : CC u2 w.heap.size 0 1 (.int .i64 f) (.int .i64 t) ∧ u2.cell? ⟨w.heap.size, 2, none⟩ = some (.int .i64 b) := by
          refine ⟨⟨?_, ?_⟩, ?_⟩ <;> refine kc hb ?_ <;> (go_simp; first | done | rfl)
      have hz := hb.size
      (try simp only [World.size_alloc, World.size_setCell, World.size_drew] at hz)
      have L : w.heap.size < u2.heap.size := by omega
      have hB' : Below w.heap.size w u2 := by
          refine kb ?_ hb
          go_grown
      clear hx_0 hx_1 hx_2 hlx hnx0 hnx1 hkx1 hnx2 hkx2 hB hsz
      clear hb hz
      obtain ⟨⟨hx_0, hx_1⟩, hx_2⟩ := T
      have hlx := L; clear L
      obtain ⟨hnx0, hnx1, hkx1, hnx2, hkx2⟩ := ap0 hlx
      have hB := hB'; clear hB'
      have hsz := hB.size
      go_wp2_with fail
      ((with_reducible refine (HB.out _).mono ?_); rintro _ u3 ⟨rfl, hb⟩)
      have T : CC u3 w.heap.size 0 1 (.int .i64 f) (.int .i64 t) ∧ u3.cell? ⟨w.heap.size, 2, none⟩ = some (.int .i64 b) := by
          refine ⟨⟨?_, ?_⟩, ?_⟩ <;> refine kc hb ?_ <;> (go_simp; first | done | rfl)
      have hz := hb.size
      (try simp only [World.size_alloc, World.size_setCell, World.size_drew] at hz)
      have L : w.heap.size < u3.heap.size := by omega
      have hB' : Below w.heap.size w u3 := by
          refine kb ?_ hb
          go_grown
      clear hx_0 hx_1 hx_2 hlx hnx0 hnx1 hkx1 hnx2 hkx2 hB hsz
      clear hb hz
      obtain ⟨⟨hx_0, hx_1⟩, hx_2⟩ := T
      have hlx := L; clear L
      obtain ⟨hnx0, hnx1, hkx1, hnx2, hkx2⟩ := ap0 hlx
      have hB := hB'; clear hB'
      have hsz := hB.size
      go_wp2
      go_ret
      refine ⟨ret_str ?_, hB⟩
      rw [HR.out, if_neg d1, if_neg d2]
      obtain ⟨hx1, hx2, hx3, hx4⟩ := HX.out
      rw [← hx1, ← hx2, ← hx3, ← hx4]
      rw [show (⟨#[32]⟩ : ByteArray) = txB [32] from rfl, show (⟨#[10]⟩ : ByteArray) = txB [10] from rfl, show (⟨#[32, 46, 46, 32]⟩ : ByteArray) = txB [32, 46, 46, 32] from rfl, show (⟨#[32, 98, 105, 116, 115, 32]⟩ : ByteArray) = txB [32, 98, 105, 116, 115, 32] from rfl]
      simp only [txB_append, List.append_assoc, List.append_nil, List.nil_append]
end Go.Proofs.YtjcmblbnbpikfaaGreatDoor
set_option linter.unusedSimpArgs false
set_option linter.unusedVariables false
namespace Go.Proofs.YtjcmblbnbpikfaaGreatDoor
open Go.RowKit Go.PlainAid

def secL : List UInt8 := [115, 101, 99, 114, 101, 116]
def sinL : List UInt8 := [115, 105, 110, 107]
theorem toldL_len (nm : List UInt8) (hn : nm.length ≤ 100) (x : Sp) : (toldL nm x).length ≤ 500 := by
  have h1 := textL_len 2 [] x.f (by simp)
  have h2 := textL_len 2 [] x.t (by simp)
  have h3 := textL_len 2 [] x.b (by simp)
  unfold toldL numL
  split <;> split <;> simp only [List.length_append, List.length_cons, List.length_nil] <;> omega
theorem told_room (nm : List UInt8) (hn : nm.length ≤ 100) (x : Sp) : (txB (toldL nm x)).size ≤ 500 := by rw [txB_size]; exact toldL_len nm hn x
theorem told_sec (f t b : Int) (w : World) : Calls Tryz.prog 29 #[.string ⟨#[115, 101, 99, 114, 101, 116]⟩, .agg #[.int .i64 f, .int .i64 t, .int .i64 b]] w fun e w' => e = .returned (.string (txB (toldL secL ⟨f, t, b⟩))) ∧ Below w.heap.size w w' := toldr_c secL (by decide) f t b w
theorem told_sin (f t b : Int) (w : World) : Calls Tryz.prog 29 #[.string ⟨#[115, 105, 110, 107]⟩, .agg #[.int .i64 f, .int .i64 t, .int .i64 b]] w fun e w' => e = .returned (.string (txB (toldL sinL ⟨f, t, b⟩))) ∧ Below w.heap.size w w' := toldr_c sinL (by decide) f t b w
/-- The text of a policy. -/
def printD (p : Pol) : List UInt8 := (sortS p.s).flatMap (toldL secL) ++ (sortS p.k).flatMap (toldL sinL) ++ [100, 101, 99, 108, 97, 115, 115, 105, 102, 121, 32] ++ numL p.d ++ [10, 116, 114, 97, 99, 101, 32] ++ numL p.t ++ [10]
set_option maxRecDepth 100000 in
set_option maxHeartbeats 2000000 in
theorem printr_c (p : Pol) (hl : p.s.length ≤ 1000 ∧ p.k.length ≤ 1000) (v1 v2 : Value) (w : World) (h1 : HoldsD w v1 p.s) (h2 : HoldsD w v2 p.k) :
    Calls Tryz.prog 12 #[.agg #[v1, v2, .int .i64 p.d, .int .i64 p.t]] w fun e w' => e = .returned (.string (txB (printD p))) ∧ Below w.heap.size w w' := by
  obtain ⟨ps, pk, pd, pt⟩ := p
  dsimp only at h1 h2 hl ⊢
  obtain ⟨a1, c1, rfl⟩ := h1.form
  obtain ⟨a2, c2, rfl⟩ := h2.form
  obtain ⟨L1, hL1⟩ : ∃ l, sortS ps = l := ⟨_, rfl⟩
  obtain ⟨L2, hL2⟩ : ∃ l, sortS pk = l := ⟨_, rfl⟩
  have e1 : L1.length = ps.length := by rw [← hL1, sortS_len]
  have e2 : L2.length = pk.length := by rw [← hL2, sortS_len]
  have HR := Lib.hid (show printD ⟨ps, pk, pd, pt⟩ = L1.flatMap (toldL secL) ++ L2.flatMap (toldL sinL) ++ [100, 101, 99, 108, 97, 115, 115, 105, 102, 121, 32] ++ numL pd ++ [10, 116, 114, 97, 99, 101, 32] ++ numL pt ++ [10] from by rw [← hL1, ← hL2]; rfl)
  obtain ⟨R, hR⟩ : ∃ R, printD ⟨ps, pk, pd, pt⟩ = R := ⟨_, rfl⟩
  rw [hR] at HR ⊢
  have HS1 := Lib.hid (fun W hb => sortd_c ps hl.1 _ W (h1.below hb))
  have HS2 := Lib.hid (fun W hb => sortd_c pk hl.2 _ W (h2.below hb))
  rw [hL1] at HS1
  rw [hL2] at HS2
  obtain ⟨n1, hn1⟩ : ∃ n, ps.length = n := ⟨_, rfl⟩
  obtain ⟨n2, hn2⟩ : ∃ n, pk.length = n := ⟨_, rfl⟩
  rw [hn1] at e1 HS1 hl ⊢
  rw [hn2] at e2 HS2 hl ⊢
  obtain ⟨l1, l2⟩ := hl
  have E1 := Lib.hid e1
  have E2 := Lib.hid e2
  clear h1 h2 hL1 hL2 hR hn1 hn2 e1 e2
  go_enter Tryz.func12, Tryz.ntmps12
  go_wp2_with fail
  ((with_reducible refine (HS1.out _ (by go_grown)).mono ?_); rintro _ u1 ⟨x1, rfl, hx1, hb⟩)
  have hs_u1 := Lib.hid hb
  have T : CC u1 w.heap.size 0 1 (.slice a1 n1 c1) (.slice a2 n2 c2) ∧ CC u1 w.heap.size 2 3 (.int .i64 pd) (.int .i64 pt) := by
      refine ⟨⟨?_, ?_⟩, ⟨?_, ?_⟩⟩ <;> refine kc hb ?_ <;> (go_simp; first | done | rfl)
  have hz := hb.size
  (try simp only [World.size_alloc, World.size_setCell, World.size_drew] at hz)
  have L : w.heap.size < u1.heap.size := by omega
  have hB' : Below w.heap.size w u1 := by
      refine kb ?_ hb
      go_grown
  clear hb hz
  obtain ⟨⟨hp_0, hp_1⟩, ⟨hp_2, hp_3⟩⟩ := T
  have hlp := L; clear L
  obtain ⟨hnp0, hnp1, hkp1, hnp2, hkp2⟩ := ap0 hlp
  have hB := hB'; clear hB'
  have hsz := hB.size
  obtain ⟨a3, c3, rfl⟩ := own_form hx1
  have HX1 := Lib.hid (show HoldsD u1 (.slice a3 n1 c3) L1 from HoldsE.own pl_len (by rw [E1.out]; exact hx1))
  clear hx1
  have hz1 := hB.size
  have HB1 := Lib.hid hB
  go_wp2
  go_loopg [3, 5] n1 (fun kx s3 sc wr => ∃ (k : Nat) (S : List UInt8), s3 = .string (txB S) ∧ sc = .int .i64 k ∧ k ≤ n1 ∧ n1 - k ≤ kx ∧ Hid (S.length ≤ 0 + k * 500 ∧ S ++ (L1.drop k).flatMap (toldL secL) = L1.flatMap (toldL secL)) ∧ Hid (wr.cell? ⟨w.heap.size, 0, none⟩ = some (.slice a1 n1 c1) ∧ wr.cell? ⟨w.heap.size, 1, none⟩ = some (.slice a2 n2 c2) ∧ wr.cell? ⟨w.heap.size, 2, none⟩ = some (.int .i64 pd) ∧ wr.cell? ⟨w.heap.size, 3, none⟩ = some (.int .i64 pt)) ∧ Below u1.heap.size u1 wr)
  case atStart => exact ⟨0, [], rfl, by go_num, by omega, by omega, Lib.hid ⟨by simp, by rw [List.drop_zero]; first | rfl | rw [HF.out.1]⟩, Lib.hid ⟨hp_0, hp_1, hp_2, hp_3⟩, Below.refl _ _⟩
  case round =>
    obtain ⟨k, S, rfl, rfl, hk, hkx, HQ, HP, hBr⟩ := hrel
    have hp_0 := HP.out.1
    have hp_1 := HP.out.2.1
    have hp_2 := HP.out.2.2.1
    have hp_3 := HP.out.2.2.2
    clear HP
    have hzr := hBr.size
    have HBr := Lib.hid hBr
    have hB : Below w.heap.size w wr := Below.trans HB1.out (hBr.mono (by omega))
    clear hBr
    by_cases hlt : k < n1
    · have hin : (0 : Int) ≤ (k : Int) ∧ (k : Int) < (n1 : Int) := by omega
      have hk1 : k < L1.length := by have := E1.out; omega
      obtain ⟨g1, o1, d1, e1, _, c9⟩ := HX1.out.some (by omega)
      obtain ⟨rfl, n9, rfl⟩ := Value.slice.inj e1
      clear e1 n9
      obtain ⟨x0, x1, x2⟩ := get3d c9 (List.getElem?_eq_getElem hk1)
      obtain ⟨q1, q2⟩ := HQ.out
      rw [List.drop_eq_getElem_cons hk1, List.flatMap_cons] at q2
      clear c9 HQ
      generalize L1[k] = x at *
      clear hk1
      obtain ⟨xf, xt, xb⟩ := x
      dsimp only at x0 x1 x2
      have hx_0 := kc HBr.out x0
      have hx_1 := kc HBr.out x1
      have hx_2 := kc HBr.out x2
      have hgx : g1 < wr.heap.size := klt hx_0
      clear x0 x1 x2
      have sS : (txB S).size ≤ 1200000 := by rw [txB_size]; omega
      have sT : (txB (toldL secL ⟨xf, xt, xb⟩)).size ≤ 500 := told_room secL (by decide) _
      have hTL := toldL_len secL (by decide) ⟨xf, xt, xb⟩
      have HQ := Lib.hid (And.intro (And.intro q1 hTL) q2)
      clear q1 q2 hTL
      have HC := Lib.hid (fun W => told_sec xf xt xb W)
      generalize toldL secL ⟨xf, xt, xb⟩ = T at *
      clear hB
      have hB := HBr.out
      have hbase : u1.heap.size ≤ wr.heap.size := hzr
      clear HBr
      go_wp2_with fail
      ((with_reducible refine (HC.out _).mono ?_); rintro _ y ⟨rfl, hb⟩)
      have T : CC y w.heap.size 0 1 (.slice a1 n1 c1) (.slice a2 n2 c2) ∧ CC y w.heap.size 2 3 (.int .i64 pd) (.int .i64 pt) ∧ CC y g1 (o1 + k * 3) (o1 + k * 3 + 1) (.int .i64 xf) (.int .i64 xt) ∧ y.cell? ⟨g1, o1 + k * 3 + 2, none⟩ = some (.int .i64 xb) := by
          refine ⟨⟨?_, ?_⟩, ⟨?_, ?_⟩, ⟨?_, ?_⟩, ?_⟩ <;> refine kc hb ?_ <;> (go_simp; first | done | rfl)
      have hz := hb.size
      (try simp only [World.size_alloc, World.size_setCell, World.size_drew] at hz)
      have L : w.heap.size < y.heap.size ∧ g1 < y.heap.size := by omega
      have hB' : Below u1.heap.size u1 y := by
          refine kb ?_ hb
          go_grown
      clear hp_0 hp_1 hp_2 hp_3 hlp hnp0 hnp1 hkp1 hnp2 hkp2 hB hsz
      clear hb hz
      obtain ⟨⟨hp_0, hp_1⟩, ⟨hp_2, hp_3⟩, ⟨hx_0, hx_1⟩, hx_2⟩ := T
      obtain ⟨hlp, hlx⟩ := L
      obtain ⟨hnp0, hnp1, hkp1, hnp2, hkp2⟩ := ap0 hlp
      obtain ⟨hnx0, hnx1, hkx1, hnx2, hkx2⟩ := ap0 hlx
      have hB := hB'; clear hB'
      have hsz := hB.size
      go_wp2
      go_roundg (n1 - (k + 1))
      case measure => omega
      case rel => exact ⟨k + 1, S ++ T, by rw [txB_append], by go_num, by omega, by omega, Lib.hid ⟨by have := HQ.out.1; rw [List.length_append]; omega, by rw [← HQ.out.2, List.append_assoc]⟩, Lib.hid ⟨hp_0, hp_1, hp_2, hp_3⟩, hB⟩
    · have HF := Lib.hid (show S = L1.flatMap (toldL secL) ∧ S.length ≤ 0 + n1 * 500 from ⟨by rw [← HQ.out.2, List.drop_eq_nil_of_le (by have := E1.out; omega)]; simp, by have := HQ.out.1; omega⟩)
      have HW := Lib.hid HBr.out
      clear HQ HBr
      have sS : (txB S).size ≤ 600000 := by rw [txB_size]; have := HF.out.2; omega
      go_wp2_with fail
      ((with_reducible refine (HS2.out _ hB).mono ?_); rintro _ u2 ⟨x2, rfl, hx2, hb⟩)
      have hs_u2 := Lib.hid hb
      have T : CC u2 w.heap.size 0 1 (.slice a1 n1 c1) (.slice a2 n2 c2) ∧ CC u2 w.heap.size 2 3 (.int .i64 pd) (.int .i64 pt) := by
          refine ⟨⟨?_, ?_⟩, ⟨?_, ?_⟩⟩ <;> refine kc hb ?_ <;> (go_simp; first | done | rfl)
      have hz := hb.size
      (try simp only [World.size_alloc, World.size_setCell, World.size_drew] at hz)
      have L : w.heap.size < u2.heap.size := by omega
      have hB' : Below w.heap.size w u2 := by
          refine kb ?_ hb
          go_grown
      clear hp_0 hp_1 hp_2 hp_3 hlp hnp0 hnp1 hkp1 hnp2 hkp2 hB hsz
      clear hb hz
      obtain ⟨⟨hp_0, hp_1⟩, ⟨hp_2, hp_3⟩⟩ := T
      have hlp := L; clear L
      obtain ⟨hnp0, hnp1, hkp1, hnp2, hkp2⟩ := ap0 hlp
      have hB := hB'; clear hB'
      have hsz := hB.size
      obtain ⟨a4, c4, rfl⟩ := own_form hx2
      have HX2 := Lib.hid (show HoldsD u2 (.slice a4 n2 c4) L2 from HoldsE.own pl_len (by rw [E2.out]; exact hx2))
      clear hx2
      have hz2 := hB.size
      have HB2 := Lib.hid hB
      go_wp2
      go_loopg [3, 6] n2 (fun kx s3 sc wr => ∃ (k : Nat) (S : List UInt8), s3 = .string (txB S) ∧ sc = .int .i64 k ∧ k ≤ n2 ∧ n2 - k ≤ kx ∧ Hid (S.length ≤ n1 * 500 + k * 500 ∧ S ++ (L2.drop k).flatMap (toldL sinL) = L1.flatMap (toldL secL) ++ L2.flatMap (toldL sinL)) ∧ Hid (wr.cell? ⟨w.heap.size, 0, none⟩ = some (.slice a1 n1 c1) ∧ wr.cell? ⟨w.heap.size, 1, none⟩ = some (.slice a2 n2 c2) ∧ wr.cell? ⟨w.heap.size, 2, none⟩ = some (.int .i64 pd) ∧ wr.cell? ⟨w.heap.size, 3, none⟩ = some (.int .i64 pt)) ∧ Below u2.heap.size u2 wr)
      case atStart => exact ⟨0, S, rfl, by go_num, by omega, by omega, Lib.hid ⟨by have := HF.out.2; omega, by rw [List.drop_zero]; first | rfl | rw [HF.out.1]⟩, Lib.hid ⟨hp_0, hp_1, hp_2, hp_3⟩, Below.refl _ _⟩
      case round =>
        obtain ⟨k, S, rfl, rfl, hk, hkx, HQ, HP, hBr⟩ := hrel
        have hp_0 := HP.out.1
        have hp_1 := HP.out.2.1
        have hp_2 := HP.out.2.2.1
        have hp_3 := HP.out.2.2.2
        clear HP
        have hzr := hBr.size
        have HBr := Lib.hid hBr
        have hB : Below w.heap.size w wr := Below.trans HB2.out (hBr.mono (by omega))
        clear hBr
        by_cases hlt : k < n2
        · have hin : (0 : Int) ≤ (k : Int) ∧ (k : Int) < (n2 : Int) := by omega
          have hk1 : k < L2.length := by have := E2.out; omega
          obtain ⟨g1, o1, d1, e1, _, c9⟩ := HX2.out.some (by omega)
          obtain ⟨rfl, n9, rfl⟩ := Value.slice.inj e1
          clear e1 n9
          obtain ⟨x0, x1, x2⟩ := get3d c9 (List.getElem?_eq_getElem hk1)
          obtain ⟨q1, q2⟩ := HQ.out
          rw [List.drop_eq_getElem_cons hk1, List.flatMap_cons] at q2
          clear c9 HQ
          generalize L2[k] = x at *
          clear hk1
          obtain ⟨xf, xt, xb⟩ := x
          dsimp only at x0 x1 x2
          have hx_0 := kc HBr.out x0
          have hx_1 := kc HBr.out x1
          have hx_2 := kc HBr.out x2
          have hgx : g1 < wr.heap.size := klt hx_0
          clear x0 x1 x2
          have sS : (txB S).size ≤ 1200000 := by rw [txB_size]; omega
          have sT : (txB (toldL sinL ⟨xf, xt, xb⟩)).size ≤ 500 := told_room sinL (by decide) _
          have hTL := toldL_len sinL (by decide) ⟨xf, xt, xb⟩
          have HQ := Lib.hid (And.intro (And.intro q1 hTL) q2)
          clear q1 q2 hTL
          have HC := Lib.hid (fun W => told_sin xf xt xb W)
          generalize toldL sinL ⟨xf, xt, xb⟩ = T at *
          clear hB
          have hB := HBr.out
          have hbase : u2.heap.size ≤ wr.heap.size := hzr
          clear HBr
          go_wp2_with fail
          ((with_reducible refine (HC.out _).mono ?_); rintro _ y ⟨rfl, hb⟩)
          have T : CC y w.heap.size 0 1 (.slice a1 n1 c1) (.slice a2 n2 c2) ∧ CC y w.heap.size 2 3 (.int .i64 pd) (.int .i64 pt) ∧ CC y g1 (o1 + k * 3) (o1 + k * 3 + 1) (.int .i64 xf) (.int .i64 xt) ∧ y.cell? ⟨g1, o1 + k * 3 + 2, none⟩ = some (.int .i64 xb) := by
              refine ⟨⟨?_, ?_⟩, ⟨?_, ?_⟩, ⟨?_, ?_⟩, ?_⟩ <;> refine kc hb ?_ <;> (go_simp; first | done | rfl)
          have hz := hb.size
          (try simp only [World.size_alloc, World.size_setCell, World.size_drew] at hz)
          have L : w.heap.size < y.heap.size ∧ g1 < y.heap.size := by omega
          have hB' : Below u2.heap.size u2 y := by
              refine kb ?_ hb
              go_grown
          clear hp_0 hp_1 hp_2 hp_3 hlp hnp0 hnp1 hkp1 hnp2 hkp2 hB hsz
          clear hb hz
          obtain ⟨⟨hp_0, hp_1⟩, ⟨hp_2, hp_3⟩, ⟨hx_0, hx_1⟩, hx_2⟩ := T
          obtain ⟨hlp, hlx⟩ := L
          obtain ⟨hnp0, hnp1, hkp1, hnp2, hkp2⟩ := ap0 hlp
          obtain ⟨hnx0, hnx1, hkx1, hnx2, hkx2⟩ := ap0 hlx
          have hB := hB'; clear hB'
          have hsz := hB.size
          go_wp2
          go_roundg (n2 - (k + 1))
          case measure => omega
          case rel => exact ⟨k + 1, S ++ T, by rw [txB_append], by go_num, by omega, by omega, Lib.hid ⟨by have := HQ.out.1; rw [List.length_append]; omega, by rw [← HQ.out.2, List.append_assoc]⟩, Lib.hid ⟨hp_0, hp_1, hp_2, hp_3⟩, hB⟩
        · have HF := Lib.hid (show S = L1.flatMap (toldL secL) ++ L2.flatMap (toldL sinL) ∧ S.length ≤ n1 * 500 + n2 * 500 from ⟨by rw [← HQ.out.2, List.drop_eq_nil_of_le (by have := E2.out; omega)]; simp, by have := HQ.out.1; omega⟩)
          have HW := Lib.hid HBr.out
          clear HQ HBr
          obtain ⟨SB, hSB⟩ : ∃ B, txB S = B := ⟨_, rfl⟩
          obtain ⟨D, hD⟩ : ∃ B, txB (numL pd) = B := ⟨_, rfl⟩
          obtain ⟨T, hT⟩ : ∃ B, txB (numL pt) = B := ⟨_, rfl⟩
          have sD : D.size ≤ 100 := by rw [← hD]; exact numL_size pd
          have sT : T.size ≤ 100 := by rw [← hT]; exact numL_size pt
          have sS : SB.size ≤ 1200000 := by rw [← hSB, txB_size]; have := HF.out.2; omega
          have HD := Lib.hid (fun W => hD ▸ numr_c pd W)
          have HT := Lib.hid (fun W => hT ▸ numr_c pt W)
          have HXX := Lib.hid (And.intro hSB (And.intro hD hT))
          rw [hSB]
          clear hSB hD hT
          go_wp2_with fail
          refine wp_region_plan (fun w' => w'.cell? ⟨w.heap.size, 0, none⟩ = some (.slice a1 n1 c1) ∧ w'.cell? ⟨w.heap.size, 1, none⟩ = some (.slice a2 n2 c2) ∧ w'.cell? ⟨w.heap.size, 2, none⟩ = some (.int .i64 pd) ∧ w'.cell? ⟨w.heap.size, 3, none⟩ = some (.int .i64 pt) ∧ Below w.heap.size w w') (by kernel_rfl) (by kernel_rfl) (by kernel_rfl) ?_ ?_
          · (try dsimp only)
            refine ⟨?_, ?_, ?_, ?_, ?_⟩ <;> first | (go_simp; done) | (simp [*]; done) | go_grown
          repeat (first
            | (refine Plan.val (v := ?_) ?_ ?_ ?_; rotate_left; (· rfl); (· (intro W hSw; (try dsimp only at hSw); go_simp; all_goals (first | (with_reducible rfl) | (constructor <;> (with_reducible rfl)) | (rw [if_neg (by omega)]; done) | (rw [if_neg (by omega)]; with_reducible rfl)))); (try simp only [Act.put, List.setIfInBounds_toArray, List.set_cons_zero, List.set_cons_succ]))
            | (refine Plan.no ?_ ?_; (· rfl); (try simp only [Act.put, List.setIfInBounds_toArray, List.set_cons_zero, List.set_cons_succ]))
            | (refine Plan.call (v := ?_) (f := ?_) (args := ?_) ?_ ?_ ?_ ?_; rotate_left 3; (· rfl); (· (intro W hSw; (try dsimp only at hSw); go_simp; all_goals (first | (with_reducible rfl) | (constructor <;> (with_reducible rfl)) | (rw [if_neg (by omega)]; done) | (rw [if_neg (by omega)]; with_reducible rfl)))); (· (intro W hSw; (try dsimp only at hSw); first | (go_at_call 30; ((with_reducible refine (HD.out _).mono ?_); rintro _ wz ⟨rfl, hb⟩; (refine ⟨?_, ?_⟩; (· with_reducible rfl); exact ⟨kc hb hSw.1, kc hb hSw.2.1, kc hb hSw.2.2.1, kc hb hSw.2.2.2.1, kb hSw.2.2.2.2 hb⟩))) | (go_at_call 30; ((with_reducible refine (HT.out _).mono ?_); rintro _ wz ⟨rfl, hb⟩; (refine ⟨?_, ?_⟩; (· with_reducible rfl); exact ⟨kc hb hSw.1, kc hb hSw.2.1, kc hb hSw.2.2.1, kc hb hSw.2.2.2.1, kb hSw.2.2.2.2 hb⟩))))); (try simp only [Act.put, List.setIfInBounds_toArray, List.set_cons_zero, List.set_cons_succ])))
          refine Plan.done ?_
          intro z T
          (try dsimp only at T)
          clear hp_0 hp_1 hp_2 hp_3 hlp hnp0 hnp1 hkp1 hnp2 hkp2 hB hsz
          obtain ⟨hp_0, hp_1, hp_2, hp_3, hB⟩ := T
          have hsz := hB.size
          have hlp := klt hp_0
          obtain ⟨hnp0, hnp1, hkp1, hnp2, hkp2⟩ := ap0 hlp
          go_wp2
          go_ret
          refine ⟨ret_str ?_, hB⟩
          rw [← HXX.out.1, ← HXX.out.2.1, ← HXX.out.2.2, HR.out, HF.out.1, show (⟨#[100, 101, 99, 108, 97, 115, 115, 105, 102, 121, 32]⟩ : ByteArray) = txB [100, 101, 99, 108, 97, 115, 115, 105, 102, 121, 32] from rfl, show (⟨#[10, 116, 114, 97, 99, 101, 32]⟩ : ByteArray) = txB [10, 116, 114, 97, 99, 101, 32] from rfl, show (⟨#[10]⟩ : ByteArray) = txB [10] from rfl]
          simp only [txB_append, List.append_assoc, List.append_nil, List.nil_append]
  
end Go.Proofs.YtjcmblbnbpikfaaGreatDoor
set_option linter.unusedSimpArgs false
set_option linter.unusedVariables false
namespace Go.Proofs.YtjcmblbnbpikfaaGreatDoor
open Go.RowKit Go.PlainAid

/-- What is wrong with spans of a kind, one by one, as the document has it. -/
def chkD (sink : Bool) (own other : List Sp) : List Sp → Int
  | [] => 0
  | x :: r => if liesB x sink = false ∨ x.b < 1 ∨ 255 < x.b then 10 else if addD x own other ≠ 0 then addD x own other else chkD sink (own ++ [x]) other r
def checkD (p : Pol) : Int :=
  if chkD false [] [] p.s ≠ 0 then chkD false [] [] p.s
  else if chkD true [] p.s p.k ≠ 0 then chkD true [] p.s p.k
  else if mayD p.d && mayT p.t then 0 else 10
/-- The same from a place on. -/
def restC (s k : List Sp) (i : Nat) : Int :=
  if i < s.length then (if chkD false (s.take i) [] (s.drop i) ≠ 0 then chkD false (s.take i) [] (s.drop i) else chkD true [] s k)
  else chkD true (k.take (i - s.length)) s (k.drop (i - s.length))
theorem restC_zero (s k : List Sp) : restC s k 0 = if chkD false [] [] s ≠ 0 then chkD false [] [] s else chkD true [] s k := by
  unfold restC
  cases s with
  | nil => rfl
  | cons x r => rw [if_pos (by simp)]; rfl
theorem restC_s {s k : List Sp} {i : Nat} (h : i < s.length) : restC s k i = if liesB s[i] false = false ∨ s[i].b < 1 ∨ 255 < s[i].b then 10 else if addD s[i] (s.take i) [] ≠ 0 then addD s[i] (s.take i) [] else restC s k (i + 1) := by
  have hd := List.drop_eq_getElem_cons h
  have ht : s.take (i + 1) = s.take i ++ [s[i]] := List.take_succ_eq_append_getElem h
  have e : restC s k (i + 1) = if chkD false (s.take i ++ [s[i]]) [] (s.drop (i + 1)) ≠ 0 then chkD false (s.take i ++ [s[i]]) [] (s.drop (i + 1)) else chkD true [] s k := by
    unfold restC
    by_cases h1 : i + 1 < s.length
    · rw [if_pos h1, ht]
    · rw [if_neg h1, show i + 1 - s.length = 0 from by omega, show s.drop (i + 1) = [] from List.drop_eq_nil_of_le (by omega)]
      rfl
  rw [e]
  unfold restC
  rw [if_pos h, hd, chkD]
  split
  · rfl
  · split
    · rfl
    · rfl
theorem restC_k {s k : List Sp} {i : Nat} (h0 : s.length ≤ i) (h : i - s.length < k.length) : restC s k i = if liesB k[i - s.length] true = false ∨ k[i - s.length].b < 1 ∨ 255 < k[i - s.length].b then 10 else if addD k[i - s.length] (k.take (i - s.length)) s ≠ 0 then addD k[i - s.length] (k.take (i - s.length)) s else restC s k (i + 1) := by
  have hd := List.drop_eq_getElem_cons h
  have ht : k.take (i - s.length + 1) = k.take (i - s.length) ++ [k[i - s.length]] := List.take_succ_eq_append_getElem h
  have e : restC s k (i + 1) = chkD true (k.take (i - s.length) ++ [k[i - s.length]]) s (k.drop (i - s.length + 1)) := by
    unfold restC
    rw [if_neg (by omega), show i + 1 - s.length = i - s.length + 1 from by omega, ht]
  rw [e]
  unfold restC
  rw [if_neg (by omega), hd, chkD]
theorem restC_end {s k : List Sp} {i : Nat} (h : s.length + k.length ≤ i) : restC s k i = 0 := by
  unfold restC
  rw [if_neg (by omega), List.drop_eq_nil_of_le (by omega)]
  rfl
theorem checkD_rest (p : Pol) : checkD p = if restC p.s p.k 0 ≠ 0 then restC p.s p.k 0 else if mayD p.d && mayT p.t then 0 else 10 := by
  unfold checkD
  rw [restC_zero]
  by_cases h : chkD false [] [] p.s ≠ 0
  · rw [if_pos h, if_pos h, if_pos h]
  · rw [if_neg h, if_neg h]
set_option maxRecDepth 100000 in
set_option maxHeartbeats 2000000 in
theorem checkr_c (p : Pol) (hl : p.s.length ≤ 1000 ∧ p.k.length ≤ 1000) (v1 v2 : Value) (w : World) (h1 : HoldsD w v1 p.s) (h2 : HoldsD w v2 p.k) :
    Calls Tryz.prog 9 #[.agg #[v1, v2, .int .i64 p.d, .int .i64 p.t]] w fun e w' => e = .returned (.int .i64 (checkD p)) ∧ Below w.heap.size w w' := by
  rw [checkD_rest]
  obtain ⟨ps, pk, pd, pt⟩ := p
  dsimp only at h1 h2 hl ⊢
  obtain ⟨R, hR⟩ : ∃ R, restC ps pk 0 = R := ⟨_, rfl⟩
  rw [hR]
  obtain ⟨E, hE⟩ : ∃ E, (if R ≠ 0 then R else if mayD pd && mayT pt then 0 else 10) = E := ⟨_, rfl⟩
  rw [hE]
  have HE := Lib.hid hE
  clear hE
  obtain ⟨a1, c1, rfl⟩ := h1.form
  obtain ⟨a2, c2, rfl⟩ := h2.form
  obtain ⟨n1, hn1⟩ : ∃ n, ps.length = n := ⟨_, rfl⟩
  obtain ⟨n2, hn2⟩ : ∃ n, pk.length = n := ⟨_, rfl⟩
  rw [hn1] at h1 hl ⊢
  rw [hn2] at h2 hl ⊢
  obtain ⟨l1, l2⟩ := hl
  have H1 := Lib.hid h1
  have H2 := Lib.hid h2
  have HR := Lib.hid hR
  have HN := Lib.hid (And.intro hn1 hn2)
  clear h1 h2 hR hn1 hn2
  go_enter Tryz.func9, Tryz.ntmps9
  go_wp2
  go_loopg [3] (n1 + n2) (fun kx s3 wr => ∃ k : Nat, s3 = .int .i64 k ∧ k ≤ n1 + n2 ∧ n1 + n2 - k ≤ kx ∧ Hid (restC ps pk k = R) ∧ wr.cell? ⟨w.heap.size, 0, none⟩ = some (.slice a1 n1 c1) ∧ wr.cell? ⟨w.heap.size, 1, none⟩ = some (.slice a2 n2 c2) ∧ wr.cell? ⟨w.heap.size, 2, none⟩ = some (.int .i64 pd) ∧ wr.cell? ⟨w.heap.size, 3, none⟩ = some (.int .i64 pt) ∧ Below w.heap.size w wr)
  case atStart => exact ⟨0, by go_num, by omega, by omega, Lib.hid HR.out, by go_simp, by go_simp, by go_simp, by go_simp, by go_grown⟩
  case round =>
    obtain ⟨k, rfl, hk, hkx, HK, hp_0, hp_1, hp_2, hp_3, hB⟩ := hrel
    by_cases hk1 : k < n1
    · have hkl : k < ps.length := by have := HN.out; omega
      obtain ⟨g1, o1, d1, e1, hcap, c3⟩ := H1.out.some (by have := HN.out; omega)
      obtain ⟨rfl, n1', rfl⟩ := Value.slice.inj e1
      clear e1 n1'
      have hcap' : n1 ≤ c1 := by have := HN.out; omega
      obtain ⟨x0, x1, x2⟩ := get3d c3 (List.getElem?_eq_getElem hkl)
      have hst := restC_s (k := pk) hkl
      rw [HK.out] at hst
      have HO := Lib.hid (fun W (hb : Below w.heap.size w W) => cells_take (m := k) (fun j x hx i u hu => kc hb (c3 j x hx i u hu)) (by omega) hcap)
      clear c3 HK
      generalize ps[k] = x at *
      obtain ⟨xf, xt, xb⟩ := x
      dsimp only at x0 x1 x2 hst
      have hx_0 := kc hB x0
      have hx_1 := kc hB x1
      have hx_2 := kc hB x2
      obtain ⟨L, hL⟩ : ∃ L, liesB ⟨xf, xt, xb⟩ (!true) = L := ⟨_, rfl⟩
      rw [show liesB ⟨xf, xt, xb⟩ false = L from hL] at hst
      have HL := Lib.hid (fun W => hL ▸ liesr_c xf xt xb true W)
      obtain ⟨A, hA⟩ : ∃ A, addD ⟨xf, xt, xb⟩ (ps.take k) [] = A := ⟨_, rfl⟩
      rw [hA] at hst
      have HA := Lib.hid (fun W hb => hA ▸ addr_c xf xt xb (ps.take k) [] (by rw [List.length_take]; have := HN.out; omega) (by simp) _ _ W (HO.out W hb) (HoldsE.nil W))
      have HST := Lib.hid hst
      have hlp := klt hp_0
      have hlx := klt hx_0
      have hq_0 := hp_0
      have hq_1 := hp_1
      have hq_2 := hp_2
      have hq_3 := hp_3
      clear hst x0 x1 x2 hcap hkl hL hA hp_0 hp_1 hp_2 hp_3
      go_wp2_with fail
      ((with_reducible refine (HL.out _).mono ?_); rintro _ u1 ⟨rfl, hb⟩)
      have T : CC u1 w.heap.size 0 1 (.slice (some ⟨g1, o1, none⟩) n1 c1) (.slice a2 n2 c2) ∧ CC u1 w.heap.size 2 3 (.int .i64 pd) (.int .i64 pt) ∧ CC u1 wr.heap.size 0 1 (.int .i64 xf) (.int .i64 xt) ∧ u1.cell? ⟨wr.heap.size, 2, none⟩ = some (.int .i64 xb) := by
          refine ⟨⟨?_, ?_⟩, ⟨?_, ?_⟩, ⟨?_, ?_⟩, ?_⟩ <;> refine kc hb ?_ <;> (go_simp; first | done | rfl)
      have hz := hb.size
      (try simp only [World.size_alloc, World.size_setCell, World.size_drew] at hz)
      have L : w.heap.size < u1.heap.size ∧ wr.heap.size < u1.heap.size := by omega
      have hB' : Below w.heap.size w u1 := by
          refine kb ?_ hb
          go_grown
      clear hb hz
      obtain ⟨⟨hq_0, hq_1⟩, ⟨hq_2, hq_3⟩, ⟨hy_0, hy_1⟩, hy_2⟩ := T
      obtain ⟨hlq, hly⟩ := L
      obtain ⟨hnq0, hnq1, hkq1, hnq2, hkq2⟩ := ap0 hlq
      obtain ⟨hny0, hny1, hky1, hny2, hky2⟩ := ap0 hly
      have hB := hB'; clear hB'
      have hsz := hB.size
      cases L
      · have HF := Lib.hid (show 10 = E from by rw [← HE.out, show R = 10 from HST.out.trans (if_pos (Or.inl rfl))]; exact (if_pos (by decide)).symm)
        go_wp2
        go_ret
        exact ⟨ret_i64 HF.out, hB⟩
      · by_cases b1 : xb < 1
        · have HF := Lib.hid (show 10 = E from by rw [← HE.out, show R = 10 from HST.out.trans (if_pos (Or.inr (Or.inl b1)))]; exact (if_pos (by decide)).symm)
          go_wp2
          go_ret
          exact ⟨ret_i64 HF.out, hB⟩
        · by_cases b2 : 255 < xb
          · have HF := Lib.hid (show 10 = E from by rw [← HE.out, show R = 10 from HST.out.trans (if_pos (Or.inr (Or.inr b2)))]; exact (if_pos (by decide)).symm)
            go_wp2
            go_ret
            exact ⟨ret_i64 HF.out, hB⟩
          · have HS2 := Lib.hid (show R = if A ≠ 0 then A else restC ps pk (k + 1) from HST.out.trans (if_neg (by rintro (h | h | h); cases h; exact b1 h; exact b2 h)))
            go_wp2_with fail
            ((with_reducible refine (HA.out _ hB).mono ?_); rintro _ u2 ⟨rfl, hb⟩)
            have T : CC u2 w.heap.size 0 1 (.slice (some ⟨g1, o1, none⟩) n1 c1) (.slice a2 n2 c2) ∧ CC u2 w.heap.size 2 3 (.int .i64 pd) (.int .i64 pt) ∧ CC u2 wr.heap.size 0 1 (.int .i64 xf) (.int .i64 xt) ∧ u2.cell? ⟨wr.heap.size, 2, none⟩ = some (.int .i64 xb) := by
                refine ⟨⟨?_, ?_⟩, ⟨?_, ?_⟩, ⟨?_, ?_⟩, ?_⟩ <;> refine kc hb ?_ <;> (go_simp; first | done | rfl)
            have hz := hb.size
            (try simp only [World.size_alloc, World.size_setCell, World.size_drew] at hz)
            have L : w.heap.size < u2.heap.size ∧ wr.heap.size < u2.heap.size := by omega
            have hB' : Below w.heap.size w u2 := by
                refine kb ?_ hb
                go_grown
            clear hq_0 hq_1 hq_2 hq_3 hy_0 hy_1 hy_2 hlq hly hnq0 hnq1 hkq1 hnq2 hkq2 hny0 hny1 hky1 hny2 hky2 hB hsz
            clear hb hz
            obtain ⟨⟨hq_0, hq_1⟩, ⟨hq_2, hq_3⟩, ⟨hy_0, hy_1⟩, hy_2⟩ := T
            obtain ⟨hlq, hly⟩ := L
            obtain ⟨hnq0, hnq1, hkq1, hnq2, hkq2⟩ := ap0 hlq
            obtain ⟨hny0, hny1, hky1, hny2, hky2⟩ := ap0 hly
            have hB := hB'; clear hB'
            have hsz := hB.size
            by_cases hz0 : A = 0
            · have HF := Lib.hid (show restC ps pk (k + 1) = R from (HS2.out.trans (if_neg (by rw [hz0]; simp))).symm)
              go_wp2
              go_roundg (n1 + n2 - (k + 1))
              case measure => omega
              case rel => exact ⟨k + 1, by go_num, by omega, by omega, HF, hq_0, hq_1, hq_2, hq_3, hB⟩
            · have HF := Lib.hid (show A = E from by rw [← HE.out, show R = A from HS2.out.trans (if_pos hz0)]; exact (if_pos hz0).symm)
              have hz0' : (A == 0) = false := by simpa using hz0
              go_wp2
              go_ret
              exact ⟨ret_i64 HF.out, hB⟩
    · by_cases hk2 : k < n1 + n2
      · obtain ⟨m, hm⟩ : ∃ m, m = k - n1 := ⟨_, rfl⟩
        have hkm1 : n1 + m ≤ k := by omega
        have hkm2 : k ≤ n1 + m := by omega
        have hsubn : k - n1 = m := by omega
        have hkl : m < pk.length := by have := HN.out; omega
        have hsub : (k : Int) - (n1 : Int) = (m : Int) := by omega
        clear hm
        obtain ⟨g1, o1, d1, e1, hcap, c3⟩ := H2.out.some (by have := HN.out; omega)
        obtain ⟨rfl, n1', rfl⟩ := Value.slice.inj e1
        clear e1 n1'
        have hcap' : n2 ≤ c2 := by have := HN.out; omega
        obtain ⟨x0, x1, x2⟩ := get3d c3 (List.getElem?_eq_getElem hkl)
        have hst := restC_k (s := ps) (k := pk) (i := k) (by have := HN.out; omega) (by have := HN.out; omega)
        simp only [show k - ps.length = m from by have := HN.out; omega] at hst
        rw [HK.out] at hst
        have HO := Lib.hid (fun W (hb : Below w.heap.size w W) => cells_take (m := m) (fun j x hx i u hu => kc hb (c3 j x hx i u hu)) (by omega) hcap)
        clear c3 HK
        generalize pk[m] = x at *
        obtain ⟨xf, xt, xb⟩ := x
        dsimp only at x0 x1 x2 hst
        have hx_0 := kc hB x0
        have hx_1 := kc hB x1
        have hx_2 := kc hB x2
        obtain ⟨L, hL⟩ : ∃ L, liesB ⟨xf, xt, xb⟩ (!false) = L := ⟨_, rfl⟩
        rw [show liesB ⟨xf, xt, xb⟩ true = L from hL] at hst
        have HL := Lib.hid (fun W => hL ▸ liesr_c xf xt xb false W)
        obtain ⟨A, hA⟩ : ∃ A, addD ⟨xf, xt, xb⟩ (pk.take m) ps = A := ⟨_, rfl⟩
        rw [hA] at hst
        have HA := Lib.hid (fun W hb => hA ▸ addr_c xf xt xb (pk.take m) ps (by rw [List.length_take]; have := HN.out; omega) (by have := HN.out; omega) _ _ W (HO.out W hb) (H1.out.below hb))
        have HST := Lib.hid hst
        have hlp := klt hp_0
        have hlx := klt hx_0
        have hq_0 := hp_0
        have hq_1 := hp_1
        have hq_2 := hp_2
        have hq_3 := hp_3
        clear hst x0 x1 x2 hcap hkl hL hA hp_0 hp_1 hp_2 hp_3
        go_wp2_with fail
        ((with_reducible refine (HL.out _).mono ?_); rintro _ u1 ⟨rfl, hb⟩)
        have T : CC u1 w.heap.size 0 1 (.slice a1 n1 c1) (.slice (some ⟨g1, o1, none⟩) n2 c2) ∧ CC u1 w.heap.size 2 3 (.int .i64 pd) (.int .i64 pt) ∧ CC u1 wr.heap.size 0 1 (.int .i64 xf) (.int .i64 xt) ∧ u1.cell? ⟨wr.heap.size, 2, none⟩ = some (.int .i64 xb) := by
            refine ⟨⟨?_, ?_⟩, ⟨?_, ?_⟩, ⟨?_, ?_⟩, ?_⟩ <;> refine kc hb ?_ <;> (go_simp; first | done | rfl)
        have hz := hb.size
        (try simp only [World.size_alloc, World.size_setCell, World.size_drew] at hz)
        have L : w.heap.size < u1.heap.size ∧ wr.heap.size < u1.heap.size := by omega
        have hB' : Below w.heap.size w u1 := by
            refine kb ?_ hb
            go_grown
        clear hb hz
        obtain ⟨⟨hq_0, hq_1⟩, ⟨hq_2, hq_3⟩, ⟨hy_0, hy_1⟩, hy_2⟩ := T
        obtain ⟨hlq, hly⟩ := L
        obtain ⟨hnq0, hnq1, hkq1, hnq2, hkq2⟩ := ap0 hlq
        obtain ⟨hny0, hny1, hky1, hny2, hky2⟩ := ap0 hly
        have hB := hB'; clear hB'
        have hsz := hB.size
        cases L
        · have HF := Lib.hid (show 10 = E from by rw [← HE.out, show R = 10 from HST.out.trans (if_pos (Or.inl rfl))]; exact (if_pos (by decide)).symm)
          go_wp2
          go_ret
          exact ⟨ret_i64 HF.out, hB⟩
        · by_cases b1 : xb < 1
          · have HF := Lib.hid (show 10 = E from by rw [← HE.out, show R = 10 from HST.out.trans (if_pos (Or.inr (Or.inl b1)))]; exact (if_pos (by decide)).symm)
            go_wp2
            go_ret
            exact ⟨ret_i64 HF.out, hB⟩
          · by_cases b2 : 255 < xb
            · have HF := Lib.hid (show 10 = E from by rw [← HE.out, show R = 10 from HST.out.trans (if_pos (Or.inr (Or.inr b2)))]; exact (if_pos (by decide)).symm)
              go_wp2
              go_ret
              exact ⟨ret_i64 HF.out, hB⟩
            · have HS2 := Lib.hid (show R = if A ≠ 0 then A else restC ps pk (k + 1) from HST.out.trans (if_neg (by rintro (h | h | h); cases h; exact b1 h; exact b2 h)))
              go_wp2_with fail
              ((with_reducible refine (HA.out _ hB).mono ?_); rintro _ u2 ⟨rfl, hb⟩)
              have T : CC u2 w.heap.size 0 1 (.slice a1 n1 c1) (.slice (some ⟨g1, o1, none⟩) n2 c2) ∧ CC u2 w.heap.size 2 3 (.int .i64 pd) (.int .i64 pt) ∧ CC u2 wr.heap.size 0 1 (.int .i64 xf) (.int .i64 xt) ∧ u2.cell? ⟨wr.heap.size, 2, none⟩ = some (.int .i64 xb) := by
                  refine ⟨⟨?_, ?_⟩, ⟨?_, ?_⟩, ⟨?_, ?_⟩, ?_⟩ <;> refine kc hb ?_ <;> (go_simp; first | done | rfl)
              have hz := hb.size
              (try simp only [World.size_alloc, World.size_setCell, World.size_drew] at hz)
              have L : w.heap.size < u2.heap.size ∧ wr.heap.size < u2.heap.size := by omega
              have hB' : Below w.heap.size w u2 := by
                  refine kb ?_ hb
                  go_grown
              clear hq_0 hq_1 hq_2 hq_3 hy_0 hy_1 hy_2 hlq hly hnq0 hnq1 hkq1 hnq2 hkq2 hny0 hny1 hky1 hny2 hky2 hB hsz
              clear hb hz
              obtain ⟨⟨hq_0, hq_1⟩, ⟨hq_2, hq_3⟩, ⟨hy_0, hy_1⟩, hy_2⟩ := T
              obtain ⟨hlq, hly⟩ := L
              obtain ⟨hnq0, hnq1, hkq1, hnq2, hkq2⟩ := ap0 hlq
              obtain ⟨hny0, hny1, hky1, hny2, hky2⟩ := ap0 hly
              have hB := hB'; clear hB'
              have hsz := hB.size
              by_cases hz0 : A = 0
              · have HF := Lib.hid (show restC ps pk (k + 1) = R from (HS2.out.trans (if_neg (by rw [hz0]; simp))).symm)
                go_wp2
                go_roundg (n1 + n2 - (k + 1))
                case measure => omega
                case rel => exact ⟨k + 1, by go_num, by omega, by omega, HF, hq_0, hq_1, hq_2, hq_3, hB⟩
              · have HF := Lib.hid (show A = E from by rw [← HE.out, show R = A from HS2.out.trans (if_pos hz0)]; exact (if_pos hz0).symm)
                have hz0' : (A == 0) = false := by simpa using hz0
                go_wp2
                go_ret
                exact ⟨ret_i64 HF.out, hB⟩
      · have HF := Lib.hid (show (if mayD pd && mayT pt then 0 else 10) = E from by rw [← HE.out, ← HK.out, restC_end (by have := HN.out; omega)]; rfl)
        clear HK HE
        unfold mayD mayT at HF
        by_cases q1 : pd < 0
        · have HG := Lib.hid (show 10 = E from by rw [← HF.out, decide_eq_false (show ¬ 0 ≤ pd by omega)]; rfl)
          go_wp2
          go_ret
          exact ⟨ret_i64 HG.out, hB⟩
        · by_cases q2 : 1000 < pd
          · have HG := Lib.hid (show 10 = E from by rw [← HF.out, decide_eq_true (show 0 ≤ pd by omega), decide_eq_false (show ¬ pd ≤ 1000 by omega)]; rfl)
            go_wp2
            go_ret
            exact ⟨ret_i64 HG.out, hB⟩
          · by_cases q3 : pt < 1
            · have HG := Lib.hid (show 10 = E from by rw [← HF.out, decide_eq_false (show ¬ 1 ≤ pt by omega), Bool.false_and, Bool.and_false]; rfl)
              go_wp2
              go_ret
              exact ⟨ret_i64 HG.out, hB⟩
            · by_cases q4 : 4096 < pt
              · have HG := Lib.hid (show 10 = E from by rw [← HF.out, decide_eq_false (show ¬ pt ≤ 4096 by omega), Bool.and_false, Bool.and_false]; rfl)
                go_wp2
                go_ret
                exact ⟨ret_i64 HG.out, hB⟩
              · have HG := Lib.hid (show 0 = E from by rw [← HF.out, decide_eq_true (show 0 ≤ pd by omega), decide_eq_true (show pd ≤ 1000 by omega), decide_eq_true (show 1 ≤ pt by omega), decide_eq_true (show pt ≤ 4096 by omega)]; rfl)
                go_wp2
                go_ret
                exact ⟨ret_i64 HG.out, hB⟩
end Go.Proofs.YtjcmblbnbpikfaaGreatDoor
set_option linter.unusedSimpArgs false
set_option linter.unusedVariables false
namespace Go.Proofs.YtjcmblbnbpikfaaGreatDoor
open Go.RowKit Go.PlainAid

theorem clashR_any (x : Mk) : ∀ (l : List Mk) (e : Int), clashR x e l = if l.any (fun y => meetB x.s y.s && y.k == x.k) then 16 else if l.any (fun y => meetB x.s y.s) then 15 else e
  | [], e => rfl
  | y :: r, e => by
    unfold clashR
    rw [List.any_cons, List.any_cons]
    cases hm : meetB x.s y.s with
    | false =>
      rw [if_neg (by simp), clashR_any x r e]
      simp
    | true =>
      rw [if_pos rfl]
      by_cases hk : x.k = y.k
      · rw [if_pos hk]
        have : (y.k == x.k) = true := by simp [hk]
        rw [this]
        simp
      · rw [if_neg hk, clashR_any x r 15]
        have : (y.k == x.k) = false := by simpa using fun h => hk h.symm
        rw [this]
        simp only [Bool.true_and, Bool.false_or, Bool.true_or, if_true]
        split
        · rfl
        · split <;> rfl
theorem any_map (k K : Bool) (x : Sp) : ∀ l : List Sp, (l.map fun y => (⟨y, k⟩ : Mk)).any (fun y => meetB x y.s && y.k == K) = (l.any (meetB x) && k == K)
  | [] => by simp
  | y :: r => by
    rw [List.map_cons, List.any_cons, List.any_cons, any_map k K x r]
    cases meetB x y <;> cases (k == K) <;> cases r.any (meetB x) <;> rfl
theorem any_map' (k : Bool) (x : Sp) : ∀ l : List Sp, (l.map fun y => (⟨y, k⟩ : Mk)).any (fun y => meetB x y.s) = l.any (meetB x)
  | [] => rfl
  | y :: r => by rw [List.map_cons, List.any_cons, List.any_cons, any_map' k x r]
/-- One more span, of either kind. -/
theorem addM_doc (x : Sp) (k : Bool) (own other : List Sp) (hb : 0 ≤ x.b ∧ x.b ≤ 255) (hl : own.length + other.length ≤ 64) :
    addM ⟨x, k⟩ (other.map (fun y => ⟨y, !k⟩) ++ own.map (fun y => ⟨y, k⟩)) = if liesB x k = false ∨ x.b < 1 ∨ 255 < x.b then 10 else addD x own other := by
  unfold addM
  dsimp only
  by_cases h1 : liesB x k = false ∨ x.b = 0
  · rw [if_pos h1, if_pos (by rcases h1 with h | h; exact .inl h; exact .inr (.inl (by omega)))]
  · have hn : ¬ (liesB x k = false ∨ x.b < 1 ∨ 255 < x.b) := by
      rintro (h | h | h)
      · exact h1 (.inl h)
      · exact h1 (.inr (by omega))
      · omega
    rw [if_neg h1, if_neg hn]
    unfold addD
    have e : (other.map (fun y => (⟨y, !k⟩ : Mk)) ++ own.map (fun y => (⟨y, k⟩ : Mk))).length = own.length + other.length := by rw [List.length_append, List.length_map, List.length_map]; omega
    rw [e]
    by_cases h2 : own.length + other.length = 64
    · rw [if_pos h2, if_pos (by omega)]
    · rw [if_neg h2, if_neg (by omega), clashR_any]
      dsimp only
      rw [List.any_append, List.any_append, any_map, any_map, any_map', any_map']
      have k1 : ((!k) == k) = false := by cases k <;> rfl
      have k2 : (k == k) = true := by cases k <;> rfl
      rw [k1, k2]
      cases own.any (meetB x) <;> cases other.any (meetB x) <;> rfl
theorem chkR_append : ∀ (a b acc : List Mk), chkR acc (a ++ b) = if chkR acc a ≠ 0 then chkR acc a else chkR (acc ++ a) b
  | [], b, acc => by rw [List.nil_append, List.append_nil]; rfl
  | x :: r, b, acc => by
    rw [List.cons_append, chkR, chkR]
    by_cases h : addM x acc = 0
    · rw [if_pos h, if_pos h, chkR_append r b (acc ++ [x]), List.append_assoc]
      rfl
    · rw [if_neg h, if_neg h, if_pos h]
theorem chkR_doc (k : Bool) (other : List Sp) : ∀ (l own : List Sp), (∀ x ∈ l, 0 ≤ x.b ∧ x.b ≤ 255) → own.length + other.length ≤ 64 → chkR (other.map (fun y => ⟨y, !k⟩) ++ own.map (fun y => ⟨y, k⟩)) (l.map fun y => ⟨y, k⟩) = chkD k own other l
  | [], own, _, _ => rfl
  | x :: r, own, hb, hl => by
    have ha := addM_doc x k own other (hb x (by simp)) hl
    rw [List.map_cons, chkR, chkD, ha]
    by_cases h1 : liesB x k = false ∨ x.b < 1 ∨ 255 < x.b
    · rw [if_pos h1, if_pos h1, if_neg (by decide)]
    · rw [if_neg h1, if_neg h1]
      by_cases h2 : addD x own other = 0
      · rw [if_pos h2, if_neg (by rw [h2]; simp)]
        have h3 : own.length + other.length < 64 := by
          unfold addD at h2
          split at h2
          · cases h2
          · omega
        have ih := chkR_doc k other r (own ++ [x]) (fun y hy => hb y (by simp [hy])) (by rw [List.length_append]; simp only [List.length_cons, List.length_nil]; omega)
        rw [List.map_append, ← List.append_assoc] at ih
        exact ih
      · rw [if_neg h2, if_pos h2]
theorem chkD_len (k : Bool) (other : List Sp) : ∀ (l own : List Sp), chkD k own other l = 0 → own.length + other.length ≤ 64 → own.length + l.length + other.length ≤ 64
  | [], own, _, h => by simpa using h
  | x :: r, own, h, hl => by
    unfold chkD at h
    split at h
    · cases h
    · split at h
      · rename_i h2; exact absurd h h2
      · rename_i h2
        have h2 := Decidable.not_not.1 h2
        have h3 : own.length + other.length < 64 := by
          unfold addD at h2
          split at h2
          · cases h2
          · omega
        have := chkD_len k other r (own ++ [x]) h (by rw [List.length_append]; simp only [List.length_cons, List.length_nil]; omega)
        rw [List.length_append] at this
        simp only [List.length_cons, List.length_nil] at this ⊢
        omega
theorem check_eq {p : Pol} (hb : Bits p) : checkM p = checkD p := by
  unfold checkM checkD markS
  have h1 := chkR_doc false [] p.s [] hb.1 (by simp)
  simp only [List.map_nil, List.nil_append] at h1
  rw [chkR_append, h1, List.nil_append]
  by_cases h0 : chkD false [] [] p.s = 0
  · have hl := chkD_len false [] p.s [] h0 (by simp)
    have h2 := chkR_doc true p.s p.k [] hb.2 (by simp at hl ⊢; omega)
    simp only [List.map_nil, List.append_nil, Bool.not_true] at h2
    have e0 : (if chkD false [] [] p.s ≠ 0 then chkD false [] [] p.s else chkR (p.s.map fun x => (⟨x, false⟩ : Mk)) (p.k.map fun x => (⟨x, true⟩ : Mk))) = chkD true [] p.s p.k := by rw [if_neg (by rw [h0]; simp), h2]
    rw [e0, if_neg (show ¬ chkD false [] [] p.s ≠ 0 by rw [h0]; simp)]
    by_cases h3 : chkD true [] p.s p.k = 0
    · rw [if_pos h3, if_neg (show ¬ chkD true [] p.s p.k ≠ 0 by rw [h3]; simp)]
    · rw [if_neg h3, if_pos h3]
  · have e0 : (if chkD false [] [] p.s ≠ 0 then chkD false [] [] p.s else chkR (p.s.map fun x => (⟨x, false⟩ : Mk)) (p.k.map fun x => (⟨x, true⟩ : Mk))) = chkD false [] [] p.s := if_pos h0
    rw [e0, if_neg h0, if_pos h0]
/-- A span's line. -/
theorem told_eq (k : Bool) (x : Sp) : bodyX (Spec.sp k x).core ++ [10] = toldL (if k then sinL else secL) x := by
  have hn : ∀ n, tx (nmT n) = numL n := fun n => rfl
  have hd : tx dotsT = [46, 46] := rfl
  have hb : tx (wordT bitsK) = [98, 105, 116, 115] := by decide
  have hw : tx (wordT (if k then sinkL else secretL)) = (if k then sinL else secL) := by cases k <;> decide
  unfold Spec.core toldL
  by_cases h1 : x.t = x.f
  · by_cases h2 : x.b = 255
    · simp only [if_pos h1, if_pos h2, List.append_nil, bodyX, hn, hd, hb, hw, List.nil_append, List.cons_append, List.append_assoc]
    · simp only [if_pos h1, if_neg h2, List.append_nil, bodyX, hn, hd, hb, hw, List.nil_append, List.cons_append, List.append_assoc]
  · by_cases h2 : x.b = 255
    · simp only [if_neg h1, if_pos h2, List.append_nil, bodyX, hn, hd, hb, hw, List.nil_append, List.cons_append, List.append_assoc]
    · simp only [if_neg h1, if_neg h2, List.append_nil, bodyX, hn, hd, hb, hw, List.nil_append, List.cons_append, List.append_assoc]
theorem txt_spans (k : Bool) : ∀ l : List Sp, txtX ((l.map fun x => Spec.sp k x).map Spec.core) = l.flatMap (toldL (if k then sinL else secL))
  | [] => rfl
  | x :: r => by
    have h := txt_spans k r
    unfold txtX at h ⊢
    rw [List.map_cons, List.map_cons, List.flatMap_cons, List.flatMap_cons, h, told_eq]
theorem print_eq {p : Pol} (h : checkM p = 0) (hb : Bits p) : (printM p).1 = printD p := by
  rw [print_ok h hb]
  have h1 := txt_spans false (sortP p).s
  have h2 := txt_spans true (sortP p).k
  simp only [Bool.false_eq_true, if_false, if_true] at h1 h2
  have ha : ∀ a b : List (List Tk), txtX (a ++ b) = txtX a ++ txtX b := fun a b => by unfold txtX; rw [List.flatMap_append]
  have hm : ∀ (k : Bool) (l : List Sp), (l.map fun x => (⟨x, k⟩ : Mk)).map specOf = l.map fun x => Spec.sp k x := fun k l => by rw [List.map_map]; rfl
  show txtX ((specsP (sortP p)).map Spec.core) = _
  unfold specsP markS
  rw [List.map_append, List.map_append, List.map_append, hm, hm, ha, ha, h1, h2]
  unfold printD
  show _ ++ _ ++ (bodyX (Spec.de p.d).core ++ [10] ++ (bodyX (Spec.tr p.t).core ++ [10] ++ [])) = _
  have hd : tx (wordT declL) = [100, 101, 99, 108, 97, 115, 115, 105, 102, 121] := by decide
  have ht : tx (wordT traceL) = [116, 114, 97, 99, 101] := by decide
  have hn : ∀ n, tx (nmT n) = numL n := fun n => rfl
  unfold Spec.core
  simp only [bodyX, hn, hd, ht, List.append_nil, List.nil_append, List.cons_append, List.append_assoc]
  rfl
end Go.Proofs.YtjcmblbnbpikfaaGreatDoor
