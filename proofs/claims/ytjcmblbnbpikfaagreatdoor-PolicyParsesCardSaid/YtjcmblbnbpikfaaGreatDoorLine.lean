/- Layer 7, the program: the -/
import Derived.Test.YtjcmblbnbpikfaaGreatDoorJoinb
import Derived.Test.YtjcmblbnbpikfaaGreatDoorSpan
set_option linter.unusedSimpArgs false
set_option linter.unusedVariables false
namespace Go.Proofs.YtjcmblbnbpikfaaGreatDoor
open Lib (hid)
open Go.RowKit Go.PlainAid

theorem Tryz.infoTk : (Tryz.prog.info? 81).map (fun i => (i.zero, i.size, i.bytes)) = some (some (.agg #[.int .i64 0, .string ⟨#[]⟩, .int .i64 0, .int .i64 0, .int .i64 0]), 5, 48) := by kernel_rfl
theorem wpList_tok {ops : Array Oper} {rest : List Oper} {o : Oper} {a : Act} {Q : Exit → Act → World → Prop} {W0 U : World} {B : Nat} (hgd : o.guard = none) (s x : Operand) (ho : o.op = .call { callee := .builtin .append, args := #[s, x], argTypes := #[56, 56] })
  (v : Value) (acc : List Tk) (m : Nat) (hm : acc.length = m) (hs : a.eval s = v) (hown : U.ownsRow B 81 5 v m (cellsT acc)) (t : Tk) (hx : a.eval x = .slice (some ⟨U.heap.size, 0, none⟩) 1 1) (hlen : acc.length ≤ 100000) (hB : B ≤ U.heap.size) (hbl : Below B W0 U)
  (h : ∀ v' w', w'.ownsRow B 81 5 v' (m + 1) (cellsT (acc ++ [t])) → Below B W0 w' → wpList Tryz.prog ops Q rest (a.put o.dst v') w') :
  wpList Tryz.prog ops Q (o :: rest) a (U.alloc (.cells #[.int .i64 t.k, .string (txB t.t), .int .i64 t.n, .int .i64 t.line, .int .i64 t.col] 81)) := by
 subst hm
 obtain ⟨i0, hi, hz0, hz1, hz2⟩ := info_parts Tryz.infoTk
 refine wpList_append_own _ hgd s x 56 ho B 81 i0 _ 5 48 Tryz.underlying56 hi hz0 hz1 hz2 rfl (by decide) v acc.length (cellsT acc) hs (own_below hown ((Below.refl _ U).alloc (Nat.le_refl _) _)) ⟨U.heap.size, 0, none⟩ 1 1 (cellsT [t]) hx rfl (cells5_at (W := U) 81 t) (cellsT_one_cell _) (by unfold maxLen; omega) (by omega) (by simp; omega) ?_
 intro v' w' h1 h2 _
 refine h v' w' (by rw [cellsT_append]; exact h1) (Below.grown (hbl.alloc hB _) h2 (by simp; omega) (fun k hk => (hown.lt k hk).1))
theorem own_built (U : World) (B : Nat) (t : Tk) (hB : B ≤ U.heap.size) : (U.alloc (.cells #[.int .i64 t.k, .string (txB t.t), .int .i64 t.n, .int .i64 t.line, .int .i64 t.col] 81)).ownsRow B 81 5 (.slice (some ⟨U.heap.size, 0, none⟩) 1 1) [t].length (cellsT [t]) :=
 ⟨rfl, .inr ⟨U.heap.size, 1, _, rfl, hB, heap_alloc_new U _, Nat.le_refl _, by decide, rfl, rfl⟩⟩
def wordT (l : List UInt8) : Tk := ⟨1, l, 0, 0, 0⟩
def nmT (n : Int) : Tk := ⟨2, [], n, 0, 0⟩
def dotsT : Tk := ⟨3, [], 0, 0, 0⟩
def endK : Tk := ⟨4, [], 0, 0, 0⟩
def bitsK : List UInt8 := [98, 105, 116, 115]
def numK (ns : List Int) (k : Nat) : List Tk :=
 if k = 1 then (if ns.getD 1 0 = ns.getD 0 0 then [] else [dotsT, nmT (ns.getD 1 0)])
 else if k = 2 then (if ns.getD 2 0 = 255 then [] else [wordT bitsK, nmT (ns.getD 2 0)])
 else [nmT (ns.getD k 0)]
def lineP (wd : List UInt8) (ns : List Int) : Nat → List Tk
 | 0 => [wordT wd]
 | k + 1 => lineP wd ns k ++ numK ns k
def lineT (wd : List UInt8) (ns : List Int) : List Tk := lineP wd ns ns.length ++ [endK]
theorem lineP_len (wd : List UInt8) (ns : List Int) : ∀ k, (lineP wd ns k).length ≤ 1 + 2 * k
 | 0 => Nat.le_refl _
 | k + 1 => by
  have := lineP_len wd ns k
  unfold lineP
  rw [List.length_append]
  have h2 : (numK ns k).length ≤ 2 := by
   unfold numK
   split
   ·split <;> simp
   ·split
    ·split <;> simp
    ·simp
  omega
def AnsT (w : World) (l : List Tk) : Ending → World → Prop := fun e w' => ∃ v, e = .returned v ∧ w'.ownsRow w.heap.size 81 5 v l.length (cellsT l) ∧ Below w.heap.size w w'
set_option maxRecDepth 100000 in
set_option maxHeartbeats 4000000 in
theorem line_fc (wd : List UInt8) (ns : List Int) (hns : ns.length ≤ 1000) (g c : Nat) (w : World) (hc : ∀ (j : Nat) (x : Int), ns[j]? = some x → w.cell? ⟨g, j, none⟩ = some (.int .i64 x)) :
  Calls Tryz.prog 24 #[.string (txB wd), .slice (some ⟨g, 0, none⟩) ns.length c] w (AnsT w (lineT wd ns)) := by
 obtain ⟨n, hn⟩ : ∃ n, ns.length = n := ⟨_, rfl⟩
 have HC := hid hc
 have HN := hid (And.intro hn hns)
 have HT := hid (show lineT wd ns = lineP wd ns n ++ [endK] by rw [← hn]; rfl)
 rw [hn]
 clear hc hn hns
 obtain ⟨T, hT⟩ : ∃ T, txB wd = T := ⟨_, rfl⟩
 have HW := hid hT
 rw [hT]
 clear hT
 go_enter Tryz.func24, Tryz.ntmps24
 go_wp2
 go_loopg [5, 13] n (fun kx s5 s13 wr => ∃ (k : Nat), s13 = .int .i64 k ∧ k ≤ n ∧ n - k ≤ kx ∧ Hid (wr.ownsRow w.heap.size 81 5 s5 (lineP wd ns k).length (cellsT (lineP wd ns k))) ∧ Below w.heap.size w wr)
 case atStart => exact ⟨0, by go_num, by omega, by omega, hid (by rw [← HW.out]; exact own_built w w.heap.size (wordT wd) (Nat.le_refl _)), by go_grown⟩
 case round =>
  obtain ⟨k, rfl, hk, hkx, HO, hB⟩ := hrel
  have hnb : n ≤ 1000 := by have := HN.out; omega
  have HLn := hid (show (lineP wd ns k).length ≤ 2001 ∧ k ≤ n by have := lineP_len wd ns k; have := HN.out; omega)
  obtain ⟨p5, c5, rfl⟩ := own_form HO.out
  have hsz := hB.size
  by_cases hlt : k < n
  ·have hin : (0 : Int) ≤ (k : Int) ∧ (k : Int) < (n : Int) := by omega
   have hx : ns[k]? = some (ns.getD k 0) := by rw [List.getD_eq_getElem?_getD, List.getElem?_eq_getElem (by have := HN.out; omega)]; rfl
   have hk0 := kc hB (HC.out k _ hx)
   have hstep : lineP wd ns (k + 1) = lineP wd ns k ++ numK ns k := rfl
   have hgl := klt hk0
   have HB := hid hB
   by_cases h1 : k = 1
   ·subst h1
    have hz : ns[0]? = some (ns.getD 0 0) := by rw [List.getD_eq_getElem?_getD, List.getElem?_eq_getElem (by have := HN.out; omega)]; rfl
    have hz0 := kc hB (HC.out 0 _ hz)
    have hd : decide ((1 : Int) < (n : Int)) = true := decide_eq_true (by omega)
    have hpos : (0 : Int) < (n : Int) := by omega
    have hpos2 : 0 < n := by omega
    have hstep2 : lineP wd ns 2 = lineP wd ns 1 ++ (if ns.getD 1 0 = ns.getD 0 0 then [] else [dotsT, nmT (ns.getD 1 0)]) := hstep
    clear hstep hx hz
    generalize ns.getD 0 0 = x0 at *
    generalize ns.getD 1 0 = x1 at *
    cases he : (x1 == x0)
    ·have HSt := hid (show lineP wd ns 2 = lineP wd ns 1 ++ [dotsT] ++ [nmT x1] by rw [hstep2, if_neg (by simpa using he)]; simp)
     clear hstep2
     go_wp2_with (at_builtin; refine wpList_tok (W0 := w) (B := w.heap.size) rfl _ _ rfl _ (lineP wd ns 1) _ (by first | rfl | (simp only [List.length_append, List.length_cons, List.length_nil]; done)) rfl HO.out dotsT rfl (by have := HLn.out; (try simp only [List.length_append, List.length_cons, List.length_nil]); omega) (by omega) HB.out ?_)
     intro v1 y1 hown1 hb1
     obtain ⟨p6, c6, rfl⟩ := own_form hown1
     have HO1 := hid hown1
     have hs1 := hb1.size
     have HB1 := hid hb1
     clear hown1 hb1
     go_wp2_with (at_builtin; refine wpList_tok (W0 := w) (B := w.heap.size) rfl _ _ rfl _ (lineP wd ns 1 ++ [dotsT]) _ (by first | rfl | (simp only [List.length_append, List.length_cons, List.length_nil]; done)) rfl HO1.out (nmT x1) rfl (by have := HLn.out; (try simp only [List.length_append, List.length_cons, List.length_nil]); omega) (by omega) HB1.out ?_)
     intro v2 y2 hown2 hb2
     have HO2 := hid hown2
     clear hown2
     go_wp2
     go_roundg (n - (1 + 1))
     case measure => omega
     case rel => exact ⟨2, by go_num, by omega, by omega, hid (by rw [HSt.out]; (try simp only [List.length_append, List.length_cons, List.length_nil]); first | exact HO2.out | (rw [List.append_assoc]; exact HO2.out)), hb2⟩
    ·have HSt := hid (show lineP wd ns 2 = lineP wd ns 1 by rw [hstep2, if_pos (by simpa using he), List.append_nil])
     clear hstep2
     go_wp2
     go_roundg (n - (1 + 1))
     case measure => omega
     case rel => exact ⟨2, by go_num, by omega, by omega, hid (by rw [HSt.out]; exact HO.out), HB.out⟩
   ·by_cases h2 : k = 2
    ·subst h2
     have hd : decide ((2 : Int) < (n : Int)) = true := decide_eq_true (by omega)
     have hstep2 : lineP wd ns 3 = lineP wd ns 2 ++ (if ns.getD 2 0 = 255 then [] else [wordT bitsK, nmT (ns.getD 2 0)]) := hstep
     clear hstep hx h1
     generalize ns.getD 2 0 = x1 at *
     cases he : (x1 == 255)
     ·have HSt := hid (show lineP wd ns 3 = lineP wd ns 2 ++ [wordT bitsK] ++ [nmT x1] by rw [hstep2, if_neg (by simpa using he)]; simp)
      clear hstep2
      go_wp2_with (at_builtin; refine wpList_tok (W0 := w) (B := w.heap.size) rfl _ _ rfl _ (lineP wd ns 2) _ (by first | rfl | (simp only [List.length_append, List.length_cons, List.length_nil]; done)) rfl HO.out (wordT bitsK) rfl (by have := HLn.out; (try simp only [List.length_append, List.length_cons, List.length_nil]); omega) (by omega) HB.out ?_)
      intro v1 y1 hown1 hb1
      obtain ⟨p6, c6, rfl⟩ := own_form hown1
      have HO1 := hid hown1
      have hs1 := hb1.size
      have HB1 := hid hb1
      clear hown1 hb1
      go_wp2_with (at_builtin; refine wpList_tok (W0 := w) (B := w.heap.size) rfl _ _ rfl _ (lineP wd ns 2 ++ [wordT bitsK]) _ (by first | rfl | (simp only [List.length_append, List.length_cons, List.length_nil]; done)) rfl HO1.out (nmT x1) rfl (by have := HLn.out; (try simp only [List.length_append, List.length_cons, List.length_nil]); omega) (by omega) HB1.out ?_)
      intro v2 y2 hown2 hb2
      have HO2 := hid hown2
      clear hown2
      go_wp2
      go_roundg (n - (2 + 1))
      case measure => omega
      case rel => exact ⟨3, by go_num, by omega, by omega, hid (by rw [HSt.out]; (try simp only [List.length_append, List.length_cons, List.length_nil]); first | exact HO2.out | (rw [List.append_assoc]; exact HO2.out)), hb2⟩
     ·have HSt := hid (show lineP wd ns 3 = lineP wd ns 2 by rw [hstep2, if_pos (by simpa using he), List.append_nil])
      clear hstep2
      go_wp2
      go_roundg (n - (2 + 1))
      case measure => omega
      case rel => exact ⟨3, by go_num, by omega, by omega, hid (by rw [HSt.out]; exact HO.out), HB.out⟩
    ·have hd : decide ((k : Int) < (n : Int)) = true := decide_eq_true (by omega)
     have e1 : ((k : Int) == 1) = false := by simpa using (show ¬ (k : Int) = 1 by omega)
     have e2 : ((k : Int) == 2) = false := by simpa using (show ¬ (k : Int) = 2 by omega)
     have HSt := hid (show lineP wd ns (k + 1) = lineP wd ns k ++ [nmT (ns.getD k 0)] by rw [hstep]; unfold numK; rw [if_neg h1, if_neg h2])
     clear hstep hx h1 h2
     generalize ns.getD k 0 = x1 at *
     go_wp2_with (at_builtin; refine wpList_tok (W0 := w) (B := w.heap.size) rfl _ _ rfl _ (lineP wd ns k) _ (by first | rfl | (simp only [List.length_append, List.length_cons, List.length_nil]; done)) rfl HO.out (nmT x1) rfl (by have := HLn.out; (try simp only [List.length_append, List.length_cons, List.length_nil]); omega) (by omega) HB.out ?_)
     intro v2 y2 hown2 hb2
     have HO2 := hid hown2
     clear hown2
     go_wp2
     go_roundg (n - (k + 1))
     case measure => omega
     case rel => exact ⟨k + 1, by go_num, by omega, by omega, hid (by rw [HSt.out]; (try simp only [List.length_append, List.length_cons, List.length_nil]); first | exact HO2.out | (rw [List.append_assoc]; exact HO2.out)), hb2⟩
  ·have hd : decide ((k : Int) < (n : Int)) = false := decide_eq_false (by omega)
   have HB := hid hB
   have hkn : k = n := by omega
   have HF := hid hkn
   clear hkn
   go_wp2_with (at_builtin; refine wpList_tok (W0 := w) (B := w.heap.size) rfl _ _ rfl _ (lineP wd ns k) _ (by first | rfl | (simp only [List.length_append, List.length_cons, List.length_nil]; done)) rfl HO.out endK rfl (by have := HLn.out; (try simp only [List.length_append, List.length_cons, List.length_nil]); omega) (by omega) HB.out ?_)
   intro v2 y2 hown2 hb2
   have HO2 := hid hown2
   clear hown2
   go_wp2
   go_ret
   exact ⟨_, rfl, by rw [HT.out, ← HF.out]; (try simp only [List.length_append, List.length_cons, List.length_nil]); first | exact HO2.out | (rw [List.append_assoc]; exact HO2.out), hb2⟩
end Go.Proofs.YtjcmblbnbpikfaaGreatDoor
