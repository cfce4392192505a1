/- Layer 7, the program's -/
import Derived.Test.YtjcmblbnbpikfaaGreatDoorReaders
import Derived.ChangeMaps5
import Derived.Test.YtjcmblbnbpikfaaGreatDoorPolicyp
set_option linter.unusedSimpArgs false
set_option linter.unusedVariables false
namespace Go.Proofs.YtjcmblbnbpikfaaGreatDoor

open Go.RowKit Go.PlainAid

theorem find_none (K : ByteArray) : ∀ (l : List MapEntry) (i : Nat), (∀ x ∈ l, ∃ T, x.key = .string T ∧ (K == T) = false) → Instr.findNow .string (.string K) l i = some none
 | [], i, _ => rfl
 | e :: es, i, h => by
  obtain ⟨T, hT, hn⟩ := h e (by simp)
  have hs : Instr.sameNow .string (.string K) e.key = some false := by rw [hT]; show some (K == T) = _; rw [hn]
  unfold Instr.findNow
  rw [hs]
  exact find_none K es (i + 1) (fun x hx => h x (by simp [hx]))
theorem heap_set_top (U : World) (o o' : Obj) : ({ (U.alloc o) with heap := (U.alloc o).heap.setIfInBounds U.heap.size o' } : World) = U.alloc o' := by
 have e : ∀ o, (U.alloc o).heap = U.heap.push o := fun _ => rfl
 have h : (U.alloc o).heap.setIfInBounds U.heap.size o' = (U.alloc o').heap := by
  rw [e, e]
  apply Array.ext
  ·simp
  ·intro i h1 h2
   have hi : i < U.heap.size + 1 := by simpa using h2
   by_cases hh : U.heap.size = i
   ·subst hh; simp
   ·rw [Array.getElem_setIfInBounds_ne (by simpa using hi) hh, Array.getElem_push, Array.getElem_push, dif_pos (by omega), dif_pos (by omega)]
 show ({ (U.alloc o) with heap := _ } : World) = { (U.alloc o') with heap := (U.alloc o').heap }
 rw [h]
 rfl
theorem ins_run (K : ByteArray) (v : Value) (es : Array MapEntry) (c : Nat) (U : World) (h : ∀ x ∈ es.toList, ∃ T, x.key = .string T ∧ (K == T) = false) :
  (Instr.mapUpdate 79 (.map (some U.heap.size)) (.string K) v).run Tryz.prog (U.alloc (.map es c)) = .ok () (U.alloc (.map (es.push ⟨.string K, v, c⟩) (c + 1))) := by
 have hf := find_none K es.toList 0 h
 have hb : (U.alloc (.map es c)).heap[U.heap.size]? = some (.map es c) := heap_alloc_new U _
 have hk : Tryz.prog.underlying 9 = some .string := Tryz.underlying9
 have hc : (Instr.checkKey false 10000 9 (.string K)).run Tryz.prog (U.alloc (.map es c)) = .ok () (U.alloc (.map es c)) := MapKept.run_checkKey (k := .string K) hk (by simp [MapKept.IsKey]) false 9999
 have e := run_underlying (w := U.alloc (.map es c)) Tryz.underlying79
 simp [Instr.mapUpdate, e, MapKept.run_getObj_map hb, hc, MapKept.run_findKey hk hf, MapKept.run_setObj_map _ hb, Result.andThen]
 exact heap_set_top U _ _
def secretL : List UInt8 := [115, 101, 99, 114, 101, 116]
def sinkL : List UInt8 := [115, 105, 110, 107]
def declL : List UInt8 := [100, 101, 99, 108, 97, 115, 115, 105, 102, 121]
def traceL : List UInt8 := [116, 114, 97, 99, 101]
def mval (f : FuncId) (rb : Nat) : Value := .func (.func f) #[.pointer (some ⟨rb, 0, none⟩)] #[]
def ent (l : List UInt8) (f : FuncId) (rb c : Nat) : MapEntry := ⟨.string (txB l), mval f rb, c⟩
def entries (rb : Nat) : Array MapEntry := #[ent secretL 34 rb 0, ent sinkL 35 rb 1, ent declL 36 rb 2, ent traceL 37 rb 3]
theorem txB_beq (a b : List UInt8) : (txB a == txB b) = (a == b) := by
 by_cases h : a = b
 ·subst h
  have : (txB a == txB a) = true := (MapKept.bytes_beq _ _).2 rfl
  rw [this]; simp
 ·have h1 : ¬ (txB a == txB b) = true := fun e => h (by have := congrArg ByteArray.toList ((MapKept.bytes_beq _ _).1 e); rwa [txB_toList, txB_toList] at this)
  have h2 : ¬ (a == b) = true := fun e => h (by simpa using e)
  rw [Bool.eq_false_iff.2 h1, Bool.eq_false_iff.2 h2]
def word4 (t : List UInt8) : Option FuncId := if t = secretL then some 34 else if t = sinkL then some 35 else if t = declL then some 36 else if t = traceL then some 37 else none
theorem find_some (rb : Nat) (t : List UInt8) : Instr.findNow .string (.string (txB t)) (entries rb).toList 0 = some (match word4 t with
  | some f => some (if t = secretL then 0 else if t = sinkL then 1 else if t = declL then 2 else 3, mval f rb)
  | none => none) := by
 have hs : ∀ l, Instr.sameNow .string (.string (txB t)) (.string (txB l)) = some (t == l) := fun l => by show some (txB t == txB l) = _; rw [txB_beq]
 have hf : ∀ l f c es i, Instr.findNow .string (.string (txB t)) (ent l f rb c :: es) i = if t = l then some (some (i, mval f rb)) else Instr.findNow .string (.string (txB t)) es (i + 1) := fun l f c es i => by
  rw [Instr.findNow]
  show (match Instr.sameNow .string (.string (txB t)) (.string (txB l)) with | some true => _ | some false => _ | none => _) = _
  rw [hs l]
  by_cases h : t = l
  ·subst h
   rw [if_pos rfl]
   have : (t == t) = true := by simp
   rw [this]
   rfl
  ·rw [if_neg h]
   have : (t == l) = false := by simpa using h
   rw [this]
 unfold entries word4
 simp only [hf]
 by_cases h1 : t = secretL
 ·simp only [if_pos h1]
 ·simp only [if_neg h1]
  by_cases h2 : t = sinkL
  ·simp only [if_pos h2]
  ·simp only [if_neg h2]
   by_cases h3 : t = declL
   ·simp only [if_pos h3]
   ·simp only [if_neg h3]
    by_cases h4 : t = traceL
    ·simp only [if_pos h4]
    ·simp only [if_neg h4]
     rfl
theorem zero_fn (w : World) : (zeroValue 78).run Tryz.prog w = .ok .nilFunc w := by kernel_rfl
theorem look_run (M rb : Nat) (t : List UInt8) (W : World) (hb : W.heap[M]? = some (.map (entries rb) 4)) :
  (Instr.lookup 79 (.map (some M)) (.string (txB t)) true).run Tryz.prog W = .ok (.tuple #[match word4 t with | some f => mval f rb | none => .nilFunc, .bool (word4 t).isSome]) W := by
 have hf := find_some rb t
 have hk : Tryz.prog.underlying 9 = some .string := Tryz.underlying9
 have hc : ∀ b, (Instr.checkKey b 10000 9 (.string (txB t))).run Tryz.prog W = .ok () W := fun b => MapKept.run_checkKey (k := .string (txB t)) hk (by simp [MapKept.IsKey]) b 9999
 have e := run_underlying (w := W) Tryz.underlying79
 have h1 := MapKept.run_findKey (P := Tryz.prog) (w := W) hk hf
 cases hw : word4 t with
 | none =>
  rw [hw] at h1
  dsimp only at h1
  simp [Instr.lookup, e, MapKept.run_getObj_map hb, hc, h1, zero_fn, Result.andThen]
 | some f =>
  rw [hw] at h1
  dsimp only at h1
  simp [Instr.lookup, e, MapKept.run_getObj_map hb, hc, h1, Result.andThen]
structure LnO where
 e : Int
 li : Int
 co : Int
 r : List Tk
 sp : List Mk
 dn : Int
 db : Bool
 tn : Int
 tb : Bool
def spLn (sink : Bool) (word : Tk) (l : List Tk) (sp : List Mk) (dn : Int) (db : Bool) (tn : Int) (tb : Bool) : LnO :=
 if (spanM l).e ≠ 0 then ⟨(spanM l).e, (spanM l).li, (spanM l).co, [], [], 0, false, 0, false⟩
 else if addM ⟨(spanM l).x, sink⟩ sp = 0 then ⟨0, 0, 0, (spanM l).r, sp ++ [⟨(spanM l).x, sink⟩], dn, db, tn, tb⟩
 else ⟨addM ⟨(spanM l).x, sink⟩ sp, if addM ⟨(spanM l).x, sink⟩ sp = 10 then (spanM l).fl else word.line, if addM ⟨(spanM l).x, sink⟩ sp = 10 then (spanM l).fc else word.col, [], [], 0, false, 0, false⟩
def lineM (word : Tk) (l : List Tk) (sp : List Mk) (dn : Int) (db : Bool) (tn : Int) (tb : Bool) : LnO :=
 if word.t = secretL then spLn false word l sp dn db tn tb
 else if word.t = sinkL then spLn true word l sp dn db tn tb
 else if word.t = declL then (if (settM db mayD word l).e ≠ 0 then ⟨(settM db mayD word l).e, (settM db mayD word l).li, (settM db mayD word l).co, [], [], 0, false, 0, false⟩ else ⟨0, 0, 0, (settM db mayD word l).r, sp, (settM db mayD word l).n, true, tn, tb⟩)
 else if word.t = traceL then (if (settM tb mayT word l).e ≠ 0 then ⟨(settM tb mayT word l).e, (settM tb mayT word l).li, (settM tb mayT word l).co, [], [], 0, false, 0, false⟩ else ⟨0, 0, 0, (settM tb mayT word l).r, sp, dn, db, (settM tb mayT word l).n, true⟩)
 else ⟨14, word.line, word.col, [], [], 0, false, 0, false⟩
structure PO where
 e : Int
 li : Int
 co : Int
 p : Pol
def noPol : Pol := ⟨[], [], 0, 0⟩
def parseL : Nat → List Tk → List Mk → Int → Bool → Int → Bool → PO
 | _, [], sp, dn, _, tn, tb => ⟨0, 0, 0, sortP (polM sp dn tb tn)⟩
 | 0, _ :: _, _, _, _, _, _ => ⟨11, 0, 0, noPol⟩
 | f + 1, word :: l, sp, dn, db, tn, tb =>
  if (lineM word l sp dn db tn tb).e ≠ 0 then ⟨(lineM word l sp dn db tn tb).e, (lineM word l sp dn db tn tb).li, (lineM word l sp dn db tn tb).co, noPol⟩
  else parseL f (lineM word l sp dn db tn tb).r (lineM word l sp dn db tn tb).sp (lineM word l sp dn db tn tb).dn (lineM word l sp dn db tn tb).db (lineM word l sp dn db tn tb).tn (lineM word l sp dn db tn tb).tb
def parseM (l : List UInt8) : PO := if (scanD l).e ≠ 0 then ⟨(scanD l).e, (scanD l).line, (scanD l).col, noPol⟩ else parseL (scanD l).l.length (scanD l).l [] 0 false 0 false
def Whole (l : List Tk) : Prop := (∀ z ∈ l, z.k = 4 → z.t = []) ∧ (l = [] ∨ ∃ z, l.getLast? = some z ∧ z.k = 4)
theorem Whole.tail {a b : List Tk} (h : Whole (a ++ b)) : Whole b := by
 refine ⟨fun z hz => h.1 z (List.mem_append_right _ hz), ?_⟩
 by_cases hb : b = []
 ·exact .inl hb
 ·right
  rcases h.2 with h | ⟨z, hz, hk⟩
  ·exact absurd (List.append_eq_nil_iff.1 h).2 hb
  ·refine ⟨z, ?_, hk⟩
   rw [List.getLast?_append] at hz
   cases hl : b.getLast? with
   | none => exact absurd (List.getLast?_eq_none_iff.1 hl) hb
   | some y => rw [hl] at hz; simpa using hz
theorem Whole.good {x : Tk} {l : List Tk} (h : Whole (x :: l)) (hx : x.t ≠ []) : Good l := by
 refine ⟨?_, fun z hz => h.1 z (List.mem_cons_of_mem _ hz)⟩
 rcases h.2 with h2 | ⟨z, hz, hk⟩
 ·cases h2
 ·have hm := List.mem_of_getLast? hz
  rcases List.mem_cons.1 hm with rfl | hm
  ·exact absurd (h.1 z (by simp) hk) hx
  ·exact ⟨z, hm, hk⟩
theorem endM_tail {a : Tk} {tt m ml mc : Int} {l : List Tk} (h : (endM a tt m ml mc l).e = 0) : ∃ p, l = p ++ (endM a tt m ml mc l).r ∧ p ≠ [] := by
 cases l with
 | nil => cases h
 | cons z r =>
  unfold endM at h ⊢
  dsimp only at h ⊢
  by_cases h4 : z.k = 4
  ·rw [if_pos h4] at h ⊢
   by_cases hm : m < 1 ∨ 255 < m
   ·rw [if_pos hm] at h; cases h
   ·rw [if_neg hm]; exact ⟨[z], rfl, by simp⟩
  ·rw [if_neg h4] at h
   cases h
theorem maskM_tail {a : Tk} {tt : Int} {l : List Tk} (h : (maskM a tt l).e = 0) : ∃ p, l = p ++ (maskM a tt l).r ∧ p ≠ [] := by
 cases l with
 | nil => cases h
 | cons d r =>
  unfold maskM at h ⊢
  dsimp only at h ⊢
  by_cases hd : d.t = bitsL
  ·rw [if_pos hd] at h ⊢
   cases r with
   | nil => cases h
   | cons m r2 =>
    dsimp only at h ⊢
    by_cases hm : m.k = 2
    ·rw [if_pos hm] at h ⊢
     obtain ⟨p, e, _⟩ := endM_tail h
     exact ⟨d :: m :: p, by rw [List.cons_append, List.cons_append, ← e], by simp⟩
    ·rw [if_neg hm] at h; cases h
  ·rw [if_neg hd] at h ⊢
   exact endM_tail h
theorem spanM_tail {l : List Tk} (h : (spanM l).e = 0) : ∃ p, l = p ++ (spanM l).r ∧ p ≠ [] := by
 cases l with
 | nil => cases h
 | cons a r =>
  unfold spanM at h ⊢
  dsimp only at h ⊢
  by_cases ha : a.k = 2
  ·rw [if_pos ha] at h ⊢
   cases r with
   | nil => cases h
   | cons b r2 =>
    dsimp only at h ⊢
    by_cases hb : b.k = 3
    ·rw [if_pos hb] at h ⊢
     cases r2 with
     | nil => cases h
     | cons c r3 =>
      dsimp only at h ⊢
      by_cases hc : c.k = 2
      ·rw [if_pos hc] at h ⊢
       obtain ⟨p, e, _⟩ := maskM_tail h
       exact ⟨a :: b :: c :: p, by rw [List.cons_append, List.cons_append, List.cons_append, ← e], by simp⟩
      ·rw [if_neg hc] at h; cases h
    ·rw [if_neg hb] at h ⊢
     obtain ⟨p, e, _⟩ := maskM_tail h
     exact ⟨a :: p, by rw [List.cons_append, ← e], by simp⟩
  ·rw [if_neg ha] at h; cases h
theorem settM_tail {told : Bool} {may : Int → Bool} {word : Tk} {l : List Tk} (h : (settM told may word l).e = 0) : ∃ p, l = p ++ (settM told may word l).r ∧ p ≠ [] := by
 cases l with
 | nil => cases h
 | cons a r =>
  unfold settM at h ⊢
  dsimp only at h ⊢
  by_cases ha : a.k = 2
  ·rw [if_pos ha] at h ⊢
   cases r with
   | nil => cases h
   | cons z r2 =>
    dsimp only at h ⊢
    by_cases h4 : z.k = 4
    ·rw [if_pos h4] at h ⊢
     by_cases ht : told = true
     ·rw [if_pos ht] at h; cases h
     ·rw [if_neg ht] at h ⊢
      by_cases hm : may a.n = true
      ·rw [if_pos hm] at h ⊢; exact ⟨[a, z], rfl, by simp⟩
      ·rw [if_neg hm] at h; cases h
    ·rw [if_neg h4] at h; cases h
  ·rw [if_neg ha] at h; cases h
theorem spLn_ok {sink : Bool} {word : Tk} {l : List Tk} {sp : List Mk} {dn tn : Int} {db tb : Bool} (h : (spLn sink word l sp dn db tn tb).e = 0) (hsp : sp.length ≤ 64) :
  (∃ p, l = p ++ (spLn sink word l sp dn db tn tb).r ∧ p ≠ []) ∧ (spLn sink word l sp dn db tn tb).sp.length ≤ 64 := by
 unfold spLn at h ⊢
 by_cases h0 : (spanM l).e ≠ 0
 ·rw [if_pos h0] at h; exact absurd h h0
 ·rw [if_neg h0] at h ⊢
  by_cases ha : addM ⟨(spanM l).x, sink⟩ sp = 0
  ·rw [if_pos ha]
   exact ⟨spanM_tail (Decidable.not_not.1 h0), addM_len ha hsp⟩
  ·rw [if_neg ha] at h; exact absurd h ha
theorem lineM_ok {word : Tk} {l : List Tk} {sp : List Mk} {dn tn : Int} {db tb : Bool} (h : (lineM word l sp dn db tn tb).e = 0) (hsp : sp.length ≤ 64) :
  (∃ p, l = p ++ (lineM word l sp dn db tn tb).r ∧ p ≠ []) ∧ (lineM word l sp dn db tn tb).sp.length ≤ 64 := by
 unfold lineM at h ⊢
 by_cases h1 : word.t = secretL
 ·rw [if_pos h1] at h ⊢; exact spLn_ok h hsp
 ·rw [if_neg h1] at h ⊢
  by_cases h2 : word.t = sinkL
  ·rw [if_pos h2] at h ⊢; exact spLn_ok h hsp
  ·rw [if_neg h2] at h ⊢
   by_cases h3 : word.t = declL
   ·rw [if_pos h3] at h ⊢
    by_cases h0 : (settM db mayD word l).e ≠ 0
    ·rw [if_pos h0] at h; exact absurd h h0
    ·rw [if_neg h0]; exact ⟨settM_tail (Decidable.not_not.1 h0), hsp⟩
   ·rw [if_neg h3] at h ⊢
    by_cases h4 : word.t = traceL
    ·rw [if_pos h4] at h ⊢
     by_cases h0 : (settM tb mayT word l).e ≠ 0
     ·rw [if_pos h0] at h; exact absurd h h0
     ·rw [if_neg h0]; exact ⟨settM_tail (Decidable.not_not.1 h0), hsp⟩
    ·rw [if_neg h4] at h; cases h
def LineEnd (rb S0 : Nat) (v : Value) (w : World) (o : LnO) : Ending → World → Prop := fun e w' =>
 (o.e ≠ 0 → e = .returned (.tuple #[.agg #[.int .i64 o.li, .int .i64 o.co], .int .i64 o.e]) ∧ Tur rb S0 v w w') ∧
 (o.e = 0 → e = .returned (.tuple #[.agg #[.int .i64 0, .int .i64 0], .int .i64 0]) ∧ (∃ v', Rd rb S0 w' ⟨o.r, o.sp, v', o.dn, o.db, o.tn, o.tb⟩) ∧ Tur rb S0 v w w')
theorem spanEnd_line {rb S0 : Nat} {w : World} {word : Tk} {l : List Tk} {sp : List Mk} {v : Value} {dn tn : Int} {db tb sink : Bool} {e : Ending} {w' : World} (h : SpanEnd rb S0 w ⟨l, sp, v, dn, db, tn, tb⟩ word sink (spanM l) e w') : LineEnd rb S0 v w (spLn sink word l sp dn db tn tb) e w' := by
 unfold spLn
 by_cases h0 : (spanM l).e ≠ 0
 ·rw [if_pos h0]
  obtain ⟨rfl, ht⟩ := h.err h0
  exact ⟨fun _ => ⟨rfl, ht⟩, fun hh => absurd hh h0⟩
 ·rw [if_neg h0]
  have h0' := Decidable.not_not.1 h0
  by_cases ha : addM ⟨(spanM l).x, sink⟩ sp = 0
  ·rw [if_pos ha]
   obtain ⟨rfl, ⟨v', hr, _⟩, ht⟩ := h.ok h0' ha
   exact ⟨fun hh => absurd rfl hh, fun _ => ⟨rfl, ⟨v', hr⟩, ht⟩⟩
  ·rw [if_neg ha]
   obtain ⟨rfl, ht⟩ := h.no h0' ha
   exact ⟨fun _ => ⟨rfl, ht⟩, fun hh => absurd hh ha⟩
theorem line_c (word : Tk) (f : FuncId) (hf : word4 word.t = some f) (l : List Tk) (ssp : List Mk) (sv : Value) (sdn stn : Int) (sdb stb : Bool) (hg : Good l) (hsp : ssp.length ≤ 64) (rb S0 : Nat) (w : World) (hr : Rd rb S0 w ⟨l, ssp, sv, sdn, sdb, stn, stb⟩) :
  Calls Tryz.prog f #[.pointer (some ⟨rb, 0, none⟩), tkV word] w (LineEnd rb S0 sv w (lineM word l ssp sdn sdb stn stb)) := by
 unfold word4 at hf
 unfold lineM
 by_cases h1 : word.t = secretL
 ·rw [if_pos h1] at hf ⊢
  cases hf
  exact (readSecret_c word l ssp sv sdn stn sdb stb hg hsp rb S0 w hr).mono fun e w' h => spanEnd_line h
 ·rw [if_neg h1] at hf ⊢
  by_cases h2 : word.t = sinkL
  ·rw [if_pos h2] at hf ⊢
   cases hf
   exact (readSink_c word l ssp sv sdn stn sdb stb hg hsp rb S0 w hr).mono fun e w' h => spanEnd_line h
  ·rw [if_neg h2] at hf ⊢
   by_cases h3 : word.t = declL
   ·rw [if_pos h3] at hf ⊢
    cases hf
    refine (readDeclassify_c word l ssp sv sdn stn sdb stb hg hsp rb S0 w hr).mono fun e w' h => ?_
    by_cases h0 : (settM sdb mayD word l).e ≠ 0
    ·rw [if_pos h0]
     obtain ⟨rfl, ht⟩ := h.err h0
     exact ⟨fun _ => ⟨rfl, ht⟩, fun hh => absurd hh h0⟩
    ·rw [if_neg h0]
     obtain ⟨rfl, hr', ht⟩ := h.ok (Decidable.not_not.1 h0)
     exact ⟨fun hh => absurd rfl hh, fun _ => ⟨rfl, ⟨sv, hr'⟩, ht⟩⟩
   ·rw [if_neg h3] at hf ⊢
    by_cases h4 : word.t = traceL
    ·rw [if_pos h4] at hf ⊢
     cases hf
     refine (readTrace_c word l ssp sv sdn stn sdb stb hg hsp rb S0 w hr).mono fun e w' h => ?_
     by_cases h0 : (settM stb mayT word l).e ≠ 0
     ·rw [if_pos h0]
      obtain ⟨rfl, ht⟩ := h.err h0
      exact ⟨fun _ => ⟨rfl, ht⟩, fun hh => absurd hh h0⟩
     ·rw [if_neg h0]
      obtain ⟨rfl, hr', ht⟩ := h.ok (Decidable.not_not.1 h0)
      exact ⟨fun hh => absurd rfl hh, fun _ => ⟨rfl, ⟨sv, hr'⟩, ht⟩⟩
    ·rw [if_neg h4] at hf; cases hf
theorem oneD_kind (l : List UInt8) (h : (oneD l).e = 0) : (oneD l).k ≠ 4 := by
 unfold oneD at h ⊢
 cases hl : l[0]? with
 | none => rw [hl] at h; cases h
 | some b =>
  rw [hl] at h
  dsimp only at h ⊢
  have hnum : ∀ base k, (oneNum base l k).e = 0 → (oneNum base l k).k ≠ 4 := fun base k h => by
   unfold oneNum at h ⊢
   dsimp only at h ⊢
   split at h
   ·cases h
   ·rename_i hn
    rw [if_neg hn]
    split at h
    ·cases h
    ·rename_i hn2
     rw [if_neg hn2]
     show (2 : Int) ≠ 4
     decide
  by_cases c1 : isLet b = true
  ·rw [if_pos c1] at h ⊢
   unfold oneWord at h ⊢
   dsimp only at h ⊢
   split at h
   ·cases h
   ·rename_i hn
    rw [if_neg hn]
    show (1 : Int) ≠ 4
    decide
  ·rw [if_neg c1] at h ⊢
   by_cases c2 : b = 46
   ·rw [if_pos c2] at h ⊢
    split at h
    ·rename_i hn
     rw [if_pos hn]
     show (3 : Int) ≠ 4
     decide
    ·cases h
   ·rw [if_neg c2] at h ⊢
    by_cases c3 : b = 36
    ·rw [if_pos c3] at h ⊢; exact hnum 16 1 h
    ·rw [if_neg c3] at h ⊢
     by_cases c4 : isDig 10 b = true
     ·rw [if_pos c4] at h ⊢; exact hnum 10 0 h
     ·rw [if_neg c4] at h; cases h
theorem endT_whole (n : Int) (last : Nat) (acc : List Tk) (h : ∀ z ∈ acc, z.k ≠ 4) : Whole (endT n last acc).l := by
 unfold endT
 by_cases ha : acc = []
 ·dsimp only
  rw [if_pos ha]
  exact ⟨fun z hz => by simp at hz, .inl rfl⟩
 ·dsimp only
  rw [if_neg ha]
  refine ⟨fun z hz hk => ?_, .inr ⟨_, by rw [List.getLast?_append]; rfl, rfl⟩⟩
  rcases List.mem_append.1 hz with hz | hz
  ·exact absurd hk (h z hz)
  ·rw [List.mem_singleton.1 hz]
theorem toksR_whole (n : Int) (l : List UInt8) : ∀ (f k last : Nat) (acc : List Tk), (∀ z ∈ acc, z.k ≠ 4) → Whole (toksR n l f k last acc).l
 | 0, _, last, acc, h => endT_whole n last acc h
 | f + 1, k, last, acc, h => by
  unfold toksR
  cases hl : l[k]? with
  | none => exact endT_whole n last acc h
  | some b =>
   dsimp only
   by_cases h1 : b = 35
   ·rw [if_pos h1]; exact endT_whole n last acc h
   ·rw [if_neg h1]
    by_cases h2 : isBlank b = true
    ·rw [if_pos h2]; exact toksR_whole n l f _ _ acc h
    ·rw [if_neg h2]
     by_cases h3 : (oneD (l.drop k)).e ≠ 0
     ·rw [if_pos h3]; exact ⟨fun z hz => by simp at hz, .inl rfl⟩
     ·rw [if_neg h3]
      refine toksR_whole n l f _ _ _ (fun z hz => ?_)
      rcases List.mem_append.1 hz with hz | hz
      ·exact h z hz
      ·rw [List.mem_singleton.1 hz]; exact oneD_kind _ (Decidable.not_not.1 h3)
theorem lineD_whole (n : Int) (l : List UInt8) : Whole (lineD n l).l := by
 unfold lineD
 split
 ·exact ⟨fun z hz => by simp at hz, .inl rfl⟩
 ·exact toksR_whole n l _ _ _ _ (fun z hz => by simp at hz)
theorem Whole.append {a b : List Tk} (ha : Whole a) (hb : Whole b) : Whole (a ++ b) := by
 refine ⟨fun z hz => ?_, ?_⟩
 ·rcases List.mem_append.1 hz with hz | hz
  ·exact ha.1 z hz
  ·exact hb.1 z hz
 ·rcases hb.2 with rfl | ⟨z, hz, hk⟩
  ·rw [List.append_nil]; exact ha.2
  ·exact .inr ⟨z, by rw [List.getLast?_append, hz]; rfl, hk⟩
theorem scanR_whole : ∀ (ls : List (List UInt8)) (n : Int) (acc : List Tk), Whole acc → Whole (scanR ls n acc).l
 | [], n, acc, h => h
 | x :: r, n, acc, h => by
  unfold scanR
  split
  ·exact ⟨fun z hz => by simp at hz, .inl rfl⟩
  ·exact scanR_whole r _ _ (h.append (lineD_whole n x))
theorem scanD_whole (l : List UInt8) : Whole (scanD l).l := by
 unfold scanD
 split
 ·exact ⟨fun z hz => by simp at hz, .inl rfl⟩
 ·exact scanR_whole _ _ _ ⟨fun z hz => by simp at hz, .inl rfl⟩
theorem scanR_len : ∀ (ls : List (List UInt8)) (n : Int) (acc : List Tk), (scanR ls n acc).l.length ≤ acc.length + sumL ls
 | [], n, acc => Nat.le_add_right _ _
 | x :: r, n, acc => by
  unfold scanR
  split
  ·exact Nat.zero_le _
  ·have := scanR_len r (n + 1) (acc ++ (lineD n x).l)
   have h1 := lineD_len n x
   rw [List.length_append] at this
   rw [sumL_cons]
   omega
theorem scanD_len (l : List UInt8) : (scanD l).l.length ≤ 65537 := by
 unfold scanD
 split
 ·exact Nat.zero_le _
 ·have := scanR_len (linesA [] l) 1 []
  rw [sumL_lines] at this
  simp only [List.length_nil] at this
  omega
end Go.Proofs.YtjcmblbnbpikfaaGreatDoor
