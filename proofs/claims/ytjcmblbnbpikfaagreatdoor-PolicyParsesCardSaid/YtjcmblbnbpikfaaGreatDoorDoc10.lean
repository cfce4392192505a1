/- Layer 7's document: its -/
import Derived.Test.YtjcmblbnbpikfaaGreatDoorDoc8
import Derived.Test.YtjcmblbnbpikfaaGreatDoorWhole
set_option linter.unusedSimpArgs false
set_option linter.unusedVariables false
namespace Go.Proofs.YtjcmblbnbpikfaaGreatDoor

open Go.RowKit Go.PlainAid

theorem clash_any (x : Mk) : ∀ (l : List Mk) (e : Int), clashR x e l = if l.any (fun y => meetB x.s y.s && y.k == x.k) then 16 else if l.any (fun y => meetB x.s y.s) then 15 else e
 | [], e => rfl
 | y :: r, e => by
  unfold clashR
  rw [List.any_cons, List.any_cons]
  cases hm : meetB x.s y.s with
  | false =>
   rw [if_neg (by simp), clash_any x r e]
   simp
  | true =>
   rw [if_pos rfl]
   by_cases hk : x.k = y.k
   ·rw [if_pos hk]
    have : (y.k == x.k) = true := by simp [hk]
    rw [this]
    simp
   ·rw [if_neg hk, clash_any x r 15]
    have : (y.k == x.k) = false := by simpa using fun h => hk h.symm
    rw [this]
    simp only [Bool.true_and, Bool.false_or, Bool.true_or, if_true]
    split
    ·rfl
    ·split <;> rfl
theorem any_of (x : Sp) (K : Bool) : ∀ l : List Mk, (ofM K l).any (meetB x) = l.any (fun y => meetB x y.s && y.k == K)
 | [] => rfl
 | y :: r => by
  rw [ofM, List.any_cons, ← any_of x K r]
  by_cases h : y.k = K
  ·rw [if_pos h, List.any_cons, show (y.k == K) = true from by simp [h], Bool.and_true]
  ·rw [if_neg h, show (y.k == K) = false from by simpa using h, Bool.and_false, Bool.false_or]
theorem any_both (x : Sp) (K : Bool) : ∀ l : List Mk, l.any (fun y => meetB x y.s) = ((ofM K l).any (meetB x) || (ofM (!K) l).any (meetB x))
 | [] => rfl
 | y :: r => by
  rw [List.any_cons, any_both x K r, ofM, ofM]
  by_cases h : y.k = K
  ·rw [if_pos h, if_neg (by rw [h]; cases K <;> decide), List.any_cons, Bool.or_assoc]
  ·rw [if_neg h, if_pos (by revert h; cases y.k <;> cases K <;> decide), List.any_cons]
   cases meetB x y.s <;> cases (ofM K r).any (meetB x) <;> rfl
theorem ofM_both (K : Bool) : ∀ l : List Mk, (ofM K l).length + (ofM (!K) l).length = l.length
 | [] => rfl
 | y :: r => by
  have := ofM_both K r
  rw [ofM, ofM]
  by_cases h : y.k = K
  ·rw [if_pos h, if_neg (by rw [h]; cases K <;> decide)]; simp only [List.length_cons]; omega
  ·rw [if_neg h, if_pos (by revert h; cases y.k <;> cases K <;> decide)]; simp only [List.length_cons]; omega
theorem addM_of {x : Sp} {K : Bool} {sp : List Mk} (hl : liesB x K = true) (hb : x.b ≠ 0) (hs : sp.length ≤ 64) : addM ⟨x, K⟩ sp = addD x (ofM K sp) (ofM (!K) sp) := by
 unfold addM addD
 dsimp only
 rw [if_neg (by rintro (h | h); rw [hl] at h; cases h; exact hb h), ofM_both, clash_any]
 dsimp only
 by_cases h : sp.length = 64
 ·rw [if_pos h, if_pos (by omega)]
 ·rw [if_neg h, if_neg (show ¬ 64 ≤ sp.length by omega), ← any_of, any_both x K]
  cases (ofM K sp).any (meetB x) <;> rfl
theorem addM_range {x : Sp} {K : Bool} {sp : List Mk} (hl : liesB x K = false) : addM ⟨x, K⟩ sp = 10 := by unfold addM; exact if_pos (.inl hl)
theorem addD_ne (x : Sp) (a b : List Sp) : addD x a b ≠ 10 := by
 unfold addD
 split
 ·decide
 ·split
  ·decide
  ·split <;> decide
theorem Ended.single {z : Tk} {r : List Tk} (h : Ended (z :: r)) (hz : z.k = 4) : r = [] := by
 obtain ⟨cs, y, e, _, hc⟩ := h
 cases cs with
 | nil => cases e; rfl
 | cons x s => cases e; exact absurd hz (hc _ (by simp))
def SpSame (a b : SpO) (rest : List Tk) : Prop := b.e = a.e ∧ b.li = a.li ∧ b.co = a.co ∧ b.fl = a.fl ∧ b.fc = a.fc ∧ b.x = a.x ∧ (a.e = 0 → b.r = rest ∧ 1 ≤ a.x.b)
theorem endM_app (a : Tk) (tt m ml mc : Int) {ts : List Tk} (rest : List Tk) (hE : Ended ts) : SpSame (endM a tt m ml mc ts) (endM a tt m ml mc (ts ++ rest)) rest := by
 obtain ⟨z, r, rfl⟩ := hE.ne
 rw [List.cons_append]
 unfold endM
 dsimp only
 by_cases hz : z.k = 4
 ·obtain rfl := hE.single hz
  rw [if_pos hz, if_pos hz]
  by_cases hm : m < 1 ∨ 255 < m
  ·rw [if_pos hm, if_pos hm]; exact ⟨rfl, rfl, rfl, rfl, rfl, rfl, fun h => by cases h⟩
  ·rw [if_neg hm, if_neg hm]; exact ⟨rfl, rfl, rfl, rfl, rfl, rfl, fun _ => ⟨rfl, by dsimp only; omega⟩⟩
 ·rw [if_neg hz, if_neg hz]; exact ⟨rfl, rfl, rfl, rfl, rfl, rfl, fun h => by cases h⟩
theorem maskM_app (a : Tk) (tt : Int) {ts : List Tk} (rest : List Tk) (hE : Ended ts) (hT : Texts ts) : SpSame (maskM a tt ts) (maskM a tt (ts ++ rest)) rest := by
 obtain ⟨d, r, rfl⟩ := hE.ne
 rw [List.cons_append]
 unfold maskM
 dsimp only
 by_cases hd : d.t = bitsL
 ·rw [if_pos hd, if_pos hd]
  have hk : d.k = 1 := Classical.byContradiction fun h => by have := hT d (by simp) h; rw [hd] at this; cases this
  have h2 := hE.tail (show d.k ≠ 4 by rw [hk]; decide)
  obtain ⟨m, r2, rfl⟩ := h2.ne
  rw [List.cons_append]
  dsimp only
  by_cases hm : m.k = 2
  ·rw [if_pos hm, if_pos hm]
   exact endM_app a tt m.n m.line m.col rest (h2.tail (by rw [hm]; decide))
  ·rw [if_neg hm, if_neg hm]; exact ⟨rfl, rfl, rfl, rfl, rfl, rfl, fun h => by cases h⟩
 ·rw [if_neg hd, if_neg hd, ← List.cons_append]
  exact endM_app a tt 255 0 0 rest hE
theorem spanM_app {ts : List Tk} (rest : List Tk) (hE : Ended ts) (hT : Texts ts) : SpSame (spanM ts) (spanM (ts ++ rest)) rest := by
 obtain ⟨a, r, rfl⟩ := hE.ne
 rw [List.cons_append]
 unfold spanM
 dsimp only
 by_cases ha : a.k = 2
 ·rw [if_pos ha, if_pos ha]
  have h2 := hE.tail (show a.k ≠ 4 by rw [ha]; decide)
  have t2 : Texts r := fun c h => hT c (List.mem_cons_of_mem _ h)
  obtain ⟨b, r2, rfl⟩ := h2.ne
  rw [List.cons_append]
  dsimp only
  by_cases hb : b.k = 3
  ·rw [if_pos hb, if_pos hb]
   have h3 := h2.tail (show b.k ≠ 4 by rw [hb]; decide)
   have t3 : Texts r2 := fun c h => t2 c (List.mem_cons_of_mem _ h)
   obtain ⟨c, r3, rfl⟩ := h3.ne
   rw [List.cons_append]
   dsimp only
   by_cases hc : c.k = 2
   ·rw [if_pos hc, if_pos hc]
    exact maskM_app a c.n rest (h3.tail (by rw [hc]; decide)) (fun y h => t3 y (List.mem_cons_of_mem _ h))
   ·rw [if_neg hc, if_neg hc]; exact ⟨rfl, rfl, rfl, rfl, rfl, rfl, fun h => by cases h⟩
  ·rw [if_neg hb, if_neg hb, ← List.cons_append]
   exact maskM_app a a.n rest h2 t2
 ·rw [if_neg ha, if_neg ha]; exact ⟨rfl, rfl, rfl, rfl, rfl, rfl, fun h => by cases h⟩
theorem spLn_err1 {sink : Bool} {word : Tk} {ts rest : List Tk} {sp : List Mk} {dn tn : Int} {db tb : Bool} (hE : Ended ts) (hT : Texts ts) (h : (spanR sink ts).e ≠ 0) :
  (spLn sink word (ts ++ rest) sp dn db tn tb).e = (spanR sink ts).e ∧ (spLn sink word (ts ++ rest) sp dn db tn tb).li = (spanR sink ts).li ∧ (spLn sink word (ts ++ rest) sp dn db tn tb).co = (spanR sink ts).co := by
 obtain ⟨a1, a2, a3, a4, a5, a6, a7⟩ := spanM_app rest hE hT
 unfold spanR at h ⊢
 unfold spLn
 rw [a1, a2, a3, a4, a5, a6]
 by_cases h0 : (spanM ts).e ≠ 0
 ·rw [if_pos h0, if_pos h0]; exact ⟨rfl, rfl, rfl⟩
 ·rw [if_neg h0] at h ⊢
  rw [if_neg h0]
  by_cases hl : liesB (spanM ts).x sink = false
  ·rw [if_pos hl, addM_range hl, if_neg (by decide)]
   refine ⟨rfl, ?_, ?_⟩
   ·show (if (10 : Int) = 10 then (spanM ts).fl else word.line) = (spanM ts).fl; exact if_pos rfl
   ·show (if (10 : Int) = 10 then (spanM ts).fc else word.col) = (spanM ts).fc; exact if_pos rfl
  ·rw [if_neg hl] at h; exact absurd rfl h
theorem spanR_zero {sink : Bool} {ts : List Tk} (h : (spanR sink ts).e = 0) : (spanM ts).e = 0 ∧ liesB (spanM ts).x sink = true ∧ (spanR sink ts).x = (spanM ts).x := by
 unfold spanR at h ⊢
 by_cases h0 : (spanM ts).e ≠ 0
 ·rw [if_pos h0] at h; exact absurd h h0
 ·rw [if_neg h0] at h ⊢
  by_cases hl : liesB (spanM ts).x sink = false
  ·rw [if_pos hl] at h; cases h
  ·rw [if_neg hl]; exact ⟨Decidable.not_not.1 h0, by simpa using hl, rfl⟩
theorem spLn_err2 {sink : Bool} {word : Tk} {ts rest : List Tk} {sp : List Mk} {dn tn : Int} {db tb : Bool} (hE : Ended ts) (hT : Texts ts) (hs : sp.length ≤ 64) (h : (spanR sink ts).e = 0) (ha : addD (spanR sink ts).x (ofM sink sp) (ofM (!sink) sp) ≠ 0) :
  (spLn sink word (ts ++ rest) sp dn db tn tb).e = addD (spanR sink ts).x (ofM sink sp) (ofM (!sink) sp) ∧ (spLn sink word (ts ++ rest) sp dn db tn tb).li = word.line ∧ (spLn sink word (ts ++ rest) sp dn db tn tb).co = word.col := by
 obtain ⟨a1, a2, a3, a4, a5, a6, a7⟩ := spanM_app rest hE hT
 obtain ⟨b1, b2, b3⟩ := spanR_zero h
 rw [b3] at ha ⊢
 have he := addM_of b2 (by have := (a7 b1).2; omega) hs
 unfold spLn
 rw [a1, a2, a3, a4, a5, a6, if_neg (by rw [b1]; simp), he, if_neg ha]
 exact ⟨rfl, if_neg (addD_ne _ _ _), if_neg (addD_ne _ _ _)⟩
theorem spLn_done {sink : Bool} {word : Tk} {ts rest : List Tk} {sp : List Mk} {dn tn : Int} {db tb : Bool} (hE : Ended ts) (hT : Texts ts) (hs : sp.length ≤ 64) (h : (spanR sink ts).e = 0) (ha : addD (spanR sink ts).x (ofM sink sp) (ofM (!sink) sp) = 0) :
  spLn sink word (ts ++ rest) sp dn db tn tb = ⟨0, 0, 0, rest, sp ++ [⟨(spanR sink ts).x, sink⟩], dn, db, tn, tb⟩ := by
 obtain ⟨a1, a2, a3, a4, a5, a6, a7⟩ := spanM_app rest hE hT
 obtain ⟨b1, b2, b3⟩ := spanR_zero h
 rw [b3] at ha ⊢
 have he := addM_of b2 (by have := (a7 b1).2; omega) hs
 unfold spLn
 rw [a1, a2, a3, a4, a5, a6, if_neg (by rw [b1]; simp), he, if_pos ha, (a7 b1).1]
structure Rq (rb S0 : Nat) (w : World) (sp : List Mk) (vs vk : Value) (dn : Int) (db : Bool) (tn : Int) (tb : Bool) : Prop where
 rs : w.cell? ⟨rb, 0, none⟩ = some vs
 os : w.ownsRow S0 53 3 vs (ofM false sp).length ((ofM false sp).flatMap Sp.plain)
 rk : w.cell? ⟨rb, 1, none⟩ = some vk
 ok : w.ownsRow S0 53 3 vk (ofM true sp).length ((ofM true sp).flatMap Sp.plain)
 ap : ∀ g, vs.ownBlock = some g → vk.ownBlock ≠ some g
 c2 : w.cell? ⟨rb, 2, none⟩ = some (.int .i64 dn)
 c3 : w.cell? ⟨rb, 3, none⟩ = some (.int .i64 (if tb = true then tn else 1024))
 c4 : w.cell? ⟨rb, 4, none⟩ = some (.int .i64 (if db = true then 1 else 0))
 c5 : w.cell? ⟨rb, 5, none⟩ = some (.int .i64 (if tb = true then 1 else 0))
 fr : ∀ o, o < 6 → w.frozen? ⟨rb, o, none⟩ = false
 lt : rb < S0
 sz : S0 ≤ w.heap.size
structure Kp (rb S0 : Nat) (w w' : World) : Prop where
 below : Below rb w w'
 keep : ∀ b, b < S0 → b ≠ rb → w'.heap[b]? = w.heap[b]?
theorem Kp.of_below {rb S0 : Nat} {w u : World} (h : Below w.heap.size w u) (h1 : rb < S0) (h2 : S0 ≤ w.heap.size) : Kp rb S0 w u := ⟨h.mono (by omega), fun b hb _ => h.block b (by omega)⟩
theorem Kp.trans {rb S0 : Nat} {a b c : World} (h : Kp rb S0 a b) (g : Kp rb S0 b c) : Kp rb S0 a c := ⟨h.below.trans g.below, fun k h1 h2 => (g.keep k h1 h2).trans (h.keep k h1 h2)⟩
theorem Kp.setn {rb S0 : Nat} {w u : World} (h : Kp rb S0 w u) {p : Addr} (h1 : rb < S0) (hp : S0 ≤ p.block) (v : Value) : Kp rb S0 w (u.setCell p v) :=
 ⟨h.below.setCell (by omega) v, fun b hb hne => (Below.heap_setCell u p v b (by omega)).trans (h.keep b hb hne)⟩
theorem Kp.setr {rb S0 : Nat} {w u : World} (h : Kp rb S0 w u) (o : Nat) (v : Value) : Kp rb S0 w (u.setCell ⟨rb, o, none⟩ v) :=
 ⟨h.below.setCell (Nat.le_refl _) v, fun b hb hne => (Below.heap_setCell u _ v b (by exact hne)).trans (h.keep b hb hne)⟩
theorem Rq.on {rb S0 : Nat} {w u : World} {sp : List Mk} {vs vk : Value} {dn tn : Int} {db tb : Bool} (h : Rq rb S0 w sp vs vk dn db tn tb) (hb : Below w.heap.size w u) : Rq rb S0 u sp vs vk dn db tn tb :=
 ⟨kc hb h.rs, own_below h.os hb, kc hb h.rk, own_below h.ok hb, h.ap, kc hb h.c2, kc hb h.c3, kc hb h.c4, kc hb h.c5, fun o ho => kfz hb (klt h.c2) (h.fr o ho), h.lt, Nat.le_trans h.sz hb.size⟩
theorem own_apart {w u : World} {B size n : Nat} {e : TypeId} {v : Value} {xs : List Value} {o : Option Nat} (h : w.ownsRow B e size v n xs) (hg : w.grownBy u o) (hA : ∀ g, v.ownBlock = some g → o ≠ some g) : u.ownsRow B e size v n xs := by
 refine ⟨h.1, ?_⟩
 rcases h.2 with h2 | ⟨g, cap, cur, h1, h2, h3, r⟩
 ·exact .inl h2
 ·exact .inr ⟨g, cap, cur, h1, h2, (hg.block g (Array.getElem?_eq_some_iff.1 h3).1 (by have := hA g (by rw [h1]; rfl); intro e; exact this e.symm)).trans h3, r⟩
theorem own_setn {w : World} {B size n : Nat} {e : TypeId} {v : Value} {xs : List Value} {p : Addr} {u : Value} (h : w.ownsRow B e size v n xs) (hb : v.ownBlock ≠ some p.block) : (w.setCell p u).ownsRow B e size v n xs := by
 refine ⟨h.1, ?_⟩
 rcases h.2 with h2 | ⟨g, cap, cur, h1, h2, h3, r⟩
 ·exact .inl h2
 ·exact .inr ⟨g, cap, cur, h1, h2, (Below.heap_setCell w p u g (by intro e; apply hb; rw [h1, ← e]; rfl)).trans h3, r⟩
theorem Rq.setn {rb S0 : Nat} {w : World} {sp : List Mk} {vs vk : Value} {dn tn : Int} {db tb : Bool} (h : Rq rb S0 w sp vs vk dn db tn tb) {p : Addr} (h1 : rb ≠ p.block) (h2 : vs.ownBlock ≠ some p.block) (h3 : vk.ownBlock ≠ some p.block) (v : Value) : Rq rb S0 (w.setCell p v) sp vs vk dn db tn tb := by
 have hk : ∀ o y, w.cell? ⟨rb, o, none⟩ = some y → (w.setCell p v).cell? ⟨rb, o, none⟩ = some y := fun o y hy => (World.cell?_of_block (Below.heap_setCell w p v rb h1)).trans hy
 exact ⟨hk _ _ h.rs, own_setn h.os h2, hk _ _ h.rk, own_setn h.ok h3, h.ap, hk _ _ h.c2, hk _ _ h.c3, hk _ _ h.c4, hk _ _ h.c5, fun o ho => by rw [World.frozen?_setCell]; exact h.fr o ho, h.lt, by rw [World.size_setCell]; exact h.sz⟩
theorem Rq.app {rb S0 : Nat} {w u w' : World} {sp : List Mk} {vs vk v' : Value} {dn tn : Int} {db tb : Bool} (h : Rq rb S0 w sp vs vk dn db tn tb) (hB : Below w.heap.size w u) (x : Sp) (K : Bool)
  (hg : u.grownBy w' (if K = true then vk else vs).ownBlock) (hown : w'.ownsRow S0 53 3 v' ((ofM K sp).length + 1) ((ofM K sp).flatMap Sp.plain ++ ([x] : List Sp).flatMap Sp.plain))
  (hat : v'.ownBlock = (if K = true then vk else vs).ownBlock ∨ v'.ownBlock = some u.heap.size) :
  (∃ vs' vk', Rq rb S0 (w'.setCell ⟨rb, if K = true then 1 else 0, none⟩ v') (sp ++ [⟨x, K⟩]) vs' vk' dn db tn tb ∧ ∀ b, w.heap.size ≤ b → b < u.heap.size → vs'.ownBlock ≠ some b ∧ vk'.ownBlock ≠ some b) ∧ Kp rb S0 w (w'.setCell ⟨rb, if K = true then 1 else 0, none⟩ v') := by
 have hz := hB.size
 have hsz := h.sz
 have hlt := h.lt
 have hos : ∀ g, vs.ownBlock = some g → S0 ≤ g ∧ g < w.heap.size := fun g e => h.os.lt g e
 have hok : ∀ g, vk.ownBlock = some g → S0 ≤ g ∧ g < w.heap.size := fun g e => h.ok.lt g e
 have hvo : ∀ g, (if K = true then vk else vs).ownBlock = some g → S0 ≤ g := fun g e => by cases K; exact (hos g e).1; exact (hok g e).1
 have hkeep : ∀ b, b < S0 → w'.heap[b]? = w.heap[b]? := fun b hb => (hg.block b (by omega) (fun e => by have := hvo b e.symm; omega)).trans (hB.block b (by omega))
 have hcell : ∀ o, w'.cell? ⟨rb, o, none⟩ = w.cell? ⟨rb, o, none⟩ := fun o => World.cell?_of_block (hkeep rb hlt)
 have hc : ∀ o y, o ≠ (if K = true then 1 else 0) → w.cell? ⟨rb, o, none⟩ = some y → (w'.setCell ⟨rb, if K = true then 1 else 0, none⟩ v').cell? ⟨rb, o, none⟩ = some y := fun o y ho hy => by
  rw [World.cell?_setCell_other _ _ _ _ (by intro e; simp only [Addr.mk.injEq, true_and, and_true] at e; exact ho (by first | exact e | exact e.symm))]
  exact (hcell o).trans hy
 have hsame : (w'.setCell ⟨rb, if K = true then 1 else 0, none⟩ v').cell? ⟨rb, if K = true then 1 else 0, none⟩ = some v' := by
  cases K
  ·exact World.cell?_setCell_same _ _ v' ((hcell 0).trans h.rs)
  ·exact World.cell?_setCell_same _ _ v' ((hcell 1).trans h.rk)
 have hfr : ∀ o, o < 6 → (w'.setCell ⟨rb, if K = true then 1 else 0, none⟩ v').frozen? ⟨rb, o, none⟩ = false := fun o ho => by
  rw [World.frozen?_setCell]; exact (World.frozen?_of_block (hkeep rb hlt)).trans (h.fr o ho)
 have hws : S0 ≤ (w'.setCell ⟨rb, if K = true then 1 else 0, none⟩ v').heap.size := by rw [World.size_setCell]; have := hg.size; omega
 have hn1 : ofM K (sp ++ [(⟨x, K⟩ : Mk)]) = ofM K sp ++ [x] := by rw [ofM_snoc, if_pos rfl]
 have hn2 : ofM (!K) (sp ++ [(⟨x, K⟩ : Mk)]) = ofM (!K) sp := by rw [ofM_snoc, if_neg (show ¬ K = !K by cases K <;> decide)]
 have hown' : (w'.setCell ⟨rb, if K = true then 1 else 0, none⟩ v').ownsRow S0 53 3 v' (ofM K (sp ++ [(⟨x, K⟩ : Mk)])).length ((ofM K (sp ++ [(⟨x, K⟩ : Mk)])).flatMap Sp.plain) := by
  rw [hn1, List.length_append, List.flatMap_append]; exact own_other hown hlt
 have hkp : Kp rb S0 w (w'.setCell ⟨rb, if K = true then 1 else 0, none⟩ v') := by
  have : Below rb w w' := ⟨hg.os.trans hB.os, hg.tape.trans hB.tape, hg.output.trans hB.output, Nat.le_trans hB.size hg.size, fun b hb => hkeep b (by omega)⟩
  exact Kp.setr ⟨this, fun b hb _ => hkeep b hb⟩ _ _
 refine ⟨?_, hkp⟩
 cases K
 ·have hoth : w'.ownsRow S0 53 3 vk (ofM true sp).length ((ofM true sp).flatMap Sp.plain) := own_apart (own_below h.ok hB) hg (fun g e e2 => h.ap g e2 e)
  refine ⟨v', vk, ⟨hsame, hown', hc 1 _ (by decide) h.rk, ?_, fun g e e2 => ?_, hc 2 _ (by decide) h.c2, hc 3 _ (by decide) h.c3, hc 4 _ (by decide) h.c4, hc 5 _ (by decide) h.c5, hfr, hlt, hws⟩, fun b hb1 hb2 => ⟨fun e => ?_, fun e => ?_⟩⟩
  ·have e : ofM true (sp ++ [(⟨x, false⟩ : Mk)]) = ofM true sp := hn2
   rw [e]; exact own_other hoth hlt
  ·rcases hat with h5 | h5
   ·exact h.ap g (h5.symm.trans e) e2
   ·rw [h5] at e; cases e; have := (hok _ e2).2; omega
  ·rcases hat with h5 | h5
   ·have := (hos b (h5.symm.trans e)).2; omega
   ·rw [h5] at e; cases e; omega
  ·have := (hok b e).2; omega
 ·have hoth : w'.ownsRow S0 53 3 vs (ofM false sp).length ((ofM false sp).flatMap Sp.plain) := own_apart (own_below h.os hB) hg (fun g e e2 => h.ap g e e2)
  refine ⟨vs, v', ⟨hc 0 _ (by decide) h.rs, ?_, hsame, hown', fun g e e2 => ?_, hc 2 _ (by decide) h.c2, hc 3 _ (by decide) h.c3, hc 4 _ (by decide) h.c4, hc 5 _ (by decide) h.c5, hfr, hlt, hws⟩, fun b hb1 hb2 => ⟨fun e => ?_, fun e => ?_⟩⟩
  ·have e : ofM false (sp ++ [(⟨x, true⟩ : Mk)]) = ofM false sp := hn2
   rw [e]; exact own_other hoth hlt
  ·rcases hat with h5 | h5
   ·exact h.ap g e (h5.symm.trans e2)
   ·rw [h5] at e2; cases e2; have := (hos _ e).2; omega
  ·have := (hos b e).2; omega
  ·rcases hat with h5 | h5
   ·have := (hok b (h5.symm.trans e)).2; omega
   ·rw [h5] at e; cases e; omega
theorem Rq.setD {rb S0 : Nat} {w : World} {sp : List Mk} {vs vk : Value} {dn tn : Int} {tb : Bool} (h : Rq rb S0 w sp vs vk dn false tn tb) (n : Int) : Rq rb S0 ((w.setCell ⟨rb, 4, none⟩ (.int .i64 1)).setCell ⟨rb, 2, none⟩ (.int .i64 n)) sp vs vk n true tn tb := by
 have ot : ∀ o y, o ≠ 2 → o ≠ 4 → w.cell? ⟨rb, o, none⟩ = some y → ((w.setCell ⟨rb, 4, none⟩ (.int .i64 1)).setCell ⟨rb, 2, none⟩ (.int .i64 n)).cell? ⟨rb, o, none⟩ = some y := fun o y h2 h4 hy => by
  rw [World.cell?_setCell_other _ _ _ _ (by intro e; cases e; exact h2 rfl), World.cell?_setCell_other _ _ _ _ (by intro e; cases e; exact h4 rfl)]; exact hy
 refine ⟨ot 0 _ (by decide) (by decide) h.rs, own_other (own_other h.os h.lt) h.lt, ot 1 _ (by decide) (by decide) h.rk, own_other (own_other h.ok h.lt) h.lt, h.ap, ?_, ot 3 _ (by decide) (by decide) h.c3, ?_, ot 5 _ (by decide) (by decide) h.c5, fun o ho => by rw [World.frozen?_setCell, World.frozen?_setCell]; exact h.fr o ho, h.lt, by rw [World.size_setCell, World.size_setCell]; exact h.sz⟩
 ·exact World.cell?_setCell_same _ _ _ (by rw [World.cell?_setCell_other _ _ _ _ (by intro e; cases e)]; exact h.c2)
 ·rw [World.cell?_setCell_other _ _ _ _ (by intro e; cases e)]
  exact World.cell?_setCell_same _ _ _ h.c4
theorem Rq.setT {rb S0 : Nat} {w : World} {sp : List Mk} {vs vk : Value} {dn tn : Int} {db : Bool} (h : Rq rb S0 w sp vs vk dn db tn false) (n : Int) : Rq rb S0 ((w.setCell ⟨rb, 5, none⟩ (.int .i64 1)).setCell ⟨rb, 3, none⟩ (.int .i64 n)) sp vs vk dn db n true := by
 have ot : ∀ o y, o ≠ 3 → o ≠ 5 → w.cell? ⟨rb, o, none⟩ = some y → ((w.setCell ⟨rb, 5, none⟩ (.int .i64 1)).setCell ⟨rb, 3, none⟩ (.int .i64 n)).cell? ⟨rb, o, none⟩ = some y := fun o y h2 h4 hy => by
  rw [World.cell?_setCell_other _ _ _ _ (by intro e; cases e; exact h2 rfl), World.cell?_setCell_other _ _ _ _ (by intro e; cases e; exact h4 rfl)]; exact hy
 refine ⟨ot 0 _ (by decide) (by decide) h.rs, own_other (own_other h.os h.lt) h.lt, ot 1 _ (by decide) (by decide) h.rk, own_other (own_other h.ok h.lt) h.lt, h.ap, ot 2 _ (by decide) (by decide) h.c2, ?_, ot 4 _ (by decide) (by decide) h.c4, ?_, fun o ho => by rw [World.frozen?_setCell, World.frozen?_setCell]; exact h.fr o ho, h.lt, by rw [World.size_setCell, World.size_setCell]; exact h.sz⟩
 ·exact World.cell?_setCell_same _ _ _ (by rw [World.cell?_setCell_other _ _ _ _ (by intro e; cases e)]; exact h.c3)
 ·rw [World.cell?_setCell_other _ _ _ _ (by intro e; cases e)]
  exact World.cell?_setCell_same _ _ _ h.c5
def LnR (rb S0 : Nat) (w : World) (o : LnO) : Ending → World → Prop := fun e w' =>
 (∃ L C, e = .returned (.agg #[.int .i64 L, .int .i64 C, .int .i64 o.e]) ∧ (o.e ≠ 0 → L = o.li ∧ C = o.co)) ∧ Kp rb S0 w w' ∧ (o.e = 0 → ∃ vs vk, Rq rb S0 w' o.sp vs vk o.dn o.db o.tn o.tb)
theorem lnR_err {rb S0 : Nat} {w w' : World} {o : LnO} {E L C : Int} (h1 : o.e = E) (h2 : o.li = L) (h3 : o.co = C) (hE : E ≠ 0) (hk : Kp rb S0 w w') : LnR rb S0 w o (.returned (.agg #[.int .i64 L, .int .i64 C, .int .i64 E])) w' := by
 subst h1; subst h2; subst h3
 exact ⟨⟨_, _, rfl, fun _ => ⟨rfl, rfl⟩⟩, hk, fun h => absurd h hE⟩
theorem lnR_ok {rb S0 : Nat} {w w' : World} {o : LnO} {L C : Int} {sp : List Mk} {vs vk : Value} {dn tn : Int} {db tb : Bool} {r : List Tk} (h : o = ⟨0, 0, 0, r, sp, dn, db, tn, tb⟩) (hk : Kp rb S0 w w') (hR : Rq rb S0 w' sp vs vk dn db tn tb) : LnR rb S0 w o (.returned (.agg #[.int .i64 L, .int .i64 C, .int .i64 0])) w' := by
 subst h
 exact ⟨⟨_, _, rfl, fun h => absurd rfl h⟩, hk, fun _ => ⟨vs, vk, hR⟩⟩
def Plains (l : List Tk) : Prop := ∀ c ∈ l, (c.k ≠ 1 → c.t = []) ∧ 0 ≤ c.n
theorem Plains.texts {l : List Tk} (h : Plains l) : Texts l := fun c hc => (h c hc).1
theorem Plains.append {a b : List Tk} (ha : Plains a) (hb : Plains b) : Plains (a ++ b) := fun c hc => by
 rcases List.mem_append.1 hc with h | h
 ·exact ha c h
 ·exact hb c h
theorem Plains.nil : Plains [] := fun c h => by cases h
theorem Plains.drop {l : List Tk} (h : Plains l) (n : Nat) : Plains (l.drop n) := fun c hc => h c (List.mem_of_mem_drop hc)
theorem Plains.take {l : List Tk} (h : Plains l) (n : Nat) : Plains (l.take n) := fun c hc => h c (List.mem_of_mem_take hc)
theorem oneD_plain (l : List UInt8) (h : (oneD l).e = 0) : ((oneD l).k ≠ 1 → (oneD l).t = []) ∧ 0 ≤ (oneD l).n := by
 unfold oneD at h ⊢
 cases hl : l[0]? with
 | none => rw [hl] at h; cases h
 | some b =>
  rw [hl] at h
  dsimp only at h ⊢
  have hnum : ∀ base k, (oneNum base l k).e = 0 → ((oneNum base l k).k ≠ 1 → (oneNum base l k).t = []) ∧ 0 ≤ (oneNum base l k).n := fun base k h => by
   unfold oneNum at h ⊢
   dsimp only at h ⊢
   split at h
   ·cases h
   ·rename_i hn
    rw [if_neg hn]
    split at h
    ·cases h
    ·rename_i hn2
     rw [if_neg hn2]
     exact ⟨fun _ => rfl, (numV_bounds base (l.drop k) 0 (by omega)).1⟩
  by_cases c1 : isLet b = true
  ·rw [if_pos c1] at h ⊢
   unfold oneWord at h ⊢
   dsimp only at h ⊢
   split at h
   ·cases h
   ·rename_i hn
    rw [if_neg hn]
    exact ⟨fun h => absurd rfl h, Int.le_refl 0⟩
  ·rw [if_neg c1] at h ⊢
   by_cases c2 : b = 46
   ·rw [if_pos c2] at h ⊢
    split at h
    ·rename_i hn
     rw [if_pos hn]
     exact ⟨fun _ => rfl, Int.le_refl 0⟩
    ·cases h
   ·rw [if_neg c2] at h ⊢
    by_cases c3 : b = 36
    ·rw [if_pos c3] at h ⊢; exact hnum 16 1 h
    ·rw [if_neg c3] at h ⊢
     by_cases c4 : isDig 10 b = true
     ·rw [if_pos c4] at h ⊢; exact hnum 10 0 h
     ·rw [if_neg c4] at h; cases h
theorem endT_plain (n : Int) (last : Nat) (acc : List Tk) (h : Plains acc) : Plains (endT n last acc).l := by
 unfold endT
 by_cases ha : acc = []
 ·dsimp only; rw [if_pos ha]; exact Plains.nil
 ·dsimp only
  rw [if_neg ha]
  exact h.append fun c hc => by rw [List.mem_singleton.1 hc]; exact ⟨fun _ => rfl, Int.le_refl 0⟩
theorem toksR_plain (n : Int) (l : List UInt8) : ∀ (f k last : Nat) (acc : List Tk), Plains acc → Plains (toksR n l f k last acc).l
 | 0, _, last, acc, h => endT_plain n last acc h
 | f + 1, k, last, acc, h => by
  unfold toksR
  cases hl : l[k]? with
  | none => exact endT_plain n last acc h
  | some b =>
   dsimp only
   by_cases h1 : b = 35
   ·rw [if_pos h1]; exact endT_plain n last acc h
   ·rw [if_neg h1]
    by_cases h2 : isBlank b = true
    ·rw [if_pos h2]; exact toksR_plain n l f _ _ acc h
    ·rw [if_neg h2]
     by_cases h3 : (oneD (l.drop k)).e ≠ 0
     ·rw [if_pos h3]; exact Plains.nil
     ·rw [if_neg h3]
      refine toksR_plain n l f _ _ _ (h.append fun c hc => ?_)
      rw [List.mem_singleton.1 hc]
      exact oneD_plain _ (Decidable.not_not.1 h3)
theorem lineD_plain (n : Int) (l : List UInt8) : Plains (lineD n l).l := by
 unfold lineD
 split
 ·exact Plains.nil
 ·exact toksR_plain n l _ _ _ _ Plains.nil
theorem scanR_plain : ∀ (ls : List (List UInt8)) (n : Int) (acc : List Tk), Plains acc → Plains (scanR ls n acc).l
 | [], n, acc, h => h
 | x :: r, n, acc, h => by
  unfold scanR
  split
  ·exact Plains.nil
  ·exact scanR_plain r _ _ (h.append (lineD_plain n x))
theorem scanD_plain (l : List UInt8) : Plains (scanD l).l := by
 unfold scanD
 split
 ·exact Plains.nil
 ·exact scanR_plain _ _ _ Plains.nil
theorem spLn_rest {sink : Bool} {word : Tk} {ts rest : List Tk} {sp : List Mk} {dn tn : Int} {db tb : Bool} (hE : Ended ts) (hT : Texts ts) (hs : sp.length ≤ 64) (h : (spLn sink word (ts ++ rest) sp dn db tn tb).e = 0) :
  (spLn sink word (ts ++ rest) sp dn db tn tb).r = rest := by
 by_cases h1 : (spanR sink ts).e = 0
 ·by_cases h2 : addD (spanR sink ts).x (ofM sink sp) (ofM (!sink) sp) = 0
  ·rw [spLn_done hE hT hs h1 h2]
  ·exact absurd ((spLn_err2 (dn := dn) (db := db) (tn := tn) (tb := tb) (word := word) (rest := rest) hE hT hs h1 h2).1.symm.trans h) h2
 ·exact absurd ((spLn_err1 (sp := sp) (dn := dn) (db := db) (tn := tn) (tb := tb) (word := word) (rest := rest) hE hT h1).1.symm.trans h) h1
theorem settM_kind {told : Bool} {may : Int → Bool} {word a : Tk} {r : List Tk} (h : a.k ≠ 2) : settM told may word (a :: r) = ⟨11, a.line, a.col, 0, []⟩ := by unfold settM; dsimp only; rw [if_neg h]
theorem settM_end {told : Bool} {may : Int → Bool} {word a z : Tk} {r : List Tk} (h : a.k = 2) (hz : z.k ≠ 4) : settM told may word (a :: z :: r) = ⟨11, z.line, z.col, 0, []⟩ := by unfold settM; dsimp only; rw [if_pos h]; rw [if_neg hz]
theorem settM_told {may : Int → Bool} {word a z : Tk} {r : List Tk} (h : a.k = 2) (hz : z.k = 4) : settM true may word (a :: z :: r) = ⟨16, word.line, word.col, 0, []⟩ := by unfold settM; dsimp only; rw [if_pos h]; rw [if_pos hz, if_pos rfl]
theorem settM_range {may : Int → Bool} {word a z : Tk} {r : List Tk} (h : a.k = 2) (hz : z.k = 4) (hm : may a.n = false) : settM false may word (a :: z :: r) = ⟨10, a.line, a.col, 0, []⟩ := by unfold settM; dsimp only; rw [if_pos h]; rw [if_pos hz, if_neg (by decide), if_neg (by rw [hm]; decide)]
theorem settM_ok {may : Int → Bool} {word a z : Tk} {r : List Tk} (h : a.k = 2) (hz : z.k = 4) (hm : may a.n = true) : settM false may word (a :: z :: r) = ⟨0, 0, 0, a.n, r⟩ := by unfold settM; dsimp only; rw [if_pos h]; rw [if_pos hz, if_neg (by decide), if_pos hm]
theorem settM_rest {told : Bool} {may : Int → Bool} {word : Tk} {ts rest : List Tk} (hE : Ended ts) (h : (settM told may word (ts ++ rest)).e = 0) : (settM told may word (ts ++ rest)).r = rest := by
 obtain ⟨a, r, rfl⟩ := hE.ne
 rw [List.cons_append] at h ⊢
 by_cases ha : a.k = 2
 ·have h2 := hE.tail (show a.k ≠ 4 by rw [ha]; decide)
  obtain ⟨z, r2, rfl⟩ := h2.ne
  rw [List.cons_append] at h ⊢
  by_cases hz : z.k = 4
  ·obtain rfl := h2.single hz
   cases told
   ·cases hm : may a.n
    ·rw [settM_range ha hz hm] at h; cases h
    ·rw [settM_ok ha hz hm]; rfl
   ·rw [settM_told ha hz] at h; cases h
  ·rw [settM_end ha hz] at h; cases h
 ·rw [settM_kind ha] at h; cases h
theorem lineM_rest {word : Tk} {ts rest : List Tk} {sp : List Mk} {dn tn : Int} {db tb : Bool} (hE : Ended (word :: ts)) (hT : Texts (word :: ts)) (hs : sp.length ≤ 64) (h : (lineM word (ts ++ rest) sp dn db tn tb).e = 0) :
  (lineM word (ts ++ rest) sp dn db tn tb).r = rest := by
 have hk : word.t ≠ [] → word.k ≠ 4 := fun h e => h (hT word (by simp) (by rw [e]; decide))
 have t2 : Texts ts := fun c h => hT c (List.mem_cons_of_mem _ h)
 unfold lineM at h ⊢
 by_cases h1 : word.t = secretL
 ·have hE2 := hE.tail (hk (by rw [h1]; decide))
  rw [if_pos h1] at h ⊢; exact spLn_rest hE2 t2 hs h
 ·rw [if_neg h1] at h ⊢
  by_cases h2 : word.t = sinkL
  ·have hE2 := hE.tail (hk (by rw [h2]; decide))
   rw [if_pos h2] at h ⊢; exact spLn_rest hE2 t2 hs h
  ·rw [if_neg h2] at h ⊢
   by_cases h3 : word.t = declL
   ·have hE2 := hE.tail (hk (by rw [h3]; decide))
    rw [if_pos h3] at h ⊢
    by_cases h0 : (settM db mayD word (ts ++ rest)).e ≠ 0
    ·rw [if_pos h0] at h; exact absurd h h0
    ·rw [if_neg h0]; exact settM_rest hE2 (Decidable.not_not.1 h0)
   ·rw [if_neg h3] at h ⊢
    by_cases h4 : word.t = traceL
    ·have hE2 := hE.tail (hk (by rw [h4]; decide))
     rw [if_pos h4] at h ⊢
     by_cases h0 : (settM tb mayT word (ts ++ rest)).e ≠ 0
     ·rw [if_pos h0] at h; exact absurd h h0
     ·rw [if_neg h0]; exact settM_rest hE2 (Decidable.not_not.1 h0)
    ·rw [if_neg h4] at h; cases h
theorem parseL_step {f : Nat} {word : Tk} {ts rest : List Tk} {sp : List Mk} {dn tn : Int} {db tb : Bool} (hE : Ended (word :: ts)) (hT : Texts (word :: ts)) (hs : sp.length ≤ 64) (h : (lineM word (ts ++ rest) sp dn db tn tb).e = 0) :
  parseL (f + 1) (word :: (ts ++ rest)) sp dn db tn tb = parseL f rest (lineM word (ts ++ rest) sp dn db tn tb).sp (lineM word (ts ++ rest) sp dn db tn tb).dn (lineM word (ts ++ rest) sp dn db tn tb).db (lineM word (ts ++ rest) sp dn db tn tb).tn (lineM word (ts ++ rest) sp dn db tn tb).tb := by
 rw [parseL, if_neg (by rw [h]; simp), lineM_rest hE hT hs h]
theorem parseL_err {f : Nat} {word : Tk} {l : List Tk} {sp : List Mk} {dn tn : Int} {db tb : Bool} (h : (lineM word l sp dn db tn tb).e ≠ 0) :
  parseL (f + 1) (word :: l) sp dn db tn tb = ⟨(lineM word l sp dn db tn tb).e, (lineM word l sp dn db tn tb).li, (lineM word l sp dn db tn tb).co, noPol⟩ := by
 rw [parseL, if_pos h]
end Go.Proofs.YtjcmblbnbpikfaaGreatDoor
