/-
  Layer 8's laws: calls in memory; whether they are not too many.
  Layer 8, mathematics: bytes by their addresses, as a function, beside the document's row.
  The document's bus as a thing that lies in memory; a bus as the program has it, as the laws see it.
-/
import Derived.Test.YtcnejgilmciljaaDoorLabel8
import Derived.Test.YtcnejgilmciljaaDoorDbusw13
set_option linter.unusedSimpArgs false
set_option linter.unusedVariables false
namespace Go.Proofs.YtcnejgilmciljaaDoor
open Go.RowKit Go.PlainAid

/-- A call: which, where, up to where, a byte, bytes. -/
structure OpR where
  q : Int
  a : Int
  b : Int
  v : Int
  t : Int
  l : List Int
/-- A slice that holds these calls, each with its own bytes, all apart from blocks from N on. -/
def HoldsO (N : Nat) (w : World) (v : Value) (l : List OpR) : Prop :=
  ((∃ p c, v = .slice p 0 c) ∧ l = []) ∨ ∃ g o cap, v = .slice (some ⟨g, o, none⟩) l.length cap ∧ l.length ≤ cap ∧ g < N ∧ ∀ j (x : OpR), l[j]? = some x → ∃ lv, w.cell? ⟨g, o + j * 6, none⟩ = some (.int .i64 x.q) ∧ w.cell? ⟨g, o + j * 6 + 1, none⟩ = some (.int .i64 x.a) ∧ w.cell? ⟨g, o + j * 6 + 2, none⟩ = some (.int .i64 x.b) ∧ w.cell? ⟨g, o + j * 6 + 3, none⟩ = some (.int .u8 x.v) ∧ w.cell? ⟨g, o + j * 6 + 4, none⟩ = some (.int .u8 x.t) ∧ w.cell? ⟨g, o + j * 6 + 5, none⟩ = some lv ∧ HoldsB w lv x.l ∧ (0 < x.l.length → ∀ g', lv.ownBlock = some g' → g' < N)
theorem HoldsO.form {N : Nat} {w : World} {v : Value} {l : List OpR} (h : HoldsO N w v l) : ∃ p c, v = .slice p l.length c := by
  rcases h with ⟨⟨p, c, rfl⟩, rfl⟩ | ⟨g, o, cap, rfl, _⟩
  · exact ⟨p, c, rfl⟩
  · exact ⟨_, cap, rfl⟩
theorem HoldsO.below {N : Nat} {w u : World} {v : Value} {l : List OpR} (h : HoldsO N w v l) (hb : Below w.heap.size w u) : HoldsO N u v l := by
  rcases h with h | ⟨g, o, cap, e, hc, hg, h⟩
  · exact .inl h
  · exact .inr ⟨g, o, cap, e, hc, hg, fun j x hx => by
      obtain ⟨lv, a0, a1, a2, a3, a4, a5, a6, a7⟩ := h j x hx
      exact ⟨lv, kc hb a0, kc hb a1, kc hb a2, kc hb a3, kc hb a4, kc hb a5, a6.below hb, a7⟩⟩
def bigO (x : OpR) : Bool := decide ((40 : Int) < (x.l.length : Int)) || ((x.q == 1 && oneB x.a x.b) && decide (60 < x.b - x.a))
def fewO (l : List OpR) : Bool := l.all (fun x => !bigO x) && decide ((l.length : Int) ≤ 30)
end Go.Proofs.YtcnejgilmciljaaDoor
set_option linter.unusedSimpArgs false
set_option linter.unusedVariables false
namespace Go.Proofs.YtcnejgilmciljaaDoor
open Go.RowKit Go.PlainAid

/-- Addresses that hold a byte. -/
def realB (a : Int) : Bool := ramB a || romB a
def setM (M : Int → Int × Int) (a : Int) (x : Int × Int) : Int → Int × Int := fun b => if b = a then x else M b
def loadM : (Int → Int × Int) → Int → List Int → Int → Int × Int
  | M, _, [] => M
  | M, a, b :: r => loadM (setM M a (b, 0)) (a + 1) r
def labelM : Nat → (Int → Int × Int) → Int → Int → Int → Int × Int
  | 0, M, _, _ => M
  | n + 1, M, a, t => labelM n (setM M a ((M a).1, t)) (a + 1) t
/-- The document's row tells these bytes. -/
def Corr (M : Int → Int × Int) (L : List Pt) : Prop := ∀ a, realB a = true → lastP L a = M a
theorem lastK_app (L : List Pt) (x : Pt) (a : Int) : ∀ k, k ≤ L.length → lastK (L ++ [x]) a k = lastK L a k
  | 0, _ => rfl
  | k + 1, h => by
    rw [lastK, lastK, List.getElem?_append_left (by omega), lastK_app L x a k (by omega)]
theorem lastP_snoc (L : List Pt) (x : Pt) (a : Int) : lastP (L ++ [x]) a = if x.a = a then (x.v, x.t) else lastP L a := by
  unfold lastP
  rw [List.length_append, List.length_cons, List.length_nil, Nat.zero_add, lastK, List.getElem?_append_right (Nat.le_refl _), Nat.sub_self]
  show (if x.a = a then (x.v, x.t) else lastK (L ++ [x]) a L.length) = _
  rw [lastK_app L x a _ (Nat.le_refl _)]
theorem corr_nil : Corr (fun _ => (0, 0)) [] := fun a _ => rfl
theorem Corr.snoc {M : Int → Int × Int} {L : List Pt} (h : Corr M L) (x : Pt) : Corr (setM M x.a (x.v, x.t)) (L ++ [x]) := fun a ha => by
  rw [lastP_snoc, setM]
  by_cases e : x.a = a
  · rw [if_pos e, if_pos e.symm]
  · rw [if_neg e, if_neg (fun h => e h.symm), h a ha]
theorem Corr.load : ∀ (bs : List Int) {M : Int → Int × Int} {L : List Pt} (a : Int), Corr M L → Corr (loadM M a bs) (L ++ putsP a bs)
  | [], M, L, a, h => by rw [putsP, List.append_nil]; exact h
  | b :: r, M, L, a, h => by
    have := Corr.load r (a + 1) (h.snoc ⟨a, b, 0⟩)
    rw [List.append_assoc] at this
    exact this
theorem atP_real {M : Int → Int × Int} {L : List Pt} (h : Corr M L) {a : Int} (ha : realB a = true) : atP L a = M a := by
  unfold atP
  rw [if_neg (by rintro ⟨h1, h2⟩; unfold realB at ha; rw [h1, h2] at ha; cases ha)]
  exact h a ha
theorem Corr.label : ∀ (n : Nat) {M : Int → Int × Int} {L : List Pt} (a t : Int), Corr M L → (∀ i : Nat, i < n → realB (a + (i : Int)) = true) → Corr (labelM n M a t) (labsP n L a t)
  | 0, M, L, a, t, h, _ => h
  | n + 1, M, L, a, t, h, hr => by
    have h0 : realB a = true := by have := hr 0 (by omega); simpa using this
    have e : atP L a = M a := atP_real h h0
    rw [labelM, labsP, e]
    refine Corr.label n (a + 1) t (h.snoc ⟨a, (M a).1, t⟩) (fun i hi => ?_)
    have := hr (i + 1) (by omega)
    rw [show a + 1 + (i : Int) = a + ((i + 1 : Nat) : Int) by omega]
    exact this
theorem one_real {f t : Int} (h : oneB f t = true) {a : Int} (h1 : f ≤ a) (h2 : a ≤ t) : realB a = true := by
  unfold oneB ramB romB at h
  unfold realB ramB romB
  simp only [Bool.or_eq_true, Bool.and_eq_true, decide_eq_true_eq] at h ⊢
  omega
theorem labsP_len : ∀ (n : Nat) (L : List Pt) (a t : Int), (labsP n L a t).length = L.length + n
  | 0, L, a, t => rfl
  | n + 1, L, a, t => by rw [labsP, labsP_len n, List.length_append, List.length_cons, List.length_nil]; omega
/-- What the bytes are behind a load, and behind labels. -/
theorem loadM_at : ∀ (bs : List Int) (M : Int → Int × Int) (a x : Int), loadM M a bs x = if h : a ≤ x ∧ x < a + bs.length then (bs[(x - a).toNat]'(by omega), 0) else M x
  | [], M, a, x => by rw [loadM, dif_neg (by simp)]
  | b :: r, M, a, x => by
    rw [loadM, loadM_at r]
    by_cases e : x = a
    · subst e
      rw [dif_neg (by omega), dif_pos (by simp only [List.length_cons]; omega), setM, if_pos rfl]
      simp
    · by_cases hx : a + 1 ≤ x ∧ x < a + 1 + r.length
      · rw [dif_pos hx, dif_pos (by simp only [List.length_cons]; omega)]
        have : (x - a).toNat = (x - (a + 1)).toNat + 1 := by omega
        simp only [this, List.getElem_cons_succ]
      · rw [dif_neg hx, dif_neg (by simp only [List.length_cons]; omega), setM, if_neg e]
theorem labelM_at : ∀ (n : Nat) (M : Int → Int × Int) (a t x : Int), labelM n M a t x = if a ≤ x ∧ x < a + n then ((M x).1, t) else M x
  | 0, M, a, t, x => by rw [labelM, if_neg (by omega)]
  | n + 1, M, a, t, x => by
    rw [labelM, labelM_at n]
    by_cases e : x = a
    · subst e
      rw [if_neg (by omega), if_pos (by omega), setM, if_pos rfl]
    · by_cases hx : a + 1 ≤ x ∧ x < a + 1 + n
      · rw [if_pos hx, if_pos (by omega), setM, if_neg e]
      · rw [if_neg hx, if_neg (by omega), setM, if_neg e]
end Go.Proofs.YtcnejgilmciljaaDoor
set_option linter.unusedSimpArgs false
set_option linter.unusedVariables false
namespace Go.Proofs.YtcnejgilmciljaaDoor
open Go.RowKit Go.PlainAid

/-- What a call leaves of such a thing. -/
def TEnd (T' : Thing) (F G : Nat → Prop) (V : Value) (w : World) : Ending → World → Prop := fun e w' => e = .returned V ∧ ∃ F' G', T' F' G' w' ∧ Mv F G F' G' w w'
/-- A bus as the laws see it: its bytes, the timer, ports, the wheel, the cycles. -/
structure Bs where
  M : Int → Int × Int
  T : Tm
  S : Po
  W : Wh
  n : Int
structure Bs.May (B : Bs) : Prop where
  t : B.T.May
  s : Fit B.S
  w : B.W.May
  n : 0 ≤ B.n ∧ B.n ≤ 4611686018427387904
def memV (M : Int → Int × Int) (a : Int) : Int × Int := if realB a = true then M a else (255, 0)
def rdQ (B : Bs) (a : Int) : Bs := if a < 0 ∨ 65535 < a then B else ⟨B.M, tickT B.T, rdPs B.S a, B.W, B.n + 1⟩
def wrM (M : Int → Int × Int) (a v t : Int) : Int → Int × Int := if ramB a = true then setM M a (v, t) else M
def wrQ (B : Bs) (a v t : Int) : Bs := if (wrB B.S a t).2 ≠ 0 then B else ⟨wrM B.M a v t, tickT (wrT B.T a v), wrPs B.S a v t B.n, wrWh B.W a v, B.n + 1⟩
def Bd.q (B : Bd) (M : Int → Int × Int) : Bs := ⟨M, B.T, B.S, B.W, B.n⟩
theorem memV_at {M : Int → Int × Int} {L : List Pt} (h : Corr M L) (a : Int) : memV M a = atP L a := by
  unfold memV atP
  by_cases hr : realB a = true
  · rw [if_pos hr, if_neg (by unfold realB at hr; rintro ⟨h1, h2⟩; rw [h1, h2] at hr; cases hr), h a hr]
  · rw [if_neg hr, if_pos (by unfold realB at hr; simpa using hr)]
theorem rdB_q {M : Int → Int × Int} {B : Bd} (h : Corr M B.L) (a : Int) : rdB (memV M) B.T B.S B.W a = rdB (atP B.L) B.T B.S B.W a := by
  have : memV M = atP B.L := funext (memV_at h)
  rw [this]
theorem rdQ_q (B : Bd) (M : Int → Int × Int) (a : Int) : rdQ (B.q M) a = (rdD B a).q M := by
  unfold rdQ rdD
  by_cases h : a < 0 ∨ 65535 < a
  · rw [if_pos h, if_pos h]
  · rw [if_neg h, if_neg h]; rfl
theorem rdD_L (B : Bd) (a : Int) : (rdD B a).L = B.L := by unfold rdD; split <;> rfl
theorem ram_in {a : Int} (h : ramB a = true) : (0 ≤ a ∧ a < 32768) ∧ devB a = false := by
  unfold ramB at h
  unfold devB
  simp at h ⊢
  omega
theorem wrM_corr {M : Int → Int × Int} {L : List Pt} (h : Corr M L) (a v t : Int) : Corr (wrM M a v t) (writeP L ⟨a, v, t⟩).2 := by
  unfold wrM writeP
  dsimp only
  by_cases hr : ramB a = true
  · obtain ⟨h1, h2⟩ := ram_in hr
    rw [if_pos hr, if_neg (by omega), if_neg (by rw [h2]; simp), if_pos hr]
    exact h.snoc ⟨a, v, t⟩
  · rw [if_neg hr, if_neg hr]
    split
    · exact h
    · split <;> exact h
theorem wrQ_q {B : Bd} {M : Int → Int × Int} (a v t : Int) (h : Corr M B.L) : ∃ M', wrQ (B.q M) a v t = (wrD B a v t).q M' ∧ Corr M' (wrD B a v t).L := by
  unfold wrQ wrD Bd.q
  dsimp only
  by_cases hz : (wrB B.S a t).2 ≠ 0
  · rw [if_pos hz, if_pos hz]
    exact ⟨M, rfl, h⟩
  · rw [if_neg hz, if_neg hz]
    exact ⟨_, rfl, wrM_corr h a v t⟩
theorem readS_fit {S : Po} (h : Fit S) (reg : Int) : Fit (readS S reg) := by
  obtain ⟨h1, h2, h3, h4, h5, h6⟩ := h
  unfold readS
  split
  · exact ⟨by dsimp only; rw [List.length_tail]; omega, h2, h3, h4, h5, h6⟩
  · split
    · exact ⟨h1, by dsimp only; rw [List.length_tail]; omega, h3, h4, h5, h6⟩
    · exact ⟨h1, h2, h3, h4, h5, h6⟩
theorem wrPo_fit {S : Po} (h : Fit S) (reg v t cy : Int) : Fit (wrPo S reg v t cy) := by
  obtain ⟨h1, h2, h3, h4, h5, h6⟩ := h
  unfold wrPo
  split
  · exact ⟨h1, h2, h3, h4, h5, h6⟩
  · rename_i hE
    have hE' : (writeE S reg t).2 = 0 := by simpa using hE
    unfold writeE at hE'
    split at hE'
    · cases hE'
    · split at hE'
      · cases hE'
      · split at hE'
        · cases hE'
        · rename_i n1 n2 n3
          split
          · exact ⟨h1, h2, by dsimp only; rw [List.length_append, List.length_singleton]; omega, h4, h5, h6⟩
          · split
            · exact ⟨h1, h2, h3, by dsimp only; rw [List.length_append, List.length_singleton]; omega, h5, h6⟩
            · split
              · exact ⟨h1, h2, h3, h4, by dsimp only; rw [List.length_append, List.length_singleton]; omega, by dsimp only; rw [List.length_append, List.length_append, h6]; rfl⟩
              · exact ⟨h1, h2, h3, h4, h5, h6⟩
theorem rdPs_fit {S : Po} (h : Fit S) (a : Int) : Fit (rdPs S a) := by
  unfold rdPs
  split
  · exact readS_fit h _
  · exact h
theorem wrPs_fit {S : Po} (h : Fit S) (a v t n : Int) : Fit (wrPs S a v t n) := by
  unfold wrPs
  split
  · exact wrPo_fit h _ _ _ _
  · exact h
theorem wrT_may {T : Tm} (h : T.May) (a v : Int) (hv : 0 ≤ v ∧ v ≤ 255) : (wrT T a v).May := by
  unfold wrT
  split
  · exact writeT_may T _ v h hv
  · exact h
theorem wrWh_may {W : Wh} (h : W.May) (a v : Int) (hv : 0 ≤ v ∧ v ≤ 255) : (wrWh W a v).May := by
  unfold wrWh
  split
  · exact rollW_may h hv
  · exact h
/-- So many calls can still be made: of a bus, and of the document's. -/
structure Room (k : Nat) (B : Bs) : Prop where
  t : B.T.May
  s : Fit B.S
  w : B.W.May
  n : 0 ≤ B.n ∧ B.n + k ≤ 1000000
theorem Room.may {k : Nat} {B : Bs} (h : Room k B) : B.May := ⟨h.t, h.s, h.w, by have := h.n; omega⟩
theorem Room.less {k j : Nat} {B : Bs} (h : Room k B) (hj : j ≤ k) : Room j B := ⟨h.t, h.s, h.w, by have := h.n; omega⟩
theorem Room.read {k : Nat} {B : Bs} (h : Room (k + 1) B) (a : Int) : Room k (rdQ B a) := by
  unfold rdQ
  split
  · exact h.less (Nat.le_succ _)
  · exact ⟨tickT_may _ h.t, rdPs_fit h.s a, h.w, by have := h.n; dsimp only; omega⟩
theorem Room.write {k : Nat} {B : Bs} (h : Room (k + 1) B) (a v t : Int) (hv : 0 ≤ v ∧ v ≤ 255) : Room k (wrQ B a v t) := by
  unfold wrQ
  split
  · exact h.less (Nat.le_succ _)
  · exact ⟨tickT_may _ (wrT_may h.t a v hv), wrPs_fit h.s a v t _, wrWh_may h.w a v hv, by have := h.n; dsimp only; omega⟩
theorem wrD_len (B : Bd) (a v t : Int) : (wrD B a v t).L.length ≤ B.L.length + 1 := by
  unfold wrD
  split
  · omega
  · unfold writeP
    dsimp only
    split
    · dsimp only; omega
    · split
      · dsimp only; omega
      · split
        · simp
        · dsimp only; omega
theorem bd_may {k : Nat} {B : Bd} {M : Int → Int × Int} (h : Room k (B.q M)) (hl : B.L.length ≤ 100000) : B.May :=
  ⟨hl, h.t, by have h1 : B.S.cyc.length = B.S.told.length := h.s.cyc; have h2 : B.S.told.length ≤ 4096 := h.s.told; omega, h.w, h.may.n⟩
end Go.Proofs.YtcnejgilmciljaaDoor
