/-
  Loads, what a policy lays on a memory, and when two memories are the same but for what it says is secret: by functions of addresses.
-/
import Derived.Test.YtcilnbkmaoneaaaDoorSpan9
import Derived.Test.YtcilnbkmaoneaaaDoorLaw8
import Derived.Test.YtcilnbkmaoneaaaDoorB8
set_option linter.unusedSimpArgs false
set_option linter.unusedVariables false
namespace Go.Proofs.YtcilnbkmaoneaaaDoor
open Go.RowKit Go.PlainAid

/-- Bytes that stand from an address on. -/
structure Ld where
  a : Int
  l : List Int
deriving Inhabited
def loadsM (M : Int → Int × Int) (l : List Ld) : Int → Int × Int := l.foldl (fun M x => (loadMp M x.a x.l).2) M
theorem loadsM_snoc (M : Int → Int × Int) (l : List Ld) (x : Ld) : loadsM M (l ++ [x]) = (loadMp (loadsM M l) x.a x.l).2 := by unfold loadsM; rw [List.foldl_append]; rfl
/-- A memory without secrets, of bytes. -/
structure Pl (M : Int → Int × Int) : Prop where
  t : ∀ k, (M k).2 = 0
  v : ∀ k, 0 ≤ (M k).1 ∧ (M k).1 ≤ 255
theorem Pl.zero : Pl zeroM := ⟨fun _ => rfl, fun _ => ⟨show (0 : Int) ≤ 0 from Int.le_refl _, show (0 : Int) ≤ 255 from by decide⟩⟩
theorem Pl.load {M : Int → Int × Int} (h : Pl M) (a : Int) {bs : List Int} (hb : ∀ x ∈ bs, 0 ≤ x ∧ x ≤ 255) : Pl (loadMp M a bs).2 := by
  unfold loadMp
  split
  · refine ⟨fun k => ?_, fun k => ?_⟩
    · show (loadM M a bs k).2 = 0
      rw [loadM_at]
      split
      · rfl
      · exact h.t k
    · show 0 ≤ (loadM M a bs k).1 ∧ (loadM M a bs k).1 ≤ 255
      rw [loadM_at]
      split
      · exact hb _ (List.getElem_mem _)
      · exact h.v k
  · exact h
theorem Pl.loads {l : List Ld} (hb : ∀ x ∈ l, ∀ y ∈ x.l, 0 ≤ y ∧ y ≤ 255) : ∀ {M : Int → Int × Int}, Pl M → Pl (loadsM M l) := by
  induction l with
  | nil => exact fun h => h
  | cons x r ih =>
    intro M h
    exact ih (fun y hy => hb y (by simp [hy])) (h.load x.a (hb x (by simp)))
/-! Lay. -/
def layM (M : Int → Int × Int) (l : List Sp) : Int → Int × Int := l.foldl (fun M x => (labelMp M x.f x.t x.b).2) M
theorem layM_snoc (M : Int → Int × Int) (l : List Sp) (x : Sp) : layM M (l ++ [x]) = (labelMp (layM M l) x.f x.t x.b).2 := by unfold layM; rw [List.foldl_append]; rfl
theorem only_lies {x : Sp} (h : 0 ≤ x.f ∧ x.f ≤ x.t ∧ x.t ≤ 65535 ∧ (x.t ≤ 32767 ∨ 49152 ≤ x.f)) : onlyB x.f x.t = true := by
  rw [onlyB_eq]
  unfold oneB ramB romB
  simp
  omega
theorem label_lies (M : Int → Int × Int) {x : Sp} (h : 0 ≤ x.f ∧ x.f ≤ x.t ∧ x.t ≤ 65535 ∧ (x.t ≤ 32767 ∨ 49152 ≤ x.f)) (k : Int) : (labelMp M x.f x.t x.b).2 k = ((M k).1, if onB x k then x.b else (M k).2) := by
  unfold labelMp
  rw [if_pos (only_lies h)]
  show labelM _ M x.f x.b k = _
  rw [labelM_at]
  by_cases hk : onB x k = true
  · rw [if_pos hk]
    rw [onB_iff] at hk
    rw [if_pos (by omega)]
  · rw [if_neg hk]
    have hk' : onB x k = false := by simpa using hk
    rw [onB_not] at hk'
    rw [if_neg (by omega)]
theorem layM_at : ∀ (l : List Sp) (M : Int → Int × Int), (∀ x ∈ l, 0 ≤ x.f ∧ x.f ≤ x.t ∧ x.t ≤ 65535 ∧ (x.t ≤ 32767 ∨ 49152 ≤ x.f)) → ∀ k, layM M l k = ((M k).1, fillF (fun a => (M a).2) l k)
  | [], M, _, k => rfl
  | x :: r, M, h, k => by
    show layM (labelMp M x.f x.t x.b).2 r k = _
    rw [layM_at r _ (fun y hy => h y (by simp [hy])) k, label_lies M (h x (by simp))]
    show _ = ((M k).1, fillF (markF (fun a => (M a).2) x) r k)
    congr 2
    funext a
    rw [label_lies M (h x (by simp))]
    rfl
/-- Behind Lay of a memory without secrets just those bits are secret that the policy tells. -/
theorem lay_plain {M : Int → Int × Int} (hM : Pl M) {l : List Sp} (h : Gd l) (k : Int) : layM M (sortS l) k = ((M k).1, bitsR l k) := by
  rw [layM_at _ M h.sort.lies, show (fun a => (M a).2) = nilF from funext hM.t, h.fill]
/-! Low. -/
def lowAt (S : Int → Int) (M N : Int → Int × Int) (k : Int) : Bool := bits .andNot .u8 (bits .xor .u8 (prM M k).v (prM N k).v) (S k) == 0
def lowM (S : Int → Int) (M N : Int → Int × Int) : Bool := (List.range 65536).all fun k => lowAt S M N (k : Int)
theorem lowM_iff {S : Int → Int} {M N : Int → Int × Int} : lowM S M N = true ↔ ∀ k : Nat, k < 65536 → lowAt S M N (k : Int) = true := by
  unfold lowM
  rw [List.all_eq_true]
  exact ⟨fun h k hk => h k (List.mem_range.2 hk), fun h k hk => h k (List.mem_range.1 hk)⟩
def By (n : Int) : Prop := 0 ≤ n ∧ n ≤ 255
theorem low_same (x s : Int) (hx : By x) (hs : By s) : (bits .andNot .u8 (bits .xor .u8 x x) s == 0) = true := by
  obtain ⟨a, rfl⟩ := u8_of x hx.1 (by have := hx.2; omega)
  obtain ⟨c, rfl⟩ := u8_of s hs.1 (by have := hs.2; omega)
  rw [u8_xor, u8_andNot, u8_beq0, BitVec.xor_self, BitVec.zero_and]
  rfl
theorem low_or (x y s : Int) (hx : By x) (hy : By y) (hs : By s) : (bits .or .u8 (bits .xor .u8 x y) s != s) = !(bits .andNot .u8 (bits .xor .u8 x y) s == 0) := by
  obtain ⟨a, rfl⟩ := u8_of x hx.1 (by have := hx.2; omega)
  obtain ⟨b, rfl⟩ := u8_of y hy.1 (by have := hy.2; omega)
  obtain ⟨c, rfl⟩ := u8_of s hs.1 (by have := hs.2; omega)
  rw [u8_xor, u8_andNot, u8_or, u8_beq0, u8_bne]
  generalize a ^^^ b = z
  unfold bne
  congr 1
  rw [Bool.eq_iff_iff, beq_iff_eq, beq_iff_eq]
  constructor
  · intro h
    apply BitVec.eq_of_getLsbD_eq
    intro i hi
    have := congrArg (fun v => v.getLsbD i) h
    simp only [BitVec.getLsbD_or] at this
    simp only [BitVec.getLsbD_and, BitVec.getLsbD_not, BitVec.getLsbD_zero]
    revert this
    cases z.getLsbD i <;> cases c.getLsbD i <;> simp [hi]
  · intro h
    apply BitVec.eq_of_getLsbD_eq
    intro i hi
    have := congrArg (fun v => v.getLsbD i) h
    simp only [BitVec.getLsbD_and, BitVec.getLsbD_not, BitVec.getLsbD_zero] at this
    simp only [BitVec.getLsbD_or]
    revert this
    cases z.getLsbD i <;> cases c.getLsbD i <;> simp [hi]
def VB (M : Int → Int × Int) : Prop := ∀ k, By (M k).1
theorem prM_by {M : Int → Int × Int} (h : VB M) (k : Int) : By (prM M k).v := by
  unfold prM
  split
  · exact ⟨Int.le_refl _, by decide⟩
  · split
    · exact ⟨Int.le_refl _, by decide⟩
    · split
      · exact ⟨by decide, by decide⟩
      · exact h k
theorem prM_v {M N : Int → Int × Int} {k : Int} (h : (M k).1 = (N k).1) : (prM M k).v = (prM N k).v := by
  unfold prM
  split
  · rfl
  · split
    · rfl
    · split
      · rfl
      · exact h
/-- What is read where there is an error is the same. -/
theorem prM_err {M N : Int → Int × Int} {k : Int} (h : ((prM M k).e == 0) = false) : (prM M k).v = (prM N k).v := by
  unfold prM at h ⊢
  split
  · rfl
  · split
    · rfl
    · split
      · rfl
      · rename_i h1 h2 h3
        rw [if_neg h1, if_neg h2, if_neg h3] at h
        cases h
theorem low_refl {S : Int → Int} {M N : Int → Int × Int} (hS : ∀ k, By (S k)) (hM : VB M) (h : ∀ k, (M k).1 = (N k).1) : lowM S M N = true := by
  rw [lowM_iff]
  intro k _
  unfold lowAt
  rw [← prM_v (h k)]
  exact low_same _ _ (prM_by hM _) (hS _)
/-- A byte that is another one. -/
structure Tn where
  a : Int
  b : Int
deriving Inhabited
def turnM (M : Int → Int × Int) (x : Tn) : Int → Int × Int := if (prM M x.a).e = 0 then (loadMp M x.a [bits .xor .u8 (prM M x.a).v x.b]).2 else M
def turnsM (M : Int → Int × Int) (l : List Tn) : Int → Int × Int := l.foldl turnM M
theorem turnsM_snoc (M : Int → Int × Int) (l : List Tn) (x : Tn) : turnsM M (l ++ [x]) = turnM (turnsM M l) x := by unfold turnsM; rw [List.foldl_append]; rfl
theorem xor_by {x y : Int} (hx : By x) (hy : By y) : By (bits .xor .u8 x y) := by
  obtain ⟨a, rfl⟩ := u8_of x hx.1 (by have := hx.2; omega)
  obtain ⟨b, rfl⟩ := u8_of y hy.1 (by have := hy.2; omega)
  rw [u8_xor]
  have h1 := u8_lo (a ^^^ b)
  have h2 := u8_hi (a ^^^ b)
  exact ⟨h1, by omega⟩
theorem turn_by {M : Int → Int × Int} (h : VB M) {x : Tn} (hx : By x.b) : VB (turnM M x) := by
  unfold turnM
  split
  · unfold loadMp
    split
    · intro k
      show By (loadM M x.a _ k).1
      rw [loadM_at]
      split
      · simp only [List.getElem_singleton]
        exact xor_by (prM_by h _) hx
      · exact h k
    · exact h
  · exact h
theorem turn_off {M : Int → Int × Int} {x : Tn} {k : Int} (h : x.a ≠ k) : turnM M x k = M k := by
  unfold turnM
  split
  · unfold loadMp
    split
    · show loadM M x.a _ k = M k
      rw [loadM_at, dif_neg (by simp only [List.length_cons, List.length_nil]; omega)]
    · rfl
  · rfl
theorem turns_by {l : List Tn} (hl : ∀ x ∈ l, By x.b) : ∀ {M : Int → Int × Int}, VB M → VB (turnsM M l) := by
  induction l with
  | nil => exact fun h => h
  | cons x r ih => exact fun h => ih (fun y hy => hl y (by simp [hy])) (turn_by h (hl x (by simp)))
theorem turns_off {l : List Tn} {k : Int} (hl : ∀ x ∈ l, x.a ≠ k) : ∀ {M : Int → Int × Int}, turnsM M l k = M k := by
  induction l with
  | nil => exact rfl
  | cons x r ih =>
    intro M
    show turnsM (turnM M x) r k = M k
    rw [ih (fun y hy => hl y (by simp [hy])), turn_off (hl x (by simp))]
/-- What the law asks of one byte that was turned: whether a bit of it is another one that is not secret. -/
def badX (S : Int → Int) (M N : Int → Int × Int) (a : Int) : Bool := ((prM M a).e == 0) && (((prM N a).e == 0) && (bits .or .u8 (bits .xor .u8 (prM M a).v (prM N a).v) (S a) != S a))
theorem badX_low {S : Int → Int} {M N : Int → Int × Int} (hS : ∀ k, By (S k)) (hM : VB M) (hN : VB N) (a : Int) : badX S M N a = !lowAt S M N a := by
  unfold badX lowAt
  have he : (prM N a).e = (prM M a).e := prM_e N M a
  rw [he, low_or _ _ _ (prM_by hM a) (prM_by hN a) (hS a)]
  cases h : ((prM M a).e == 0)
  · rw [← prM_err (N := N) h, low_same _ _ (prM_by hM a) (hS a)]
    rfl
  · simp
theorem low_turns {S : Int → Int} {M : Int → Int × Int} {l : List Tn} (hS : ∀ k, By (S k)) (hM : VB M) (hl : ∀ x ∈ l, By x.b) : lowM S M (turnsM M l) = l.all fun x => !badX S M (turnsM M l) x.a := by
  have hN := turns_by hl hM
  rw [Bool.eq_iff_iff, lowM_iff, List.all_eq_true]
  constructor
  · intro h x hx
    rw [badX_low hS hM hN, Bool.not_not]
    by_cases hk : 0 ≤ x.a ∧ x.a < 65536
    · have := h x.a.toNat (by omega)
      rw [show ((x.a.toNat : Nat) : Int) = x.a by omega] at this
      exact this
    · have h0 : ((prM M x.a).e == 0) = false := by
        unfold prM
        rcases kindI_cases x.a x.a with ⟨k, h1, _⟩ | ⟨k, h1, _⟩ | ⟨k, h1, _⟩ | ⟨k, h1, _⟩ | ⟨k, _⟩
        · unfold ramB at h1; simp at h1; omega
        · unfold devB at h1; simp at h1; omega
        · omega
        · unfold romB at h1; simp at h1; omega
        · simp [k]
      unfold lowAt
      rw [← prM_err (N := turnsM M l) h0]
      exact low_same _ _ (prM_by hM _) (hS _)
  · intro h k hk
    by_cases hx : ∃ x ∈ l, x.a = (k : Int)
    · obtain ⟨x, hx, e⟩ := hx
      have := h x hx
      rw [badX_low hS hM hN, Bool.not_not, e] at this
      exact this
    · unfold lowAt
      rw [← prM_v (M := M) (N := turnsM M l) (k := (k : Int)) (by rw [turns_off fun x hx' e => hx ⟨x, hx', e⟩])]
      exact low_same _ _ (prM_by hM _) (hS _)
theorem xor_comm8 (x y : Int) (hx : By x) (hy : By y) : bits .xor .u8 x y = bits .xor .u8 y x := by
  obtain ⟨a, rfl⟩ := u8_of x hx.1 (by have := hx.2; omega)
  obtain ⟨b, rfl⟩ := u8_of y hy.1 (by have := hy.2; omega)
  rw [u8_xor, u8_xor, BitVec.xor_comm]
theorem low_comm {S : Int → Int} {M N : Int → Int × Int} (hM : VB M) (hN : VB N) : lowM S N M = lowM S M N := by
  rw [Bool.eq_iff_iff, lowM_iff, lowM_iff]
  constructor <;> intro h k hk <;> have := h k hk <;> unfold lowAt at this ⊢ <;> rw [xor_comm8 _ _ (prM_by (by assumption) _) (prM_by (by assumption) _)] <;> exact this
end Go.Proofs.YtcilnbkmaoneaaaDoor
