/-
  Layer 5: the texts of bytes' lines: by lists; by the program.
-/
import Derived.Test.YtpjpoopgafcedaaDoorAwake5
import Derived.Test.YtpjpoopgafcedaaDoorBackPure
import Derived.Lib.OthersKept
set_option linter.unusedSimpArgs false
set_option linter.unusedVariables false
namespace Go.Proofs.YtpjpoopgafcedaaDoor
open Go.RowKit Go.PlainAid Go.Joins

/-- The texts of bytes' lines from a place on: the text, the place of what cannot be read, the error. -/
def listR (l : List Int) (a : Int) : Nat → Nat → List UInt8 × Int × Int
  | 0, _ => ([], 0, 0)
  | f + 1, pos => if l.length ≤ pos then ([], 0, 0) else
    if (readD (l.drop pos) (a + pos)).e ≠ 0 then ([], (pos : Int), (readD (l.drop pos) (a + pos)).e) else
    let s := listR l a f (pos + (readD (l.drop pos) (a + pos)).k.toNat)
    if s.2.2 ≠ 0 then ([], s.2.1, s.2.2) else (printL (readD (l.drop pos) (a + pos)).o.toNat (readD (l.drop pos) (a + pos)).n ++ [10] ++ s.1, 0, 0)
def listEnd (acc : List UInt8) (s : List UInt8 × Int × Int) : List UInt8 × Int × Int := if s.2.2 ≠ 0 then ([], s.2.1, s.2.2) else (acc ++ s.1, 0, 0)
def listD (l : List Int) (a : Int) : List UInt8 × Int × Int := listR l a l.length 0
theorem listR_end (l : List Int) (a : Int) (f pos : Nat) (h : l.length ≤ pos) : listR l a f pos = ([], 0, 0) := by
  cases f with
  | zero => rfl
  | succ f => unfold listR; rw [if_pos h]
theorem listEnd_none (s : List UInt8 × Int × Int) (h : s.2.2 = 0 → s.2.1 = 0) : listEnd [] s = (if s.2.2 ≠ 0 then ([], s.2.1, s.2.2) else s) := by
  unfold listEnd
  by_cases e : s.2.2 ≠ 0
  · rw [if_pos e, if_pos e]
  · rw [if_neg e, if_neg e]
    obtain ⟨x, y, z⟩ := s
    simp at e h
    simp [e, h e]
theorem listR_form (l : List Int) (a : Int) : ∀ f pos, ((listR l a f pos).2.2 = 0 → (listR l a f pos).2.1 = 0) ∧ ((listR l a f pos).2.2 ≠ 0 → (listR l a f pos).1 = [])
  | 0, _ => ⟨fun _ => rfl, fun h => absurd rfl h⟩
  | f + 1, pos => by
    unfold listR
    split
    · exact ⟨fun _ => rfl, fun h => absurd rfl h⟩
    · split
      · rename_i h; exact ⟨fun h2 => absurd h2 h, fun _ => rfl⟩
      · dsimp only
        split
        · rename_i h; exact ⟨fun h2 => absurd h2 h, fun _ => rfl⟩
        · exact ⟨fun _ => rfl, fun h => absurd rfl h⟩
theorem listEnd_nil (l : List Int) (a : Int) (f pos : Nat) : listEnd [] (listR l a f pos) = listR l a f pos := by
  obtain ⟨h1, h2⟩ := listR_form l a f pos
  rw [listEnd_none _ h1]
  split
  · rename_i h
    have := h2 h
    generalize listR l a f pos = s at *
    obtain ⟨x, y, z⟩ := s
    dsimp only at this
    rw [this]
  · rfl
theorem listEnd_err (l : List Int) (a : Int) (f pos : Nat) (acc : List UInt8) (h : ¬ l.length ≤ pos) (he : (readD (l.drop pos) (a + pos)).e ≠ 0) : listEnd acc (listR l a (f + 1) pos) = ([], (pos : Int), (readD (l.drop pos) (a + pos)).e) := by
  have e : listR l a (f + 1) pos = ([], (pos : Int), (readD (l.drop pos) (a + pos)).e) := by
    show (if l.length ≤ pos then _ else _) = _
    rw [if_neg h, if_pos he]
  rw [e]
  unfold listEnd
  rw [if_pos he]
theorem listEnd_step (l : List Int) (a : Int) (f pos : Nat) (acc : List UInt8) (h : ¬ l.length ≤ pos) (he : (readD (l.drop pos) (a + pos)).e = 0) :
    listEnd acc (listR l a (f + 1) pos) = listEnd (acc ++ (printL (readD (l.drop pos) (a + pos)).o.toNat (readD (l.drop pos) (a + pos)).n ++ [10])) (listR l a f (pos + (readD (l.drop pos) (a + pos)).k.toNat)) := by
  have e : listR l a (f + 1) pos = (if (listR l a f (pos + (readD (l.drop pos) (a + pos)).k.toNat)).2.2 ≠ 0 then ([], (listR l a f (pos + (readD (l.drop pos) (a + pos)).k.toNat)).2.1, (listR l a f (pos + (readD (l.drop pos) (a + pos)).k.toNat)).2.2) else (printL (readD (l.drop pos) (a + pos)).o.toNat (readD (l.drop pos) (a + pos)).n ++ [10] ++ (listR l a f (pos + (readD (l.drop pos) (a + pos)).k.toNat)).1, 0, 0)) := by
    show (if l.length ≤ pos then _ else _) = _
    rw [if_neg h, if_neg (by rw [he]; simp)]
  rw [e]
  generalize listR l a f (pos + (readD (l.drop pos) (a + pos)).k.toNat) = s
  unfold listEnd
  by_cases hs : s.2.2 ≠ 0
  · rw [if_pos hs, if_pos hs, if_pos hs]
  · rw [if_neg hs, if_neg hs, if_neg (by simp)]
    simp
/-- What is read may be printed, and lies at an address. -/
theorem read_ok (l : List Int) (hb : ∀ x ∈ l, 0 ≤ x ∧ x < 256) (a : Int) (he : (readD l a).e = 0) :
    ∃ (b K : Nat), b < 256 ∧ (readD l a).o = (b : Int) ∧ (readD l a).k = (K : Int) ∧ 1 ≤ K ∧ K ≤ l.length ∧ wrongD b (readD l a).n = 0 ∧ 0 ≤ a ∧ a ≤ 65535 ∧ bytesE b (readD l a).n a = 0 ∧ bytesL b (readD l a).n a = l.take K := by
  rcases bytes_read l hb a with ⟨h1, _⟩ | ⟨b, K, h0, h1, h2, h3, h4, h5, h6, h7⟩
  · exact absurd he h1
  · cases hp : placeL.getD b none with
    | none => unfold bytesE at h6; rw [hp] at h6; cases h6
    | some p =>
      have eE : bytesEk ((p % 13 : Nat) : Int) (readD l a).n a = 0 := by rw [← h6]; unfold bytesE; rw [hp]
      obtain ⟨x1, x2, x3, x4, x5, x6⟩ := bytesk_ok b ((p % 13 : Nat) : Int) (readD l a).n a (by omega) eE
      refine ⟨b, K, h0, h2, h3, h4, h5, ?_, x1, x2, h6, h7⟩
      unfold wrongD
      rw [hp]
      dsimp only
      rw [if_neg (by omega)]
theorem print_len (b : Nat) (hb : b < 256) (n : Int) : (printL b n).length ≤ 20 := by
  unfold printL
  split
  · unfold textD
    split
    · rename_i p hp
      have h3 := name_len ⟨p / 13, by have := place_bound b hb p hp; omega⟩
      have h4 := tail_is n.toNat (p % 13) (Nat.mod_lt _ (by omega))
      have h5 : ∀ m : Fin 13, (befP m.val).length ≤ 3 ∧ (aftP m.val).length ≤ 3 ∧ dgP m.val ≤ 4 := by decide +kernel
      obtain ⟨a1, a2, a3⟩ := h5 ⟨p % 13, Nat.mod_lt _ (by omega)⟩
      dsimp only at h3 a1 a2 a3
      rw [List.length_append, h3, h4, List.length_append, List.length_append, digsL_len]
      omega
    · simp
  · simp
theorem builder_below {T e : TypeId} {B b : Nat} {bs : List Value} {w u : World} (h : Lib.IsBuilderF T e B b bs w) (hb : Below w.heap.size w u) : Lib.IsBuilderF T e B b bs u := by
  have one : ∀ p, Lib.BuilderAtF T e B b p bs w → Lib.BuilderAtF T e B b p bs u := fun p h => by
    have hlt := h.lt
    obtain ⟨hB, v, hbk, hown, hne⟩ := h
    refine ⟨hB, v, (hb.block b hlt).trans hbk, ⟨hown.1, ?_⟩, hne⟩
    rcases hown.2 with hn | ⟨g, cap, cur, fz, hv, h1, hg, rest⟩
    · exact .inl hn
    · exact .inr ⟨g, cap, cur, fz, hv, h1, (hb.block g (Array.getElem?_eq_some_iff.1 hg).1).trans hg, rest⟩
  rcases h with h | h
  · exact .inl (one _ h)
  · exact .inr (one _ h)
theorem Tryd.writes (B b : Nat) (l s : List UInt8) (w : World) (h : Lib.IsBuilderF 84 5 B b (Lib.byteCells l) w) (hlen : l.length + s.length ≤ 140737488355328) (hBw : B ≤ w.heap.size) :
    Calls Tryd.prog 43 #[.pointer (some ⟨b, 0, none⟩), .string (txB s)] w fun e w' => e = .returned (.tuple #[.int .i64 s.length, .nilIface]) ∧ Lib.IsBuilderF 84 5 B b (Lib.byteCells (l ++ s)) w' ∧ Below B w w' := by
  refine (Any.Builder_WriteString_k { Tryd.lays158 with } Tryd.Builder_Extra_158 B b (Lib.byteCells l) (txB s) w h (by rw [Lib.byteCells_length, txB_size]; exact hlen) hBw).mono ?_
  rintro e w' ⟨rfl, h1, h2, _⟩
  have e1 : Lib.byteCells l ++ Lib.strCells (txB s) = Lib.byteCells (l ++ s) := by simp [Lib.byteCells, Lib.strCells]
  rw [e1] at h1
  exact ⟨by rw [txB_size], .inr h1, h2⟩
theorem slice_from (g o L c k : Nat) (h : k < c) (hk : k ≤ L) (W : World) : (Instr.slice 38 (.slice (some ⟨g, o, none⟩) L c) (some (.int .i64 (k : Int))) none none).run Tryd.prog W = .ok (.slice (some ⟨g, o + k, none⟩) (L - k) (c - k)) W := by
  have e2 : (sizeOf (Tryd.prog.elem 38)).run Tryd.prog W = .ok 1 W := by kernel_rfl
  rw [run_slice_l (t := 38) (ht := by kernel_rfl) (h0 := by omega) (h1 := by omega), e2]
  show Result.ok (Go.sliced (some ⟨g, o, none⟩) (k : Int).toNat L c 1) W = _
  unfold Go.sliced
  rw [Int.toNat_natCast, if_neg (by omega)]
  simp [Addr.add_lit]
theorem holds_from {w : World} {g o c : Nat} {l : List Int} (hv : HoldsC w (.slice (some ⟨g, o, none⟩) l.length c) l) (k : Nat) (hk : k ≤ l.length) : HoldsC w (.slice (some ⟨g, o + k, none⟩) (l.length - k) (c - k)) (l.drop k) := by
  have hcap := hv.2 _ _ _ rfl
  refine ⟨.inr ⟨g, o + k, c - k, by rw [List.length_drop], fun j x hx => ?_⟩, fun p n c' e => by cases e; omega⟩
  rw [List.getElem?_drop] at hx
  have := (hv.holds.at).2 (k + j) x hx
  rw [show o + k + j = o + (k + j) by omega]
  exact this
end Go.Proofs.YtpjpoopgafcedaaDoor
