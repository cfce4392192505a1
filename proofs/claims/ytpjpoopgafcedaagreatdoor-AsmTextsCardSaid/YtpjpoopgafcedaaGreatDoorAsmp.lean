/-
  Layer 5: the bytes of a text's lines, by lists.
  Layer 5, the program: a text cut at its first line end; the bytes of one line.
  Layer 5, the program: Assemble.
-/
import Derived.Test.YtpjpoopgafcedaaGreatDoorAwake5
import Derived.Lib.IndexLaws
import Derived.Laws.OwnMore
import Derived.OwnWalk
import Derived.Test.YtpjpoopgafcedaaGreatDoorPlanT
import Derived.Test.YtpjpoopgafcedaaGreatDoorScope
set_option linter.unusedSimpArgs false
set_option linter.unusedVariables false
namespace Go.Proofs.YtpjpoopgafcedaaGreatDoor
open Go.RowKit Go.PlainAid Go.Joins

theorem bytes_nil (b : Nat) (n a : Int) (h : bytesE b n a ≠ 0) : bytesL b n a = [] := by
  unfold bytesE at h
  unfold bytesL
  split
  · rename_i p hp
    rw [hp] at h
    unfold bytesLk
    rw [if_pos h]
  · rfl
theorem bytesk_fit (b : Nat) (k n a : Int) (hk : 0 ≤ k ∧ k ≤ 12) (h : bytesEk k n a = 0) :
    0 ≤ a ∧ a ≤ 65535 ∧ 0 ≤ n ∧ n ≤ mostD k ∧ a + lenR k ≤ 65536 ∧ (k = 12 ∧ bytesLk b k n a = [(b : Int), (n - a - 2) % 256] ∧ -128 ≤ n - a - 2 ∧ n - a - 2 ≤ 127 ∨ k ≠ 12 ∧ bytesLk b k n a = if lenR k = 1 then [(b : Int)] else if lenR k = 2 then [(b : Int), n % 256] else [(b : Int), n % 256, n / 256]) := by
  have h0 := h
  unfold bytesEk at h
  by_cases h1 : n < 0 ∨ mostD k < n
  · rw [if_pos h1] at h; cases h
  · rw [if_neg h1] at h
    by_cases h2 : a < 0 ∨ 65535 < a ∨ 65536 < a + lenR k
    · rw [if_pos h2] at h; cases h
    · rw [if_neg h2] at h
      refine ⟨by omega, by omega, by omega, by omega, by omega, ?_⟩
      unfold bytesLk
      rw [if_neg (by rw [h0]; simp)]
      by_cases h3 : k = 12
      · rw [if_pos h3]
        by_cases h4 : n - a - 2 < -128 ∨ 127 < n - a - 2
        · rw [if_pos ⟨h3, h4⟩] at h; cases h
        · exact .inl ⟨h3, rfl, by omega, by omega⟩
      · rw [if_neg h3]
        exact .inr ⟨h3, rfl⟩
theorem bytes_most (b : Nat) (n a : Int) : (bytesL b n a).length ≤ 3 := by
  unfold bytesL
  split
  · unfold bytesLk
    split; simp; split; simp; split; simp; split <;> simp
  · simp
theorem at_most : ∀ x ∈ atL, x ≤ 255 := by decide +kernel
theorem atRL_most (r : Int) (m : Nat) : atRL r m ≤ 255 := by
  unfold atRL
  rw [List.getD_eq_getElem?_getD]
  cases h : atL[13 * r.toNat + m]? with
  | none => simp
  | some x => exact at_most x (List.mem_of_getElem? h)
theorem parse_bound (l : List UInt8) : 0 ≤ parseO l ∧ parseO l < 256 := by
  unfold parseO
  cases isText l
  · simp
  · simp only [if_true]
    unfold scanOp
    cases h : scanO (fun m => writtenD (l.drop 3) m) (atRL (rowL3 (l.take 3))) (rowL3 (l.take 3)) with
    | none => simp
    | some m =>
      unfold scanO at h
      have h1 := List.find?_some h
      unfold hitM at h1
      simp only [Bool.and_eq_true, decide_eq_true_eq] at h1
      have := atRL_most (rowL3 (l.take 3)) m
      dsimp only
      omega
/-- The lines of a text: what stands between its line ends. -/
def linesL : List UInt8 → List (List UInt8)
  | [] => [[]]
  | x :: r => if x = 10 then [] :: linesL r else (x :: (linesL r).headD []) :: (linesL r).tail
def opN (x : List UInt8) : Nat := (parseO x).toNat
/-- What is wrong with a line at a place, and its bytes. -/
def lineE (x : List UInt8) (a : Int) : Int := if x = [] then 0 else if parseE x ≠ 0 then parseE x else bytesE (opN x) (parseN x) a
def lineL (x : List UInt8) (a : Int) : List Int := if x = [] then [] else if parseE x ≠ 0 then [] else bytesL (opN x) (parseN x) a
def asmR : List (List UInt8) → Int → List Int → Int → List Int × Int × Int
  | [], _, acc, _ => (acc, 0, 0)
  | x :: r, a, acc, c => if lineE x (a + acc.length) ≠ 0 then ([], c, lineE x (a + acc.length)) else asmR r a (acc ++ lineL x (a + acc.length)) (c + 1)
def asmD (s : List UInt8) (a : Int) : List Int × Int × Int := asmR (linesL s) a [] 1
theorem asmR_err (x : List UInt8) (r : List (List UInt8)) (a : Int) (acc : List Int) (c : Int) (h : lineE x (a + acc.length) ≠ 0) : asmR (x :: r) a acc c = ([], c, lineE x (a + acc.length)) := by
  show (if _ then _ else _) = _
  rw [if_pos h]
theorem asmR_step (x : List UInt8) (r : List (List UInt8)) (a : Int) (acc : List Int) (c : Int) (h : lineE x (a + acc.length) = 0) : asmR (x :: r) a acc c = asmR r a (acc ++ lineL x (a + acc.length)) (c + 1) := by
  show (if _ then _ else _) = _
  rw [if_neg (by rw [h]; simp)]
theorem linesL_ne (l : List UInt8) : ∃ x r, linesL l = x :: r := by
  cases l with
  | nil => exact ⟨_, _, rfl⟩
  | cons b l => unfold linesL; split <;> exact ⟨_, _, rfl⟩
theorem lines_none : ∀ l : List UInt8, Lib.indexByte l 10 = -1 → linesL l = [l]
  | [], _ => rfl
  | b :: l, h => by
    unfold Lib.indexByte at h
    split at h
    · simp at h
    · rename_i hb
      split at h
      · rename_i hl
        have hb' : ¬ b = 10 := fun e => hb (by rw [e]; rfl)
        have ih := lines_none l (by simpa using hl)
        unfold linesL
        rw [if_neg hb', ih]
        rfl
      · have := Lib.indexByte_ge l 10
        rename_i hl
        exact absurd (show Lib.indexByte l 10 = -2 by omega) (by omega)
theorem lines_some : ∀ (l : List UInt8) (o : Nat), Lib.indexByte l 10 = o → linesL l = l.take o :: linesL (l.drop (o + 1))
  | [], o, h => by simp [Lib.indexByte] at h
  | b :: l, o, h => by
    unfold Lib.indexByte at h
    split at h
    · rename_i hb
      have hb' : b = 10 := by simpa using hb
      obtain rfl : o = 0 := by omega
      show (if b = 10 then _ else _) = _
      rw [if_pos hb']
      rfl
    · rename_i hb
      have hb' : ¬ b = 10 := fun e => hb (by rw [e]; rfl)
      split at h
      · omega
      · obtain ⟨o', rfl⟩ : ∃ o', o = o' + 1 := ⟨o - 1, by have := Lib.indexByte_ge l 10; rename_i hl; simp at hl; omega⟩
        have ih := lines_some l o' (by omega)
        show (if b = 10 then _ else _) = _
        rw [if_neg hb', ih]
        rfl
theorem line_none (x : List UInt8) (a : Int) (h : lineE x a ≠ 0) : lineL x a = [] := by
  unfold lineE at h
  unfold lineL
  split at h
  · exact absurd rfl h
  · rename_i hx
    rw [if_neg hx]
    split at h
    · rename_i hp; rw [if_pos hp]
    · rename_i hp; rw [if_neg hp]; exact bytes_nil _ _ _ h
theorem line_len (x : List UInt8) (a : Int) : (lineL x a).length ≤ 3 * x.length := by
  unfold lineL
  split
  · rename_i h; rw [h]; simp
  · rename_i h
    have h1 : 0 < x.length := List.length_pos_iff.2 h
    split
    · simp
    · have := bytes_most (opN x) (parseN x) a
      omega
theorem opN_is (x : List UInt8) : opN x < 256 ∧ parseO x = ((opN x : Nat) : Int) := by
  have := parse_bound x
  unfold opN
  omega
theorem line_room (x : List UInt8) (a : Int) (h : lineE x a = 0) : lineL x a = [] ∨ (0 ≤ a ∧ a ≤ 65535) := by
  unfold lineE at h
  unfold lineL
  split
  · exact .inl rfl
  · rename_i hx
    rw [if_neg hx] at h
    split
    · exact .inl rfl
    · rename_i hp
      rw [if_neg hp] at h
      right
      cases hq : placeL.getD (opN x) none with
      | none => unfold bytesE at h; rw [hq] at h; cases h
      | some p =>
        have eE : bytesEk ((p % 13 : Nat) : Int) (parseN x) a = 0 := by rw [← h]; unfold bytesE; rw [hq]
        obtain ⟨x1, x2, _⟩ := bytesk_fit (opN x) ((p % 13 : Nat) : Int) (parseN x) a (by omega) eE
        exact ⟨x1, x2⟩
section
variable {P : Program} {w : World}
theorem wpList_append_row {ops : Array Oper} {rest : List Oper} {o : Oper} {a : Act} {Q : Exit → Act → World → Prop} (hgd : o.guard = none) (s x : Operand) (t : TypeId)
    (ho : o.op = .call { callee := .builtin .append, args := #[s, x], argTypes := #[t, t] })
    (base : Nat) (e : TypeId) (i : TypeInfo) (z : Value) (size bytes : Nat) (ht : P.underlying t = some (.slice e)) (hi : P.info? e = some i) (hz : i.zero = some z)
    (hsize : i.size = size) (hby : i.bytes = bytes) (hzs : z.cells.size = size) (hsz : 0 < size)
    (v : Value) (n : Nat) (xs : List Value) (hs : a.eval s = v) (hown : w.ownsRow base e size v n xs)
    (base2 : Nat) (X : Value) (m : Nat) (news : List Value) (hx : a.eval x = X) (hX : w.ownsRow base2 e size X m news) (h1 : ∀ u ∈ news, u.oneCell' = true)
    (h63 : n + m ≤ maxLen) (hbytes : (n + m) * bytes ≤ 140737488355328) (hbase : base ≤ w.heap.size)
    (h : ∀ v' w', w'.ownsRow base e size v' (n + m) (xs ++ news) → w.grownBy w' v.ownBlock → wpList P ops Q rest (a.put o.dst v') w') : wpList P ops Q (o :: rest) a w := by
  rcases hX.2 with ⟨rfl, rfl⟩ | ⟨g, cap, cur, rfl, hb, hg, hnc, hcm, hcs, htk⟩
  · obtain rfl : news = [] := by have := hX.1; simpa using this
    refine wpList_plain hgd fun K hK => ?_
    have hr := run_append_owned_none (P := P) (w := w) base t o.type e i size ht hi v n xs hown
    unfold Oper.wp execOp
    simp only [ho, resolve, invoke, builtin, Sem.run_bind, Sem.run_pure, Result.andThen_ok, List.map_toArray, List.map_cons, List.map_nil, hs, hx, hr]
    exact hK _ _ (h v w (by simpa using hown) (World.grownBy.refl _ _))
  · exact wpList_append_own _ hgd s x t ho base e i z size bytes ht hi hz hsize hby hzs hsz v n xs hs hown ⟨g, 0, none⟩ m cap news hx hX.1 (hX.cells (g := g) rfl) h1 h63 hbytes hbase fun v' w' h2 h3 _ => h v' w' h2 h3
end
end Go.Proofs.YtpjpoopgafcedaaGreatDoor
set_option linter.unusedSimpArgs false
set_option linter.unusedVariables false
namespace Go.Proofs.YtpjpoopgafcedaaGreatDoor
open Go.RowKit Go.PlainAid Go.Joins

theorem Tryz.index_one (s : ByteArray) (w : World) : Calls Tryz.prog 32 #[.string s, .string ⟨#[10]⟩] w fun e w' => e = .returned (.int .i64 (Lib.indexByte s.data.toList 10)) ∧ w' = w :=
  Any.stringslite_Index_one { Tryz.lays145 with } s 10 w
theorem Tryz.index_k (l : List UInt8) (w : World) : Calls Tryz.prog 32 #[.string (txB l), .string ⟨#[10]⟩] w fun e w' => e = .returned (.int .i64 (Lib.indexByte l 10)) ∧ Below w.heap.size w w' := by
  refine (Tryz.index_one (txB l) w).mono ?_
  rintro e w' ⟨rfl, rfl⟩
  exact ⟨by rw [show (txB l).data.toList = l from by simp [txB]], Below.refl _ _⟩
set_option maxRecDepth 100000 in
set_option maxHeartbeats 1000000 in
theorem cuts_none (l : List UInt8) (h : Lib.indexByte l 10 = -1) (w : World) : Calls Tryz.prog 19 #[.string (txB l), .string ⟨#[10]⟩] w fun e w' => e = .returned (.tuple #[.string (txB l), .string ⟨#[]⟩, .bool false]) ∧ Below w.heap.size w w' := by
  have HI := Lib.hid (Tryz.index_k l)
  rw [h] at HI
  clear h
  generalize txB l = S at *
  go_enter Tryz.func19, Tryz.ntmps19
  go_wp2_with fail
  ((with_reducible refine (HI.out _).mono ?_); rintro _ u ⟨rfl, hb⟩)
  have hz := hb.size
  (try simp only [World.size_alloc, World.size_setCell, World.size_drew] at hz)
  have hB' : Below w.heap.size w u := by
      refine kb ?_ hb
      go_grown
  clear hb hz
  have hB := hB'; clear hB'
  have hsz := hB.size
  go_wp2
  refine bodyPost_ret (v := .tuple #[.string S, .string ⟨#[]⟩, .bool false]) (by simp [results, Tryz.results19, go_sem]) rfl ⟨rfl, by go_grown⟩
set_option maxRecDepth 100000 in
set_option maxHeartbeats 1000000 in
theorem cuts_some (l : List UInt8) (o : Nat) (h : Lib.indexByte l 10 = o) (hz : l.length ≤ 65536) (w : World) : Calls Tryz.prog 19 #[.string (txB l), .string ⟨#[10]⟩] w fun e w' => e = .returned (.tuple #[.string (txB (l.take o)), .string (txB (l.drop (o + 1))), .bool true]) ∧ Below w.heap.size w w' := by
  have hlt : o < l.length := by
    have := (Lib.indexByte_some h).1
    exact (List.getElem?_eq_some_iff.1 this).1
  have HI := Lib.hid (Tryz.index_k l)
  rw [h] at HI
  have ha : (txB l).extract 0 o = txB (l.take o) := by rw [txB_extract]; simp
  have hb : (txB l).extract (o + 1) (txB l).size = txB (l.drop (o + 1)) := by rw [txB_extract, txB_size]; simp
  rw [← ha, ← hb]
  have q1 : ∀ W, (Instr.slice 9 (.string (txB l)) none (some (.int .i64 (o : Int))) none).run Tryz.prog W = .ok (.string ((txB l).extract 0 o)) W := fun W => by
    rw [run_slice_string_h (ht := Tryz.underlying9) (h0 := by omega) (h2 := by rw [txB_size]; omega)]; simp
  have q2 : ∀ W, (Instr.slice 9 (.string (txB l)) (some (.int .i64 ((o : Int) + 1))) none none).run Tryz.prog W = .ok (.string ((txB l).extract (o + 1) (txB l).size)) W := fun W => by
    rw [run_slice_string_l (ht := Tryz.underlying9) (h0 := by omega) (h1 := by rw [txB_size]; omega)]; rfl
  have c1 : decide ((0 : Int) ≤ (o : Int)) = true := decide_eq_true (by omega)
  have w1 : IntKind.i64.wrap ((o : Int) + 1) = (o : Int) + 1 := IntWalk.i64_in _ (by omega)
  clear h ha hb hlt hz
  generalize (txB l).extract 0 o = A at *
  generalize (txB l).extract (o + 1) (txB l).size = B at *
  generalize txB l = S at *
  generalize (o : Int) = O at *
  go_enter Tryz.func19, Tryz.ntmps19
  go_wp2_with fail
  ((with_reducible refine (HI.out _).mono ?_); rintro _ u ⟨rfl, hb⟩)
  have hz := hb.size
  (try simp only [World.size_alloc, World.size_setCell, World.size_drew] at hz)
  have hB' : Below w.heap.size w u := by
      refine kb ?_ hb
      go_grown
  clear hb hz
  have hB := hB'; clear hB'
  have hsz := hB.size
  go_wp2
  refine wp_region_plan (fun w' => Below w.heap.size w w') (by kernel_rfl) (by kernel_rfl) (by kernel_rfl) ?_ ?_
  · (try dsimp only)
    go_grown
  repeat (first
    | (refine Plan.val (v := ?_) ?_ ?_ ?_; rotate_left; (· rfl); (· (intro W hSw; (try dsimp only at hSw); go_simp; all_goals (first | (with_reducible rfl) | (constructor <;> (with_reducible rfl))))); (try simp only [Act.put, List.setIfInBounds_toArray, List.set_cons_zero, List.set_cons_succ]))
    | (refine Plan.no ?_ ?_; (· rfl); (try simp only [Act.put, List.setIfInBounds_toArray, List.set_cons_zero, List.set_cons_succ])))
  refine Plan.done ?_
  intro u2 T
  (try dsimp only at T)
  clear hB hsz
  have hB := T
  have hsz := hB.size
  go_wp2
  refine bodyPost_ret (v := .tuple #[.string A, .string B, .bool true]) (by simp [results, Tryz.results19, go_sem]) rfl ⟨rfl, by go_grown⟩
set_option maxRecDepth 100000 in
set_option maxHeartbeats 1000000 in
theorem cutp_c (S X R : ByteArray) (m : Bool) (h : ∀ w, Calls Tryz.prog 19 #[.string S, .string ⟨#[10]⟩] w fun e w' => e = .returned (.tuple #[.string X, .string R, .bool m]) ∧ Below w.heap.size w w') (w : World) : Calls Tryz.prog 10 #[.string S, .string ⟨#[10]⟩] w fun e w' => e = .returned (.tuple #[.string X, .string R, .bool m]) ∧ Below w.heap.size w w' := by
  have HI := Lib.hid h
  clear h
  go_enter Tryz.func10, Tryz.ntmps10
  go_wp2_with fail
  ((with_reducible refine (HI.out _).mono ?_); rintro _ u ⟨rfl, hb⟩)
  have hz := hb.size
  (try simp only [World.size_alloc, World.size_setCell, World.size_drew] at hz)
  have hB' : Below w.heap.size w u := by
      refine kb ?_ hb
      go_grown
  clear hb hz
  have hB := hB'; clear hB'
  have hsz := hB.size
  go_wp2
  refine bodyPost_ret (v := .tuple #[.string X, .string R, .bool m]) (by simp [results, Tryz.results10, go_sem]) rfl ⟨rfl, by go_grown⟩
theorem cut_cases (t : List UInt8) (ht : t.length ≤ 65536) : ∃ (x r : List UInt8) (m : Bool), (∀ w, Calls Tryz.prog 10 #[.string (txB t), .string ⟨#[10]⟩] w fun e w' => e = .returned (.tuple #[.string (txB x), .string (txB r), .bool m]) ∧ Below w.heap.size w w') ∧ ((m = false ∧ linesL t = [x] ∧ x.length = t.length) ∨ (m = true ∧ linesL t = x :: linesL r ∧ t.length = x.length + 1 + r.length)) := by
  by_cases h : Lib.indexByte t 10 = -1
  · exact ⟨t, [], false, cutp_c _ _ _ _ (cuts_none t h), .inl ⟨rfl, lines_none t h, rfl⟩⟩
  · obtain ⟨o, ho⟩ : ∃ o : Nat, Lib.indexByte t 10 = o := ⟨(Lib.indexByte t 10).toNat, by have := Lib.indexByte_ge t 10; omega⟩
    have hlt : o < t.length := (List.getElem?_eq_some_iff.1 (Lib.indexByte_some ho).1).1
    exact ⟨t.take o, t.drop (o + 1), true, cutp_c _ _ _ _ (cuts_some t o ho ht), .inr ⟨rfl, lines_some t o ho, by rw [List.length_take, List.length_drop]; omega⟩⟩
theorem own_form {w : World} {B size n : Nat} {e : TypeId} {v : Value} {xs : List Value} (h : w.ownsRow B e size v n xs) : ∃ p c, v = .slice p n c := by
  rcases h.2 with ⟨h1, h2⟩ | ⟨g, cap, cur, h1, _⟩
  · exact ⟨none, 0, by rw [h1, h2]⟩
  · exact ⟨_, _, h1⟩
theorem own_below {w u : World} {B size n : Nat} {e : TypeId} {v : Value} {xs : List Value} (h : w.ownsRow B e size v n xs) (hB : Below w.heap.size w u) : u.ownsRow B e size v n xs := by
  refine ⟨h.1, ?_⟩
  rcases h.2 with h2 | ⟨g, cap, cur, h1, h2, h3, r⟩
  · exact .inl h2
  · exact .inr ⟨g, cap, cur, h1, h2, (hB.block g (Array.getElem?_eq_some_iff.1 h3).1).trans h3, r⟩
theorem own_low {w : World} {B B' size n : Nat} {e : TypeId} {v : Value} {xs : List Value} (h : w.ownsRow B e size v n xs) (hB : B' ≤ B) : w.ownsRow B' e size v n xs := by
  refine ⟨h.1, ?_⟩
  rcases h.2 with h2 | ⟨g, cap, cur, h1, h2, r⟩
  · exact .inl h2
  · exact .inr ⟨g, cap, cur, h1, by omega, r⟩
set_option maxRecDepth 100000 in
set_option maxHeartbeats 1000000 in
theorem lineb_c (x : List UInt8) (hx : x.length ≤ 9223372036854775807) (a : Int) (w : World) (hl : Laid w) (hE : LaidE w) : Calls Tryz.prog 11 #[.string (txB x), .int .i64 a] w (BytesEnd w (lineL x a) (lineE x a)) := by
  by_cases h0 : x = []
  · subst h0
    have e1 : lineL [] a = [] := rfl
    have e2 : lineE [] a = 0 := rfl
    rw [e1, e2]
    go_enter Tryz.func11, Tryz.ntmps11
    go_wp2
    refine bodyPost_ret (v := .tuple #[.slice none 0 0, .int .i64 0]) (by simp [results, Tryz.results11, go_sem]) rfl (bytesEnd_nil (by go_grown))
  · have hne : ((txB x).toList == []) = false := by
      rw [txB_toList]
      cases x with
      | nil => exact absurd rfl h0
      | cons _ _ => rfl
    have HP := Lib.hid (fun W hl hE => parsep_c x hx W hl hE)
    obtain ⟨ho, hO⟩ := opN_is x
    rw [hO] at HP
    have HB := Lib.hid (fun a W hl => bytp_c (opN x) ho (parseN x) a W hl)
    by_cases hp : parseE x = 0
    · have e1 : lineL x a = bytesL (opN x) (parseN x) a := by unfold lineL; rw [if_neg h0, if_neg (by rw [hp]; simp)]
      have e2 : lineE x a = bytesE (opN x) (parseN x) a := by unfold lineE; rw [if_neg h0, if_neg (by rw [hp]; simp)]
      rw [e1, e2]
      rw [hp] at HP
      have HX := Lib.hid (HB.out a)
      clear HB
      generalize bytesL (opN x) (parseN x) a = X at *
      generalize bytesE (opN x) (parseN x) a = E at *
      generalize opN x = o at *
      generalize parseN x = n at *
      generalize txB x = S at *
      clear h0 ho hO e1 e2 hp hx
      go_enter Tryz.func11, Tryz.ntmps11
      go_wp2_with fail
      ((with_reducible refine (HP.out _ (hl.below (by go_grown)) (hE.below (by go_grown))).mono ?_); rintro _ u ⟨rfl, hb⟩)
      have hz := hb.size
      (try simp only [World.size_alloc, World.size_setCell, World.size_drew] at hz)
      have hB' : Below w.heap.size w u := by
          refine kb ?_ hb
          go_grown
      clear hb hz
      have hB := hB'; clear hB'
      have hsz := hB.size
      go_wp2_with fail
      refine (HX.out _ (hl.below (by go_grown))).mono ?_
      rintro _ u2 ⟨v, rfl, hown, hb⟩
      have HO := Lib.hid (own_low hown (show w.heap.size ≤ _ by simp; omega))
      have hB2 : Below w.heap.size w u2 := by refine kb ?_ hb; go_grown
      clear hown hb
      go_wp2
      refine bodyPost_ret (v := .tuple #[v, .int .i64 E]) (by simp [results, Tryz.results11, go_sem]) rfl ⟨v, rfl, HO.out, hB2⟩
    · have e1 : lineL x a = [] := by unfold lineL; rw [if_neg h0, if_pos hp]
      have e2 : lineE x a = parseE x := by unfold lineE; rw [if_neg h0, if_pos hp]
      rw [e1, e2]
      generalize parseE x = E at *
      generalize opN x = o at *
      generalize parseN x = n at *
      generalize txB x = S at *
      have h2 : (E != 0) = true := by simp [bne, hp]
      clear h0 ho hO e1 e2 hp hx
      go_enter Tryz.func11, Tryz.ntmps11
      go_wp2_with fail
      ((with_reducible refine (HP.out _ (hl.below (by go_grown)) (hE.below (by go_grown))).mono ?_); rintro _ u ⟨rfl, hb⟩)
      have hz := hb.size
      (try simp only [World.size_alloc, World.size_setCell, World.size_drew] at hz)
      have hB' : Below w.heap.size w u := by
          refine kb ?_ hb
          go_grown
      clear hb hz
      have hB := hB'; clear hB'
      have hsz := hB.size
      go_wp2
      refine bodyPost_ret (v := .tuple #[.slice none 0 0, .int .i64 E]) (by simp [results, Tryz.results11, go_sem]) rfl (bytesEnd_nil (by go_grown))
end Go.Proofs.YtpjpoopgafcedaaGreatDoor
set_option linter.unusedSimpArgs false
set_option linter.unusedVariables false
namespace Go.Proofs.YtpjpoopgafcedaaGreatDoor
open Go.RowKit Go.PlainAid Go.Joins

/-- A call of Assemble answers: the slice of the bytes, the line's number, the error. -/
def AsmEnd (w : World) (r : List Int × Int × Int) : Ending → World → Prop := fun e w' =>
  ∃ v, e = .returned (.tuple #[v, .int .i64 r.2.1, .int .i64 r.2.2]) ∧ w'.ownsRow w.heap.size 5 1 v r.1.length (r.1.map (Value.int .u8)) ∧ Below w.heap.size w w'
def strSize : Value → Nat
  | .string b => b.size
  | _ => 0
theorem asmEnd_nil {w w' : World} {C E : Int} (h : Below w.heap.size w w') : AsmEnd w ([], C, E) (.returned (.tuple #[.slice none 0 0, .int .i64 C, .int .i64 E])) w' :=
  ⟨_, rfl, World.ownsRow_nil _ _ _ _, h⟩
set_option maxRecDepth 100000 in
set_option maxHeartbeats 1000000 in
theorem asmp_long (l : List UInt8) (h : 65536 < l.length) (a : Int) (w : World) : Calls Tryz.prog 5 #[.string (txB l), .int .i64 a] w (AsmEnd w ([], 0, 12)) := by
  have hd : decide ((65536 : Int) < ((txB l).size : Int)) = true := decide_eq_true (by rw [txB_size]; omega)
  clear h
  generalize txB l = S at *
  go_enter Tryz.func5, Tryz.ntmps5
  go_wp2_with fail
  refine wp_scope_hid 0 fun C hC => ?_
  go_wp2
  rw [Into.ret]
  refine bodyPost_ret (v := .tuple #[.slice none 0 0, .int .i64 0, .int .i64 12]) (by simp [results, Tryz.results5, go_sem]) rfl (asmEnd_nil (by go_grown))
set_option maxRecDepth 100000 in
set_option maxHeartbeats 4000000 in
theorem asmp_c (l : List UInt8) (h : l.length ≤ 65536) (a : Int) (ha : -9223372036854775808 ≤ a ∧ a ≤ 9223372036854775807) (w : World) (hl : Laid w) (hE : LaidE w) : Calls Tryz.prog 5 #[.string (txB l), .int .i64 a] w (AsmEnd w (asmR (linesL l) a [] 1)) := by
  have hd : decide ((65536 : Int) < ((txB l).size : Int)) = false := decide_eq_false (by rw [txB_size]; omega)
  obtain ⟨R, hR⟩ : ∃ R, asmR (linesL l) a [] 1 = R := ⟨_, rfl⟩
  rw [hR]
  have HR := Lib.hid hR
  have HZ := Lib.hid h
  have Ha := Lib.hid ha
  clear hR h ha
  obtain ⟨S, hS⟩ : ∃ S, txB l = S := ⟨_, rfl⟩
  rw [hS] at hd ⊢
  have HS := Lib.hid hS
  clear hS
  obtain ⟨i0, hi, hz0, hz1, hz2⟩ := info_parts Tryz.infoB
  go_enter Tryz.func5, Tryz.ntmps5
  go_wp2_with fail
  refine wp_scope_hid 0 fun C hC => ?_
  go_wp2_with fail
  apply wp_label
  go_wp2_with fail
  go_loopw [0, 7, 8] (fun s v c wr => ∃ (t : List UInt8) (acc : List Int) (C : Int), s = .string (txB t) ∧ c = .int .i64 C ∧ Hid (1 ≤ C ∧ C + t.length ≤ l.length + 1 ∧ acc.length + 3 * t.length ≤ 3 * l.length ∧ asmR (linesL t) a acc C = R ∧ (acc = [] ∨ (0 ≤ a ∧ a ≤ 65535))) ∧ Hid (wr.ownsRow w.heap.size 5 1 v acc.length (acc.map (Value.int .u8))) ∧ Below w.heap.size w wr) (fun s _ _ _ => strSize s)
  case atStart =>
    exact ⟨l, [], 1, by rw [HS.out], rfl, Lib.hid ⟨by omega, by omega, by simp, HR.out, .inl rfl⟩, Lib.hid (World.ownsRow_nil _ _ _ _), by go_grown⟩
  case round =>
    obtain ⟨t, acc, C0, rfl, rfl, HQ, HO, hB0⟩ := hrel
    have HB0 := Lib.hid hB0
    obtain ⟨y1, y2, y3, y4, y5⟩ := HQ.out
    have hlr := hl.below hB0
    have hEr := hE.below hB0
    have hnr := hB0.size
    have h65 := HZ.out
    obtain ⟨x, r, m, hcut, hm⟩ := cut_cases t (by omega)
    have HC := Lib.hid hcut
    obtain ⟨p, cp, rfl⟩ := own_form HO.out
    have w1 : IntKind.i64.wrap (a + (acc.length : Int)) = a + acc.length := IntWalk.i64_in _ (by
      have := Ha.out
      rcases y5 with h | h
      · rw [h]; simp only [List.length_nil]; omega
      · omega)
    have w2 : IntKind.i64.wrap (C0 + 1) = C0 + 1 := IntWalk.i64_in _ (by omega)
    have HLb := Lib.hid (fun W hl hE => lineb_c x (by rcases hm with h | h <;> omega) (a + acc.length) W hl hE)
    have hlen := line_len x (a + acc.length)
    have g0 := line_none x (a + acc.length)
    have g1 := line_room x (a + acc.length)
    have g2 := fun r' => asmR_err x r' a acc C0
    have g3 := fun r' => asmR_step x r' a acc C0
    have hbr : Below wr.heap.size wr wr := Below.refl _ _
    generalize lineE x (a + acc.length) = E at *
    generalize lineL x (a + acc.length) = L at *
    have HLn := Lib.hid (show L.length ≤ 3 * x.length ∧ x.length ≤ t.length from ⟨hlen, by rcases hm with h | h <;> omega⟩)
    by_cases hE0 : E = 0
    · subst hE0
      rcases hm with ⟨rfl, hm1, hm2⟩ | ⟨rfl, hm1, hm2⟩
      · have HF := Lib.hid (show R = (acc ++ L, 0, 0) from by
          rw [← y4, hm1, g3 [] rfl]; rfl)
        clear y1 y2 y3 y4 y5 hm1 hm2 g0 g1 g2 g3 hlen hB0 hcut h65
        go_wp2_with fail
        ((with_reducible refine (HC.out _).mono ?_); rintro _ q1 ⟨rfl, hb⟩)
        have hz := hb.size
        (try simp only [World.size_alloc, World.size_setCell, World.size_drew] at hz)
        have hB' : Below wr.heap.size wr q1 := by
            refine kb ?_ hb
            go_grown
        clear hb hz
        have hB := hB'; clear hB'
        have hsz := hB.size
        go_wp2_with fail
        refine (HLb.out _ (hlr.below (by go_grown)) (hEr.below (by go_grown))).mono ?_
        rintro _ q2 ⟨vb, rfl, hownb, hbb⟩
        have hB2 : Below wr.heap.size wr q2 := by
          refine kb ?_ hbb
          go_grown
        have HO2 := Lib.hid (own_below HO.out hB2)
        have HBb := Lib.hid hownb
        have hz2b := hB2.size
        clear hownb hbb
        go_wp2_with (at_builtin; refine wpList_append_row rfl _ _ 23 rfl w.heap.size 5 i0 (.int .u8 0) 1 1 Tryz.underlying23 hi hz0 hz1 hz2 rfl (by decide) _ acc.length _ rfl HO2.out _ vb L.length _ rfl HBb.out ?c1 ?c2 ?c3 ?c4 ?_)
        case c1 =>
          intro u hu
          simp at hu
          try (obtain ⟨_, _, rfl⟩ := hu; rfl)
        case c2 => have := HQ.out.2.2.1; have := HLn.out; have := HZ.out; unfold maxLen; (try simp only [List.length_nil]); omega
        case c3 => have := HQ.out.2.2.1; have := HLn.out; have := HZ.out; (try simp only [List.length_nil]); omega
        case c4 => omega
        intro v' w' hown' hg
        have hBw : Below w.heap.size w w' := Below.grown (w := q2) (HB0.out.trans (Below.mono hB2 hnr)) hg (by omega) (fun k hk => (HO2.out.lt k hk).1)
        have HO' : Hid (w'.ownsRow w.heap.size 5 1 v' (acc ++ L).length ((acc ++ L).map (Value.int .u8))) := Lib.hid (by rw [List.length_append, List.map_append]; exact hown')
        clear hown' hg
        go_wp2
        rw [Into.ret]
        refine bodyPost_ret (v := .tuple #[v', .int .i64 0, .int .i64 0]) (by simp [results, Tryz.results5, go_sem]) rfl ⟨v', by rw [HF.out], by rw [HF.out]; exact HO'.out, hBw⟩
      · have HN := Lib.hid (show C0 + 1 + r.length ≤ l.length + 1 ∧ (acc ++ L).length + 3 * r.length ≤ 3 * l.length ∧ asmR (linesL r) a (acc ++ L) (C0 + 1) = R ∧ (acc ++ L = [] ∨ (0 ≤ a ∧ a ≤ 65535)) ∧ r.length < t.length from by
          refine ⟨by omega, by rw [List.length_append]; omega, by rw [← y4, hm1, g3 _ rfl], ?_, by omega⟩
          rcases y5 with h | h
          · rcases g1 rfl with h2 | h2
            · left; rw [h, h2]; rfl
            · right; rw [h] at h2; simp only [List.length_nil] at h2; omega
          · right; exact h)
        clear y1 y2 y3 y4 y5 hm1 hm2 g0 g1 g2 g3 hlen hB0 hcut h65
        go_wp2_with fail
        ((with_reducible refine (HC.out _).mono ?_); rintro _ q1 ⟨rfl, hb⟩)
        have hz := hb.size
        (try simp only [World.size_alloc, World.size_setCell, World.size_drew] at hz)
        have hB' : Below wr.heap.size wr q1 := by
            refine kb ?_ hb
            go_grown
        clear hb hz
        have hB := hB'; clear hB'
        have hsz := hB.size
        go_wp2_with fail
        refine (HLb.out _ (hlr.below (by go_grown)) (hEr.below (by go_grown))).mono ?_
        rintro _ q2 ⟨vb, rfl, hownb, hbb⟩
        have hB2 : Below wr.heap.size wr q2 := by
          refine kb ?_ hbb
          go_grown
        have HO2 := Lib.hid (own_below HO.out hB2)
        have HBb := Lib.hid hownb
        have hz2b := hB2.size
        clear hownb hbb
        go_wp2_with (at_builtin; refine wpList_append_row rfl _ _ 23 rfl w.heap.size 5 i0 (.int .u8 0) 1 1 Tryz.underlying23 hi hz0 hz1 hz2 rfl (by decide) _ acc.length _ rfl HO2.out _ vb L.length _ rfl HBb.out ?c1 ?c2 ?c3 ?c4 ?_)
        case c1 =>
          intro u hu
          simp at hu
          try (obtain ⟨_, _, rfl⟩ := hu; rfl)
        case c2 => have := HQ.out.2.2.1; have := HLn.out; have := HZ.out; unfold maxLen; (try simp only [List.length_nil]); omega
        case c3 => have := HQ.out.2.2.1; have := HLn.out; have := HZ.out; (try simp only [List.length_nil]); omega
        case c4 => omega
        intro v' w' hown' hg
        have hBw : Below w.heap.size w w' := Below.grown (w := q2) (HB0.out.trans (Below.mono hB2 hnr)) hg (by omega) (fun k hk => (HO2.out.lt k hk).1)
        have HO' : Hid (w'.ownsRow w.heap.size 5 1 v' (acc ++ L).length ((acc ++ L).map (Value.int .u8))) := Lib.hid (by rw [List.length_append, List.map_append]; exact hown')
        clear hown' hg
        go_wp2
        go_roundw
        case rel =>
          obtain ⟨k1, k2, k3, k4, k5⟩ := HN.out
          have h1 := HQ.out.1
          exact ⟨r, acc ++ L, C0 + 1, rfl, rfl, Lib.hid ⟨by omega, k1, k2, k3, k4⟩, HO', hBw⟩
        case measure =>
          have := HN.out.2.2.2.2
          simp only [strSize, txB_size]; exact this
    · have HF := Lib.hid (show R = ([], C0, E) from by
        rcases hm with ⟨rfl, hm1, hm2⟩ | ⟨rfl, hm1, hm2⟩
        · rw [← y4, hm1, g2 [] hE0]
        · rw [← y4, hm1, g2 _ hE0])
      have e2 : (E != 0) = true := by simp [bne, hE0]
      obtain rfl := g0 hE0
      clear y1 y2 y3 y4 y5 hm g0 g1 g2 g3 hlen hB0 hcut h65 hE0
      go_wp2_with fail
      ((with_reducible refine (HC.out _).mono ?_); rintro _ q1 ⟨rfl, hb⟩)
      have hz := hb.size
      (try simp only [World.size_alloc, World.size_setCell, World.size_drew] at hz)
      have hB' : Below wr.heap.size wr q1 := by
          refine kb ?_ hb
          go_grown
      clear hb hz
      have hB := hB'; clear hB'
      have hsz := hB.size
      go_wp2_with fail
      refine (HLb.out _ (hlr.below (by go_grown)) (hEr.below (by go_grown))).mono ?_
      rintro _ q2 ⟨vb, rfl, hownb, hbb⟩
      have hB2 : Below wr.heap.size wr q2 := by
        refine kb ?_ hbb
        go_grown
      have HO2 := Lib.hid (own_below HO.out hB2)
      have HBb := Lib.hid hownb
      have hz2b := hB2.size
      clear hownb hbb
      go_wp2_with (at_builtin; refine wpList_append_row rfl _ _ 23 rfl w.heap.size 5 i0 (.int .u8 0) 1 1 Tryz.underlying23 hi hz0 hz1 hz2 rfl (by decide) _ acc.length _ rfl HO2.out _ vb 0 _ rfl HBb.out ?c1 ?c2 ?c3 ?c4 ?_)
      case c1 =>
        intro u hu
        simp at hu
        try (obtain ⟨_, _, rfl⟩ := hu; rfl)
      case c2 => have := HQ.out.2.2.1; have := HLn.out; have := HZ.out; unfold maxLen; (try simp only [List.length_nil]); omega
      case c3 => have := HQ.out.2.2.1; have := HLn.out; have := HZ.out; (try simp only [List.length_nil]); omega
      case c4 => omega
      intro v' w' hown' hg
      have hBw : Below w.heap.size w w' := Below.grown (w := q2) (HB0.out.trans (Below.mono hB2 hnr)) hg (by omega) (fun k hk => (HO2.out.lt k hk).1)
      have HO' : Hid (w'.ownsRow w.heap.size 5 1 v' (acc ++ []).length ((acc ++ []).map (Value.int .u8))) := Lib.hid (by simpa using hown')
      clear hown' hg
      go_wp2
      rw [Into.ret]
      refine bodyPost_ret (v := .tuple #[.slice none 0 0, .int .i64 C0, .int .i64 E]) (by simp [results, Tryz.results5, go_sem]) rfl ⟨_, by rw [HF.out], by rw [HF.out]; exact World.ownsRow_nil _ _ _ _, hBw⟩
end Go.Proofs.YtpjpoopgafcedaaGreatDoor
