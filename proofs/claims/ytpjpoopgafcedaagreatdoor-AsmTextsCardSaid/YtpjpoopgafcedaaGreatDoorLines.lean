/-
  Layer 5's document: a text's lines.
-/
import Derived.Test.YtpjpoopgafcedaaGreatDoorAsmp
set_option linter.unusedSimpArgs false
set_option linter.unusedVariables false
namespace Go.Proofs.YtpjpoopgafcedaaGreatDoor
open Go.RowKit Go.PlainAid Go.Joins

def preL (cur : List UInt8) (ls : List (List UInt8)) : List (List UInt8) := (cur ++ ls.headD []) :: ls.tail
theorem preL_nil (l : List UInt8) : preL [] (linesL l) = linesL l := by
  obtain ⟨x, r, e⟩ := linesL_ne l
  rw [e]; rfl
theorem pre_end (cur r : List UInt8) : preL cur (linesL (10 :: r)) = cur :: linesL r := by
  show (cur ++ []) :: linesL r = _
  rw [List.append_nil]
theorem pre_on (cur : List UInt8) (x : UInt8) (r : List UInt8) (h : ¬ x = 10) : preL cur (linesL (x :: r)) = preL (cur ++ [x]) (linesL r) := by
  have e : linesL (x :: r) = (x :: (linesL r).headD []) :: (linesL r).tail := by
    show (if x = 10 then _ else _) = _
    rw [if_neg h]
  rw [e]
  unfold preL
  simp
theorem Tryz.infoS : (Tryz.prog.info? 9).map (fun i => (i.zero, i.size, i.bytes)) = some (some (.string ⟨#[]⟩), 1, 16) := by kernel_rfl
/-- A call of Lines answers the slice of the texts. -/
def LinesEnd (w : World) (ls : List (List UInt8)) : Ending → World → Prop := fun e w' =>
  ∃ v, e = .returned v ∧ w'.ownsRow w.heap.size 9 1 v ls.length (ls.map fun x => Value.string (txB x)) ∧ Below w.heap.size w w'
set_option maxRecDepth 100000 in
set_option maxHeartbeats 4000000 in
theorem lines_c (l : List UInt8) (hl : l.length ≤ 100000) (w : World) : Calls Tryz.prog 12 #[.string (txB l)] w (LinesEnd w (linesL l)) := by
  obtain ⟨R, hR⟩ : ∃ R, linesL l = R := ⟨_, rfl⟩
  rw [hR]
  have HR := Lib.hid hR
  have HZ := Lib.hid hl
  have hz := txB_size l
  have HB := Lib.hid (fun k h => bt_txB l k h)
  have HX := Lib.hid (fun k h i hi W => ix_at (txB l) k h i hi W)
  have HS := Lib.hid (show ∀ k (hk : k < l.length) W, (Instr.slice 9 (.string (txB l)) (some (.int .i64 (k : Int))) (some (.int .i64 ((k : Int) + 1))) none).run Tryz.prog W = .ok (.string (txB [l[k]])) W from fun k hk W => by
    rw [run_slice_string _ _ _ _ _ _ _ Tryz.underlying9 (by omega) (by omega) (by rw [txB_size]; omega), show ((k : Int) + 1).toNat = k + 1 by omega, Int.toNat_natCast, txB_extract]
    rw [List.take_succ_eq_append_getElem hk, List.drop_left' (by rw [List.length_take]; omega)])
  clear hR hl
  generalize txB l = S at *
  have HSz := Lib.hid hz
  clear hz
  obtain ⟨i0, hi, hz0, hz1, hz2⟩ := info_parts Tryz.infoS
  go_enter Tryz.func12, Tryz.ntmps12
  go_wp2
  go_loopw [3, 4, 5] (fun v s i wr => ∃ (k : Nat) (I : Int) (A : List (List UInt8)) (cur : List UInt8), s = .string (txB cur) ∧ i = .int .i64 I ∧ Hid (I = k ∧ k ≤ l.length ∧ A.length ≤ k ∧ cur.length ≤ k ∧ A ++ preL cur (linesL (l.drop k)) = R) ∧ Hid (wr.ownsRow w.heap.size 9 1 v A.length (A.map fun x => Value.string (txB x))) ∧ Below w.heap.size w wr) (fun _ _ i _ => l.length - (intOf i).toNat)
  case atStart =>
    exact ⟨0, 0, [], [], rfl, rfl, Lib.hid ⟨rfl, by omega, by simp, by simp, by rw [List.drop_zero, preL_nil]; exact HR.out⟩, Lib.hid (World.ownsRow_nil _ _ _ _), by go_grown⟩
  case round =>
    obtain ⟨k, I, A, cur, rfl, rfl, HQ, HO, hB⟩ := hrel
    obtain ⟨y1, y2, y3, y4, y5⟩ := HQ.out
    have h65 := HZ.out
    have hz := HSz.out
    have hnr := hB.size
    have HB0 := Lib.hid hB
    by_cases hlt : k < l.length
    · have hd : decide (I < (S.size : Int)) = true := decide_eq_true (by omega)
      have hdr : l.drop k = l[k] :: l.drop (k + 1) := List.drop_eq_getElem_cons hlt
      have q := HX.out k (by omega) I y1
      have hb := HB.out k hlt
      have qs := HS.out k hlt
      rw [← y1] at qs
      rw [hdr] at y5
      have w1 : IntKind.i64.wrap (I + 1) = I + 1 := IntWalk.i64_in _ (by omega)
      generalize l[k] = x at *
      by_cases hx : x = 10
      · have e1 : (bt S k == 10) = true := by rw [hb, hx]; rfl
        have HN := Lib.hid (show (I + 1 = ((k + 1 : Nat) : Int) ∧ k + 1 ≤ l.length ∧ (A ++ [cur]).length ≤ k + 1 ∧ ([] : List UInt8).length ≤ k + 1 ∧ (A ++ [cur]) ++ preL [] (linesL (l.drop (k + 1))) = R) from by
          refine ⟨by omega, by omega, by rw [List.length_append]; simp only [List.length_cons, List.length_nil]; omega, by simp, ?_⟩
          rw [← y5, hx, pre_end, preL_nil, List.append_assoc]; rfl)
        clear y1 y2 y3 y4 y5 hdr hb hx h65 hlt hz
        go_wp2_with (at_builtin; refine wpList_append_own _ rfl _ _ 38 rfl w.heap.size 9 i0 (.string ⟨#[]⟩) 1 16 Tryz.underlying38 hi hz0 hz1 hz2 rfl (by decide) _ A.length _ rfl (HO.out.alloc _) ⟨wr.heap.size, 0, none⟩ 1 1 [.string (txB cur)] rfl rfl ?c1 ?c2 ?c3 ?c4 ?c5 ?_)
        case c1 =>
          intro j u hj
          match j, hj with
          | 0, hj => simp at hj; subst hj; go_simp
        case c2 => intro u hu; simp at hu; subst hu; rfl
        case c3 => have := HQ.out.2.2.1; have := HQ.out.2.1; have := HZ.out; unfold maxLen; omega
        case c4 => have := HQ.out.2.2.1; have := HQ.out.2.1; have := HZ.out; omega
        case c5 => simp; omega
        intro v' w' hown' hg _
        have hB' : Below w.heap.size w w' := Below.grown (w := wr.alloc (Obj.cells #[Value.string (txB cur)] 9)) (HB0.out.alloc hnr _) hg (by simp; omega) (fun k hk => by have := HO.out.lt _ hk; omega)
        have HO' : Hid (w'.ownsRow w.heap.size 9 1 v' (A ++ [cur]).length ((A ++ [cur]).map fun x => Value.string (txB x))) := Lib.hid (by simpa using hown')
        clear hown' hg
        go_wp2
        go_roundw
        case rel => exact ⟨k + 1, I + 1, A ++ [cur], [], rfl, rfl, HN, HO', hB'⟩
        case measure =>
          obtain ⟨n1, n2, _⟩ := HN.out
          have := HQ.out.1
          simp only [intOf]; omega
      · have e1 : (bt S k == 10) = false := by
          rw [hb, beq_eq_false_iff_ne]
          intro h
          apply hx
          have h2 : x.toNat = 10 := by omega
          exact UInt8.toNat_inj.1 (by rw [h2]; rfl)
        have m1 : ¬ (9223372036854775807 < cur.length + 1) := by omega
        have HN := Lib.hid (show (I + 1 = ((k + 1 : Nat) : Int) ∧ k + 1 ≤ l.length ∧ A.length ≤ k + 1 ∧ (cur ++ [x]).length ≤ k + 1 ∧ A ++ preL (cur ++ [x]) (linesL (l.drop (k + 1))) = R) from by
          refine ⟨by omega, by omega, by omega, by rw [List.length_append]; simp only [List.length_cons, List.length_nil]; omega, ?_⟩
          rw [← y5, pre_on cur x _ hx])
        clear y1 y2 y3 y4 y5 hdr hb hx h65 hlt hz
        go_wp2
        go_roundw
        case rel =>
          refine ⟨k + 1, I + 1, A, cur ++ [x], ?_, rfl, HN, HO, HB0.out⟩
          rw [txB_append]
        case measure =>
          obtain ⟨n1, n2, _⟩ := HN.out
          have := HQ.out.1
          simp only [intOf]; omega
    · have hd : decide (I < (S.size : Int)) = false := decide_eq_false (by omega)
      have HF := Lib.hid (show A ++ [cur] = R from by
        rw [← y5, show l.drop k = [] from List.drop_of_length_le (by omega)]
        show _ = A ++ [cur ++ []]
        rw [List.append_nil])
      clear y1 y2 y3 y4 y5 h65 hlt hz
      go_wp2_with (at_builtin; refine wpList_append_own _ rfl _ _ 38 rfl w.heap.size 9 i0 (.string ⟨#[]⟩) 1 16 Tryz.underlying38 hi hz0 hz1 hz2 rfl (by decide) _ A.length _ rfl (HO.out.alloc _) ⟨wr.heap.size, 0, none⟩ 1 1 [.string (txB cur)] rfl rfl ?d1 ?d2 ?d3 ?d4 ?d5 ?_)
      case d1 =>
        intro j u hj
        match j, hj with
        | 0, hj => simp at hj; subst hj; go_simp
      case d2 => intro u hu; simp at hu; subst hu; rfl
      case d3 => have := HQ.out.2.2.1; have := HQ.out.2.1; have := HZ.out; unfold maxLen; omega
      case d4 => have := HQ.out.2.2.1; have := HQ.out.2.1; have := HZ.out; omega
      case d5 => simp; omega
      intro v' w' hown' hg _
      have hB' : Below w.heap.size w w' := Below.grown (w := wr.alloc (Obj.cells #[Value.string (txB cur)] 9)) (HB0.out.alloc hnr _) hg (by simp; omega) (fun k hk => by have := HO.out.lt _ hk; omega)
      have HO' : Hid (w'.ownsRow w.heap.size 9 1 v' (A ++ [cur]).length ((A ++ [cur]).map fun x => Value.string (txB x))) := Lib.hid (by simpa using hown')
      clear hown' hg
      go_wp2
      go_ret
      exact ⟨v', rfl, by rw [← HF.out]; exact HO'.out, hB'⟩
end Go.Proofs.YtpjpoopgafcedaaGreatDoor
