/-
  Spans as the document's answer has them (policy's Plain7).
-/
import Derived.Test.YtcilnbkmaoneaaaSpan
import Derived.Test.YtcilnbkmaoneaaaClone
import Derived.Test.YtcilnbkmaoneaaaPlanR
import Derived.Test.YtcilnbkmaoneaaaPol
import Derived.Test.YtcilnbkmaoneaaaAppendH
set_option linter.unusedSimpArgs false
set_option linter.unusedVariables false
namespace Go.Proofs.Ytcilnbkmaoneaaa
open Go.RowKit Go.PlainAid

theorem Try.infoE : (Try.prog.info? 50).map (fun i => (i.zero, i.size, i.bytes)) = some (some (.agg #[.int .i64 0, .int .i64 0, .int .i64 0]), 3, 24) := by kernel_rfl
def AnsD (w : World) (l : List Sp) : Ending → World → Prop := fun e w' => ∃ v, e = .returned v ∧ HoldsD w' v l ∧ (∀ g, v.ownBlock = some g → w.heap.size ≤ g ∧ g < w'.heap.size) ∧ Below w.heap.size w w'
theorem pl_cells_at {W : World} (T : TypeId) (x : Sp) : ∀ j u, ([x].flatMap Sp.plain)[j]? = some u → (W.alloc (.cells #[.int .i64 x.f, .int .i64 x.t, .int .i64 x.b] T)).cell? ((⟨W.heap.size, 0, none⟩ : Addr).add j) = some u := by
  intro j u h
  rw [Addr.add_lit, Nat.zero_add]
  have hh := heap_alloc_new W (.cells #[.int .i64 x.f, .int .i64 x.t, .int .i64 x.b] T)
  simp only [World.cell?, hh]
  rw [← h]
  simp [Sp.plain]
theorem three_at (W : World) (T : TypeId) (a b c : Value) : ∀ (o : Nat) (v : Value), [a, b, c][o]? = some v → (W.alloc (.cells #[a, b, c] T)).cell? ⟨W.heap.size, o, none⟩ = some v := by
  intro o v h
  have hh := heap_alloc_new W (.cells #[a, b, c] T)
  simp only [World.cell?, hh]
  rw [← h]
  simp
theorem holds_three {u : World} {B : Nat} {xf xt xb : Int} (hc : ∀ (o : Nat) (v : Value), [Value.int .i64 xf, .int .i64 xt, .int .i64 xb][o]? = some v → u.cell? ⟨B, o, none⟩ = some v) : HoldsE Sp.plain 3 u (.slice (some ⟨B, 0, none⟩) 1 1) [⟨xf, xt, xb⟩] := by
  refine .inr ⟨B, 0, 1, rfl, Nat.le_refl _, fun j x hx i v hv => ?_⟩
  cases j with
  | zero => cases hx; exact (by (try simp only [Nat.zero_mul, Nat.zero_add]); exact hc i v hv)
  | succ j => simp at hx
/-- A slice that is built of one thing. -/
def kBs (zs : List Value) : KdR := .any (.slice (some ⟨0, 0, none⟩) 1 1) (fun v => ∃ b, v = .slice (some ⟨b, 0, none⟩) 1 1) (fun x w => x.v = .slice (some ⟨x.lo, 0, none⟩) 1 1 ∧ ∀ o v, zs[o]? = some v → w.cell? ⟨x.lo, o, none⟩ = some v)
theorem kBs_fine (zs : List Value) : (kBs zs).Fine :=
  ⟨⟨0, rfl⟩, fun x W w1 h hb => ⟨h.1, fun o v hv => kc hb (h.2 o v hv)⟩, fun x w h => ⟨_, h.1⟩⟩
set_option maxRecDepth 100000 in
set_option maxHeartbeats 2000000 in
theorem plain7_c (l : List Sp) (hl : l.length ≤ 1000) (hb8 : ∀ x ∈ l, 0 ≤ x.b ∧ x.b ≤ 255) (v : Value) (w : World) (hv : HoldsS w v l) : Calls Try.prog 21 #[v] w (AnsD w l) := by
  obtain ⟨a1, c1, rfl⟩ := hv.form
  obtain ⟨n, hn⟩ : ∃ n, l.length = n := ⟨_, rfl⟩
  rw [hn] at hv hl ⊢
  have HV := Lib.hid hv
  have HN := Lib.hid hn
  have HB8 := Lib.hid hb8
  clear hv hn hb8
  obtain ⟨i0, hif, hz0, hz1, hz2⟩ := info_parts Try.infoE
  go_enter Try.func21, Try.ntmps21
  go_wp2
  go_loopg [3, 4] n (fun kx s3 s4 wr => ∃ (k : Nat), s4 = .int .i64 k ∧ k ≤ n ∧ n - k ≤ kx ∧ Hid (wr.ownsRow w.heap.size 50 3 s3 (l.take k).length ((l.take k).flatMap Sp.plain)) ∧ Below w.heap.size w wr)
  case atStart => exact ⟨0, by go_num, by omega, by omega, Lib.hid (by rw [List.take_zero]; exact World.ownsRow_nil _ _ _ _), Below.refl _ _⟩
  case round =>
    obtain ⟨k, rfl, hk, hkx, HO, hB⟩ := hrel
    obtain ⟨p, cp, hform⟩ := own_form HO.out
    subst hform
    by_cases hlt : k < n
    · have hin : (0 : Int) ≤ (k : Int) ∧ (k : Int) < (n : Int) := by omega
      have hk1 : k < l.length := by have := HN.out; omega
      obtain ⟨g1, o1, d1, e1, _, c3⟩ := HV.out.some (by omega)
      obtain ⟨rfl, n1', rfl⟩ := Value.slice.inj e1
      clear e1 n1'
      obtain ⟨x0, x1, x2⟩ := get3 c3 (List.getElem?_eq_getElem hk1)
      have hsn : l.take (k + 1) = l.take k ++ [l[k]] := List.take_succ_eq_append_getElem hk1
      have hby := HB8.out l[k] (List.getElem_mem hk1)
      have hlen : (l.take k).length = k := by rw [List.length_take]; omega
      clear c3
      generalize l[k] = x at *
      clear hk1
      obtain ⟨xf, xt, xb⟩ := x
      dsimp only at x0 x1 x2 hby
      have hs_0 := kc hB x0
      have hs_1 := kc hB x1
      have hs_2 := kc hB x2
      have hxb : IntKind.i64.wrap xb = xb := IntWalk.i64_in _ (by omega)
      have hg := klt hs_0
      have hsz := hB.size
      have HSn := Lib.hid hsn
      have HB := Lib.hid hB
      have HLN := Lib.hid hlen
      rw [hlen]
      clear hsn x0 x1 x2 hlen
      clear hB
      go_wp2_with fail
      refine wp_region_planD 9 19 (fun W => W.cell? ⟨g1, o1 + k * 3, none⟩ = some (.int .i64 xf) ∧ W.cell? ⟨g1, o1 + k * 3 + 1, none⟩ = some (.int .i64 xt) ∧ W.cell? ⟨g1, o1 + k * 3 + 2, none⟩ = some (.int .u8 xb) ∧ Below wr.heap.size wr W)
        [.val (.slice p k cp), .val (.slice (some ⟨g1, o1, none⟩) n c1), .val (.int .i64 k), .val (.pointer (some ⟨g1, o1 + k * 3, none⟩)), .val (.pointer (some ⟨g1, o1 + k * 3, none⟩)), .val (.int .i64 xf), .val (.slice (some ⟨g1, o1, none⟩) n c1), .val (.int .i64 k), .val (.pointer (some ⟨g1, o1 + k * 3, none⟩)), .val (.pointer (some ⟨g1, o1 + k * 3 + 1, none⟩)), .val (.int .i64 xt),
          .val (.slice (some ⟨g1, o1, none⟩) n c1), .val (.int .i64 k), .val (.pointer (some ⟨g1, o1 + k * 3, none⟩)), .val (.pointer (some ⟨g1, o1 + k * 3 + 2, none⟩)), .val (.int .u8 xb), .val (.int .i64 xb), .val (.agg #[.int .i64 xf, .int .i64 xt, .int .i64 xb]), kBs [.int .i64 xf, .int .i64 xt, .int .i64 xb]]
        (by kernel_rfl) (by kernel_rfl) (by kernel_rfl) (by kernel_rfl) (by kernel_rfl) (fun W w1 h hb => ⟨kc hb h.1, kc hb h.2.1, kc hb h.2.2.1, h.2.2.2.trans (hb.mono h.2.2.2.size)⟩) ?_ ?_ ?_
      · intro k hk
        simp only [List.mem_cons, List.not_mem_nil, or_false] at hk
        rcases hk with rfl | rfl | rfl | rfl | rfl | rfl | rfl | rfl | rfl | rfl | rfl | rfl | rfl | rfl | rfl | rfl | rfl | rfl | rfl <;> first | exact trivial | exact kBs_fine _
      · exact ⟨by go_simp, by go_simp, by go_simp, Below.drew (Below.refl _ _)⟩
      (try simp only [List.append_eq, List.cons_append, List.nil_append, List.toList_toArray, List.take_succ_cons, List.take_zero, List.drop_succ_cons, List.drop_zero])
      (iterate 18 (refine PlanR.val ?_ ?_ ?_; (· rfl); (· (intro W hSw; (try dsimp only at hSw); go_simp; all_goals (first | (with_reducible rfl) | (constructor <;> (with_reducible rfl))))); intro _ _; (try simp only [Act.put, List.setIfInBounds_toArray, List.set_cons_zero, List.set_cons_succ])))
      refine PlanR.any ?_ ?_ ?_
      · rfl
      · intro W hSw _
        clear hSw
        go_simp
        exact ⟨(Below.refl _ _).alloc (Nat.le_refl _) _, rfl, three_at _ _ _ _ _⟩
      rintro ⟨_, B, hiB⟩ ⟨b, rfl⟩
      (try simp only [Act.put, List.setIfInBounds_toArray, List.set_cons_zero, List.set_cons_succ])
      refine PlanR.done ?_
      intro u G
      have hP : Value.slice (some ⟨b, 0, none⟩) 1 1 = .slice (some ⟨B, 0, none⟩) 1 1 ∧ ∀ o v, [Value.int .i64 xf, .int .i64 xt, .int .i64 xb][o]? = some v → u.cell? ⟨B, o, none⟩ = some v := (G.each 18 (by decide) rfl).1
      have hBu : Below wr.heap.size wr u := G.s.2.2.2
      obtain ⟨e1, hc⟩ := hP
      cases e1
      have HXu := Lib.hid (holds_three hc)
      have HBu := Lib.hid (HB.out.trans (hBu.mono HB.out.size))
      have HOu := Lib.hid (own_below HO.out hBu)
      clear G hc hBu HO
      (try simp only [List.drop_succ_cons, List.drop_zero])
      rw [HLN.out] at HOu
      refine wpList_append_holds pl_len (by decide) pl_one rfl _ _ 33 rfl w.heap.size 50 i0 _ 24 Try.underlying33 hif hz0 hz1 hz2 rfl _ k _ rfl HOu.out _ [⟨xf, xt, xb⟩] rfl HXu.out ?c4 ?c5 ?c6 ?_
      case c4 => unfold maxLen; simp only [List.length_cons, List.length_nil]; omega
      case c5 => simp only [List.length_cons, List.length_nil]; omega
      case c6 => exact HBu.out.size
      intro v' w' ho hg
      have hb' : Below w.heap.size w w' := Below.grown HBu.out hg HBu.out.size (fun q hq => (HOu.out.lt q hq).1)
      have HO' := Lib.hid (show w'.ownsRow w.heap.size 50 3 v' (l.take (k + 1)).length ((l.take (k + 1)).flatMap Sp.plain) from by rw [HSn.out, List.length_append, HLN.out, List.flatMap_append]; exact ho)
      clear ho hg
      go_wp2
      go_roundg (n - (k + 1))
      case measure => omega
      case rel => exact ⟨k + 1, by go_num, by omega, by omega, HO', hb'⟩
    · have ht : l.take k = l := List.take_of_length_le (by have := HN.out; omega)
      have HOl := HO.out
      rw [ht] at HOl
      have HO' := Lib.hid HOl
      rw [ht]
      clear HOl HO ht
      go_wp2
      go_ret
      exact ⟨_, rfl, HoldsE.own pl_len HO'.out, fun g hg => HO'.out.lt g hg, hB⟩
end Go.Proofs.Ytcilnbkmaoneaaa
