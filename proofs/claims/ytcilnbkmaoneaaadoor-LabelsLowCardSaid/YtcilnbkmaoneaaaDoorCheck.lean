/-
  Layer 7, the program: where a span lies, and whether it clashes with those ahead of it.
  Layer 7, the program: one more span, put behind those ahead of it.
  Layer 7, the program: what is wrong with a policy.
-/
import Derived.Test.YtcilnbkmaoneaaaDoorSpan
import Derived.Test.YtcilnbkmaoneaaaDoorLines
import Derived.Deep.RegionLaw
import Derived.Maps.AppendAt
import Derived.Test.YtcilnbkmaoneaaaDoorPol
set_option linter.unusedSimpArgs false
set_option linter.unusedVariables false
namespace Go.Proofs.YtcilnbkmaoneaaaDoor
open Go.RowKit Go.PlainAid

/-- Whether a span lies as one of its kind must; whether two have an address both. -/
def liesB (x : Sp) (sink : Bool) : Bool := decide (x.f ≤ x.t) && (decide (0 ≤ x.f) && decide (x.t ≤ 32767) || decide (49152 ≤ x.f) && decide (x.t < 65536) && !sink)
def meetB (x y : Sp) : Bool := decide (x.f ≤ y.t) && decide (y.f ≤ x.t)
/-- What is wrong with one more span, behind those ahead of it: of its own kind, of the other one. -/
def clashR (x : Mk) (e : Int) : List Mk → Int
  | [] => e
  | y :: r => if meetB x.s y.s then (if x.k = y.k then 16 else clashR x 15 r) else clashR x e r
def addM (x : Mk) (l : List Mk) : Int := if liesB x.s x.k = false ∨ x.s.b = 0 then 10 else if l.length = 64 then 18 else clashR x 0 l
set_option maxRecDepth 100000 in
theorem lies_c (f t b : Int) (k : Bool) (w : World) : Calls Tryd.prog 40 #[.agg #[.int .i64 f, .int .i64 t, .int .u8 b, .bool k]] w fun e w' => e = .returned (.bool (liesB ⟨f, t, b⟩ k)) ∧ Below w.heap.size w w' := by
  by_cases c1 : t < f
  · have e : liesB ⟨f, t, b⟩ k = false := by unfold liesB; rw [decide_eq_false (by show ¬ f ≤ t; omega)]; rfl
    rw [e]
    go_enter Tryd.func40, Tryd.ntmps40
    go_wp2
    go_ret
    exact ⟨rfl, by go_grown⟩
  · have e : liesB ⟨f, t, b⟩ k = (decide (0 ≤ f) && decide (t ≤ 32767) || decide (49152 ≤ f) && decide (t < 65536) && !k) := by unfold liesB; rw [decide_eq_true (by show f ≤ t; omega)]; rfl
    rw [e]
    clear e
    by_cases c2 : 0 ≤ f
    · rw [decide_eq_true c2]
      by_cases c3 : t ≤ 32767
      · rw [decide_eq_true c3]
        by_cases c4 : 49152 ≤ f
        · omega
        · have c4' : ¬ 49152 ≤ f := c4
          go_enter Tryd.func40, Tryd.ntmps40
          go_wp2
          go_ret
          exact ⟨rfl, by go_grown⟩
      · rw [decide_eq_false c3]
        by_cases c4 : 49152 ≤ f
        · rw [decide_eq_true c4]
          by_cases c5 : t < 65536
          · rw [decide_eq_true c5]
            cases k
            all_goals
              go_enter Tryd.func40, Tryd.ntmps40
              go_wp2
              go_ret
              exact ⟨rfl, by go_grown⟩
          · rw [decide_eq_false c5]
            go_enter Tryd.func40, Tryd.ntmps40
            go_wp2
            go_ret
            exact ⟨rfl, by go_grown⟩
        · rw [decide_eq_false c4]
          go_enter Tryd.func40, Tryd.ntmps40
          go_wp2
          go_ret
          exact ⟨rfl, by go_grown⟩
    · rw [decide_eq_false c2]
      have c4 : ¬ 49152 ≤ f := by omega
      rw [decide_eq_false c4]
      go_enter Tryd.func40, Tryd.ntmps40
      go_wp2
      go_ret
      exact ⟨rfl, by go_grown⟩
set_option maxRecDepth 100000 in
set_option maxHeartbeats 1000000 in
theorem clash_c (f t b : Int) (K : Bool) (l : List Mk) (hl : l.length ≤ 100000) (v : Value) (w : World) (hv : HoldsM w v l) :
    Calls Tryd.prog 41 #[v, .agg #[.int .i64 f, .int .i64 t, .int .u8 b, .bool K]] w fun e w' => e = .returned (.int .i64 (clashR ⟨⟨f, t, b⟩, K⟩ 0 l)) ∧ Below w.heap.size w w' := by
  obtain ⟨R, hR⟩ : ∃ R, clashR ⟨⟨f, t, b⟩, K⟩ 0 l = R := ⟨_, rfl⟩
  rw [hR]
  obtain ⟨a1, c1, rfl⟩ := hv.form
  obtain ⟨n, hn⟩ : ∃ n, l.length = n := ⟨_, rfl⟩
  rw [hn] at hv ⊢
  have hn0 : n ≤ 100000 := by omega
  have HV := Lib.hid hv
  have HR := Lib.hid hR
  have HN := Lib.hid hn
  clear hv hR hn hl
  go_enter Tryd.func41, Tryd.ntmps41
  go_wp2
  refine wp_scope_hid 0 fun C hC => ?_
  go_wp2
  apply wp_label
  go_wp2
  go_loopg [5, 10] n (fun kx s5 s10 wr => ∃ (k : Nat) (e : Int), s5 = .int .i64 e ∧ s10 = .int .i64 k ∧ k ≤ n ∧ n - k ≤ kx ∧ Hid (clashR ⟨⟨f, t, b⟩, K⟩ e (l.drop k) = R) ∧ wr.cell? ⟨w.heap.size, 0, none⟩ = some (.int .i64 f) ∧ wr.cell? ⟨w.heap.size, 1, none⟩ = some (.int .i64 t) ∧ wr.cell? ⟨w.heap.size, 3, none⟩ = some (.bool K) ∧ Below w.heap.size w wr)
  case atStart => exact ⟨0, 0, by go_num, by go_num, by omega, by omega, Lib.hid (by rw [List.drop_zero]; exact HR.out), by go_simp, by go_simp, by go_simp, by go_grown⟩
  case round =>
    obtain ⟨k, e, rfl, rfl, hk, hkx, HK, hc0, hc1, hc3, hB⟩ := hrel
    by_cases hlt : k < n
    · have hin : (0 : Int) ≤ (k : Int) ∧ (k : Int) < (n : Int) := by omega
      have hk1 : k < l.length := by have := HN.out; omega
      obtain ⟨g1, o1, d1, e1, _, c3⟩ := HV.out.some (by omega)
      obtain ⟨rfl, n1, rfl⟩ := Value.slice.inj e1
      clear e1 n1
      obtain ⟨x0, x1, x2, x3⟩ := get4 c3 (List.getElem?_eq_getElem hk1)
      have hst := HK.out
      rw [List.drop_eq_getElem_cons hk1] at hst
      clear c3 HK
      generalize l[k] = x at *
      clear hk1
      obtain ⟨⟨xf, xt, xb⟩, xk⟩ := x
      dsimp only at x0 x1 x2 x3
      have x0 := kc hB x0
      have x1 := kc hB x1
      have x2 := kc hB x2
      have x3 := kc hB x3
      have hsz := klt hc0
      have hne : ¬ w.heap.size = wr.heap.size := by omega
      have hg := klt x0
      have hne2 : ¬ g1 = wr.heap.size := by omega
      have HST := Lib.hid hst
      clear hst
      by_cases d1 : xt < f
      · have HF := Lib.hid (show clashR ⟨⟨f, t, b⟩, K⟩ e (l.drop (k + 1)) = R from by
          rw [← HST.out, clashR, if_neg (by unfold meetB; simp; omega)])
        go_wp2
        go_roundg (n - (k + 1))
        case measure => omega
        case rel => exact ⟨k + 1, e, rfl, by go_num, by omega, by omega, HF, by go_simp, by go_simp, by go_simp, by go_grown⟩
      · by_cases d2 : t < xf
        · have HF := Lib.hid (show clashR ⟨⟨f, t, b⟩, K⟩ e (l.drop (k + 1)) = R from by
            rw [← HST.out, clashR, if_neg (by unfold meetB; simp; omega)])
          go_wp2
          go_roundg (n - (k + 1))
          case measure => omega
          case rel => exact ⟨k + 1, e, rfl, by go_num, by omega, by omega, HF, by go_simp, by go_simp, by go_simp, by go_grown⟩
        · cases hkk : (K == xk)
          · have HF := Lib.hid (show clashR ⟨⟨f, t, b⟩, K⟩ 15 (l.drop (k + 1)) = R from by
              rw [← HST.out, clashR, if_pos (by unfold meetB; simp; omega), if_neg (by simpa using hkk)])
            go_wp2
            go_roundg (n - (k + 1))
            case measure => omega
            case rel => exact ⟨k + 1, 15, rfl, by go_num, by omega, by omega, HF, by go_simp, by go_simp, by go_simp, by go_grown⟩
          · have HF := Lib.hid (show R = 16 from by
              rw [← HST.out, clashR, if_pos (by unfold meetB; simp; omega), if_pos (by simpa using hkk)])
            go_wp2
            rw [Into.ret]
            go_ret
            exact ⟨ret_i64 HF.out.symm, by go_grown⟩
    · have HF := Lib.hid (show R = e from by rw [← HK.out, List.drop_eq_nil_of_le (by have := HN.out; omega)]; rfl)
      go_wp2
      rw [Into.ret]
      go_ret
      exact ⟨ret_i64 HF.out.symm, hB⟩
end Go.Proofs.YtcilnbkmaoneaaaDoor
set_option linter.unusedSimpArgs false
set_option linter.unusedVariables false
namespace Go.Proofs.YtcilnbkmaoneaaaDoor
open Go.RowKit Go.PlainAid

/-- An append to a row of one's own, as a step of a region that draws. -/
theorem step_append_own {P : Program} {ops : Array Oper} {o : Oper} {a : Act} {w : World} {K : Act → World → Prop} {Q : Exit → Act → World → Prop} {E : Prop}
    (hgd : o.guard = none) (s x : Operand) (t : TypeId) (ho : o.op = Op.call { callee := Callee.builtin Builtin.append, args := #[s, x], argTypes := #[t, t] })
    (base : Nat) (e : TypeId) (i : TypeInfo) (z : Value) (size bytes : Nat) (ht : P.underlying t = some (.slice e)) (hi : P.info? e = some i) (hz : i.zero = some z)
    (hsize : i.size = size) (hby : i.bytes = bytes) (hzs : z.cells.size = size) (hsz : 0 < size)
    (v : Value) (n : Nat) (xs : List Value) (hs : a.eval s = v) (hown : w.ownsRow base e size v n xs)
    (ad : Addr) (m c : Nat) (news : List Value) (hx : a.eval x = .slice (some ad) m c) (hl : news.length = m * size) (hnews : ∀ j u, news[j]? = some u → w.cell? (ad.add j) = some u) (h1 : ∀ u ∈ news, u.oneCell' = true)
    (h63 : n + m ≤ maxLen) (hbytes : (n + m) * bytes ≤ 140737488355328) (hbase : base ≤ w.heap.size)
    (hK : ∀ v' w', w'.ownsRow base e size v' (n + m) (xs ++ news) → w.grownBy w' v.ownBlock → (v' = .slice none 0 0 ↔ v = .slice none 0 0 ∧ m = 0) → (v'.ownBlock = v.ownBlock ∨ v'.ownBlock = some w.heap.size) → K (a.put o.dst v') w') :
    if Region.wanted o (yielded ops a.tmps) = true then Oper.wp P o a w K Q else E := by
  have hw : Region.wanted o (yielded ops a.tmps) = true := by simp [Region.wanted, hgd]
  rw [if_pos hw]
  obtain ⟨v', w', hr, h2, h3, h4, h5⟩ := run_append_own_at (P := P) (w := w) base t o.type e i z size bytes ht hi hz hsize hby hzs hsz v n xs hown ad m c news hl hnews h1 h63 hbytes hbase
  unfold Oper.wp execOp
  simp only [ho, resolve, invoke, builtin, Sem.run_bind, Sem.run_pure, Result.andThen_ok, List.map_toArray, List.map_cons, List.map_nil, hs, hx, hr]
  exact hK v' w' h2 h3 h4 h5
/-- Behind a call that put one more into the row of the list at a cell: what has stayed. -/
structure Added (w w' : World) (rb ro S0 : Nat) (l : List Mk) : Prop where
  below : Below rb w w'
  keep : ∀ b, b < S0 → b ≠ rb → w'.heap[b]? = w.heap[b]?
  keep2 : ∀ b, b < w.heap.size → b ≠ rb → (∀ v, w.cell? ⟨rb, ro, none⟩ = some v → some b ≠ v.ownBlock) → w'.heap[b]? = w.heap[b]?
  cells : ∀ o, o ≠ ro → w'.cell? ⟨rb, o, none⟩ = w.cell? ⟨rb, o, none⟩
  frozen : ∀ o, w'.frozen? ⟨rb, o, none⟩ = w.frozen? ⟨rb, o, none⟩
  fresh : ∀ v v', w.cell? ⟨rb, ro, none⟩ = some v → w'.cell? ⟨rb, ro, none⟩ = some v' → v'.ownBlock = v.ownBlock ∨ ∃ g, v'.ownBlock = some g ∧ w.heap.size ≤ g
  row : ∃ v', w'.cell? ⟨rb, ro, none⟩ = some v' ∧ w'.ownsRow S0 74 4 v' l.length (l.flatMap Mk.cells)
def AddEnd (w : World) (rb ro S0 : Nat) (x : Mk) (l : List Mk) : Ending → World → Prop := fun e w' => e = .returned (.int .i64 (addM x l)) ∧ (addM x l ≠ 0 → Below w.heap.size w w') ∧ (addM x l = 0 → Added w w' rb ro S0 (l ++ [x]))
theorem Tryd.infoM : (Tryd.prog.info? 74).map (fun i => (i.zero, i.size, i.bytes)) = some (some (.agg #[.int .i64 0, .int .i64 0, .int .u8 0, .bool false]), 4, 32) := by kernel_rfl
theorem mk_cells_at {W : World} (T : TypeId) (x : Mk) : ∀ j u, ([x].flatMap Mk.cells)[j]? = some u → (W.alloc (.cells #[.int .i64 x.s.f, .int .i64 x.s.t, .int .u8 x.s.b, .bool x.k] T)).cell? ((⟨W.heap.size, 0, none⟩ : Addr).add j) = some u := by
  intro j u h
  rw [Addr.add_lit, Nat.zero_add]
  have hh := heap_alloc_new W (.cells #[.int .i64 x.s.f, .int .i64 x.s.t, .int .u8 x.s.b, .bool x.k] T)
  simp only [World.cell?, hh]
  rw [← h]
  simp [Mk.cells]
theorem addEnd_no {w w' : World} {rb ro S0 : Nat} {x : Mk} {l : List Mk} {E : Int} (h : addM x l = E) (hE : E ≠ 0) (hb : Below w.heap.size w w') : AddEnd w rb ro S0 x l (.returned (.int .i64 E)) w' :=
  ⟨by rw [h], fun _ => hb, fun h0 => absurd (h.symm.trans h0) hE⟩
/-- The row that grew, and the cell that was stored. -/
theorem added_of {w u w' : World} {rb ro S0 n : Nat} {l : List Mk} {v v' : Value} {xs : List Value} (hB : Below w.heap.size w u) (ho : u.ownsRow S0 74 4 v n xs) (hg : u.grownBy w' v.ownBlock) (hown : w'.ownsRow S0 74 4 v' l.length (l.flatMap Mk.cells))
    (hat : v'.ownBlock = v.ownBlock ∨ v'.ownBlock = some u.heap.size) (h1 : rb < S0) (h2 : S0 ≤ w.heap.size) (hc : w.cell? ⟨rb, ro, none⟩ = some v) : Added w (w'.setCell ⟨rb, ro, none⟩ v') rb ro S0 l := by
  have hz := hB.size
  have hkeep : ∀ b, b < S0 → w'.heap[b]? = w.heap[b]? := fun b hb => (hg.block b (by omega) (fun e => by have := (ho.lt b e.symm).1; omega)).trans (hB.block b (by omega))
  have hbr : w'.heap[rb]? = w.heap[rb]? := hkeep rb h1
  have hcell : ∀ o, w'.cell? ⟨rb, o, none⟩ = w.cell? ⟨rb, o, none⟩ := fun o => World.cell?_of_block hbr
  refine ⟨?_, fun b hb hne => ?_, fun b hb hne hv => ?_, fun o ho => ?_, fun o => ?_, fun x y hx hy => ?_, v', ?_, own_other hown h1⟩
  · have : Below rb w w' := ⟨hg.os.trans hB.os, hg.tape.trans hB.tape, hg.output.trans hB.output, Nat.le_trans hB.size hg.size, fun b hb => hkeep b (by omega)⟩
    exact this.setCell (Nat.le_refl _) _
  · exact (Below.heap_setCell w' _ v' b (by exact hne)).trans (hkeep b hb)
  · exact (Below.heap_setCell w' _ v' b (by exact hne)).trans ((hg.block b (by omega) (hv v hc)).trans (hB.block b hb))
  · rw [World.cell?_setCell_other _ _ _ _ (by first | (simp; done) | (simp; omega) | (intro e; simp at e; omega))]; exact hcell o
  · rw [World.frozen?_setCell]; exact World.frozen?_of_block hbr
  · rw [hc] at hx
    cases hx
    rw [World.cell?_setCell_same _ _ v' ((hcell ro).trans hc)] at hy
    cases hy
    rcases hat with h | h
    · exact .inl h
    · exact .inr ⟨_, h, hz⟩
  · exact World.cell?_setCell_same _ _ v' ((hcell ro).trans hc)
set_option maxRecDepth 100000 in
set_option maxHeartbeats 2000000 in
theorem add_c (f t b : Int) (K : Bool) (l : List Mk) (hl : l.length ≤ 64) (rb ro S0 : Nat) (v : Value) (w : World) (hr_0 : w.cell? ⟨rb, ro, none⟩ = some v) (fr_0 : w.frozen? ⟨rb, ro, none⟩ = false) (hv : w.ownsRow S0 74 4 v l.length (l.flatMap Mk.cells)) (h1 : rb < S0) (h2 : S0 ≤ w.heap.size) :
    Calls Tryd.prog 26 #[.pointer (some ⟨rb, ro, none⟩), .agg #[.int .i64 f, .int .i64 t, .int .u8 b, .bool K]] w (AddEnd w rb ro S0 ⟨⟨f, t, b⟩, K⟩ l) := by
  have HL := Lib.hid (lies_c f t b K)
  obtain ⟨p, cp, rfl⟩ := own_form hv
  have HO := Lib.hid hv
  have HC := Lib.hid (fun W (hb : Below w.heap.size w W) => clash_c f t b K l (by omega) (.slice p l.length cp) W ((HoldsE.own mk_len hv).below hb))
  obtain ⟨B, hB0⟩ : ∃ B, liesB ⟨f, t, b⟩ K = B := ⟨_, rfl⟩
  rw [hB0] at HL
  obtain ⟨i0, hi, hz0, hz1, hz2⟩ := info_parts Tryd.infoM
  have hk : rb < w.heap.size := by omega
  have hkn : ¬ rb = w.heap.size := by omega
  clear hv
  have hr0 := hr_0
  go_enter Tryd.func26, Tryd.ntmps26
  go_wp2_with fail
  ((with_reducible refine (HL.out _).mono ?_); rintro _ u1 ⟨rfl, hb⟩)
  have T : CF u1 rb ro (.slice p l.length cp) ∧ CC u1 w.heap.size 0 1 (.int .i64 f) (.int .i64 t) ∧ CC u1 w.heap.size 2 3 (.int .u8 b) (.bool K) := by
      refine ⟨⟨?_, ?_⟩, ⟨?_, ?_⟩, ⟨?_, ?_⟩⟩ <;> first | (refine kc hb ?_ <;> (go_simp; first | done | rfl)) | (refine kfz hb ?_ ?_ <;> first | (go_size; done) | (go_simp; done))
  have hz := hb.size
  (try simp only [World.size_alloc, World.size_setCell, World.size_drew] at hz)
  have L : rb < u1.heap.size ∧ w.heap.size < u1.heap.size := by omega
  have hB' : Below w.heap.size w u1 := by
      refine kb ?_ hb
      go_grown
  clear hb hz
  obtain ⟨⟨hr_0, fr_0⟩, ⟨hs_0, hs_1⟩, ⟨hs_2, hs_3⟩⟩ := T
  obtain ⟨hlr, hls⟩ := L
  obtain ⟨hnr0, hnr1, hkr1, hnr2, hkr2⟩ := ap0 hlr
  obtain ⟨hns0, hns1, hks1, hns2, hks2⟩ := ap0 hls
  have hB := hB'; clear hB'
  have hsz := hB.size
  cases B
  · have e : addM ⟨⟨f, t, b⟩, K⟩ l = 10 := by unfold addM; rw [if_pos (.inl hB0)]
    go_wp2
    go_ret
    exact addEnd_no e (by decide) hB
  · cases hb0 : (b == 0)
    · have hn1 : ¬ (liesB ⟨f, t, b⟩ K = false ∨ b = 0) := by rw [hB0]; simp; simpa using hb0
      cases hn64 : ((l.length : Int) == 64)
      · have hn2 : ¬ l.length = 64 := by have := beq_eq_false_iff_ne.1 hn64; omega
        have HE := Lib.hid (show addM ⟨⟨f, t, b⟩, K⟩ l = clashR ⟨⟨f, t, b⟩, K⟩ 0 l from by unfold addM; rw [if_neg hn1, if_neg hn2])
        clear hn1 hB0
        obtain ⟨E, hE⟩ : ∃ E, clashR ⟨⟨f, t, b⟩, K⟩ 0 l = E := ⟨_, rfl⟩
        rw [hE] at HE HC
        clear hE
        go_wp2_with fail
        refine wp_region_plan (fun w' => w'.cell? ⟨rb, ro, none⟩ = some (.slice p l.length cp) ∧ w'.frozen? ⟨rb, ro, none⟩ = false ∧ w'.cell? ⟨w.heap.size, 0, none⟩ = some (.int .i64 f) ∧ w'.cell? ⟨w.heap.size, 1, none⟩ = some (.int .i64 t) ∧ w'.cell? ⟨w.heap.size, 2, none⟩ = some (.int .u8 b) ∧ w'.cell? ⟨w.heap.size, 3, none⟩ = some (.bool K) ∧ Below w.heap.size w w') (by kernel_rfl) (by kernel_rfl) (by kernel_rfl) ?_ ?_
        · (try dsimp only)
          refine ⟨?_, ?_, ?_, ?_, ?_, ?_, ?_⟩ <;> first | (go_simp; done) | (simp [*]; done) | go_grown
        repeat (first
          | (refine Plan.val (v := ?_) ?_ ?_ ?_; rotate_left; (· rfl); (· (intro W hSw; (try dsimp only at hSw); go_simp; all_goals (first | (with_reducible rfl) | (constructor <;> (with_reducible rfl)) | (rw [if_neg (by omega)]; done) | (rw [if_neg (by omega)]; with_reducible rfl)))); (try simp only [Act.put, List.setIfInBounds_toArray, List.set_cons_zero, List.set_cons_succ]))
          | (refine Plan.no ?_ ?_; (· rfl); (try simp only [Act.put, List.setIfInBounds_toArray, List.set_cons_zero, List.set_cons_succ]))
          | (refine Plan.call (v := ?_) (f := ?_) (args := ?_) ?_ ?_ ?_ ?_; rotate_left 3; (· rfl); (· (intro W hSw; (try dsimp only at hSw); go_simp; all_goals (first | (with_reducible rfl) | (constructor <;> (with_reducible rfl)) | (rw [if_neg (by omega)]; done) | (rw [if_neg (by omega)]; with_reducible rfl)))); (· (intro W hSw; (try dsimp only at hSw); first | (go_at_call 41; ((with_reducible refine (HC.out _ hSw.2.2.2.2.2.2).mono ?_); rintro _ wz ⟨rfl, hb⟩; (refine ⟨?_, ?_⟩; (· with_reducible rfl); exact ⟨kc hb hSw.1, kfz hb (klt hSw.1) hSw.2.1, kc hb hSw.2.2.1, kc hb hSw.2.2.2.1, kc hb hSw.2.2.2.2.1, kc hb hSw.2.2.2.2.2.1, kb hSw.2.2.2.2.2.2 hb⟩))))); (try simp only [Act.put, List.setIfInBounds_toArray, List.set_cons_zero, List.set_cons_succ])))
        refine Plan.done ?_
        intro u2 T
        (try dsimp only at T)
        clear hr_0 fr_0 hs_0 hs_1 hs_2 hs_3 hlr hls hnr0 hnr1 hkr1 hnr2 hkr2 hns0 hns1 hks1 hns2 hks2 hB hsz
        obtain ⟨hr_0, fr_0, hs_0, hs_1, hs_2, hs_3, hB⟩ := T
        have hsz := hB.size
        have hlr := klt hr_0
        have hls := klt hs_0
        obtain ⟨hnr0, hnr1, hkr1, hnr2, hkr2⟩ := ap0 hlr
        obtain ⟨hns0, hns1, hks1, hns2, hks2⟩ := ap0 hls
        cases hE0 : (E != 0)
        · obtain rfl : E = 0 := by simpa using hE0
          have HN := Lib.hid (show l.length ≤ 63 from by omega)
          go_wp2_with fail
          have HO2 := Lib.hid (own_below HO.out hB)
          have HS2 := Lib.hid (show S0 ≤ u2.heap.size from by omega)
          go_region_law (refine step_append_own rfl (.tmp 31) (.tmp 33) 71 rfl S0 74 i0 _ 4 32 Tryd.underlying71 hi hz0 hz1 hz2 rfl (by decide) _ l.length _ (by simp [Act.eval, Act.put]) (own_below HO2.out (by go_grown)) ⟨u2.heap.size, 0, none⟩ 1 1 ([(⟨⟨f, t, b⟩, K⟩ : Mk)].flatMap Mk.cells) (by simp [Act.eval, Act.put]) rfl (mk_cells_at 74 ⟨⟨f, t, b⟩, K⟩) (one_cells mk_one _) (by have := HN.out; unfold maxLen; omega) (by have := HN.out; omega) (by have := HS2.out; simp; omega) ?_; intro v' w' hown' hg _ hat; obtain ⟨p', cp', rfl⟩ := own_form hown'; have tc : w'.cell? ⟨rb, ro, none⟩ = some (.slice p l.length cp) := grown_cell (b := rb) (o := ro) (own_below HO2.out (by go_grown)) hg h1 (by go_simp); have tf : w'.frozen? ⟨rb, ro, none⟩ = false := grown_frozen (b := rb) (o := ro) (own_below HO2.out (by go_grown)) hg h1 (by simp; omega) (by go_simp); have HG := Lib.hid (And.intro hown' (And.intro hg hat)); clear hown' hg hat)
          all_goals
            have HR := Lib.hid (show Added w (w'.setCell ⟨rb, ro, none⟩ (.slice p' (l.length + 1) cp')) rb ro S0 (l ++ [⟨⟨f, t, b⟩, K⟩]) from
              added_of (by go_grown) (own_below HO2.out (by go_grown)) HG.out.2.1 (by rw [List.length_append, List.flatMap_append]; exact HG.out.1) HG.out.2.2 h1 h2 hr0)
            go_wp2
            go_ret
            exact ⟨ret_i64 HE.out.symm, fun h => absurd HE.out h, fun _ => HR.out⟩
        · have hE1 : E ≠ 0 := by simpa using hE0
          go_wp2
          go_ret
          exact addEnd_no HE.out hE1 hB
      · have e : addM ⟨⟨f, t, b⟩, K⟩ l = 18 := by unfold addM; rw [if_neg hn1, if_pos (by have := beq_iff_eq.1 hn64; omega)]
        go_wp2
        go_ret
        exact addEnd_no e (by decide) hB
    · have e : addM ⟨⟨f, t, b⟩, K⟩ l = 10 := by unfold addM; rw [if_pos (.inr (by simpa using hb0))]
      go_wp2
      go_ret
      exact addEnd_no e (by decide) hB
end Go.Proofs.YtcilnbkmaoneaaaDoor
set_option linter.unusedSimpArgs false
set_option linter.unusedVariables false
namespace Go.Proofs.YtcilnbkmaoneaaaDoor
open Go.RowKit Go.PlainAid

def mayD (n : Int) : Bool := decide (0 ≤ n) && decide (n ≤ 1000)
def mayT (n : Int) : Bool := decide (1 ≤ n) && decide (n ≤ 4096)
def chkR (acc : List Mk) : List Mk → Int
  | [] => 0
  | x :: r => if addM x acc = 0 then chkR (acc ++ [x]) r else addM x acc
def markS (p : Pol) : List Mk := p.s.map (fun x => ⟨x, false⟩) ++ p.k.map (fun x => ⟨x, true⟩)
def checkM (p : Pol) : Int := if chkR [] (markS p) = 0 then (if mayD p.d && mayT p.t then 0 else 10) else chkR [] (markS p)
theorem addM_len {x : Mk} {l : List Mk} (h : addM x l = 0) (hl : l.length ≤ 64) : (l ++ [x]).length ≤ 64 := by
  have : l.length ≠ 64 := fun e => by
    unfold addM at h
    rw [if_pos e] at h
    split at h <;> cases h
  rw [List.length_append]; simp only [List.length_cons, List.length_nil]; omega
theorem Added.kc {w w' : World} {rb ro S0 : Nat} {l : List Mk} (h : Added w w' rb ro S0 l) {b o : Nat} {y : Value} (hb : b < S0) (hne : b ≠ rb) (hc : w.cell? ⟨b, o, none⟩ = some y) : w'.cell? ⟨b, o, none⟩ = some y :=
  (World.cell?_of_block (h.keep b hb hne)).trans hc
theorem mayd_c (n : Int) (w : World) : Calls Tryd.prog 27 #[.int .i64 n] w fun e w' => e = .returned (.bool (mayD n)) ∧ Below w.heap.size w w' := by
  unfold mayD
  by_cases h : 0 ≤ n
  · rw [decide_eq_true h]
    go_enter Tryd.func27, Tryd.ntmps27
    go_wp2
    go_ret
    exact ⟨rfl, Below.refl _ _⟩
  · rw [decide_eq_false h]
    go_enter Tryd.func27, Tryd.ntmps27
    go_wp2
    go_ret
    exact ⟨rfl, Below.refl _ _⟩
theorem mayt_c (n : Int) (w : World) : Calls Tryd.prog 28 #[.int .i64 n] w fun e w' => e = .returned (.bool (mayT n)) ∧ Below w.heap.size w w' := by
  unfold mayT
  by_cases h : 1 ≤ n
  · rw [decide_eq_true h]
    go_enter Tryd.func28, Tryd.ntmps28
    go_wp2
    go_ret
    exact ⟨rfl, Below.refl _ _⟩
  · rw [decide_eq_false h]
    go_enter Tryd.func28, Tryd.ntmps28
    go_wp2
    go_ret
    exact ⟨rfl, Below.refl _ _⟩
/-- In the midst of the check. -/
structure ChkMid (w wr : World) (v1 v2 : Value) (d t : Int) (acc : List Mk) : Prop where
  p0 : wr.cell? ⟨w.heap.size, 0, none⟩ = some v1
  p1 : wr.cell? ⟨w.heap.size, 1, none⟩ = some v2
  p2 : wr.cell? ⟨w.heap.size, 2, none⟩ = some (.int .i64 d)
  p3 : wr.cell? ⟨w.heap.size, 3, none⟩ = some (.int .i64 t)
  fr : wr.frozen? ⟨w.heap.size + 1, 0, none⟩ = false
  row : ∃ v, wr.cell? ⟨w.heap.size + 1, 0, none⟩ = some v ∧ wr.ownsRow (w.heap.size + 2) 74 4 v acc.length (acc.flatMap Mk.cells)
  sz : w.heap.size + 2 ≤ wr.heap.size
  below : Below w.heap.size w wr
theorem ChkMid.add {w wr u : World} {v1 v2 : Value} {d t : Int} {acc l : List Mk} (h : ChkMid w wr v1 v2 d t acc) (ha : Added wr u (w.heap.size + 1) 0 (w.heap.size + 2) l) : ChkMid w u v1 v2 d t l :=
  ⟨ha.kc (by omega) (by omega) h.p0, ha.kc (by omega) (by omega) h.p1, ha.kc (by omega) (by omega) h.p2, ha.kc (by omega) (by omega) h.p3, (ha.frozen 0).trans h.fr, ha.row, Nat.le_trans h.sz ha.below.size, h.below.trans (ha.below.mono (by omega))⟩
theorem ChkMid.on {w wr u : World} {v1 v2 : Value} {d t : Int} {acc : List Mk} (h : ChkMid w wr v1 v2 d t acc) (hb : Below wr.heap.size wr u) : ChkMid w u v1 v2 d t acc := by
  obtain ⟨v, r1, r2⟩ := h.row
  exact ⟨kc hb h.p0, kc hb h.p1, kc hb h.p2, kc hb h.p3, kfz hb (klt r1) h.fr, ⟨v, kc hb r1, own_below r2 hb⟩, Nat.le_trans h.sz hb.size, h.below.trans (hb.mono (by have := h.sz; omega))⟩
set_option maxRecDepth 100000 in
set_option maxHeartbeats 2000000 in
theorem check_c (p : Pol) (hl : p.s.length ≤ 1000 ∧ p.k.length ≤ 1000) (v : Value) (w : World) (hv : HoldsP w v p) : Calls Tryd.prog 11 #[v] w fun e w' => e = .returned (.int .i64 (checkM p)) ∧ Below w.heap.size w w' := by
  obtain ⟨v1, v2, rfl, h1, h2⟩ := hv
  obtain ⟨ps, pk, pd, pt⟩ := p
  dsimp only at h1 h2 hl ⊢
  obtain ⟨E, hE⟩ : ∃ E, checkM ⟨ps, pk, pd, pt⟩ = E := ⟨_, rfl⟩
  rw [hE]
  unfold checkM markS at hE
  dsimp only at hE
  obtain ⟨a1, c1, rfl⟩ := h1.form
  obtain ⟨a2, c2, rfl⟩ := h2.form
  obtain ⟨n1, hn1⟩ : ∃ n, ps.length = n := ⟨_, rfl⟩
  obtain ⟨n2, hn2⟩ : ∃ n, pk.length = n := ⟨_, rfl⟩
  rw [hn1] at h1 hl ⊢
  rw [hn2] at h2 hl ⊢
  obtain ⟨R0, hR0⟩ : ∃ R, chkR [] (ps.map (fun x => (⟨x, false⟩ : Mk)) ++ pk.map (fun x => ⟨x, true⟩)) = R := ⟨_, rfl⟩
  rw [hR0] at hE
  have HR0 := Lib.hid hR0
  have HE := Lib.hid hE
  have H1 := Lib.hid (And.intro h1 hn1)
  have H2 := Lib.hid (And.intro h2 hn2)
  have hm1 : n1 ≤ 1000 := hl.1
  have hm2 : n2 ≤ 1000 := hl.2
  clear hR0 hE h1 h2 hl hn1 hn2
  go_enter Tryd.func11, Tryd.ntmps11
  go_wp2
  go_loopg [13] n1 (fun kx s13 wr => ∃ (k : Nat) (acc : List Mk), s13 = .int .i64 k ∧ k ≤ n1 ∧ n1 - k ≤ kx ∧ Hid (acc.length ≤ 64 ∧ chkR acc ((ps.drop k).map (fun x => (⟨x, false⟩ : Mk)) ++ pk.map (fun x => ⟨x, true⟩)) = R0) ∧ Aside (ChkMid w wr (.slice a1 n1 c1) (.slice a2 n2 c2) pd pt acc))
  case atStart => exact ⟨0, [], by go_num, by omega, by omega, Lib.hid ⟨by simp, by rw [List.drop_zero]; exact HR0.out⟩, (⟨by go_simp, by go_simp, by go_simp, by go_simp, by go_simp, ⟨.slice none 0 0, by go_simp, World.ownsRow_nil _ _ _ _⟩, by simp, by go_grown⟩ : ChkMid w _ _ _ _ _ _)⟩
  case round =>
    obtain ⟨k, acc, rfl, hk, hkx, HQ, M⟩ := hrel
    by_cases hlt : k < n1
    · have hin : (0 : Int) ≤ (k : Int) ∧ (k : Int) < (n1 : Int) := by omega
      have hk1 : k < ps.length := by have := H1.out.2; omega
      obtain ⟨g1, o1, d1, e1, _, c3⟩ := H1.out.1.some (by omega)
      obtain ⟨rfl, n1', rfl⟩ := Value.slice.inj e1
      clear e1 n1'
      obtain ⟨x0, x1, x2⟩ := get3 c3 (List.getElem?_eq_getElem hk1)
      obtain ⟨q1, q2⟩ := HQ.out
      rw [List.drop_eq_getElem_cons hk1] at q2
      clear c3 HQ
      generalize ps[k] = x at *
      clear hk1
      obtain ⟨xf, xt, xb⟩ := x
      dsimp only at x0 x1 x2
      have hB := M.out.below
      have x0 := kc hB x0
      have x1 := kc hB x1
      have x2 := kc hB x2
      have HQ := Lib.hid (And.intro q1 q2)
      clear q1 q2
      have hg := klt x0
      have hne : ¬ g1 = wr.heap.size := by omega
      have hw1 := M.out.sz
      obtain ⟨vr, r1, r2⟩ := M.out.row
      have HC := Lib.hid (fun U (hb : Below wr.heap.size wr U) => add_c xf xt xb false acc HQ.out.1 (w.heap.size + 1) 0 (w.heap.size + 2) vr U (kc hb r1) (kfz hb (klt r1) M.out.fr) (own_below r2 hb) (by omega) (Nat.le_trans M.out.sz hb.size))
      clear r1 r2 hB
      go_wp2_with fail
      (with_reducible refine (HC.out _ (by go_grown)).mono ?_)
      rintro _ u ⟨rfl, hno, hyes⟩
      have hq2 := HQ.out.2
      rw [List.map_cons, List.cons_append, chkR] at hq2
      obtain ⟨A, hA⟩ : ∃ A, addM ⟨⟨xf, xt, xb⟩, false⟩ acc = A := ⟨_, rfl⟩
      rw [hA] at hno hyes hq2 ⊢
      have HN := Lib.hid hno
      have HY := Lib.hid hyes
      have HA := Lib.hid hA
      have HQ3 := Lib.hid hq2
      clear hno hyes hA hq2
      cases hA0 : (A != 0)
      · obtain rfl : A = 0 := by simpa using hA0
        have M2 : Aside (ChkMid w u (.slice (some ⟨g1, o1, none⟩) n1 c1) (.slice a2 n2 c2) pd pt (acc ++ [⟨⟨xf, xt, xb⟩, false⟩])) := (M.out.on (by go_grown)).add (HY.out rfl)
        go_wp2
        go_roundg (n1 - (k + 1))
        case measure => omega
        case rel => exact ⟨k + 1, _, by go_num, by omega, by omega, Lib.hid ⟨addM_len HA.out HQ.out.1, by have h := HQ3.out; (first | rw [if_pos rfl] at h | rw [if_pos trivial] at h); exact h⟩, M2⟩
      · have hA1 : A ≠ 0 := by simpa using hA0
        have hb := HN.out hA1
        have HF := Lib.hid (show E = A from by
          have h := HQ3.out
          rw [if_neg hA1] at h
          rw [← HE.out, if_neg (by rw [← h]; exact hA1), h])
        have hBu : Below w.heap.size w u := M.out.below.trans ((show Below w.heap.size wr _ by go_grown).trans (hb.mono (by simp; omega)))
        go_wp2
        go_ret
        exact ⟨ret_i64 HF.out.symm, hBu⟩
    · have HQ4 := Lib.hid (show chkR acc (pk.map (fun x => (⟨x, true⟩ : Mk))) = R0 from by
        have h := HQ.out.2
        rw [List.drop_eq_nil_of_le (by have := H1.out.2; omega)] at h
        exact h)
      have HQ5 := Lib.hid HQ.out.1
      clear HQ
      obtain ⟨hp_0, hp_1, hp_2, hp_3⟩ := And.intro M.out.p0 (And.intro M.out.p1 (And.intro M.out.p2 M.out.p3))
      go_wp2
      clear hp_0 hp_1 hp_2 hp_3
      go_loopg [27] n2 (fun kx s27 wr => ∃ (k : Nat) (acc : List Mk), s27 = .int .i64 k ∧ k ≤ n2 ∧ n2 - k ≤ kx ∧ Hid (acc.length ≤ 64 ∧ chkR acc ((pk.drop k).map (fun x => (⟨x, true⟩ : Mk))) = R0) ∧ Aside (ChkMid w wr (.slice a1 n1 c1) (.slice a2 n2 c2) pd pt acc))
      case atStart => exact ⟨0, acc, by go_num, by omega, by omega, Lib.hid ⟨HQ5.out, by rw [List.drop_zero]; exact HQ4.out⟩, M⟩
      case round =>
        clear M HQ4 HQ5
        obtain ⟨k, acc, rfl, hk, hkx, HQ, M⟩ := hrel
        by_cases hlt : k < n2
        · have hin : (0 : Int) ≤ (k : Int) ∧ (k : Int) < (n2 : Int) := by omega
          have hk1 : k < pk.length := by have := H2.out.2; omega
          obtain ⟨g1, o1, d1, e1, _, c3⟩ := H2.out.1.some (by omega)
          obtain ⟨rfl, n1', rfl⟩ := Value.slice.inj e1
          clear e1 n1'
          obtain ⟨x0, x1, x2⟩ := get3 c3 (List.getElem?_eq_getElem hk1)
          obtain ⟨q1, q2⟩ := HQ.out
          rw [List.drop_eq_getElem_cons hk1] at q2
          clear c3 HQ
          generalize pk[k] = x at *
          clear hk1
          obtain ⟨xf, xt, xb⟩ := x
          dsimp only at x0 x1 x2
          have hB := M.out.below
          have x0 := kc hB x0
          have x1 := kc hB x1
          have x2 := kc hB x2
          have HQ := Lib.hid (And.intro q1 q2)
          clear q1 q2
          have hg := klt x0
          have hw1 := M.out.sz
          obtain ⟨vr, r1, r2⟩ := M.out.row
          have HC := Lib.hid (fun U (hb : Below wr.heap.size wr U) => add_c xf xt xb true acc HQ.out.1 (w.heap.size + 1) 0 (w.heap.size + 2) vr U (kc hb r1) (kfz hb (klt r1) M.out.fr) (own_below r2 hb) (by omega) (Nat.le_trans M.out.sz hb.size))
          clear r1 r2 hB
          have hne : ¬ g1 = wr.heap.size := by omega
          go_wp2_with fail
          (with_reducible refine (HC.out _ (by go_grown)).mono ?_)
          rintro _ u ⟨rfl, hno, hyes⟩
          have hq2 := HQ.out.2
          rw [List.map_cons, chkR] at hq2
          obtain ⟨A, hA⟩ : ∃ A, addM ⟨⟨xf, xt, xb⟩, true⟩ acc = A := ⟨_, rfl⟩
          rw [hA] at hno hyes hq2 ⊢
          have HN := Lib.hid hno
          have HY := Lib.hid hyes
          have HA := Lib.hid hA
          have HQ3 := Lib.hid hq2
          clear hno hyes hA hq2
          cases hA0 : (A != 0)
          · obtain rfl : A = 0 := by simpa using hA0
            have M2 : Aside (ChkMid w u (.slice a1 n1 c1) (.slice (some ⟨g1, o1, none⟩) n2 c2) pd pt (acc ++ [⟨⟨xf, xt, xb⟩, true⟩])) := (M.out.on (by go_grown)).add (HY.out rfl)
            go_wp2
            go_roundg (n2 - (k + 1))
            case measure => omega
            case rel => exact ⟨k + 1, _, by go_num, by omega, by omega, Lib.hid ⟨addM_len HA.out HQ.out.1, by have h := HQ3.out; (first | rw [if_pos rfl] at h | rw [if_pos trivial] at h); exact h⟩, M2⟩
          · have hA1 : A ≠ 0 := by simpa using hA0
            have hb := HN.out hA1
            have HF := Lib.hid (show E = A from by
              have h := HQ3.out
              rw [if_neg hA1] at h
              rw [← HE.out, if_neg (by rw [← h]; exact hA1), h])
            have hBu : Below w.heap.size w u := M.out.below.trans ((show Below w.heap.size wr _ by go_grown).trans (hb.mono (by simp; omega)))
            go_wp2
            go_ret
            exact ⟨ret_i64 HF.out.symm, hBu⟩
        · have HF := Lib.hid (show E = if mayD pd && mayT pt then 0 else 10 from by
            have h := HQ.out.2
            rw [List.drop_eq_nil_of_le (by have := H2.out.2; omega)] at h
            have h0 : R0 = 0 := h.symm
            rw [← HE.out, if_pos h0])
          have HD := Lib.hid (mayd_c pd)
          have HT := Lib.hid (mayt_c pt)
          obtain ⟨hp_0, hp_1, hp_2, hp_3⟩ := And.intro M.out.p0 (And.intro M.out.p1 (And.intro M.out.p2 M.out.p3))
          have HB := Lib.hid M.out.below
          have hsw := M.out.sz
          have hbr : Below wr.heap.size wr wr := Below.refl _ _
          generalize mayD pd = D at *
          generalize mayT pt = T at *
          clear M HQ
          go_wp2_with fail
          ((with_reducible refine (HD.out _).mono ?_); rintro _ u1 ⟨rfl, hb⟩)
          have T : CC u1 w.heap.size 0 1 (.slice a1 n1 c1) (.slice a2 n2 c2) ∧ CC u1 w.heap.size 2 3 (.int .i64 pd) (.int .i64 pt) := by
              refine ⟨⟨?_, ?_⟩, ⟨?_, ?_⟩⟩ <;> refine kc hb ?_ <;> (go_simp; first | done | rfl)
          have hz := hb.size
          (try simp only [World.size_alloc, World.size_setCell, World.size_drew] at hz)
          have L : w.heap.size < u1.heap.size := by omega
          have hB' : Below wr.heap.size wr u1 := by
              refine kb ?_ hb
              go_grown
          clear hb hz
          obtain ⟨⟨hp_0, hp_1⟩, ⟨hp_2, hp_3⟩⟩ := T
          have hlp := L; clear L
          obtain ⟨hnp0, hnp1, hkp1, hnp2, hkp2⟩ := ap0 hlp
          have hB := hB'; clear hB'
          have hsz := hB.size
          cases D
          · go_wp2
            go_ret
            exact ⟨ret_i64 HF.out.symm, HB.out.trans (hB.mono HB.out.size)⟩
          · go_wp2_with fail
            ((with_reducible refine (HT.out _).mono ?_); rintro _ u2 ⟨rfl, hb⟩)
            have T : CC u2 w.heap.size 0 1 (.slice a1 n1 c1) (.slice a2 n2 c2) ∧ CC u2 w.heap.size 2 3 (.int .i64 pd) (.int .i64 pt) := by
                refine ⟨⟨?_, ?_⟩, ⟨?_, ?_⟩⟩ <;> refine kc hb ?_ <;> (go_simp; first | done | rfl)
            have hz := hb.size
            (try simp only [World.size_alloc, World.size_setCell, World.size_drew] at hz)
            have L : w.heap.size < u2.heap.size := by omega
            have hB' : Below wr.heap.size wr u2 := by
                refine kb ?_ hb
                go_grown
            clear hp_0 hp_1 hp_2 hp_3 hlp hnp0 hnp1 hkp1 hnp2 hkp2 hB hsz
            clear hb hz
            obtain ⟨⟨hp_0, hp_1⟩, ⟨hp_2, hp_3⟩⟩ := T
            have hlp := L; clear L
            obtain ⟨hnp0, hnp1, hkp1, hnp2, hkp2⟩ := ap0 hlp
            have hB := hB'; clear hB'
            have hsz := hB.size
            cases T
            · go_wp2
              go_ret
              exact ⟨ret_i64 HF.out.symm, HB.out.trans (hB.mono HB.out.size)⟩
            · go_wp2
              go_ret
              exact ⟨ret_i64 HF.out.symm, HB.out.trans (hB.mono HB.out.size)⟩
end Go.Proofs.YtcilnbkmaoneaaaDoor
