/-
  PortsOwn: its walk.
-/
import Derived.Test.YtbahjcnamalhcaaLowPure11
import Derived.Test.YtbahjcnamalhcaaPlayWalk11
set_option linter.unusedSimpArgs false
set_option linter.unusedVariables false
namespace Go.Proofs.Ytbahjcnamalhcaa
open Go.RowKit Go.PlainAid

section
variable {N pb qb : Nat} {S T : Po} {F G F2 G2 : Nat → Prop} {W0 w u : World}
/-- A block of neither is written. -/
theorem TwoI.other (h : TwoI N W0 pb qb S T F G F2 G2 w) (hN : N ≤ W0.heap.size) {gb : Nat} (hf : Fr (fun k => k = gb) w u) (hg : N ≤ gb) (n1 : ¬ G gb) (n2 : ¬ G2 gb) : TwoI N W0 pb qb S T F G F2 G2 u :=
  ⟨(PO.frm _ _).fr h.p hf (fun k hk e => n1 (e ▸ hk)), (PO.frm _ _).fr h.q hf (fun k hk e => n2 (e ▸ hk)), h.apt, Fr.toBelow h.bel hf (fun k e => by subst e; exact hg) hN, h.lowF, h.lowQ⟩
/-- What is new to both. -/
theorem TwoI.new2 (h : TwoI N W0 pb qb S T F G F2 G2 w) (hN : N ≤ W0.heap.size) {k : Nat} (hk : w.heap.size ≤ k) : N ≤ k ∧ ¬ G k ∧ ¬ G2 k :=
  ⟨Nat.le_trans (Nat.le_trans hN h.bel.size) hk, fun hf => by have := (PO.frm _ _).lt h.p k hf; omega, fun hf => by have := (PO.frm _ _).lt h.q k hf; omega⟩
end
theorem flat_bE (l : List Int) : l.flatMap bE = l.map (fun x => .int .u8 x) := by
  induction l with
  | nil => rfl
  | cons x r ih => rw [List.flatMap_cons, ih]; rfl
/-- A byte of a row, written. -/
theorem row_set {W : World} {B g n c j : Nat} {T : TypeId} {ys : List Int} (h : W.ownsRow B T 1 (.slice (some ⟨g, 0, none⟩) n c) n (ys.flatMap bE)) (z : Int) : (W.setCell ⟨g, j, none⟩ (.int .u8 z)).ownsRow B T 1 (.slice (some ⟨g, 0, none⟩) n c) n ((ys.set j z).flatMap bE) := by
  have := (h.stored j (.int .u8 z)).1
  rw [flat_bE] at this
  rw [flat_bE, List.map_set]
  exact this
theorem row_some {W : World} {B n k : Nat} {T : TypeId} {p : Option Addr} {c : Nat} {xs : List Value} (h : W.ownsRow B T k (.slice p n c) n xs) (hn : 0 < n) : ∃ g, p = some ⟨g, 0, none⟩ := by
  rcases h.2 with ⟨_, e⟩ | ⟨g, cap, cur, e, _⟩
  · omega
  · exact ⟨g, (Value.slice.inj e).1⟩
theorem row_get {W : World} {B g n c j : Nat} {T : TypeId} {ys : List Int} (h : W.ownsRow B T 1 (.slice (some ⟨g, 0, none⟩) n c) n (ys.flatMap bE)) (hj : j < n) : ∃ y : Int, W.cell? ⟨g, j, none⟩ = some (.int .u8 y) := by
  have h1 := h.cellAt j (by omega)
  have hl : ys.length = n := by have := h.1; rw [flat_len8 bE_len] at this; omega
  rw [flat_bE, List.getElem?_map, List.getElem?_eq_getElem (by omega)] at h1
  exact ⟨_, h1⟩
theorem row_any {W : World} {B g n c j k : Nat} {T : TypeId} {xs : List Value} (h : W.ownsRow B T k (.slice (some ⟨g, 0, none⟩) n c) n xs) (hj : j < n * k) : ∃ y, W.cell? ⟨g, j, none⟩ = some y := by
  have h1 := h.cellAt j hj
  rw [List.getElem?_eq_getElem (by rw [h.1]; exact hj)] at h1
  exact ⟨_, h1⟩
/-- An append of bytes, wherever they lie, to nothing. -/
theorem wpList_append_h {P : Program} (w : World) {ops : Array Oper} {rest : List Oper} {o : Oper} {a : Act} {Q : Exit → Act → World → Prop} (hgd : o.guard = none) (s x : Operand) (t : TypeId)
    (ho : o.op = .call { callee := .builtin .append, args := #[s, x], argTypes := #[t, t] })
    (e : TypeId) (i : TypeInfo) (z : Value) (bytes : Nat) (ht : P.underlying t = some (.slice e)) (hi : P.info? e = some i) (hz : i.zero = some z)
    (hsize : i.size = 1) (hby : i.bytes = bytes) (hzs : z.cells.size = 1) (hs : a.eval s = .slice none 0 0) (l : List Int) (X : Value) (hx : a.eval x = X) (hX : HoldsW bE 1 w X l)
    (h63 : l.length ≤ maxLen) (hbytes : l.length * bytes ≤ 140737488355328)
    (h : ∀ v' w', w'.ownsRow w.heap.size e 1 v' l.length (l.flatMap bE) → Below w.heap.size w w' → wpList P ops Q rest (a.put o.dst v') w') : wpList P ops Q (o :: rest) a w := by
  obtain ⟨p, c, rfl⟩ := hX.form
  cases p with
  | none =>
    have h0 : l = [] := by
      rcases hX with ⟨_, e⟩ | ⟨g, o', cap, e, _⟩
      · exact e
      · cases e
    subst h0
    refine wpList_plain hgd fun K hK => ?_
    have hr : (Builtin.append_ #[t, t] o.type #[.slice none 0 0, .slice none 0 c]).run P w = .ok (.slice none 0 0) w := by
      simp [Builtin.append_, run_underlying ht, sizeOf, typeInfo, hi, Builtin.lenOf, Builtin.firstCells, loadCells, loadCellsFrom]
    unfold Oper.wp execOp
    simp only [ho, resolve, invoke, builtin, Sem.run_bind, Sem.run_pure, Result.andThen_ok, List.map_toArray, List.map_cons, List.map_nil, hs, hx]
    dsimp only [List.length_nil] at *
    rw [hr]
    exact hK _ _ (h _ w (World.ownsRow_nil _ _ _ _) (Below.refl _ _))
  | some ad =>
    obtain ⟨g, o', sp⟩ := ad
    have hsx : ∀ j u, (l.flatMap bE)[j]? = some u → w.cell? ((⟨g, o', sp⟩ : Addr).add j) = some u := by
      rcases hX with ⟨_, e⟩ | ⟨g', o'', cap, e, _, hc⟩
      · subst e; intro j u hu; simp at hu
      · injection e with e1 e2 e3
        injection e1 with e1
        cases e1
        exact holds_flat bE_len (by omega) hc
    refine wpList_append_own _ hgd s x t ho w.heap.size e i z 1 bytes ht hi hz hsize hby hzs (by decide) _ 0 [] hs (World.ownsRow_nil _ _ _ _) ⟨g, o', sp⟩ l.length c (l.flatMap bE) hx (by rw [flat_len8 bE_len]) hsx (one_cells8 bE_one _) (by omega) (by rw [Nat.zero_add]; exact hbytes) (Nat.le_refl _) ?_
    intro v' w' h1 h2 _
    rw [Nat.zero_add, List.nil_append] at h1
    exact h v' w' h1 (Below.grown (Below.refl _ _) h2 (Nat.le_refl _) (fun k hk => by cases hk))
set_option maxRecDepth 100000 in
set_option maxHeartbeats 16000000 in
theorem own_walk (v1 v2 : Value) (lp ls : List Int) (l : List Cl) (v : Value) (w : World) (hv1 : InB w v1 lp) (hv2 : InB w v2 ls) (hv : HoldsW clE 5 w v l) (hg : ∀ x ∈ l, clG x) (hl : l.length ≤ 9223372036854775807) (hlt : 0 < l.length → ∀ g, v.ownBlock = some g → g < w.heap.size) :
    Calls Try.prog 6 #[.agg #[v1, v2], v] w fun e w' => e = .returned (.bool true) ∧ Below w.heap.size w w' := by
  obtain ⟨pv, cv, rfl⟩ := hv.form
  obtain ⟨p1, c1, rfl⟩ := hv1.1.form
  obtain ⟨p2, c2, rfl⟩ := hv2.1.form
  have HV1 := Lib.hid hv1
  have HV := Lib.hid hv
  have HG := Lib.hid hg
  have HF := Lib.hid (fun W => few11_c lp.length ls.length l.length p1 p2 pv c1 c2 cv W)
  have HFA := Lib.hid (fun h => few_parts (p := lp.length) (s := ls.length) (n := l.length) h)
  have HN := Lib.hid (fun W v (hW : Below w.heap.size w W) (h : HoldsW bE 1 W v lp) (h1 : lp.length ≤ 65536) (h2 : ls.length ≤ 65536) => newp_c lp ls h1 h2 v _ W h (hv2.1.below hW))
  clear hv1 hv2 hv hg hl hlt
  generalize hlp : lp.length = n1 at *
  generalize hls : ls.length = n2 at *
  generalize hln : l.length = n at *
  have HLN := Lib.hid (And.intro hlp (And.intro hls hln))
  clear hlp hls hln
  cases hF : fewB n1 n2 n
  · rw [hF] at HF
    clear HFA hF
    go_enter Try.func6, Try.ntmps6
    go_wp2_with fail
    ((with_reducible refine (HF.out _).mono ?_); rintro _ w1 ⟨rfl, hb⟩)
    have hz := hb.size
    (try simp only [World.size_alloc, World.size_setCell, World.size_drew] at hz)
    have hB' : Below w.heap.size w w1 := by
        refine kb ?_ hb
        go_grown
    clear hb hz
    have hB := hB'; clear hB'
    have hsz := hB.size
    go_wp2_with fail
    ((with_reducible refine (awake11_c _).mono ?_); rintro _ w2 ⟨rfl, hb⟩)
    have hz := hb.size
    (try simp only [World.size_alloc, World.size_setCell, World.size_drew] at hz)
    have hB' : Below w.heap.size w w2 := by
        refine kb ?_ hb
        go_grown
    clear hB hsz
    clear hb hz
    have hB := hB'; clear hB'
    have hsz := hB.size
    go_wp2
    go_ret
    exact ⟨rfl, by go_grown⟩
  rw [hF] at HF
  obtain ⟨hn1, hn2, hn⟩ := HFA.out hF
  clear HFA hF
  obtain ⟨i0, hi, hz0, hz1, hz2⟩ := info_parts Try.infoU8
  go_enter Try.func6, Try.ntmps6
  go_wp2_with fail
  obtain ⟨W0, hW0⟩ : ∃ W, W = w.alloc (.cells #[.slice p1 n1 c1, .slice p2 n2 c2] 24) := ⟨_, rfl⟩
  have b0 : W0.cell? ⟨w.heap.size, 0, none⟩ = some (.slice p1 n1 c1) := by rw [hW0]; go_simp; first | done | rfl
  have b1 : W0.cell? ⟨w.heap.size, 1, none⟩ = some (.slice p2 n2 c2) := by rw [hW0]; go_simp; first | done | rfl
  have hWs : W0.heap.size = w.heap.size + 1 := by rw [hW0]; simp
  have HW0 := Lib.hid (show Below w.heap.size w W0 from by rw [hW0]; exact (Below.refl _ _).alloc (Nat.le_refl _) _)
  rw [← hW0]
  clear hW0
  refine (HF.out _).mono ?_
  rintro _ w1 ⟨rfl, hb⟩
  have HB1 := Lib.hid hb
  have x0 := kc hb b0
  have x1 := kc hb b1
  have hxl := klt x0
  clear hb
  go_wp2_with (at_builtin; refine wpList_append_h _ rfl _ _ 22 rfl 5 i0 _ 1 Try.underlying22 hi hz0 hz1 hz2 rfl rfl lp _ rfl ?c0 ?c1 ?c2 ?_)
  case c0 => rw [← HLN.out.1]; exact (HLN.out.1.symm ▸ HV1.out.1).below (kb HW0.out HB1.out)
  case c1 => rw [HLN.out.1]; unfold maxLen; omega
  case c2 => rw [HLN.out.1]; omega
  intro va w2 hown hb
  rw [HLN.out.1] at hown
  have HB2 := Lib.hid (kb HB1.out hb)
  have HA := Lib.hid hown
  have x0 := kc hb x0
  have x1 := kc hb x1
  have hxl := klt x0
  have hz1' := HB1.out.size
  obtain ⟨pa, ca, rfl⟩ := own_form hown
  clear hown hb HB1
  go_wp2_with fail
  refine (HN.out _ _ (kb HW0.out HB2.out) (HoldsW.own (l := lp) bE_len (by rw [HLN.out.1]; exact HA.out)) (by omega) (by omega)).mono ?_
  rintro _ w3 ⟨pb, F, G, rfl, hP, hG, hpb, hb⟩
  unfold okV
  have HB3 := Lib.hid (kb HB2.out hb)
  have HP := Lib.hid (And.intro hP hG)
  have HA3 := Lib.hid (own_below HA.out hb)
  have HAl := Lib.hid (fun k hk => HA.out.lt k hk)
  have x0 := kc hb x0
  have x1 := kc hb x1
  have hxl := klt x0
  clear hb hP hG hpb HA
  go_wp2_with fail
  refine (HN.out _ _ (kb HW0.out HB3.out) (HV1.out.1.below (kb HW0.out HB3.out)) (by omega) (by omega)).mono ?_
  rintro _ w4 ⟨qb, F2, G2, rfl, hQ, hG2, hqb, hb⟩
  unfold okV
  have hz2' := HB2.out.size
  have hz3' := HB3.out.size
  have HI := Lib.hid (show TwoI (w.heap.size + 1) W0 pb qb ⟨lp, ls, [], [], [], []⟩ ⟨lp, ls, [], [], [], []⟩ F G F2 G2 w4 from
    ⟨(PO.frm _ _).below HP.out.1 hb, hQ, (Apart.fresh (PO.frm _ _) HP.out.1 hG2 (fun b hf => (PO.frm _ _).sub hQ b hf)).symm, by have := kb HB3.out hb; rw [hWs] at this; exact this,
      fun k hk => by have := HP.out.2 k ((PO.frm _ _).sub HP.out.1 k hk); omega, fun k hk => by have := hG2 k ((PO.frm _ _).sub hQ k hk); omega⟩)
  have HA4 := Lib.hid (own_low (B' := w.heap.size + 1) (own_below HA3.out hb) (by omega))
  have HAn := Lib.hid (show ∀ k, (Value.slice pa n1 ca).ownBlock = some k → w.heap.size + 1 ≤ k ∧ ¬ G k ∧ ¬ G2 k from fun k hk => by
    have h1 := HAl.out k hk
    have h2 := (HA3.out.lt k hk).2
    refine ⟨by omega, fun hf => ?_, fun hf => ?_⟩
    · have := HP.out.2 k hf; omega
    · have := hG2 k hf; omega)
  have HFit := Lib.hid (fit_new (lp := lp) (ls := ls) (by rw [HLN.out.1]; exact hn1) (by rw [HLN.out.2.1]; exact hn2))
  clear hb hQ hG2 hqb HP HB3 HB2 x0 x1 hxl hz1' hz2' hz3' HA3 HAl
  go_wp2_with fail
  go_loopg [10] n1 (fun kx s wr => ∃ j : Nat, s = .int .i64 j ∧ j ≤ n1 ∧ n1 - j ≤ kx ∧ Hid (TwoI (w.heap.size + 1) W0 pb qb ⟨lp, ls, [], [], [], []⟩ ⟨lp, ls, [], [], [], []⟩ F G F2 G2 wr ∧ ∃ ys : List Int, wr.ownsRow (w.heap.size + 1) 5 1 (.slice pa n1 ca) n1 (ys.flatMap bE)))
  case atStart => exact ⟨0, by simp, Nat.zero_le _, by omega, Lib.hid ⟨HI.out, lp, HA4.out⟩⟩
  case round =>
    obtain ⟨j, rfl, hj, hjx, HR⟩ := hrel
    by_cases hjl : j < n1
    · obtain ⟨hT, ys, hown⟩ := HR.out
      obtain ⟨g, rfl⟩ := row_some hown (by omega)
      obtain ⟨q1, q2, q3⟩ := HAn.out g rfl
      have y0 := row_get hown hjl
      have f0 := hown.frozenAt j
      obtain ⟨y, y0⟩ := y0
      have hgl := klt y0
      have HS := Lib.hid (fun z => And.intro (hT.other (by omega) ((Fr.refl _ wr).setCell ⟨g, j, none⟩ (.int .u8 z) (fun _ => rfl)) q1 q2 q3) (row_set (j := j) hown z))
      have hinj : (0 : Int) ≤ (j : Int) ∧ (j : Int) < (n1 : Int) := by omega
      clear hT hown HR q1 q2 q3
      go_wp2_with fail
      go_roundg (n1 - (j + 1))
      case measure => omega
      case rel => exact ⟨j + 1, by go_num, by omega, by omega, Lib.hid ⟨(HS.out _).1, _, (HS.out _).2⟩⟩
    · have hge : (n1 : Int) ≤ (j : Int) := by omega
      have HI := Lib.hid HR.out.1
      clear HR HAn HA4
      go_wp2_with fail
      obtain ⟨wm, hwm⟩ : ∃ W, W = wr := ⟨_, rfl⟩
      rw [← hwm] at HI ⊢
      clear hwm
      go_loopg [11] n (fun kx s wr => ∃ k : Nat, s = .int .i64 k ∧ k ≤ n ∧ n - k ≤ kx ∧ Hid (∃ S F G F2 G2, TwoI (w.heap.size + 1) W0 pb qb S S F G F2 G2 wr ∧ Fit S))
      case atStart => exact ⟨0, by simp, Nat.zero_le _, by omega, Lib.hid ⟨_, _, _, _, _, HI.out, HFit.out⟩⟩
      case round =>
        obtain ⟨k, rfl, hk, hkx, HR⟩ := hrel
        obtain ⟨S, F, G, F2, G2, hT, hFS⟩ := HR.out
        have HT := Lib.hid hT
        have HFt := Lib.hid hFS
        have hBwz := hT.bel.size
        have HBw := Lib.hid (HW0.out.trans (hT.bel.mono (by omega)))
        clear hT hFS HR
        by_cases hlt : k < n
        · have hd : decide ((k : Int) < (n : Int)) = true := decide_eq_true (by omega)
          have hkl : k < l.length := by have := HLN.out.2.2; omega
          obtain ⟨g, o, cap, e1, _, hc⟩ := HV.out.some (by omega)
          rw [HLN.out.2.2] at e1
          obtain ⟨rfl, -, rfl⟩ := Value.slice.inj e1
          obtain ⟨z0, z1, z2, z3, z4⟩ := cl_at (N := 0) (n := n) (c := 0) hc HBw.out hkl
          have hgd := HG.out l[k] (List.getElem_mem hkl)
          generalize l[k] = X at *
          obtain ⟨xa, xr, xv, xt, xc⟩ := X
          obtain ⟨-, hxv, hxt⟩ := hgd
          dsimp only at z0 z1 z2 z3 z4 hxt hxv
          have hgl := klt z0
          have hin : (0 : Int) ≤ (k : Int) ∧ (k : Int) < (n : Int) := by omega
          have hBr := Below.refl wr.heap.size wr
          clear e1 hc hkl
          have HT1 := Lib.hid (HT.out.below (u := wr.alloc (.cells #[.int .i64 xa, .int .i64 xr, .int .u8 xv, .int .u8 xt, .int .i64 xc] 42)) (by omega) ((Below.refl _ _).alloc (Nat.le_refl _) _))
          have nF := HT.out.newF (Nat.le_refl _)
          by_cases ha : xa = 0
          · subst ha
            have HFt' := Lib.hid (HFt.out.op 0 xr 0 0 0)
            have HRP := Lib.hid (fun W (hW : PO pb S F G W) => readp_c pb S F G xr HFt.out.cyc W hW)
            have HRQ := Lib.hid (fun W (hW : PO qb S F2 G2 W) => readp_c qb S F2 G2 xr HFt.out.cyc W hW)
            have e : opS S 0 xr 0 0 0 = readS S xr := rfl
            rw [e] at HFt'
            clear e
            generalize readS S xr = S' at *
            go_wp2_with fail
            refine (HRP.out _ HT1.out.p).mono ?_
            rintro _ u1 ⟨rfl, F', G', hP, hM⟩
            have HT2 := Lib.hid (HT1.out.move (by omega) hM hP)
            have r1 : u1.cell? ⟨wr.heap.size, 1, none⟩ = some (.int .i64 xr) := hM.cell (by go_simp; first | done | rfl) nF
            have hzu : wr.heap.size < u1.heap.size := klt r1
            clear hP hM hBr nF
            unfold readV
            go_wp2_with fail
            refine (HRQ.out _ HT2.out.q).mono ?_
            rintro _ u2 ⟨rfl, F3, G3, hP, hM⟩
            have HT3 := Lib.hid (HT2.out.moveQ (by omega) hM hP)
            clear hP hM r1
            unfold readV
            go_wp2_with fail
            refine (out_b pb _ HFt'.out _ _ _ HT3.out.p).mono ?_
            rintro _ u3 ⟨vo, rfl, ho, hb⟩
            have HT4 := Lib.hid (HT3.out.below (by omega) hb)
            have HO3 := Lib.hid ho
            have HOn := Lib.hid (fun k hk => HT3.out.new2 (by omega) (ho.lt k hk).1)
            have HOl := Lib.hid (fun k hk => (ho.lt k hk).2)
            have hbo1 := HFt'.out.out
            generalize S'.out.length = no at *
            generalize S'.out = xo at *
            obtain ⟨qo, co, rfl⟩ := own_form ho
            clear hb ho
            go_wp2_with fail
            refine (out_k pb _ HFt'.out _ _ _ HT4.out.p).mono ?_
            rintro _ u4 ⟨vk, rfl, ho, hb⟩
            have HT5 := Lib.hid (HT4.out.below (by omega) hb)
            have HK4 := Lib.hid ho
            have HO4 := Lib.hid (own_below HO3.out hb)
            have HKn := Lib.hid (fun k hk => HT4.out.new2 (by omega) (ho.lt k hk).1)
            have HKl := Lib.hid (fun k hk => ho.lt k hk)
            have hbo2 := HFt'.out.kept
            generalize S'.kept.length = nk at *
            generalize S'.kept.flatMap kE = xk at *
            obtain ⟨qk, ck, rfl⟩ := own_form ho
            clear hb ho HO3
            go_wp2_with fail
            refine (out_e pb _ HFt'.out _ _ _ HT5.out.p).mono ?_
            rintro _ u5 ⟨vg, rfl, ho, hb⟩
            have HT6 := Lib.hid (HT5.out.below (by omega) hb)
            have HK5 := Lib.hid (own_low (B' := w.heap.size + 1) (own_below HK4.out hb) (by have h1 := HT4.out.bel.size; omega))
            have HO5 := Lib.hid (own_low (B' := w.heap.size + 1) (own_below HO4.out hb) (by have h1 := HT3.out.bel.size; omega))
            have HGn := Lib.hid (fun k hk => HT5.out.new2 (by omega) (ho.lt k hk).1)
            have hbo3 : S'.log.length ≤ 4096 := by rw [HFt'.out.log]; exact HFt'.out.told
            have HG5 := Lib.hid (own_low (B' := w.heap.size + 1) ho (by have h1 := HT5.out.bel.size; omega))
            generalize S'.log.length = ng at *
            generalize S'.log.flatMap eE = xg at *
            obtain ⟨qg, cg, rfl⟩ := own_form ho
            have HS1 := Lib.hid (show ∀ k, (Value.slice qo no co).ownBlock = some k → (Value.slice qk nk ck).ownBlock ≠ some k ∧ (Value.slice qg ng cg).ownBlock ≠ some k from fun k hk => by
              have h1 := HOl.out k hk
              refine ⟨fun e => ?_, fun e => ?_⟩
              · have := (HKl.out k e).1; omega
              · have h2 := (ho.lt k e).1; have h3 := hb.size; have h4 := HO4.out.lt k hk; omega)
            have HS2 := Lib.hid (show ∀ k, (Value.slice qk nk ck).ownBlock = some k → (Value.slice qg ng cg).ownBlock ≠ some k from fun k hk e => by
              have h1 := (HKl.out k hk).2
              have h2 := (ho.lt k e).1
              omega)
            clear hb ho HO4 HK4 HT4 HT5 HOl HKl
            go_wp2_with fail
            go_loopg [16] no (fun kx s wr => ∃ j : Nat, s = .int .i64 j ∧ j ≤ no ∧ no - j ≤ kx ∧ Hid (TwoI (w.heap.size + 1) W0 pb qb S' S' F' G' F3 G3 wr ∧ ∃ ys : List Int, wr.ownsRow (w.heap.size + 1) 5 1 (.slice qo no co) no (ys.flatMap bE)) ∧ Hid (wr.ownsRow (w.heap.size + 1) 40 2 (.slice qk nk ck) nk xk ∧ wr.ownsRow (w.heap.size + 1) 58 2 (.slice qg ng cg) ng xg))
            case atStart => exact ⟨0, by simp, Nat.zero_le _, by omega, Lib.hid ⟨HT6.out, _, HO5.out⟩, Lib.hid ⟨HK5.out, HG5.out⟩⟩
            case round =>
              obtain ⟨j1, rfl, hj1, hjx1, HR, HRK⟩ := hrel
              by_cases hjl1 : j1 < no
              · obtain ⟨hT, ys, hown⟩ := HR.out
                obtain ⟨g, rfl⟩ := row_some hown (by omega)
                obtain ⟨q1, q2, q3⟩ := HOn.out g rfl
                have y0 := row_get hown hjl1
                have f0 := hown.frozenAt j1
                obtain ⟨y, y0⟩ := y0
                have hgl := klt y0
                have HS := Lib.hid (fun z => And.intro (hT.other (by omega) ((Fr.refl _ wr).setCell ⟨g, j1, none⟩ (.int .u8 z) (fun _ => rfl)) q1 q2 q3) (row_set (j := j1) hown z))
                have hinj1 : (0 : Int) ≤ (j1 : Int) ∧ (j1 : Int) < (no : Int) := by omega
                clear hT hown HR q1 q2 q3
                go_wp2_with fail
                go_roundg (no - (j1 + 1))
                case measure => omega
                case rel => exact ⟨j1 + 1, by go_num, by omega, by omega, Lib.hid ⟨(HS.out _).1, _, (HS.out _).2⟩, Lib.hid ⟨ownsRow_setCell_other HRK.out.1 (HS1.out g rfl).1 _, ownsRow_setCell_other HRK.out.2 (HS1.out g rfl).2 _⟩⟩
              · have hge1 : (no : Int) ≤ (j1 : Int) := by omega
                have HT7 := Lib.hid HR.out.1
                have HRK7 := Lib.hid HRK.out
                clear HR HO5 HT6 HK5 HG5 HRK HS1 HOn
                go_wp2_with fail
                go_loopg [17] nk (fun kx s wr => ∃ j : Nat, s = .int .i64 j ∧ j ≤ nk ∧ nk - j ≤ kx ∧ Hid (TwoI (w.heap.size + 1) W0 pb qb S' S' F' G' F3 G3 wr ∧ ∃ xs, wr.ownsRow (w.heap.size + 1) 40 2 (.slice qk nk ck) nk xs) ∧ Hid (wr.ownsRow (w.heap.size + 1) 58 2 (.slice qg ng cg) ng xg))
                case atStart => exact ⟨0, by simp, Nat.zero_le _, by omega, Lib.hid ⟨HT7.out, _, HRK7.out.1⟩, Lib.hid HRK7.out.2⟩
                case round =>
                  obtain ⟨j2, rfl, hj2, hjx2, HR, HRK⟩ := hrel
                  by_cases hjl2 : j2 < nk
                  · obtain ⟨hT, xs, hown⟩ := HR.out
                    obtain ⟨g, rfl⟩ := row_some hown (by omega)
                    obtain ⟨q1, q2, q3⟩ := HKn.out g rfl
                    obtain ⟨ya, y0⟩ := row_any hown (j := j2 * 2) (by omega)
                    obtain ⟨yb, y1⟩ := row_any hown (j := j2 * 2 + 1) (by omega)
                    have f0 := hown.frozenAt (j2 * 2)
                    have f1 := hown.frozenAt (j2 * 2 + 1)
                    have hgl := klt y0
                    have HS := Lib.hid (And.intro (hT.other (by omega) (((Fr.refl (fun k => k = g) wr).setCell ⟨g, j2 * 2, none⟩ (.int .u8 0) (fun _ => rfl)).setCell ⟨g, j2 * 2 + 1, none⟩ (.int .u8 0) (fun _ => rfl)) q1 q2 q3) ((hown.stored (j2 * 2) (.int .u8 0)).1.stored (j2 * 2 + 1) (.int .u8 0)).1)
                    have hinj2 : (0 : Int) ≤ (j2 : Int) ∧ (j2 : Int) < (nk : Int) := by omega
                    clear hT hown HR q1 q2 q3
                    go_wp2_with fail
                    go_roundg (nk - (j2 + 1))
                    case measure => omega
                    case rel => exact ⟨j2 + 1, by go_num, by omega, by omega, Lib.hid ⟨HS.out.1, _, HS.out.2⟩, Lib.hid (ownsRow_setCell_other (ownsRow_setCell_other HRK.out (HS2.out g rfl) _) (HS2.out g rfl) _)⟩
                  · have hge2 : (nk : Int) ≤ (j2 : Int) := by omega
                    have HT8 := Lib.hid HR.out.1
                    have HRK8 := Lib.hid HRK.out
                    clear HR HRK HT7 HRK7 HS2 HKn
                    go_wp2_with fail
                    go_loopg [18] ng (fun kx s wr => ∃ j : Nat, s = .int .i64 j ∧ j ≤ ng ∧ ng - j ≤ kx ∧ Hid (TwoI (w.heap.size + 1) W0 pb qb S' S' F' G' F3 G3 wr ∧ ∃ xs, wr.ownsRow (w.heap.size + 1) 58 2 (.slice qg ng cg) ng xs))
                    case atStart => exact ⟨0, by simp, Nat.zero_le _, by omega, Lib.hid ⟨HT8.out, _, HRK8.out⟩⟩
                    case round =>
                      obtain ⟨j3, rfl, hj3, hjx3, HR⟩ := hrel
                      by_cases hjl3 : j3 < ng
                      · obtain ⟨hT, xs, hown⟩ := HR.out
                        obtain ⟨g, rfl⟩ := row_some hown (by omega)
                        obtain ⟨q1, q2, q3⟩ := HGn.out g rfl
                        obtain ⟨ya, y0⟩ := row_any hown (j := j3 * 2) (by omega)
                        obtain ⟨yb, y1⟩ := row_any hown (j := j3 * 2 + 1) (by omega)
                        have f0 := hown.frozenAt (j3 * 2)
                        have f1 := hown.frozenAt (j3 * 2 + 1)
                        have hgl := klt y0
                        have HS := Lib.hid (And.intro (hT.other (by omega) (((Fr.refl (fun k => k = g) wr).setCell ⟨g, j3 * 2, none⟩ (.int .i64 0) (fun _ => rfl)).setCell ⟨g, j3 * 2 + 1, none⟩ (.int .u8 0) (fun _ => rfl)) q1 q2 q3) ((hown.stored (j3 * 2) (.int .i64 0)).1.stored (j3 * 2 + 1) (.int .u8 0)).1)
                        have hinj3 : (0 : Int) ≤ (j3 : Int) ∧ (j3 : Int) < (ng : Int) := by omega
                        clear hT hown HR q1 q2 q3
                        go_wp2_with fail
                        go_roundg (ng - (j3 + 1))
                        case measure => omega
                        case rel => exact ⟨j3 + 1, by go_num, by omega, by omega, Lib.hid ⟨HS.out.1, _, HS.out.2⟩⟩
                      · have hge3 : (ng : Int) ≤ (j3 : Int) := by omega
                        have HT9 := Lib.hid HR.out.1
                        clear HR HT8 HRK8
                        go_wp2
                        go_roundg (n - (k + 1))
                        case measure => omega
                        case rel => exact ⟨k + 1, by go_num, by omega, by omega, Lib.hid ⟨_, _, _, _, _, HT9.out, HFt'.out⟩⟩
          · have ha0 : (xa == 0) = false := by simpa using ha
            have HFt' := Lib.hid (HFt.out.op 1 xr xv xt xc)
            have HRP := Lib.hid (fun W (hW : PO pb S F G W) => writep_c pb S F G xr xv xt xc hxt HFt.out.cyc W hW)
            have HRQ := Lib.hid (fun W (hW : PO qb S F2 G2 W) => writep_c qb S F2 G2 xr xv xt xc hxt HFt.out.cyc W hW)
            have e : opS S 1 xr xv xt xc = writeP S xr xv xt xc := rfl
            rw [e] at HFt'
            clear e ha
            generalize writeP S xr xv xt xc = S' at *
            go_wp2_with fail
            refine (HRP.out _ HT1.out.p).mono ?_
            rintro _ u1 ⟨rfl, F', G', hP, hM⟩
            have HT2 := Lib.hid (HT1.out.move (by omega) hM hP)
            have r1 : u1.cell? ⟨wr.heap.size, 1, none⟩ = some (.int .i64 xr) := hM.cell (by go_simp; first | done | rfl) nF
            have r2 : u1.cell? ⟨wr.heap.size, 2, none⟩ = some (.int .u8 xv) := hM.cell (by go_simp; first | done | rfl) nF
            have r3 : u1.cell? ⟨wr.heap.size, 3, none⟩ = some (.int .u8 xt) := hM.cell (by go_simp; first | done | rfl) nF
            have r4 : u1.cell? ⟨wr.heap.size, 4, none⟩ = some (.int .i64 xc) := hM.cell (by go_simp; first | done | rfl) nF
            have hzu : wr.heap.size < u1.heap.size := klt r1
            clear hP hM hBr nF
            unfold writeV
            go_wp2_with fail
            refine (HRQ.out _ HT2.out.q).mono ?_
            rintro _ u2 ⟨rfl, F3, G3, hP, hM⟩
            have HT3 := Lib.hid (HT2.out.moveQ (by omega) hM hP)
            clear hP hM r1 r2 r3 r4
            unfold writeV
            go_wp2_with fail
            refine (out_b pb _ HFt'.out _ _ _ HT3.out.p).mono ?_
            rintro _ u3 ⟨vo, rfl, ho, hb⟩
            have HT4 := Lib.hid (HT3.out.below (by omega) hb)
            have HO3 := Lib.hid ho
            have HOn := Lib.hid (fun k hk => HT3.out.new2 (by omega) (ho.lt k hk).1)
            have HOl := Lib.hid (fun k hk => (ho.lt k hk).2)
            have hbo1 := HFt'.out.out
            generalize S'.out.length = no at *
            generalize S'.out = xo at *
            obtain ⟨qo, co, rfl⟩ := own_form ho
            clear hb ho
            go_wp2_with fail
            refine (out_k pb _ HFt'.out _ _ _ HT4.out.p).mono ?_
            rintro _ u4 ⟨vk, rfl, ho, hb⟩
            have HT5 := Lib.hid (HT4.out.below (by omega) hb)
            have HK4 := Lib.hid ho
            have HO4 := Lib.hid (own_below HO3.out hb)
            have HKn := Lib.hid (fun k hk => HT4.out.new2 (by omega) (ho.lt k hk).1)
            have HKl := Lib.hid (fun k hk => ho.lt k hk)
            have hbo2 := HFt'.out.kept
            generalize S'.kept.length = nk at *
            generalize S'.kept.flatMap kE = xk at *
            obtain ⟨qk, ck, rfl⟩ := own_form ho
            clear hb ho HO3
            go_wp2_with fail
            refine (out_e pb _ HFt'.out _ _ _ HT5.out.p).mono ?_
            rintro _ u5 ⟨vg, rfl, ho, hb⟩
            have HT6 := Lib.hid (HT5.out.below (by omega) hb)
            have HK5 := Lib.hid (own_low (B' := w.heap.size + 1) (own_below HK4.out hb) (by have h1 := HT4.out.bel.size; omega))
            have HO5 := Lib.hid (own_low (B' := w.heap.size + 1) (own_below HO4.out hb) (by have h1 := HT3.out.bel.size; omega))
            have HGn := Lib.hid (fun k hk => HT5.out.new2 (by omega) (ho.lt k hk).1)
            have hbo3 : S'.log.length ≤ 4096 := by rw [HFt'.out.log]; exact HFt'.out.told
            have HG5 := Lib.hid (own_low (B' := w.heap.size + 1) ho (by have h1 := HT5.out.bel.size; omega))
            generalize S'.log.length = ng at *
            generalize S'.log.flatMap eE = xg at *
            obtain ⟨qg, cg, rfl⟩ := own_form ho
            have HS1 := Lib.hid (show ∀ k, (Value.slice qo no co).ownBlock = some k → (Value.slice qk nk ck).ownBlock ≠ some k ∧ (Value.slice qg ng cg).ownBlock ≠ some k from fun k hk => by
              have h1 := HOl.out k hk
              refine ⟨fun e => ?_, fun e => ?_⟩
              · have := (HKl.out k e).1; omega
              · have h2 := (ho.lt k e).1; have h3 := hb.size; have h4 := HO4.out.lt k hk; omega)
            have HS2 := Lib.hid (show ∀ k, (Value.slice qk nk ck).ownBlock = some k → (Value.slice qg ng cg).ownBlock ≠ some k from fun k hk e => by
              have h1 := (HKl.out k hk).2
              have h2 := (ho.lt k e).1
              omega)
            clear hb ho HO4 HK4 HT4 HT5 HOl HKl
            go_wp2_with fail
            go_loopg [16] no (fun kx s wr => ∃ j : Nat, s = .int .i64 j ∧ j ≤ no ∧ no - j ≤ kx ∧ Hid (TwoI (w.heap.size + 1) W0 pb qb S' S' F' G' F3 G3 wr ∧ ∃ ys : List Int, wr.ownsRow (w.heap.size + 1) 5 1 (.slice qo no co) no (ys.flatMap bE)) ∧ Hid (wr.ownsRow (w.heap.size + 1) 40 2 (.slice qk nk ck) nk xk ∧ wr.ownsRow (w.heap.size + 1) 58 2 (.slice qg ng cg) ng xg))
            case atStart => exact ⟨0, by simp, Nat.zero_le _, by omega, Lib.hid ⟨HT6.out, _, HO5.out⟩, Lib.hid ⟨HK5.out, HG5.out⟩⟩
            case round =>
              obtain ⟨j1, rfl, hj1, hjx1, HR, HRK⟩ := hrel
              by_cases hjl1 : j1 < no
              · obtain ⟨hT, ys, hown⟩ := HR.out
                obtain ⟨g, rfl⟩ := row_some hown (by omega)
                obtain ⟨q1, q2, q3⟩ := HOn.out g rfl
                have y0 := row_get hown hjl1
                have f0 := hown.frozenAt j1
                obtain ⟨y, y0⟩ := y0
                have hgl := klt y0
                have HS := Lib.hid (fun z => And.intro (hT.other (by omega) ((Fr.refl _ wr).setCell ⟨g, j1, none⟩ (.int .u8 z) (fun _ => rfl)) q1 q2 q3) (row_set (j := j1) hown z))
                have hinj1 : (0 : Int) ≤ (j1 : Int) ∧ (j1 : Int) < (no : Int) := by omega
                clear hT hown HR q1 q2 q3
                go_wp2_with fail
                go_roundg (no - (j1 + 1))
                case measure => omega
                case rel => exact ⟨j1 + 1, by go_num, by omega, by omega, Lib.hid ⟨(HS.out _).1, _, (HS.out _).2⟩, Lib.hid ⟨ownsRow_setCell_other HRK.out.1 (HS1.out g rfl).1 _, ownsRow_setCell_other HRK.out.2 (HS1.out g rfl).2 _⟩⟩
              · have hge1 : (no : Int) ≤ (j1 : Int) := by omega
                have HT7 := Lib.hid HR.out.1
                have HRK7 := Lib.hid HRK.out
                clear HR HO5 HT6 HK5 HG5 HRK HS1 HOn
                go_wp2_with fail
                go_loopg [17] nk (fun kx s wr => ∃ j : Nat, s = .int .i64 j ∧ j ≤ nk ∧ nk - j ≤ kx ∧ Hid (TwoI (w.heap.size + 1) W0 pb qb S' S' F' G' F3 G3 wr ∧ ∃ xs, wr.ownsRow (w.heap.size + 1) 40 2 (.slice qk nk ck) nk xs) ∧ Hid (wr.ownsRow (w.heap.size + 1) 58 2 (.slice qg ng cg) ng xg))
                case atStart => exact ⟨0, by simp, Nat.zero_le _, by omega, Lib.hid ⟨HT7.out, _, HRK7.out.1⟩, Lib.hid HRK7.out.2⟩
                case round =>
                  obtain ⟨j2, rfl, hj2, hjx2, HR, HRK⟩ := hrel
                  by_cases hjl2 : j2 < nk
                  · obtain ⟨hT, xs, hown⟩ := HR.out
                    obtain ⟨g, rfl⟩ := row_some hown (by omega)
                    obtain ⟨q1, q2, q3⟩ := HKn.out g rfl
                    obtain ⟨ya, y0⟩ := row_any hown (j := j2 * 2) (by omega)
                    obtain ⟨yb, y1⟩ := row_any hown (j := j2 * 2 + 1) (by omega)
                    have f0 := hown.frozenAt (j2 * 2)
                    have f1 := hown.frozenAt (j2 * 2 + 1)
                    have hgl := klt y0
                    have HS := Lib.hid (And.intro (hT.other (by omega) (((Fr.refl (fun k => k = g) wr).setCell ⟨g, j2 * 2, none⟩ (.int .u8 0) (fun _ => rfl)).setCell ⟨g, j2 * 2 + 1, none⟩ (.int .u8 0) (fun _ => rfl)) q1 q2 q3) ((hown.stored (j2 * 2) (.int .u8 0)).1.stored (j2 * 2 + 1) (.int .u8 0)).1)
                    have hinj2 : (0 : Int) ≤ (j2 : Int) ∧ (j2 : Int) < (nk : Int) := by omega
                    clear hT hown HR q1 q2 q3
                    go_wp2_with fail
                    go_roundg (nk - (j2 + 1))
                    case measure => omega
                    case rel => exact ⟨j2 + 1, by go_num, by omega, by omega, Lib.hid ⟨HS.out.1, _, HS.out.2⟩, Lib.hid (ownsRow_setCell_other (ownsRow_setCell_other HRK.out (HS2.out g rfl) _) (HS2.out g rfl) _)⟩
                  · have hge2 : (nk : Int) ≤ (j2 : Int) := by omega
                    have HT8 := Lib.hid HR.out.1
                    have HRK8 := Lib.hid HRK.out
                    clear HR HRK HT7 HRK7 HS2 HKn
                    go_wp2_with fail
                    go_loopg [18] ng (fun kx s wr => ∃ j : Nat, s = .int .i64 j ∧ j ≤ ng ∧ ng - j ≤ kx ∧ Hid (TwoI (w.heap.size + 1) W0 pb qb S' S' F' G' F3 G3 wr ∧ ∃ xs, wr.ownsRow (w.heap.size + 1) 58 2 (.slice qg ng cg) ng xs))
                    case atStart => exact ⟨0, by simp, Nat.zero_le _, by omega, Lib.hid ⟨HT8.out, _, HRK8.out⟩⟩
                    case round =>
                      obtain ⟨j3, rfl, hj3, hjx3, HR⟩ := hrel
                      by_cases hjl3 : j3 < ng
                      · obtain ⟨hT, xs, hown⟩ := HR.out
                        obtain ⟨g, rfl⟩ := row_some hown (by omega)
                        obtain ⟨q1, q2, q3⟩ := HGn.out g rfl
                        obtain ⟨ya, y0⟩ := row_any hown (j := j3 * 2) (by omega)
                        obtain ⟨yb, y1⟩ := row_any hown (j := j3 * 2 + 1) (by omega)
                        have f0 := hown.frozenAt (j3 * 2)
                        have f1 := hown.frozenAt (j3 * 2 + 1)
                        have hgl := klt y0
                        have HS := Lib.hid (And.intro (hT.other (by omega) (((Fr.refl (fun k => k = g) wr).setCell ⟨g, j3 * 2, none⟩ (.int .i64 0) (fun _ => rfl)).setCell ⟨g, j3 * 2 + 1, none⟩ (.int .u8 0) (fun _ => rfl)) q1 q2 q3) ((hown.stored (j3 * 2) (.int .i64 0)).1.stored (j3 * 2 + 1) (.int .u8 0)).1)
                        have hinj3 : (0 : Int) ≤ (j3 : Int) ∧ (j3 : Int) < (ng : Int) := by omega
                        clear hT hown HR q1 q2 q3
                        go_wp2_with fail
                        go_roundg (ng - (j3 + 1))
                        case measure => omega
                        case rel => exact ⟨j3 + 1, by go_num, by omega, by omega, Lib.hid ⟨HS.out.1, _, HS.out.2⟩⟩
                      · have hge3 : (ng : Int) ≤ (j3 : Int) := by omega
                        have HT9 := Lib.hid HR.out.1
                        clear HR HT8 HRK8
                        go_wp2
                        go_roundg (n - (k + 1))
                        case measure => omega
                        case rel => exact ⟨k + 1, by go_num, by omega, by omega, Lib.hid ⟨_, _, _, _, _, HT9.out, HFt'.out⟩⟩
        · have hd : decide ((k : Int) < (n : Int)) = false := decide_eq_false (by omega)
          go_wp2_with fail
          refine (readp_nil _ _).mono ?_
          rintro _ u1 ⟨rfl, hb⟩
          have HT1 := Lib.hid (HT.out.below (by omega) hb)
          have hB1 := Below.refl u1.heap.size u1
          clear hb
          go_wp2_with fail
          refine (writep_nil _ _ _ _ _).mono ?_
          rintro _ u2 ⟨rfl, hb⟩
          have HT2 := Lib.hid (HT1.out.below (by omega) (kb (show Below u1.heap.size u1 _ from by go_grown) hb))
          clear hb hB1
          go_wp2_with fail
          refine (lowp_c pb qb _ _ HFt.out (lowR_refl _) _ _ _ _ _ HT2.out.p HT2.out.q).mono ?_
          rintro _ u3 ⟨rfl, hb⟩
          have HT3 := Lib.hid (HT2.out.below (by omega) hb)
          clear hb
          go_wp2_with fail
          refine (out_b_nil _).mono ?_
          rintro _ u4 ⟨rfl, hb⟩
          have HT4 := Lib.hid (HT3.out.below (by omega) hb)
          clear hb
          go_wp2_with fail
          refine (out_k_nil _).mono ?_
          rintro _ u5 ⟨rfl, hb⟩
          have HT5 := Lib.hid (HT4.out.below (by omega) hb)
          clear hb
          go_wp2_with fail
          refine (out_e_nil _).mono ?_
          rintro _ u6 ⟨rfl, hb⟩
          have HT6 := Lib.hid (HT5.out.below (by omega) hb)
          clear hb
          go_wp2_with fail
          refine (left_nil _ _).mono ?_
          rintro _ u7 ⟨rfl, hb⟩
          have HT7 := Lib.hid (HT6.out.below (by omega) hb)
          clear hb
          go_wp2_with fail
          refine (clonep_nil _).mono ?_
          rintro _ u8 ⟨rfl, hb⟩
          have HT8 := Lib.hid (HT7.out.below (by omega) hb)
          clear hb
          go_wp2_with fail
          refine (low_nn _).mono ?_
          rintro _ u9 ⟨rfl, hb⟩
          have HT9 := Lib.hid (HT8.out.below (by omega) hb)
          clear hb
          go_wp2_with fail
          refine (low_np _ _).mono ?_
          rintro _ u10 ⟨rfl, hb⟩
          have HT10 := Lib.hid (HT9.out.below (by omega) hb)
          clear hb
          go_wp2_with fail
          refine (low_pn _ _).mono ?_
          rintro _ u11 ⟨rfl, hb⟩
          have HT11 := Lib.hid (HT10.out.below (by omega) hb)
          clear hb
          go_wp2_with fail
          refine (awake11_c _).mono ?_
          rintro _ u12 ⟨rfl, hb⟩
          have HT12 := Lib.hid (HT11.out.below (by omega) hb)
          clear hb
          go_wp2
          go_ret
          exact ⟨rfl, HW0.out.trans (HT12.out.bel.mono (by omega))⟩
end Go.Proofs.Ytbahjcnamalhcaa
