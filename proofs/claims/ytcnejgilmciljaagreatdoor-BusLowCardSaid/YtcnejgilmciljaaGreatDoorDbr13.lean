/-
  The document's bus: its rows; Read of its ports (gen13.py, off ports' texts).
-/
import Derived.Test.YtcnejgilmciljaaGreatDoorReadr11
import Derived.Test.YtcnejgilmciljaaGreatDoorAt8
set_option linter.unusedSimpArgs false
set_option linter.unusedVariables false
namespace Go.Proofs.YtcnejgilmciljaaGreatDoor
open Go.RowKit Go.PlainAid

/-- The rows of the document's bus: what was put into its memory; what went out by ports. -/
def rB (L : List Pt) (m : Value) (S : Po) (a b c d : Value) : List Rw :=
  [⟨0, 103, 3, L.length, L.flatMap Pt.cells, m⟩, ⟨9, 5, 1, S.out.length, S.out.flatMap bE, a⟩, ⟨10, 49, 2, S.kept.length, S.kept.flatMap kE, b⟩, ⟨11, 3, 1, S.cyc.length, S.cyc.flatMap cE, c⟩, ⟨12, 5, 1, S.told.length, S.told.flatMap bE, d⟩]
/-- All cells of a block stand as they stood, but for those from lo to hi. -/
def Ek (rb lo hi : Nat) (w u : World) : Prop := ∀ j, j < lo ∨ hi < j → u.cell? ⟨rb, j, none⟩ = w.cell? ⟨rb, j, none⟩ ∧ u.frozen? ⟨rb, j, none⟩ = w.frozen? ⟨rb, j, none⟩
theorem Ek.below {rb lo hi : Nat} {w u : World} (h : rb < w.heap.size) (hb : Below w.heap.size w u) : Ek rb lo hi w u := fun j _ => ⟨(bcell hb).1 _ _ h, (bcell hb).2 _ _ h⟩
theorem Ek.trans {rb lo hi : Nat} {w u v : World} (h : Ek rb lo hi w u) (k : Ek rb lo hi u v) : Ek rb lo hi w v := fun j hj => ⟨(k j hj).1.trans (h j hj).1, (k j hj).2.trans (h j hj).2⟩
theorem Ek.ot {rb o lo hi : Nat} {w u : World} (h : Ot rb o w u) (h1 : lo ≤ o) (h2 : o ≤ hi) : Ek rb lo hi w u := fun j hj => ⟨h.ot j (by omega), h.fz j⟩
theorem rB_off (L : List Pt) (m : Value) (S : Po) (a b c d : Value) (o : Nat) (ho : (0 < o ∧ o < 9) ∨ 12 < o) : ∀ (i : Nat) (r : Rw), (rB L m S a b c d)[i]? = some r → r.off ≠ o := fun i r hr => by
  match i, hr with
  | 0, hr => cases hr; dsimp only; omega
  | 1, hr => cases hr; dsimp only; omega
  | 2, hr => cases hr; dsimp only; omega
  | 3, hr => cases hr; dsimp only; omega
  | 4, hr => cases hr; dsimp only; omega
  | n + 5, hr => simp [rB] at hr
/-- The document's ports and memory within its bus at rb. -/
structure Db (rb : Nat) (L : List Pt) (m : Value) (S : Po) (x y a b c d : Value) (w : World) : Prop where
  hold : Hold rb (rB L m S a b c d) w
  p : Inp rb 7 (foot rb (rB L m S a b c d)) x S.pub w
  s : Inp rb 8 (foot rb (rB L m S a b c d)) y S.sec w
theorem Db.below {rb : Nat} {L : List Pt} {m : Value} {S : Po} {x y a b c d : Value} {w u : World} (h : Db rb L m S x y a b c d w) (hb : Below w.heap.size w u) : Db rb L m S x y a b c d u :=
  ⟨h.hold.below hb, h.p.below hb, h.s.below hb⟩
/-- What the document's Read leaves: what goes out lies where it lay. -/
def ReadEndB (rb : Nat) (L : List Pt) (m : Value) (S : Po) (x0 y0 a b c d : Value) (reg : Int) (w : World) : Ending → World → Prop := fun e w' =>
  e = .returned (.tuple #[.agg #[.int .u8 (rdPo S reg).1, .int .u8 (rdPo S reg).2.1], .int .i64 (rdPo S reg).2.2]) ∧ (Fr (fun k => k = rb) w w' ∧ Ek rb 7 8 w w') ∧ ∃ x y, Db rb L m (readS S reg) x y a b c d w' ∧ ((readS S reg).pub ≠ [] → x.ownBlock = x0.ownBlock) ∧ ((readS S reg).sec ≠ [] → y.ownBlock = y0.ownBlock)
theorem Hold.atB {rb : Nat} {L : List Pt} {m : Value} {S : Po} {a b c d : Value} {w : World} (h : Hold rb (rB L m S a b c d) w) :
    (w.cell? ⟨rb, 9, none⟩ = some a ∧ w.ownsRow 0 5 1 a S.out.length (S.out.flatMap bE)) ∧ (w.cell? ⟨rb, 10, none⟩ = some b ∧ w.ownsRow 0 49 2 b S.kept.length (S.kept.flatMap kE)) ∧
    (w.cell? ⟨rb, 11, none⟩ = some c ∧ w.ownsRow 0 3 1 c S.cyc.length (S.cyc.flatMap cE)) ∧ w.cell? ⟨rb, 12, none⟩ = some d ∧ w.ownsRow 0 5 1 d S.told.length (S.told.flatMap bE) :=
  ⟨⟨(h.cell 1 _ rfl).1, (h.own 1 _ rfl).1⟩, ⟨(h.cell 2 _ rfl).1, (h.own 2 _ rfl).1⟩, ⟨(h.cell 3 _ rfl).1, (h.own 3 _ rfl).1⟩, (h.cell 4 _ rfl).1, (h.own 4 _ rfl).1⟩
/-- Another slice in an input's cell. -/
theorem Db.setP {rb : Nat} {L : List Pt} {m : Value} {S : Po} {x y a b c d : Value} {w u : World} (h : Db rb L m S x y a b c d w) (hq : Ot rb 7 w u) (x' : Value) (l' : List Int) (hc : u.cell? ⟨rb, 7, none⟩ = some x') (hx : HoldsW bE 1 w x' l') (hn : l' ≠ [] → ∀ k, x'.ownBlock = some k → ¬ foot rb (rB L m S a b c d) k) :
    Db rb L m ⟨l', S.sec, S.out, S.kept, S.cyc, S.told⟩ x' y a b c d u :=
  ⟨hq.hold h.hold (rB_off L m S a b c d 7 (by omega)), ⟨hc, (hq.fz 7).trans h.p.f, hx.fr hq.fr (fun hl k hk e => hn hl k hk (.inl e)), hn⟩, h.s.ot hq (by omega) (.inl rfl)⟩
theorem Db.setS {rb : Nat} {L : List Pt} {m : Value} {S : Po} {x y a b c d : Value} {w u : World} (h : Db rb L m S x y a b c d w) (hq : Ot rb 8 w u) (x' : Value) (l' : List Int) (hc : u.cell? ⟨rb, 8, none⟩ = some x') (hx : HoldsW bE 1 w x' l') (hn : l' ≠ [] → ∀ k, x'.ownBlock = some k → ¬ foot rb (rB L m S a b c d) k) :
    Db rb L m ⟨S.pub, l', S.out, S.kept, S.cyc, S.told⟩ x x' a b c d u :=
  ⟨hq.hold h.hold (rB_off L m S a b c d 8 (by omega)), h.p.ot hq (by omega) (.inl rfl), ⟨hc, (hq.fz 8).trans h.s.f, hx.fr hq.fr (fun hl k hk e => hn hl k hk (.inl e)), hn⟩⟩
theorem readEnd_sameB {rb : Nat} {L : List Pt} {m : Value} {S : Po} {x y a b c d : Value} {reg V T E : Int} {w w' : World} (hR : rdPo S reg = (V, T, E)) (hS : readS S reg = S) (h : Db rb L m S x y a b c d w) (hb : Below w.heap.size w w') :
    ReadEndB rb L m S x y a b c d reg w (.returned (.tuple #[.agg #[.int .u8 V, .int .u8 T], .int .i64 E])) w' := by
  refine ⟨by rw [hR], ⟨Fr.ofBelow hb, Ek.below h.hold.lt hb⟩, x, y, ?_, fun _ => rfl, fun _ => rfl⟩
  rw [hS]; exact h.below hb
theorem readEnd_pB {rb : Nat} {L : List Pt} {m : Value} {S : Po} {x y a b c d x' : Value} {V T E : Int} {r : List Int} {w u : World} (hR : rdPo S 0 = (V, T, E)) (hS : readS S 0 = ⟨r, S.sec, S.out, S.kept, S.cyc, S.told⟩) (h : Db rb L m S x y a b c d w) (hq : Ot rb 7 w u)
    (hx : HoldsW bE 1 w x' r) (hc : u.cell? ⟨rb, 7, none⟩ = some x') (hn : r ≠ [] → ∀ k, x'.ownBlock = some k → ¬ foot rb (rB L m S a b c d) k) (he : r ≠ [] → x'.ownBlock = x.ownBlock) :
    ReadEndB rb L m S x y a b c d 0 w (.returned (.tuple #[.agg #[.int .u8 V, .int .u8 T], .int .i64 E])) u := by
  refine ⟨by rw [hR], ⟨hq.fr, Ek.ot hq (by omega) (by omega)⟩, x', y, ?_, by rw [hS]; exact he, fun _ => rfl⟩
  rw [hS]
  exact h.setP hq x' r hc hx hn
theorem readEnd_sB {rb : Nat} {L : List Pt} {m : Value} {S : Po} {x y a b c d x' : Value} {V T E : Int} {r : List Int} {w u : World} (hR : rdPo S 1 = (V, T, E)) (hS : readS S 1 = ⟨S.pub, r, S.out, S.kept, S.cyc, S.told⟩) (h : Db rb L m S x y a b c d w) (hq : Ot rb 8 w u)
    (hx : HoldsW bE 1 w x' r) (hc : u.cell? ⟨rb, 8, none⟩ = some x') (hn : r ≠ [] → ∀ k, x'.ownBlock = some k → ¬ foot rb (rB L m S a b c d) k) (he : r ≠ [] → x'.ownBlock = y.ownBlock) :
    ReadEndB rb L m S x y a b c d 1 w (.returned (.tuple #[.agg #[.int .u8 V, .int .u8 T], .int .i64 E])) u := by
  refine ⟨by rw [hR], ⟨hq.fr, Ek.ot hq (by omega) (by omega)⟩, x, x', ?_, fun _ => rfl, by rw [hS]; exact he⟩
  rw [hS]
  exact h.setS hq x' r hc hx hn
set_option maxRecDepth 100000 in
set_option maxHeartbeats 4000000 in
theorem readb0_c (rb : Nat) (L : List Pt) (m : Value) (S : Po) (x y a b c d : Value) (w : World) (h : Db rb L m S x y a b c d w) :
    Calls Tryz.prog 50 #[.pointer (some ⟨rb, 7, none⟩), .int .i64 0] w (ReadEndB rb L m S x y a b c d 0 w) := by
  have HD := Lib.hid h
  have hlt := h.hold.lt
  obtain ⟨p0, c0, rfl⟩ := h.p.h.form
  have hp_0 := h.p.c
  have hf_0 := h.p.f
  by_cases hl : S.pub = []
  · have HR := Lib.hid (show rdPo S 0 = (0, 0, 0) from by unfold rdPo; rw [if_pos rfl, hl]; rfl)
    have HS := Lib.hid (show readS S 0 = S from by unfold readS; rw [if_pos rfl]; obtain ⟨pb, _, _, _, _, _⟩ := S; dsimp only at hl; subst hl; rfl)
    rw [hl] at hp_0
    clear h hl
    dsimp only [List.length_nil] at hp_0
    go_enter Tryz.func50, Tryz.ntmps50
    go_wp2
    refine bodyPost_ret (v := .tuple #[.agg #[.int .u8 0, .int .u8 0], .int .i64 0]) (by simp [results, Tryz.results50, go_sem] <;> first | done | rfl) rfl ?_
    exact readEnd_sameB HR.out HS.out HD.out (by go_grown)
  · obtain ⟨v0, r, hr⟩ := headD_tail hl
    have HR := Lib.hid (show rdPo S 0 = (v0, 0, 0) from by unfold rdPo; rw [if_pos rfl, hr]; rfl)
    have HS := Lib.hid (show readS S 0 = ⟨r, S.sec, S.out, S.kept, S.cyc, S.told⟩ from by unfold readS; rw [if_pos rfl, hr]; rfl)
    obtain ⟨g, o, cap, e, hcap, hcell⟩ := h.p.h.some (by rw [hr]; simp)
    obtain ⟨rfl, -, rfl⟩ := Value.slice.inj e
    have hnf := h.p.n hl
    rw [hr] at hcell hp_0 hcap
    obtain ⟨n, hn⟩ : ∃ n, r.length = n := ⟨_, rfl⟩
    rw [List.length_cons, hn] at hp_0 hcap
    have hx0 := hcell 0 v0 rfl 0 _ rfl
    rw [Nat.zero_mul, Nat.add_zero] at hx0
    have hgl := klt hx0
    have hgr : ¬ g = rb := fun e => hnf g rfl (.inl e)
    have hgr2 : ¬ rb = g := fun e => hgr e.symm
    have HT := Lib.hid (fun k hk => holds_tail (o := o) (c := 0) (k := k) hn hcell hk)
    have HN := Lib.hid hnf
    have HO := Lib.hid (Ot.refl (w := w) hlt 7)
    have hin : (0 : Int) ≤ 0 ∧ (0 : Int) < ((n + 1 : Nat) : Int) := by omega
    have hin1 : (1 : Int) ≤ ((n + 1 : Nat) : Int) := by omega
    have hin2 : (0 : Int) < ((n + 1 : Nat) : Int) := by omega
    have HC := Lib.hid hcap
    have HNN := Lib.hid hn
    clear h hl hr hcell hnf hn e
    go_enter Tryz.func50, Tryz.ntmps50
    go_wp2
    all_goals
      (try (have hc1 : c0 = 1 := (by assumption); subst hc1))
      refine bodyPost_ret (v := .tuple #[.agg #[.int .u8 v0, .int .u8 0], .int .i64 0]) (by simp [results, Tryz.results50, go_sem] <;> first | done | rfl) rfl ?_
      first
      | (refine readEnd_pB (x' := .slice (some ⟨g, o + 1, none⟩) n (c0 - 1)) HR.out HS.out HD.out ?_ (HT.out _ (by have := HC.out; omega)) ?_ (fun _ k hk => HN.out k (by simpa [Value.ownBlock] using hk)) (fun _ => rfl)
         · with_reducible
             repeat (first | exact HO.out | refine Ot.setNew ?_ _ _ (by dsimp only; omega) | refine Ot.setOwn ?_ _ | refine Ot.alloc ?_ _)
         · go_simp; first | done | rfl)
      | (refine readEnd_pB (x' := .slice (some ⟨g, o, none⟩) n 0) HR.out HS.out HD.out ?_ (holds_none (by have := HC.out; omega) HNN.out) ?_ (fun _ k hk => HN.out k (by simpa [Value.ownBlock] using hk)) (fun _ => rfl)
         · with_reducible
             repeat (first | exact HO.out | refine Ot.setNew ?_ _ _ (by dsimp only; omega) | refine Ot.setOwn ?_ _ | refine Ot.alloc ?_ _)
         · go_simp; first | done | rfl)
set_option maxRecDepth 100000 in
set_option maxHeartbeats 4000000 in
theorem readb1_c (rb : Nat) (L : List Pt) (m : Value) (S : Po) (x y a b c d : Value) (w : World) (h : Db rb L m S x y a b c d w) :
    Calls Tryz.prog 50 #[.pointer (some ⟨rb, 7, none⟩), .int .i64 1] w (ReadEndB rb L m S x y a b c d 1 w) := by
  have HD := Lib.hid h
  have hlt := h.hold.lt
  obtain ⟨p0, c0, rfl⟩ := h.s.h.form
  have hp_0 := h.s.c
  have hf_0 := h.s.f
  by_cases hl : S.sec = []
  · have HR := Lib.hid (show rdPo S 1 = (0, 255, 0) from by unfold rdPo; rw [if_neg (by decide), if_pos rfl, hl]; rfl)
    have HS := Lib.hid (show readS S 1 = S from by unfold readS; rw [if_neg (by decide), if_pos rfl]; obtain ⟨_, pb, _, _, _, _⟩ := S; dsimp only at hl; subst hl; rfl)
    rw [hl] at hp_0
    clear h hl
    dsimp only [List.length_nil] at hp_0
    go_enter Tryz.func50, Tryz.ntmps50
    go_wp2
    refine bodyPost_ret (v := .tuple #[.agg #[.int .u8 0, .int .u8 255], .int .i64 0]) (by simp [results, Tryz.results50, go_sem] <;> first | done | rfl) rfl ?_
    exact readEnd_sameB HR.out HS.out HD.out (by go_grown)
  · obtain ⟨v0, r, hr⟩ := headD_tail hl
    have HR := Lib.hid (show rdPo S 1 = (v0, 255, 0) from by unfold rdPo; rw [if_neg (by decide), if_pos rfl, hr]; rfl)
    have HS := Lib.hid (show readS S 1 = ⟨S.pub, r, S.out, S.kept, S.cyc, S.told⟩ from by unfold readS; rw [if_neg (by decide), if_pos rfl, hr]; rfl)
    obtain ⟨g, o, cap, e, hcap, hcell⟩ := h.s.h.some (by rw [hr]; simp)
    obtain ⟨rfl, -, rfl⟩ := Value.slice.inj e
    have hnf := h.s.n hl
    rw [hr] at hcell hp_0 hcap
    obtain ⟨n, hn⟩ : ∃ n, r.length = n := ⟨_, rfl⟩
    rw [List.length_cons, hn] at hp_0 hcap
    have hx0 := hcell 0 v0 rfl 0 _ rfl
    rw [Nat.zero_mul, Nat.add_zero] at hx0
    have hgl := klt hx0
    have hgr : ¬ g = rb := fun e => hnf g rfl (.inl e)
    have hgr2 : ¬ rb = g := fun e => hgr e.symm
    have HT := Lib.hid (fun k hk => holds_tail (o := o) (c := 0) (k := k) hn hcell hk)
    have HN := Lib.hid hnf
    have HO := Lib.hid (Ot.refl (w := w) hlt 8)
    have hin : (0 : Int) ≤ 0 ∧ (0 : Int) < ((n + 1 : Nat) : Int) := by omega
    have hin1 : (1 : Int) ≤ ((n + 1 : Nat) : Int) := by omega
    have hin2 : (0 : Int) < ((n + 1 : Nat) : Int) := by omega
    have HC := Lib.hid hcap
    have HNN := Lib.hid hn
    clear h hl hr hcell hnf hn e
    go_enter Tryz.func50, Tryz.ntmps50
    go_wp2
    all_goals
      (try (have hc1 : c0 = 1 := (by assumption); subst hc1))
      refine bodyPost_ret (v := .tuple #[.agg #[.int .u8 v0, .int .u8 255], .int .i64 0]) (by simp [results, Tryz.results50, go_sem] <;> first | done | rfl) rfl ?_
      first
      | (refine readEnd_sB (x' := .slice (some ⟨g, o + 1, none⟩) n (c0 - 1)) HR.out HS.out HD.out ?_ (HT.out _ (by have := HC.out; omega)) ?_ (fun _ k hk => HN.out k (by simpa [Value.ownBlock] using hk)) (fun _ => rfl)
         · with_reducible
             repeat (first | exact HO.out | refine Ot.setNew ?_ _ _ (by dsimp only; omega) | refine Ot.setOwn ?_ _ | refine Ot.alloc ?_ _)
         · go_simp; first | done | rfl)
      | (refine readEnd_sB (x' := .slice (some ⟨g, o, none⟩) n 0) HR.out HS.out HD.out ?_ (holds_none (by have := HC.out; omega) HNN.out) ?_ (fun _ k hk => HN.out k (by simpa [Value.ownBlock] using hk)) (fun _ => rfl)
         · with_reducible
             repeat (first | exact HO.out | refine Ot.setNew ?_ _ _ (by dsimp only; omega) | refine Ot.setOwn ?_ _ | refine Ot.alloc ?_ _)
         · go_simp; first | done | rfl)
set_option maxRecDepth 100000 in
set_option maxHeartbeats 4000000 in
theorem readb2_c (rb : Nat) (L : List Pt) (m : Value) (S : Po) (x y a b c d : Value) (w : World) (h : Db rb L m S x y a b c d w) :
    Calls Tryz.prog 50 #[.pointer (some ⟨rb, 7, none⟩), .int .i64 2] w (ReadEndB rb L m S x y a b c d 2 w) := by
  have HD := Lib.hid h
  have hlt := h.hold.lt
  obtain ⟨hc, ho⟩ := h.hold.atB.1
  have HS := Lib.hid (show readS S 2 = S from by unfold readS; rw [if_neg (by decide), if_neg (by decide)])
  obtain ⟨p0, c0, rfl⟩ := own_form ho
  by_cases hl : S.out.length = 0
  · have HR := Lib.hid (show rdPo S 2 = (0, 0, 0) from by unfold rdPo; rw [if_neg (by decide), if_neg (by decide), if_pos rfl, List.length_eq_zero_iff.1 hl]; rfl)
    rw [hl] at hc
    clear h ho hl
    go_enter Tryz.func50, Tryz.ntmps50
    go_wp2
    refine bodyPost_ret (v := .tuple #[.agg #[.int .u8 0, .int .u8 0], .int .i64 0]) (by simp [results, Tryz.results50, go_sem] <;> first | done | rfl) rfl ?_
    exact readEnd_sameB HR.out HS.out HD.out (by go_grown)
  · obtain ⟨m, hm⟩ : ∃ m, S.out.length = m + 1 := ⟨S.out.length - 1, by omega⟩
    obtain ⟨g, cap, e, hmx, hcell⟩ := row_last bE_len ho hm
    have hlast := lastI_snoc S.out m hm
    obtain ⟨X, hX⟩ : ∃ X, S.out[m]'(by omega) = X := ⟨_, rfl⟩
    rw [hX] at hlast hcell
    have HR := Lib.hid (show rdPo S 2 = (X, 0, 0) from by unfold rdPo; rw [if_neg (by decide), if_neg (by decide), if_pos rfl, hlast])
    rw [e] at hc
    have hx0 := hcell 0 _ rfl
    rw [Nat.mul_one, Nat.add_zero] at hx0
    have hgl := klt hx0
    obtain ⟨N, hN⟩ : ∃ N, m + 1 = N := ⟨_, rfl⟩
    rw [hN] at hc
    have hw : IntKind.i64.wrap ((N : Int) - 1) = (m : Int) := by rw [show (N : Int) - 1 = (m : Int) by omega]; exact IntWalk.i64_in _ (by omega)
    have hin : (0 : Int) ≤ (m : Int) ∧ (m : Int) < (N : Int) := by omega
    have hN0 : (0 : Int) < (N : Int) := by omega
    clear h ho hl hm hlast hX hcell e hN hmx
    have hp_2 := hc
    have hq_m := hx0
    clear hc hx0
    go_enter Tryz.func50, Tryz.ntmps50
    go_wp2_with fail
    refine wp_region_planT 12 (fun w' => w'.cell? ⟨rb, 9, none⟩ = some (.slice (some ⟨g, 0, none⟩) N cap) ∧ w'.cell? ⟨g, m, none⟩ = some (.int .u8 X) ∧ w'.cell? ⟨w.heap.size + 1, 0, none⟩ = some (.int .u8 0) ∧ w'.frozen? ⟨w.heap.size + 1, 0, none⟩ = false ∧ w'.cell? ⟨w.heap.size + 1, 1, none⟩ = some (.int .u8 0) ∧ w'.frozen? ⟨w.heap.size + 1, 1, none⟩ = false ∧ w'.cell? ⟨w.heap.size, 0, none⟩ = some (.int .u8 0) ∧ w'.frozen? ⟨w.heap.size, 0, none⟩ = false ∧ w'.cell? ⟨w.heap.size, 1, none⟩ = some (.int .u8 0) ∧ w'.frozen? ⟨w.heap.size, 1, none⟩ = false ∧ Below w.heap.size w w') (by kernel_rfl) (by kernel_rfl) (by kernel_rfl) (by kernel_rfl) ?_ ?_
    · (try dsimp only)
      refine ⟨?_, ?_, ?_, ?_, ?_, ?_, ?_, ?_, ?_, ?_, ?_⟩ <;> first | (go_simp; done) | (simp [*]; done) | go_grown
    (try simp only [List.append_eq, List.cons_append, List.nil_append, List.toList_toArray, List.take_succ_cons, List.take_zero, List.drop_succ_cons, List.drop_zero])
    repeat (first
      | (refine Plan.val (v := ?_) ?_ ?_ ?_; rotate_left; (· rfl); (· (intro W hSw; (try dsimp only at hSw); go_simp; all_goals (first | (with_reducible rfl) | (constructor <;> (with_reducible rfl)) | (rw [if_neg (by omega)]; done) | (rw [if_neg (by omega)]; with_reducible rfl)))); (try simp only [Act.put, List.setIfInBounds_toArray, List.set_cons_zero, List.set_cons_succ]))
      | (refine Plan.no ?_ ?_; (· rfl); (try simp only [Act.put, List.setIfInBounds_toArray, List.set_cons_zero, List.set_cons_succ])))
    refine Plan.done ?_
    intro u1 T
    (try dsimp only at T)
    obtain ⟨hp_0, hq_0, hz_0, fz_0, hz_1, fz_1, he_0, fe_0, he_1, fe_1, hB⟩ := T
    have hsz := hB.size
    have hlp := klt hp_0
    have hlq := klt hq_0
    have hlz := klt hz_0
    have hle := klt he_0
    obtain ⟨hnp0, hnp1, hkp1, hnp2, hkp2⟩ := ap0 hlp
    obtain ⟨hnq0, hnq1, hkq1, hnq2, hkq2⟩ := ap0 hlq
    obtain ⟨hnz0, hnz1, hkz1, hnz2, hkz2⟩ := ap1f hlz
    have hne2 : ¬ (w.heap.size = u1.heap.size + 1 + 1) := by omega
    have hke2 : w.heap.size < u1.heap.size + 1 + 1 := by omega
    go_wp2
    refine bodyPost_ret (v := .tuple #[.agg #[.int .u8 X, .int .u8 0], .int .i64 0]) (by simp [results, Tryz.results50, go_sem, he_0, he_1, hz_0, hz_1] <;> first | done | rfl) rfl ?_
    exact readEnd_sameB HR.out HS.out HD.out (by go_grown)
set_option maxRecDepth 100000 in
set_option maxHeartbeats 4000000 in
theorem readb3_c (rb : Nat) (L : List Pt) (m : Value) (S : Po) (x y a b c d : Value) (w : World) (h : Db rb L m S x y a b c d w) :
    Calls Tryz.prog 50 #[.pointer (some ⟨rb, 7, none⟩), .int .i64 3] w (ReadEndB rb L m S x y a b c d 3 w) := by
  have HD := Lib.hid h
  have hlt := h.hold.lt
  obtain ⟨hc, ho⟩ := h.hold.atB.2.1
  have HS := Lib.hid (show readS S 3 = S from by unfold readS; rw [if_neg (by decide), if_neg (by decide)])
  obtain ⟨p0, c0, rfl⟩ := own_form ho
  by_cases hl : S.kept.length = 0
  · have HR := Lib.hid (show rdPo S 3 = (0, 0, 0) from by unfold rdPo; rw [if_neg (by decide), if_neg (by decide), if_neg (by decide), if_pos rfl, List.length_eq_zero_iff.1 hl]; rfl)
    rw [hl] at hc
    clear h ho hl
    go_enter Tryz.func50, Tryz.ntmps50
    go_wp2
    refine bodyPost_ret (v := .tuple #[.agg #[.int .u8 0, .int .u8 0], .int .i64 0]) (by simp [results, Tryz.results50, go_sem] <;> first | done | rfl) rfl ?_
    exact readEnd_sameB HR.out HS.out HD.out (by go_grown)
  · obtain ⟨m, hm⟩ : ∃ m, S.kept.length = m + 1 := ⟨S.kept.length - 1, by omega⟩
    obtain ⟨g, cap, e, hmx, hcell⟩ := row_last kE_len ho hm
    have hlast := lastK_snoc S.kept m hm
    obtain ⟨⟨X, Y⟩, hX⟩ : ∃ X, S.kept[m]'(by omega) = X := ⟨_, rfl⟩
    rw [hX] at hlast hcell
    have HR := Lib.hid (show rdPo S 3 = (X, Y, 0) from by unfold rdPo; rw [if_neg (by decide), if_neg (by decide), if_neg (by decide), if_pos rfl, hlast])
    rw [e] at hc
    have hx0 := hcell 0 _ rfl
    have hx1 := hcell 1 _ rfl
    rw [Nat.add_zero] at hx0
    dsimp only at hx0 hx1
    have hgl := klt hx0
    obtain ⟨N, hN⟩ : ∃ N, m + 1 = N := ⟨_, rfl⟩
    rw [hN] at hc
    have hw : IntKind.i64.wrap ((N : Int) - 1) = (m : Int) := by rw [show (N : Int) - 1 = (m : Int) by omega]; exact IntWalk.i64_in _ (by omega)
    have hin : (0 : Int) ≤ (m : Int) ∧ (m : Int) < (N : Int) := by omega
    have hN0 : (0 : Int) < (N : Int) := by omega
    clear h ho hl hm hlast hX hcell e hN hmx
    have hp_2 := hc
    have hq_m := hx0
    have hq_n := hx1
    clear hc hx0 hx1
    go_enter Tryz.func50, Tryz.ntmps50
    go_wp2_with fail
    refine wp_region_planT 12 (fun w' => w'.cell? ⟨rb, 10, none⟩ = some (.slice (some ⟨g, 0, none⟩) N cap) ∧ w'.cell? ⟨g, m * 2, none⟩ = some (.int .u8 X) ∧ w'.cell? ⟨g, m * 2 + 1, none⟩ = some (.int .u8 Y) ∧ w'.cell? ⟨w.heap.size + 1, 0, none⟩ = some (.int .u8 0) ∧ w'.frozen? ⟨w.heap.size + 1, 0, none⟩ = false ∧ w'.cell? ⟨w.heap.size + 1, 1, none⟩ = some (.int .u8 0) ∧ w'.frozen? ⟨w.heap.size + 1, 1, none⟩ = false ∧ w'.cell? ⟨w.heap.size, 0, none⟩ = some (.int .u8 0) ∧ w'.frozen? ⟨w.heap.size, 0, none⟩ = false ∧ w'.cell? ⟨w.heap.size, 1, none⟩ = some (.int .u8 0) ∧ w'.frozen? ⟨w.heap.size, 1, none⟩ = false ∧ Below w.heap.size w w') (by kernel_rfl) (by kernel_rfl) (by kernel_rfl) (by kernel_rfl) ?_ ?_
    · (try dsimp only)
      refine ⟨?_, ?_, ?_, ?_, ?_, ?_, ?_, ?_, ?_, ?_, ?_, ?_⟩ <;> first | (go_simp; done) | (simp [*]; done) | go_grown
    (try simp only [List.append_eq, List.cons_append, List.nil_append, List.toList_toArray, List.take_succ_cons, List.take_zero, List.drop_succ_cons, List.drop_zero])
    repeat (first
      | (refine Plan.val (v := ?_) ?_ ?_ ?_; rotate_left; (· rfl); (· (intro W hSw; (try dsimp only at hSw); go_simp; all_goals (first | (with_reducible rfl) | (constructor <;> (with_reducible rfl)) | (rw [if_neg (by omega)]; done) | (rw [if_neg (by omega)]; with_reducible rfl)))); (try simp only [Act.put, List.setIfInBounds_toArray, List.set_cons_zero, List.set_cons_succ]))
      | (refine Plan.no ?_ ?_; (· rfl); (try simp only [Act.put, List.setIfInBounds_toArray, List.set_cons_zero, List.set_cons_succ])))
    refine Plan.done ?_
    intro u1 T
    (try dsimp only at T)
    obtain ⟨hp_0, hq_0, hq_1, hz_0, fz_0, hz_1, fz_1, he_0, fe_0, he_1, fe_1, hB⟩ := T
    have hsz := hB.size
    have hlp := klt hp_0
    have hlq := klt hq_0
    have hlz := klt hz_0
    have hle := klt he_0
    obtain ⟨hnp0, hnp1, hkp1, hnp2, hkp2⟩ := ap0 hlp
    obtain ⟨hnq0, hnq1, hkq1, hnq2, hkq2⟩ := ap0 hlq
    obtain ⟨hnz0, hnz1, hkz1, hnz2, hkz2⟩ := ap1f hlz
    have hne2 : ¬ (w.heap.size = u1.heap.size + 1 + 1) := by omega
    have hke2 : w.heap.size < u1.heap.size + 1 + 1 := by omega
    go_wp2
    refine bodyPost_ret (v := .tuple #[.agg #[.int .u8 X, .int .u8 Y], .int .i64 0]) (by simp [results, Tryz.results50, go_sem, he_0, he_1, hz_0, hz_1] <;> first | done | rfl) rfl ?_
    exact readEnd_sameB HR.out HS.out HD.out (by go_grown)
set_option maxRecDepth 100000 in
set_option maxHeartbeats 4000000 in
theorem readb4_c (rb : Nat) (L : List Pt) (m : Value) (S : Po) (x y a b c d : Value) (w : World) (h : Db rb L m S x y a b c d w) :
    Calls Tryz.prog 50 #[.pointer (some ⟨rb, 7, none⟩), .int .i64 4] w (ReadEndB rb L m S x y a b c d 4 w) := by
  have HD := Lib.hid h
  have hlt := h.hold.lt
  obtain ⟨hc, ho⟩ := h.hold.atB.2.2.2
  have HS := Lib.hid (show readS S 4 = S from by unfold readS; rw [if_neg (by decide), if_neg (by decide)])
  obtain ⟨p0, c0, rfl⟩ := own_form ho
  by_cases hl : S.told.length = 0
  · have HR := Lib.hid (show rdPo S 4 = (0, 0, 0) from by unfold rdPo; rw [if_neg (by decide), if_neg (by decide), if_neg (by decide), if_neg (by decide), if_pos rfl, List.length_eq_zero_iff.1 hl]; rfl)
    rw [hl] at hc
    clear h ho hl
    go_enter Tryz.func50, Tryz.ntmps50
    go_wp2
    refine bodyPost_ret (v := .tuple #[.agg #[.int .u8 0, .int .u8 0], .int .i64 0]) (by simp [results, Tryz.results50, go_sem] <;> first | done | rfl) rfl ?_
    exact readEnd_sameB HR.out HS.out HD.out (by go_grown)
  · obtain ⟨m, hm⟩ : ∃ m, S.told.length = m + 1 := ⟨S.told.length - 1, by omega⟩
    obtain ⟨g, cap, e, hmx, hcell⟩ := row_last bE_len ho hm
    have hlast := lastI_snoc S.told m hm
    obtain ⟨X, hX⟩ : ∃ X, S.told[m]'(by omega) = X := ⟨_, rfl⟩
    rw [hX] at hlast hcell
    have HR := Lib.hid (show rdPo S 4 = (X, 0, 0) from by unfold rdPo; rw [if_neg (by decide), if_neg (by decide), if_neg (by decide), if_neg (by decide), if_pos rfl, hlast])
    rw [e] at hc
    have hx0 := hcell 0 _ rfl
    rw [Nat.mul_one, Nat.add_zero] at hx0
    have hgl := klt hx0
    obtain ⟨N, hN⟩ : ∃ N, m + 1 = N := ⟨_, rfl⟩
    rw [hN] at hc
    have hw : IntKind.i64.wrap ((N : Int) - 1) = (m : Int) := by rw [show (N : Int) - 1 = (m : Int) by omega]; exact IntWalk.i64_in _ (by omega)
    have hin : (0 : Int) ≤ (m : Int) ∧ (m : Int) < (N : Int) := by omega
    have hN0 : (0 : Int) < (N : Int) := by omega
    clear h ho hl hm hlast hX hcell e hN hmx
    have hp_2 := hc
    have hq_m := hx0
    clear hc hx0
    go_enter Tryz.func50, Tryz.ntmps50
    go_wp2_with fail
    refine wp_region_planT 12 (fun w' => w'.cell? ⟨rb, 12, none⟩ = some (.slice (some ⟨g, 0, none⟩) N cap) ∧ w'.cell? ⟨g, m, none⟩ = some (.int .u8 X) ∧ w'.cell? ⟨w.heap.size + 1, 0, none⟩ = some (.int .u8 0) ∧ w'.frozen? ⟨w.heap.size + 1, 0, none⟩ = false ∧ w'.cell? ⟨w.heap.size + 1, 1, none⟩ = some (.int .u8 0) ∧ w'.frozen? ⟨w.heap.size + 1, 1, none⟩ = false ∧ w'.cell? ⟨w.heap.size, 0, none⟩ = some (.int .u8 0) ∧ w'.frozen? ⟨w.heap.size, 0, none⟩ = false ∧ w'.cell? ⟨w.heap.size, 1, none⟩ = some (.int .u8 0) ∧ w'.frozen? ⟨w.heap.size, 1, none⟩ = false ∧ Below w.heap.size w w') (by kernel_rfl) (by kernel_rfl) (by kernel_rfl) (by kernel_rfl) ?_ ?_
    · (try dsimp only)
      refine ⟨?_, ?_, ?_, ?_, ?_, ?_, ?_, ?_, ?_, ?_, ?_⟩ <;> first | (go_simp; done) | (simp [*]; done) | go_grown
    (try simp only [List.append_eq, List.cons_append, List.nil_append, List.toList_toArray, List.take_succ_cons, List.take_zero, List.drop_succ_cons, List.drop_zero])
    repeat (first
      | (refine Plan.val (v := ?_) ?_ ?_ ?_; rotate_left; (· rfl); (· (intro W hSw; (try dsimp only at hSw); go_simp; all_goals (first | (with_reducible rfl) | (constructor <;> (with_reducible rfl)) | (rw [if_neg (by omega)]; done) | (rw [if_neg (by omega)]; with_reducible rfl)))); (try simp only [Act.put, List.setIfInBounds_toArray, List.set_cons_zero, List.set_cons_succ]))
      | (refine Plan.no ?_ ?_; (· rfl); (try simp only [Act.put, List.setIfInBounds_toArray, List.set_cons_zero, List.set_cons_succ])))
    refine Plan.done ?_
    intro u1 T
    (try dsimp only at T)
    obtain ⟨hp_0, hq_0, hz_0, fz_0, hz_1, fz_1, he_0, fe_0, he_1, fe_1, hB⟩ := T
    have hsz := hB.size
    have hlp := klt hp_0
    have hlq := klt hq_0
    have hlz := klt hz_0
    have hle := klt he_0
    obtain ⟨hnp0, hnp1, hkp1, hnp2, hkp2⟩ := ap0 hlp
    obtain ⟨hnq0, hnq1, hkq1, hnq2, hkq2⟩ := ap0 hlq
    obtain ⟨hnz0, hnz1, hkz1, hnz2, hkz2⟩ := ap1f hlz
    have hne2 : ¬ (w.heap.size = u1.heap.size + 1 + 1) := by omega
    have hke2 : w.heap.size < u1.heap.size + 1 + 1 := by omega
    go_wp2
    refine bodyPost_ret (v := .tuple #[.agg #[.int .u8 X, .int .u8 0], .int .i64 0]) (by simp [results, Tryz.results50, go_sem, he_0, he_1, hz_0, hz_1] <;> first | done | rfl) rfl ?_
    exact readEnd_sameB HR.out HS.out HD.out (by go_grown)
set_option maxRecDepth 100000 in
set_option maxHeartbeats 4000000 in
theorem readb_c (rb : Nat) (L : List Pt) (m : Value) (S : Po) (x y a b c d : Value) (reg : Int) (w : World) (h : Db rb L m S x y a b c d w) :
    Calls Tryz.prog 50 #[.pointer (some ⟨rb, 7, none⟩), .int .i64 reg] w (ReadEndB rb L m S x y a b c d reg w) := by
  rcases port_cases reg with rfl | rfl | rfl | rfl | rfl | ⟨n0, n1, n2, n3, n4⟩
  · exact readb0_c rb L m S x y a b c d w h
  · exact readb1_c rb L m S x y a b c d w h
  · exact readb2_c rb L m S x y a b c d w h
  · exact readb3_c rb L m S x y a b c d w h
  · exact readb4_c rb L m S x y a b c d w h
  · have HR := Lib.hid (show rdPo S reg = (0, 0, 10) from by unfold rdPo; rw [if_neg n0, if_neg n1, if_neg n2, if_neg n3, if_neg n4])
    have HS := Lib.hid (show readS S reg = S from by unfold readS; rw [if_neg n0, if_neg n1])
    have HD := Lib.hid h
    have d0 : (reg == 0) = false := by simpa using n0
    have d1 : (reg == 1) = false := by simpa using n1
    have d2 : (reg == 2) = false := by simpa using n2
    have d3 : (reg == 3) = false := by simpa using n3
    have d4 : (reg == 4) = false := by simpa using n4
    clear n0 n1 n2 n3 n4 h
    go_enter Tryz.func50, Tryz.ntmps50
    go_wp2
    refine bodyPost_ret (v := .tuple #[.agg #[.int .u8 0, .int .u8 0], .int .i64 10]) (by simp [results, Tryz.results50, go_sem] <;> first | done | rfl) rfl ?_
    exact readEnd_sameB HR.out HS.out HD.out (by go_grown)

end Go.Proofs.YtcnejgilmciljaaGreatDoor
