/-
  What PortsPlay's loop keeps: both ports, a clone, and a copy of the document's, that shares its rows.
-/
import Derived.Test.YtbahjcnamalhcaaLoop11
set_option linter.unusedSimpArgs false
set_option linter.unusedVariables false
namespace Go.Proofs.Ytbahjcnamalhcaa
open Go.RowKit Go.PlainAid

/-- A row that was copied at some time: it lies where the document's row lies still, or is no longer written. -/
structure KRow (R : List Rw) (rb : Nat) (F : Nat → Prop) (i k n : Nat) (v : Value) (w : World) : Prop where
  z : ∀ (ad : Addr) (m c : Nat), v = .slice (some ad) m c → ad.off = 0
  nF : ∀ b, v.ownBlock = some b → ¬ F b
  lt : ∀ b, v.ownBlock = some b → b < w.heap.size
  at_ : ∀ b, v.ownBlock = some b → (∃ r, R[i]? = some r ∧ r.v.ownBlock = some b ∧ n ≤ r.n ∧ r.k = k) ∨ ¬ foot rb R b
structure KIn (R : List Rw) (rb : Nat) (F : Nat → Prop) (l : List Int) (v : Value) (w : World) : Prop where
  nF : l ≠ [] → ∀ b, v.ownBlock = some b → ¬ F b ∧ ¬ foot rb R b ∧ b < w.heap.size
structure Kq (kb rb : Nat) (Sk : Po) (R : List Rw) (F : Nat → Prop) (x y a b c d : Value) (w : World) : Prop where
  vc : Vc kb Sk x y a b c d w
  kx : KIn R rb F Sk.pub x w
  ky : KIn R rb F Sk.sec y w
  ka : KRow R rb F 0 1 Sk.out.length a w
  kb' : KRow R rb F 1 2 Sk.kept.length b w
  kc' : KRow R rb F 2 1 Sk.cyc.length c w
  kd : KRow R rb F 3 1 Sk.told.length d w
  nb : ¬ F kb ∧ ¬ foot rb R kb
section
variable {kb rb i k n : Nat} {R R' : List Rw} {F G F' G' : Nat → Prop} {v : Value} {w u : World} {l : List Int}
theorem KRow.step (h : KRow R rb F i k n v w) (hs : StepQ rb F G R F' G' R' w u) : KRow R' rb F' i k n v u ∧ ∀ b j, v.ownBlock = some b → j < n * k → u.cell? ⟨b, j, none⟩ = w.cell? ⟨b, j, none⟩ := by
  have hz := hs.fr.size
  refine ⟨⟨h.z, fun b hb hf => (hs.f b hf).elim (h.nF b hb) (fun h1 => by have := h.lt b hb; omega), fun b hb => Nat.lt_of_lt_of_le (h.lt b hb) hz, fun b hb => ?_⟩, fun b j hb hj => ?_⟩
  · rcases h.at_ b hb with ⟨r, h1, h2, h3, h4⟩ | h1
    · have hi : i < R'.length := by rw [hs.rq.len]; exact (List.getElem?_eq_some_iff.1 h1).1
      obtain ⟨e, hup⟩ := hs.rq.up i r _ h1 (List.getElem?_eq_getElem hi)
      rcases hup b h2 with ⟨h5, h6⟩ | h5
      · exact .inl ⟨_, List.getElem?_eq_getElem hi, h5, Nat.le_trans h3 h6, e.trans h4⟩
      · exact .inr h5
    · exact .inr (fun hf => (hs.rq.ft b hf).elim h1 (fun h2 => by have := h.lt b hb; omega))
  · rcases h.at_ b hb with ⟨r, h1, h2, h3, h4⟩ | h1
    · exact hs.rq.old i r h1 b j h2 (Nat.lt_of_lt_of_le hj (by rw [h4]; exact Nat.mul_le_mul_right _ h3))
    · exact World.cell?_of_block (hs.fr.keep b (h.lt b hb) (fun hf => hf.elim (h.nF b hb) h1))
theorem KIn.step (h : KIn R rb F l v w) (hs : StepQ rb F G R F' G' R' w u) : KIn R' rb F' l v u := by
  have hz := hs.fr.size
  refine ⟨fun hl b hb => ?_⟩
  obtain ⟨h1, h2, h3⟩ := h.nF hl b hb
  exact ⟨fun hf => (hs.f b hf).elim h1 (fun h4 => by omega), fun hf => (hs.rq.ft b hf).elim h2 (fun h4 => by omega), by omega⟩
theorem holds_stepR {α : Type} {enc : α → List Value} {k : Nat} {l : List α} {v : Value} {w u : World} (hk : ∀ x, (enc x).length = k) (h : HoldsW enc k w v l) (hz : ∀ (ad : Addr) (m c : Nat), v = .slice (some ad) m c → ad.off = 0)
    (hc : ∀ b j, v.ownBlock = some b → j < l.length * k → u.cell? ⟨b, j, none⟩ = w.cell? ⟨b, j, none⟩) : HoldsW enc k u v l := by
  rcases h with h | ⟨g, o, cap, rfl, hcap, h⟩
  · exact .inl h
  · obtain rfl : o = 0 := hz _ _ _ rfl
    refine .inr ⟨g, 0, cap, rfl, hcap, fun j x hx i y hy => ?_⟩
    have hj : j < l.length := (List.getElem?_eq_some_iff.1 hx).1
    have hi : i < k := by rw [← hk x]; exact (List.getElem?_eq_some_iff.1 hy).1
    have hlt : 0 + j * k + i < l.length * k := by
      have : (j + 1) * k ≤ l.length * k := Nat.mul_le_mul_right _ hj
      rw [Nat.add_mul, Nat.one_mul] at this
      omega
    rw [hc g _ rfl hlt]
    exact h j x hx i y hy
theorem Kq.step {Sk : Po} {x y a b c d : Value} (h : Kq kb rb Sk R F x y a b c d w) (hs : StepQ rb F G R F' G' R' w u) : Kq kb rb Sk R' F' x y a b c d u := by
  have hz := hs.fr.size
  have hv := h.vc
  have hkl := klt hv.c0
  have hn : ¬ (fun b => F b ∨ foot rb R b) kb := fun hf => hf.elim h.nb.1 h.nb.2
  obtain ⟨a1, a2⟩ := h.ka.step hs
  obtain ⟨b1, b2⟩ := h.kb'.step hs
  obtain ⟨c1, c2⟩ := h.kc'.step hs
  obtain ⟨d1, d2⟩ := h.kd.step hs
  exact ⟨⟨hs.fr.cell hv.c0 hn, hs.fr.cell hv.c1 hn, hs.fr.cell hv.c2 hn, hs.fr.cell hv.c3 hn, hs.fr.cell hv.c4 hn, hs.fr.cell hv.c5 hn,
      hv.hx.fr hs.fr (fun hl b hb hf => hf.elim (h.kx.nF hl b hb).1 (h.kx.nF hl b hb).2.1), hv.hy.fr hs.fr (fun hl b hb hf => hf.elim (h.ky.nF hl b hb).1 (h.ky.nF hl b hb).2.1),
      holds_stepR bE_len hv.ha h.ka.z a2, holds_stepR kE_len hv.hb h.kb'.z b2, holds_stepR cE_len hv.hc h.kc'.z c2, holds_stepR bE_len hv.hd h.kd.z d2⟩,
    h.kx.step hs, h.ky.step hs, a1, b1, c1, d1, ⟨fun hf => (hs.f kb hf).elim h.nb.1 (fun h1 => by omega), fun hf => (hs.rq.ft kb hf).elim h.nb.2 (fun h1 => by omega)⟩⟩
theorem Kq.below {Sk : Po} {x y a b c d : Value} (h : Kq kb rb Sk R F x y a b c d w) (hb : Below w.heap.size w u) : Kq kb rb Sk R F x y a b c d u := by
  have hz := hb.size
  have r : ∀ {i k n v}, KRow R rb F i k n v w → KRow R rb F i k n v u := fun h => ⟨h.z, h.nF, fun b hb => Nat.lt_of_lt_of_le (h.lt b hb) hz, h.at_⟩
  exact ⟨h.vc.below hb, ⟨fun hl b hb => ⟨(h.kx.nF hl b hb).1, (h.kx.nF hl b hb).2.1, Nat.lt_of_lt_of_le (h.kx.nF hl b hb).2.2 hz⟩⟩, ⟨fun hl b hb => ⟨(h.ky.nF hl b hb).1, (h.ky.nF hl b hb).2.1, Nat.lt_of_lt_of_le (h.ky.nF hl b hb).2.2 hz⟩⟩, r h.ka, r h.kb', r h.kc', r h.kd, h.nb⟩
end
/-- Six cells of a block, whatever they hold. -/
def KbC (kb : Nat) (w : World) : Prop := ∀ i, i < 6 → (∃ v, w.cell? ⟨kb, i, none⟩ = some v) ∧ w.frozen? ⟨kb, i, none⟩ = false
/-- What the loop has of the clone. -/
def CloneI (rb kb : Nat) (S : Po) (F : Nat → Prop) (a b c d cv : Value) (w : World) : Prop :=
  cv = .pointer none ∨ ∃ cb Sk Fc Gc x' y' a' b' c' d', cv = .pointer (some ⟨cb, 0, none⟩) ∧ PO cb Sk Fc Gc w ∧ Fit Sk ∧ (∀ k, Gc k → ¬ F k ∧ ¬ footD rb S a b c d k) ∧ Kq kb rb Sk (rD S a b c d) F x' y' a' b' c' d' w
structure PlayI (N : Nat) (W0 : World) (pb rb kb : Nat) (S : Po) (F G : Nat → Prop) (x y a b c d cv : Value) (w : World) : Prop where
  l : LoopI N W0 pb rb S F G x y a b c d w
  lt : kb < w.heap.size
  nG : ¬ G kb
  nH : ¬ hangD rb S x y a b c d kb
  kc : KbC kb w
  cl : CloneI rb kb S F a b c d cv w
section
variable {N pb rb kb : Nat} {S S' : Po} {F G F' G' : Nat → Prop} {x y a b c d x' y' a' b' c' d' cv : Value} {W0 w u : World}
theorem PlayI.below (h : PlayI N W0 pb rb kb S F G x y a b c d cv w) (hN : N ≤ W0.heap.size) (hb : Below w.heap.size w u) : PlayI N W0 pb rb kb S F G x y a b c d cv u := by
  refine ⟨h.l.below hN hb, Nat.lt_of_lt_of_le h.lt hb.size, h.nG, h.nH, fun i hi => ?_, ?_⟩
  · obtain ⟨⟨v, h1⟩, h2⟩ := h.kc i hi
    exact ⟨⟨v, _root_.Go.Proofs.Ytbahjcnamalhcaa.kc hb h1⟩, kfz hb h.lt h2⟩
  · rcases h.cl with e | ⟨cb, Sk, Fc, Gc, x', y', a', b', c', d', e, hp, hf, hg, hk⟩
    · exact .inl e
    · exact .inr ⟨cb, Sk, Fc, Gc, x', y', a', b', c', d', e, (PO.frm _ _).below hp hb, hf, hg, hk.below hb⟩
/-- Behind a call with both. -/
theorem PlayI.step (h : PlayI N W0 pb rb kb S F G x y a b c d cv w) (hl : LoopI N W0 pb rb S' F' G' x' y' a' b' c' d' u) (hs : StepQ rb F G (rD S a b c d) F' G' (rD S' a' b' c' d') w u)
    (hh : ∀ k, hangD rb S' x' y' a' b' c' d' k → hangD rb S x y a b c d k ∨ w.heap.size ≤ k) : PlayI N W0 pb rb kb S' F' G' x' y' a' b' c' d' cv u := by
  have hz := hs.fr.size
  have hlt := h.lt
  have hnF : ¬ F kb := fun hf => h.nG ((PO.frm _ _).sub h.l.both.po kb hf)
  have hnD : ¬ foot rb (rD S a b c d) kb := fun hf => h.nH (.inl hf)
  have hn : ¬ (fun b' => F b' ∨ foot rb (rD S a b c d) b') kb := fun hf => hf.elim hnF hnD
  refine ⟨hl, by omega, fun hf => (hs.g kb hf).elim h.nG (fun h1 => by omega), fun hf => (hh kb hf).elim h.nH (fun h1 => by omega), fun i hi => ?_, ?_⟩
  · obtain ⟨⟨v, h1⟩, h2⟩ := h.kc i hi
    exact ⟨⟨v, hs.fr.cell h1 hn⟩, hs.fr.frozen hlt h2 hn⟩
  · rcases h.cl with e | ⟨cb, Sk, Fc, Gc, x1, y1, a1, b1, c1, d1, e, hp, hf, hg, hk⟩
    · exact .inl e
    · have hlc := (PO.frm _ _).lt hp
      refine .inr ⟨cb, Sk, Fc, Gc, x1, y1, a1, b1, c1, d1, e, (PO.frm _ _).fr hp hs.fr (fun k hk hf => hf.elim (hg k hk).1 (hg k hk).2), hf, fun k hk => ⟨fun hf => (hs.f k hf).elim (hg k hk).1 (fun h1 => by have := hlc k hk; omega), fun hf => (hs.rq.ft k hf).elim (hg k hk).2 (fun h1 => by have := hlc k hk; omega)⟩, hk.step hs⟩
/-- Six cells, written. -/
def put6 (kb : Nat) (x y a b c d : Value) (u : World) : World := (((((u.setCell ⟨kb, 0, none⟩ x).setCell ⟨kb, 1, none⟩ y).setCell ⟨kb, 2, none⟩ a).setCell ⟨kb, 3, none⟩ b).setCell ⟨kb, 4, none⟩ c).setCell ⟨kb, 5, none⟩ d
theorem put6_fr (u : World) : Fr (fun k => k = kb) u (put6 kb x y a b c d u) := by
  unfold put6
  refine Fr.setCell ?_ _ _ (fun _ => rfl)
  refine Fr.setCell ?_ _ _ (fun _ => rfl)
  refine Fr.setCell ?_ _ _ (fun _ => rfl)
  refine Fr.setCell ?_ _ _ (fun _ => rfl)
  refine Fr.setCell ?_ _ _ (fun _ => rfl)
  refine Fr.setCell ?_ _ _ (fun _ => rfl)
  exact Fr.refl _ _
theorem put6_at {u : World} (h : KbC kb u) : (put6 kb x y a b c d u).cell? ⟨kb, 0, none⟩ = some x ∧ (put6 kb x y a b c d u).cell? ⟨kb, 1, none⟩ = some y ∧ (put6 kb x y a b c d u).cell? ⟨kb, 2, none⟩ = some a ∧
    (put6 kb x y a b c d u).cell? ⟨kb, 3, none⟩ = some b ∧ (put6 kb x y a b c d u).cell? ⟨kb, 4, none⟩ = some c ∧ (put6 kb x y a b c d u).cell? ⟨kb, 5, none⟩ = some d ∧ KbC kb (put6 kb x y a b c d u) := by
  obtain ⟨⟨v0, h0⟩, f0⟩ := h 0 (by omega)
  obtain ⟨⟨v1, h1⟩, f1⟩ := h 1 (by omega)
  obtain ⟨⟨v2, h2⟩, f2⟩ := h 2 (by omega)
  obtain ⟨⟨v3, h3⟩, f3⟩ := h 3 (by omega)
  obtain ⟨⟨v4, h4⟩, f4⟩ := h 4 (by omega)
  obtain ⟨⟨v5, h5⟩, f5⟩ := h 5 (by omega)
  have hlt := klt h0
  unfold put6
  refine ⟨by go_simp, by go_simp, by go_simp, by go_simp, by go_simp, by go_simp, fun i hi => ?_⟩
  match i, hi with
  | 0, _ => exact ⟨⟨x, by go_simp⟩, by go_simp⟩
  | 1, _ => exact ⟨⟨y, by go_simp⟩, by go_simp⟩
  | 2, _ => exact ⟨⟨a, by go_simp⟩, by go_simp⟩
  | 3, _ => exact ⟨⟨b, by go_simp⟩, by go_simp⟩
  | 4, _ => exact ⟨⟨c, by go_simp⟩, by go_simp⟩
  | 5, _ => exact ⟨⟨d, by go_simp⟩, by go_simp⟩
  | i + 6, h => omega
theorem row_z {T : TypeId} {k n : Nat} {v : Value} {xs : List Value} {w : World} (h : w.ownsRow 0 T k v n xs) : ∀ (ad : Addr) (m c : Nat), v = .slice (some ad) m c → ad.off = 0 := fun ad m c e => by
  rcases h.2 with ⟨h1, _⟩ | ⟨g, cap, cur, h1, _⟩
  · rw [h1] at e; cases e
  · rw [h1] at e
    injection e with e1
    injection e1 with e1
    rw [← e1]
/-- Behind Clone, and the copy. -/
theorem PlayI.made (h : PlayI N W0 pb rb kb S F G x y a b c d cv w) (hN : N ≤ W0.heap.size) (hNk : N ≤ kb) {cb : Nat} {Fc Gc : Nat → Prop} (hb : Below w.heap.size w u) (hp : PO cb S Fc Gc u) (hg : ∀ k, Gc k → w.heap.size ≤ k) :
    PlayI N W0 pb rb kb S F G x y a b c d (.pointer (some ⟨cb, 0, none⟩)) (put6 kb x y a b c d u) := by
  have hz := hb.size
  have hlt := h.lt
  have hu := h.below hN hb
  have hfr : Fr (fun k => k = kb) u (put6 kb x y a b c d u) := put6_fr u
  have hzz := hfr.size
  have hnF : ¬ F kb := fun hf => h.nG ((PO.frm _ _).sub h.l.both.po kb hf)
  have hnD : ¬ foot rb (rD S a b c d) kb := fun hf => h.nH (.inl hf)
  obtain ⟨e0, e1, e2, e3, e4, e5, e6⟩ := put6_at (x := x) (y := y) (a := a) (b := b) (c := c) (d := d) hu.kc
  have hD : Dp rb S x y a b c d (put6 kb x y a b c d u) := hu.l.both.dp.keep hfr (fun k hk hf => h.nH (hf ▸ hk))
  have hP : PO pb S F G (put6 kb x y a b c d u) := (PO.frm _ _).fr hu.l.both.po hfr (fun k hk hf => h.nG (hf ▸ hk))
  have hlF := (PO.frm _ _).lt h.l.both.po
  have hsF := (PO.frm _ _).sub h.l.both.po
  have hDl : ∀ k, hangD rb S x y a b c d k → k < w.heap.size := (DO.frm rb S).lt (DO.of h.l.both.dp)
  have hap := h.l.both.apt
  refine ⟨⟨⟨hP, hD, hap⟩, h.l.fit, Fr.toBelow hu.l.bel hfr (fun k hk => by subst hk; exact hNk) hN, h.l.lowF, h.l.lowD⟩, by omega, h.nG, h.nH, e6, .inr ⟨cb, S, Fc, Gc, x, y, a, b, c, d, rfl, ?_, h.l.fit, fun k hk => ⟨fun hf => ?_, fun hf => ?_⟩, ?_⟩⟩
  · exact (PO.frm _ _).fr hp hfr (fun k hk hf => by have := hg k hk; omega)
  · have := hlF k (hsF k hf); have := hg k hk; omega
  · have := hDl k (.inl hf); have := hg k hk; omega
  · obtain ⟨⟨k2, o2⟩, ⟨k3, o3⟩, ⟨k4, o4⟩, k5, o5⟩ := hD.hold.at0
    have q : ∀ {i T k n v xs} (r : Rw), (rD S a b c d)[i]? = some r → r.v = v → r.n = n → r.k = k → (put6 kb x y a b c d u).ownsRow 0 T k v n xs → KRow (rD S a b c d) rb F i k n v (put6 kb x y a b c d u) := fun r hr h1 h2 h3 ho =>
      ⟨row_z ho, fun b' hb' hf => hap.a b' hf (.inl (.inr ⟨r, List.mem_of_getElem? hr, by rw [h1]; exact hb'⟩)), fun b' hb' => (ho.lt b' hb').2, fun b' hb' => .inl ⟨r, hr, by rw [h1]; exact hb', by rw [h2]; exact Nat.le_refl _, h3⟩⟩
    refine ⟨⟨e0, e1, e2, e3, e4, e5, hD.p.h, hD.s.h, HoldsW.own bE_len o2, HoldsW.own kE_len o3, HoldsW.own cE_len o4, HoldsW.own bE_len o5⟩, ⟨fun hl b' hb' => ⟨fun hf => hap.a b' hf (.inr (.inl ⟨some_iff.2 hl, hb'⟩)), hD.p.n hl b' hb', ?_⟩⟩, ⟨fun hl b' hb' => ⟨fun hf => hap.a b' hf (.inr (.inr ⟨some_iff.2 hl, hb'⟩)), hD.s.n hl b' hb', ?_⟩⟩, q _ rfl rfl rfl rfl o2, q _ rfl rfl rfl rfl o3, q _ rfl rfl rfl rfl o4, q _ rfl rfl rfl rfl o5, hnF, hnD⟩
    · exact holds_old hD.p.h bE_len (by omega) hl b' hb'
    · exact holds_old hD.s.h bE_len (by omega) hl b' hb'
end
end Go.Proofs.Ytbahjcnamalhcaa
