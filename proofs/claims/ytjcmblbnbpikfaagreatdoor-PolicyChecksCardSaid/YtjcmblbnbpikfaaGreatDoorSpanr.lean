/-
  Layer 7, the program's reader: the rest of a line, whatever its tokens.
-/
import Derived.Test.YtjcmblbnbpikfaaGreatDoorSpanq1
import Derived.Test.YtjcmblbnbpikfaaGreatDoorSpanq2
import Derived.Test.YtjcmblbnbpikfaaGreatDoorSpanq3
import Derived.Test.YtjcmblbnbpikfaaGreatDoorSpanq4
import Derived.Test.YtjcmblbnbpikfaaGreatDoorSettq
set_option linter.unusedSimpArgs false
set_option linter.unusedVariables false
namespace Go.Proofs.YtjcmblbnbpikfaaGreatDoor
open Go.RowKit Go.PlainAid

theorem readSpan_c (sink : Bool) (word : Tk) (l : List Tk) (s : St) (hl : s.left = l) (hg : Good l) (hsp : s.sp.length ≤ 64) (rb S0 : Nat) (w : World) (hr : Rd rb S0 w s) :
    Calls Tryz.prog 55 #[.pointer (some ⟨rb, 0, none⟩), tkV word, .bool sink] w (SpanEnd rb S0 w s word sink (spanM l)) := by
  obtain ⟨sl, ssp, sv, sdn, sdb, stn, stb⟩ := s
  obtain ⟨wk, wx, wn, wl, wc⟩ := word
  dsimp only at hl hsp
  subst hl
  obtain ⟨a, r, rfl⟩ := hg.cons
  by_cases h0 : a.k = 2
  · obtain ⟨b, r2, rfl⟩ := (hg.tail (by omega)).cons
    have hg1 := hg.tail (by omega)
    by_cases h1 : b.k = 3
    · obtain ⟨c, r3, rfl⟩ := (hg1.tail (by omega)).cons
      have hg2 := hg1.tail (by omega)
      by_cases h2 : c.k = 2
      · obtain ⟨d, r4, rfl⟩ := (hg2.tail (by omega)).cons
        have hg3 := hg2.tail (by omega)
        by_cases h3 : d.t = bitsL
        · obtain ⟨m, r5, rfl⟩ := (hg3.tail_bits h3).cons
          have hg4 := hg3.tail_bits h3
          by_cases h4 : m.k = 2
          · obtain ⟨z, r6, rfl⟩ := (hg4.tail (by omega)).cons
            by_cases h5 : z.k = 4
            · by_cases h6 : m.n < 1
              · exact span_L11 _ _ _ _ _ _ _ _ _ _ _ _ _ _ _ _ _ _ _ _ _ _ _ _ _ _ _ _ _ _ _ h0 h1 h2 h3 h4 h5 h6 sink _ _ _ _ _ ssp sv _ _ _ _ hsp rb S0 w hr
              · by_cases h7 : 255 < m.n
                · exact span_H11 _ _ _ _ _ _ _ _ _ _ _ _ _ _ _ _ _ _ _ _ _ _ _ _ _ _ _ _ _ _ _ h0 h1 h2 h3 h4 h5 h6 h7 sink _ _ _ _ _ ssp sv _ _ _ _ hsp rb S0 w hr
                · exact span_A11 _ _ _ _ _ _ _ _ _ _ _ _ _ _ _ _ _ _ _ _ _ _ _ _ _ _ _ _ _ _ _ h0 h1 h2 h3 h4 h5 h6 h7 sink _ _ _ _ _ ssp sv _ _ _ _ hsp rb S0 w hr
            · exact span_E11 _ _ _ _ _ _ _ _ _ _ _ _ _ _ _ _ _ _ _ _ _ _ _ _ _ _ _ _ _ _ _ h0 h1 h2 h3 h4 h5 sink _ _ _ _ _ ssp sv _ _ _ _ hsp rb S0 w hr
          · exact span_Q11 _ _ _ _ _ _ _ _ _ _ _ _ _ _ _ _ _ _ _ _ _ _ _ _ _ _ h0 h1 h2 h3 h4 sink _ _ _ _ _ ssp sv _ _ _ _ hsp rb S0 w hr
        · by_cases h4 : d.k = 4
          · exact span_A10 _ _ _ _ _ _ _ _ _ _ _ _ _ _ _ _ _ _ _ _ _ h0 h1 h2 h3 h4 sink _ _ _ _ _ ssp sv _ _ _ _ hsp rb S0 w hr
          · exact span_E10 _ _ _ _ _ _ _ _ _ _ _ _ _ _ _ _ _ _ _ _ _ h0 h1 h2 h3 h4 sink _ _ _ _ _ ssp sv _ _ _ _ hsp rb S0 w hr
      · exact span_P2 _ _ _ _ _ _ _ _ _ _ _ _ _ _ _ _ h0 h1 h2 sink _ _ _ _ _ ssp sv _ _ _ _ hsp rb S0 w hr
    · by_cases h2 : b.t = bitsL
      · obtain ⟨m, r3, rfl⟩ := (hg1.tail_bits h2).cons
        have hg2 := hg1.tail_bits h2
        by_cases h3 : m.k = 2
        · obtain ⟨z, r4, rfl⟩ := (hg2.tail (by omega)).cons
          by_cases h4 : z.k = 4
          · by_cases h5 : m.n < 1
            · exact span_L01 _ _ _ _ _ _ _ _ _ _ _ _ _ _ _ _ _ _ _ _ _ h0 h1 h2 h3 h4 h5 sink _ _ _ _ _ ssp sv _ _ _ _ hsp rb S0 w hr
            · by_cases h6 : 255 < m.n
              · exact span_H01 _ _ _ _ _ _ _ _ _ _ _ _ _ _ _ _ _ _ _ _ _ h0 h1 h2 h3 h4 h5 h6 sink _ _ _ _ _ ssp sv _ _ _ _ hsp rb S0 w hr
              · exact span_A01 _ _ _ _ _ _ _ _ _ _ _ _ _ _ _ _ _ _ _ _ _ h0 h1 h2 h3 h4 h5 h6 sink _ _ _ _ _ ssp sv _ _ _ _ hsp rb S0 w hr
          · exact span_E01 _ _ _ _ _ _ _ _ _ _ _ _ _ _ _ _ _ _ _ _ _ h0 h1 h2 h3 h4 sink _ _ _ _ _ ssp sv _ _ _ _ hsp rb S0 w hr
        · exact span_Q01 _ _ _ _ _ _ _ _ _ _ _ _ _ _ _ _ h0 h1 h2 h3 sink _ _ _ _ _ ssp sv _ _ _ _ hsp rb S0 w hr
      · by_cases h3 : b.k = 4
        · exact span_A00 _ _ _ _ _ _ _ _ _ _ _ h0 h1 h2 h3 sink _ _ _ _ _ ssp sv _ _ _ _ hsp rb S0 w hr
        · exact span_E00 _ _ _ _ _ _ _ _ _ _ _ h0 h1 h2 h3 sink _ _ _ _ _ ssp sv _ _ _ _ hsp rb S0 w hr
  · exact span_P1 _ _ _ _ _ _ h0 sink _ _ _ _ _ ssp sv _ _ _ _ hsp rb S0 w hr
theorem readD_c (word : Tk) (l : List Tk) (ssp : List Mk) (sv : Value) (sdn stn : Int) (sdb stb : Bool) (hg : Good l) (rb S0 : Nat) (w : World) (hr : Rd rb S0 w ⟨l, ssp, sv, sdn, sdb, stn, stb⟩) :
    Calls Tryz.prog 56 #[.pointer (some ⟨rb, 0, none⟩), tkV word, .pointer (some ⟨rb, 2, none⟩), .func (.func 27) #[] #[]] w (SetEnd rb S0 sv w (fun o => ⟨o.r, ssp, sv, o.n, true, stn, stb⟩) (settM sdb mayD word l)) := by
  obtain ⟨wk, wx, wn, wl, wc⟩ := word
  obtain ⟨a, r, rfl⟩ := hg.cons
  by_cases h0 : a.k = 2
  · obtain ⟨z, r2, rfl⟩ := (hg.tail (by omega)).cons
    by_cases h1 : z.k = 4
    · cases h2 : sdb
      · cases h3 : mayD a.n
        · exact settD_R _ _ _ _ _ _ _ _ _ _ _ _ _ _ _ _ ssp sv _ _ _ _ h0 h1 rfl h3 rb S0 w (by rw [h2] at hr; exact hr)
        · exact settD_O _ _ _ _ _ _ _ _ _ _ _ _ _ _ _ _ ssp sv _ _ _ _ h0 h1 rfl h3 rb S0 w (by rw [h2] at hr; exact hr)
      · exact settD_T _ _ _ _ _ _ _ _ _ _ _ _ _ _ _ _ ssp sv _ _ _ _ h0 h1 rfl rb S0 w (by rw [h2] at hr; exact hr)
    · exact settD_Z _ _ _ _ _ _ _ _ _ _ _ _ _ _ _ _ ssp sv _ _ _ _ h0 h1 rb S0 w hr
  · exact settD_A _ _ _ _ _ _ _ _ _ _ _ ssp sv _ _ _ _ h0 rb S0 w hr
theorem readT_c (word : Tk) (l : List Tk) (ssp : List Mk) (sv : Value) (sdn stn : Int) (sdb stb : Bool) (hg : Good l) (rb S0 : Nat) (w : World) (hr : Rd rb S0 w ⟨l, ssp, sv, sdn, sdb, stn, stb⟩) :
    Calls Tryz.prog 56 #[.pointer (some ⟨rb, 0, none⟩), tkV word, .pointer (some ⟨rb, 4, none⟩), .func (.func 28) #[] #[]] w (SetEnd rb S0 sv w (fun o => ⟨o.r, ssp, sv, sdn, sdb, o.n, true⟩) (settM stb mayT word l)) := by
  obtain ⟨wk, wx, wn, wl, wc⟩ := word
  obtain ⟨a, r, rfl⟩ := hg.cons
  by_cases h0 : a.k = 2
  · obtain ⟨z, r2, rfl⟩ := (hg.tail (by omega)).cons
    by_cases h1 : z.k = 4
    · cases h2 : stb
      · cases h3 : mayT a.n
        · exact settT_R _ _ _ _ _ _ _ _ _ _ _ _ _ _ _ _ ssp sv _ _ _ _ h0 h1 rfl h3 rb S0 w (by rw [h2] at hr; exact hr)
        · exact settT_O _ _ _ _ _ _ _ _ _ _ _ _ _ _ _ _ ssp sv _ _ _ _ h0 h1 rfl h3 rb S0 w (by rw [h2] at hr; exact hr)
      · exact settT_T _ _ _ _ _ _ _ _ _ _ _ _ _ _ _ _ ssp sv _ _ _ _ h0 h1 rfl rb S0 w (by rw [h2] at hr; exact hr)
    · exact settT_Z _ _ _ _ _ _ _ _ _ _ _ _ _ _ _ _ ssp sv _ _ _ _ h0 h1 rb S0 w hr
  · exact settT_A _ _ _ _ _ _ _ _ _ _ _ ssp sv _ _ _ _ h0 rb S0 w hr
end Go.Proofs.YtjcmblbnbpikfaaGreatDoor
