/-
  The zero value of a table: a policy without spans, and twice 65536 bits that are none; what a table is built of.
-/
import Derived.Test.YtcilnbkmaoneaaaDoorProg
import Derived.RowKit
import Derived.PlainAid
import Derived.Laws.Tables
set_option linter.unusedSimpArgs false
set_option linter.unusedVariables false
namespace Go.Proofs.YtcilnbkmaoneaaaDoor
open Go.RowKit Go.PlainAid
set_option maxRecDepth 100000

theorem twice9 {α : Type} {a : List α} {z : α} {m : Nat} (h : a = List.replicate m z) : List.append a a = List.replicate (m + m) z := by
  subst h
  exact List.replicate_append_replicate
theorem app9 {α : Type} {a b : List α} {z : α} {m n : Nat} (h : a = List.replicate m z) (g : b = List.replicate n z) : List.append a b = List.replicate (m + n) z := by
  subst h; subst g
  exact List.replicate_append_replicate
theorem head9 {α : Type} {a b h : List α} {z : α} {m n : Nat} (ha : a = h ++ List.replicate m z) (g : b = List.replicate n z) : List.append a b = h ++ List.replicate (m + n) z := by
  subst ha; subst g
  show (h ++ List.replicate m z) ++ List.replicate n z = _
  rw [List.append_assoc, List.replicate_append_replicate]
def zeroH : List Value := [.slice none 0 0, .slice none 0 0, .int .i64 0, .int .i64 0]
/-- The cells of a table without anything. -/
def zeroT : Array Value := (zeroH ++ List.replicate 131072 (Value.int .u8 0)).toArray
theorem zeroT_size : zeroT.size = 131076 := by unfold zeroT zeroH; rw [List.size_toArray, List.length_append, List.length_replicate]; rfl
theorem zeroT_get (i : Nat) (h : i < 131072) : zeroT[4 + i]? = some (.int .u8 0) := by
  unfold zeroT
  rw [List.getElem?_toArray, List.getElem?_append_right (by unfold zeroH; simp), show 4 + i - zeroH.length = i by unfold zeroH; simp, List.getElem?_replicate, if_pos h]
theorem zeroT_cells : Tryd.t69.zero = some (.agg zeroT) := by
  unfold Tryd.t69 zeroT
  refine congrArg (fun l : List Value => some (Value.agg l.toArray)) ?_
  refine head9 (m := 65534) (n := 65538) ?_ ?_
  · refine head9 (m := 32765) (n := 32769) ?_ ?_
    · refine head9 (m := 16380) (n := 16385) ?_ ?_
      · refine head9 (m := 8188) (n := 8192) ?_ ?_
        · refine head9 (m := 4092) (n := 4096) ?_ ?_
          · refine head9 (m := 2044) (n := 2048) ?_ ?_
            · refine head9 (m := 1020) (n := 1024) ?_ ?_
              · refine head9 (m := 508) (n := 512) ?_ ?_
                · refine head9 (m := 252) (n := 256) ?_ ?_
                  · refine head9 (m := 124) (n := 128) ?_ ?_
                    · refine head9 (m := 60) (n := 64) ?_ ?_
                      · rfl
                      · rfl
                    · refine (twice9 (m := 64) ?_)
                      rfl
                  · refine (twice9 (m := 128) ?_)
                    refine (twice9 (m := 64) ?_)
                    rfl
                · refine (twice9 (m := 256) ?_)
                  refine (twice9 (m := 128) ?_)
                  refine (twice9 (m := 64) ?_)
                  rfl
              · refine (twice9 (m := 512) ?_)
                refine (twice9 (m := 256) ?_)
                refine (twice9 (m := 128) ?_)
                refine (twice9 (m := 64) ?_)
                rfl
            · refine (twice9 (m := 1024) ?_)
              refine (twice9 (m := 512) ?_)
              refine (twice9 (m := 256) ?_)
              refine (twice9 (m := 128) ?_)
              refine (twice9 (m := 64) ?_)
              rfl
          · refine (twice9 (m := 2048) ?_)
            refine (twice9 (m := 1024) ?_)
            refine (twice9 (m := 512) ?_)
            refine (twice9 (m := 256) ?_)
            refine (twice9 (m := 128) ?_)
            refine (twice9 (m := 64) ?_)
            rfl
        · refine (twice9 (m := 4096) ?_)
          refine (twice9 (m := 2048) ?_)
          refine (twice9 (m := 1024) ?_)
          refine (twice9 (m := 512) ?_)
          refine (twice9 (m := 256) ?_)
          refine (twice9 (m := 128) ?_)
          refine (twice9 (m := 64) ?_)
          rfl
      · refine app9 (m := 8192) (n := 8193) ?_ ?_
        · refine (twice9 (m := 4096) ?_)
          refine (twice9 (m := 2048) ?_)
          refine (twice9 (m := 1024) ?_)
          refine (twice9 (m := 512) ?_)
          refine (twice9 (m := 256) ?_)
          refine (twice9 (m := 128) ?_)
          refine (twice9 (m := 64) ?_)
          rfl
        · refine app9 (m := 4096) (n := 4097) ?_ ?_
          · refine (twice9 (m := 2048) ?_)
            refine (twice9 (m := 1024) ?_)
            refine (twice9 (m := 512) ?_)
            refine (twice9 (m := 256) ?_)
            refine (twice9 (m := 128) ?_)
            refine (twice9 (m := 64) ?_)
            rfl
          · refine app9 (m := 2048) (n := 2049) ?_ ?_
            · refine (twice9 (m := 1024) ?_)
              refine (twice9 (m := 512) ?_)
              refine (twice9 (m := 256) ?_)
              refine (twice9 (m := 128) ?_)
              refine (twice9 (m := 64) ?_)
              rfl
            · refine app9 (m := 1024) (n := 1025) ?_ ?_
              · refine (twice9 (m := 512) ?_)
                refine (twice9 (m := 256) ?_)
                refine (twice9 (m := 128) ?_)
                refine (twice9 (m := 64) ?_)
                rfl
              · refine app9 (m := 512) (n := 513) ?_ ?_
                · refine (twice9 (m := 256) ?_)
                  refine (twice9 (m := 128) ?_)
                  refine (twice9 (m := 64) ?_)
                  rfl
                · refine app9 (m := 256) (n := 257) ?_ ?_
                  · refine (twice9 (m := 128) ?_)
                    refine (twice9 (m := 64) ?_)
                    rfl
                  · refine app9 (m := 128) (n := 129) ?_ ?_
                    · refine (twice9 (m := 64) ?_)
                      rfl
                    · refine app9 (m := 64) (n := 65) ?_ ?_
                      · rfl
                      · refine app9 (m := 32) (n := 33) ?_ ?_
                        · rfl
                        · rfl
    · refine app9 (m := 16384) (n := 16385) ?_ ?_
      · refine (twice9 (m := 8192) ?_)
        refine (twice9 (m := 4096) ?_)
        refine (twice9 (m := 2048) ?_)
        refine (twice9 (m := 1024) ?_)
        refine (twice9 (m := 512) ?_)
        refine (twice9 (m := 256) ?_)
        refine (twice9 (m := 128) ?_)
        refine (twice9 (m := 64) ?_)
        rfl
      · refine app9 (m := 8192) (n := 8193) ?_ ?_
        · refine (twice9 (m := 4096) ?_)
          refine (twice9 (m := 2048) ?_)
          refine (twice9 (m := 1024) ?_)
          refine (twice9 (m := 512) ?_)
          refine (twice9 (m := 256) ?_)
          refine (twice9 (m := 128) ?_)
          refine (twice9 (m := 64) ?_)
          rfl
        · refine app9 (m := 4096) (n := 4097) ?_ ?_
          · refine (twice9 (m := 2048) ?_)
            refine (twice9 (m := 1024) ?_)
            refine (twice9 (m := 512) ?_)
            refine (twice9 (m := 256) ?_)
            refine (twice9 (m := 128) ?_)
            refine (twice9 (m := 64) ?_)
            rfl
          · refine app9 (m := 2048) (n := 2049) ?_ ?_
            · refine (twice9 (m := 1024) ?_)
              refine (twice9 (m := 512) ?_)
              refine (twice9 (m := 256) ?_)
              refine (twice9 (m := 128) ?_)
              refine (twice9 (m := 64) ?_)
              rfl
            · refine app9 (m := 1024) (n := 1025) ?_ ?_
              · refine (twice9 (m := 512) ?_)
                refine (twice9 (m := 256) ?_)
                refine (twice9 (m := 128) ?_)
                refine (twice9 (m := 64) ?_)
                rfl
              · refine app9 (m := 512) (n := 513) ?_ ?_
                · refine (twice9 (m := 256) ?_)
                  refine (twice9 (m := 128) ?_)
                  refine (twice9 (m := 64) ?_)
                  rfl
                · refine app9 (m := 256) (n := 257) ?_ ?_
                  · refine (twice9 (m := 128) ?_)
                    refine (twice9 (m := 64) ?_)
                    rfl
                  · refine app9 (m := 128) (n := 129) ?_ ?_
                    · refine (twice9 (m := 64) ?_)
                      rfl
                    · refine app9 (m := 64) (n := 65) ?_ ?_
                      · rfl
                      · refine app9 (m := 32) (n := 33) ?_ ?_
                        · rfl
                        · rfl
  · refine app9 (m := 32769) (n := 32769) ?_ ?_
    · refine app9 (m := 16384) (n := 16385) ?_ ?_
      · refine (twice9 (m := 8192) ?_)
        refine (twice9 (m := 4096) ?_)
        refine (twice9 (m := 2048) ?_)
        refine (twice9 (m := 1024) ?_)
        refine (twice9 (m := 512) ?_)
        refine (twice9 (m := 256) ?_)
        refine (twice9 (m := 128) ?_)
        refine (twice9 (m := 64) ?_)
        rfl
      · refine app9 (m := 8192) (n := 8193) ?_ ?_
        · refine (twice9 (m := 4096) ?_)
          refine (twice9 (m := 2048) ?_)
          refine (twice9 (m := 1024) ?_)
          refine (twice9 (m := 512) ?_)
          refine (twice9 (m := 256) ?_)
          refine (twice9 (m := 128) ?_)
          refine (twice9 (m := 64) ?_)
          rfl
        · refine app9 (m := 4096) (n := 4097) ?_ ?_
          · refine (twice9 (m := 2048) ?_)
            refine (twice9 (m := 1024) ?_)
            refine (twice9 (m := 512) ?_)
            refine (twice9 (m := 256) ?_)
            refine (twice9 (m := 128) ?_)
            refine (twice9 (m := 64) ?_)
            rfl
          · refine app9 (m := 2048) (n := 2049) ?_ ?_
            · refine (twice9 (m := 1024) ?_)
              refine (twice9 (m := 512) ?_)
              refine (twice9 (m := 256) ?_)
              refine (twice9 (m := 128) ?_)
              refine (twice9 (m := 64) ?_)
              rfl
            · refine app9 (m := 1024) (n := 1025) ?_ ?_
              · refine (twice9 (m := 512) ?_)
                refine (twice9 (m := 256) ?_)
                refine (twice9 (m := 128) ?_)
                refine (twice9 (m := 64) ?_)
                rfl
              · refine app9 (m := 512) (n := 513) ?_ ?_
                · refine (twice9 (m := 256) ?_)
                  refine (twice9 (m := 128) ?_)
                  refine (twice9 (m := 64) ?_)
                  rfl
                · refine app9 (m := 256) (n := 257) ?_ ?_
                  · refine (twice9 (m := 128) ?_)
                    refine (twice9 (m := 64) ?_)
                    rfl
                  · refine app9 (m := 128) (n := 129) ?_ ?_
                    · refine (twice9 (m := 64) ?_)
                      rfl
                    · refine app9 (m := 64) (n := 65) ?_ ?_
                      · rfl
                      · refine app9 (m := 32) (n := 33) ?_ ?_
                        · rfl
                        · rfl
    · refine app9 (m := 16384) (n := 16385) ?_ ?_
      · refine (twice9 (m := 8192) ?_)
        refine (twice9 (m := 4096) ?_)
        refine (twice9 (m := 2048) ?_)
        refine (twice9 (m := 1024) ?_)
        refine (twice9 (m := 512) ?_)
        refine (twice9 (m := 256) ?_)
        refine (twice9 (m := 128) ?_)
        refine (twice9 (m := 64) ?_)
        rfl
      · refine app9 (m := 8192) (n := 8193) ?_ ?_
        · refine (twice9 (m := 4096) ?_)
          refine (twice9 (m := 2048) ?_)
          refine (twice9 (m := 1024) ?_)
          refine (twice9 (m := 512) ?_)
          refine (twice9 (m := 256) ?_)
          refine (twice9 (m := 128) ?_)
          refine (twice9 (m := 64) ?_)
          rfl
        · refine app9 (m := 4096) (n := 4097) ?_ ?_
          · refine (twice9 (m := 2048) ?_)
            refine (twice9 (m := 1024) ?_)
            refine (twice9 (m := 512) ?_)
            refine (twice9 (m := 256) ?_)
            refine (twice9 (m := 128) ?_)
            refine (twice9 (m := 64) ?_)
            rfl
          · refine app9 (m := 2048) (n := 2049) ?_ ?_
            · refine (twice9 (m := 1024) ?_)
              refine (twice9 (m := 512) ?_)
              refine (twice9 (m := 256) ?_)
              refine (twice9 (m := 128) ?_)
              refine (twice9 (m := 64) ?_)
              rfl
            · refine app9 (m := 1024) (n := 1025) ?_ ?_
              · refine (twice9 (m := 512) ?_)
                refine (twice9 (m := 256) ?_)
                refine (twice9 (m := 128) ?_)
                refine (twice9 (m := 64) ?_)
                rfl
              · refine app9 (m := 512) (n := 513) ?_ ?_
                · refine (twice9 (m := 256) ?_)
                  refine (twice9 (m := 128) ?_)
                  refine (twice9 (m := 64) ?_)
                  rfl
                · refine app9 (m := 256) (n := 257) ?_ ?_
                  · refine (twice9 (m := 128) ?_)
                    refine (twice9 (m := 64) ?_)
                    rfl
                  · refine app9 (m := 128) (n := 129) ?_ ?_
                    · refine (twice9 (m := 64) ?_)
                      rfl
                    · refine app9 (m := 64) (n := 65) ?_ ?_
                      · rfl
                      · refine app9 (m := 32) (n := 33) ?_ ?_
                        · rfl
                        · rfl
/-- A table of a policy, before it is filled. -/
def tabA (x y z t : Value) : Array Value := (((zeroT.setIfInBounds 0 x).setIfInBounds 1 y).setIfInBounds 2 z).setIfInBounds 3 t
theorem tabA_size (x y z t : Value) : (tabA x y z t).size = 131076 := by unfold tabA; simp only [Array.size_setIfInBounds, zeroT_size]
theorem tabA_head (x y z t : Value) : (tabA x y z t)[0]? = some x ∧ (tabA x y z t)[1]? = some y ∧ (tabA x y z t)[2]? = some z ∧ (tabA x y z t)[3]? = some t := by
  unfold tabA
  have h := zeroT_size
  refine ⟨?_, ?_, ?_, ?_⟩ <;> simp [Array.getElem?_setIfInBounds, h]
theorem tabA_at (x y z t : Value) (i : Nat) (h : i < 131072) : (tabA x y z t)[4 + i]? = some (.int .u8 0) := by
  unfold tabA
  rw [Array.getElem?_setIfInBounds_ne (by omega), Array.getElem?_setIfInBounds_ne (by omega), Array.getElem?_setIfInBounds_ne (by omega), Array.getElem?_setIfInBounds_ne (by omega)]
  exact zeroT_get i h
theorem info_tab : Tryd.prog.info? 69 = some Tryd.t69 := rfl
theorem built_tab (x y z t : Value) : Tryd.prog.built 69 [(0, .agg #[x, y, z, t])] = some (tabA x y z t) := by
  obtain ⟨fs, hu, hp⟩ : ∃ fs : Array Field, Tryd.prog.underlying 69 = some (.struct fs) ∧ (fs.toList.mapM fun f => (Tryd.prog.info? f.type).map fun i => (f.offset, i.size)) = some [(0, 4), (4, 65536), (65540, 65536)] := ⟨_, rfl, by kernel_rfl⟩
  unfold Program.built
  rw [info_tab, hu]
  dsimp only
  rw [zeroT_cells, hp]
  have hz := zeroT_size
  unfold tabA
  generalize zeroT = Z at *
  simp [Instr.fill, Value.cells, hz]
theorem run_built {P : Program} {ops : Array Oper} {rest : List Oper} {o : Oper} {a : Act} {w : World} {Q : Exit → Act → World → Prop} (hg : o.guard = none) (t : TypeId) (parts : Array (Nat × Operand)) (ho : o.op = .build t parts) (L : List (Nat × Value)) (cells : Array Value)
    (hL : (parts.map fun (i, x) => (i, a.eval x)).toList = L) (hf : P.built t L = some cells) (h : wpList P ops Q rest (a.put o.dst (.agg cells)) w) : wpList P ops Q (o :: rest) a w := by
  subst hL
  refine wpList_build hg t parts ho (by rw [hf]; rfl) ?_
  rw [hf]
  exact h
theorem run_boxed {P : Program} {ops : Array Oper} {rest : List Oper} {o : Oper} {a : Act} {w : World} {Q : Exit → Act → World → Prop} (hg : o.guard = none) (t : TypeId) (x : Operand) (ho : o.op = .box t x) (cells : Array Value) (hx : a.eval x = .agg cells)
    (h : wpList P ops Q rest (a.put o.dst (.pointer (some ⟨w.heap.size, 0, none⟩))) (w.alloc (.cells cells t))) : wpList P ops Q (o :: rest) a w := by
  refine wpList_plain hg fun K hK => ?_
  unfold Oper.wp execOp
  simp only [ho, hx, Value.cells, Sem.run_bind, Instr.box, newVar, newRow, run_newObj_alloc, Sem.run_pure, Result.andThen_ok]
  exact hK _ _ h
end Go.Proofs.YtcilnbkmaoneaaaDoor
