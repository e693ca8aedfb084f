/-
  THE ARGUMENT OPENED: a script ([]Op) that reads as data, as its cells; how many Ops it has, by its bulk.
-/
import Derived.Test.YtocbogeoffeolaaGreatDoorW17
import Derived.Test.YtocbogeoffeolaaGreatDoorRows
import Derived.ProofKit
import Derived.OpenShut
import Derived.JoinedCond
import Derived.Deep.Slices
import Derived.Lib.SmallJoins
namespace Go.Proofs.YtocbogeoffeolaaGreatDoor
open Go.ChangeShapes Go.WideShapes Go.ChangeAt Go.RowKit

theorem Tryz.cellsOp : Tryz.prog.cellsOf 77 = 9 := by kernel_rfl
theorem Tryz.cells3 : Tryz.prog.cellsOf 3 = 1 := by kernel_rfl
theorem Tryz.cells9 : Tryz.prog.cellsOf 9 = 1 := by kernel_rfl
theorem Tryz.cells32 : Tryz.prog.cellsOf 75 = 1 := by kernel_rfl
theorem Tryz.cells4 : Tryz.prog.cellsOf 4 = 1 := by kernel_rfl

theorem int_bounds {n : Int} (h : (Lit.int .i64 n).wf = true) : -9223372036854775808 ≤ n ∧ n ≤ 9223372036854775807 := by
  have h1 : IntKind.i64.min = -9223372036854775808 := rfl
  have h2 : IntKind.i64.max = 9223372036854775807 := rfl
  simp only [Lit.wf, Bool.and_eq_true, decide_eq_true_eq] at h
  omega

theorem cell_of_drop {cs : List Value} {o : Nat} {v : Value} (h : (cs.drop o).take 1 = [v]) : cs[o]? = some v := by
  have : ((cs.drop o).take 1)[0]? = some v := by rw [h]; rfl
  rw [List.getElem?_take, if_pos (by omega), List.getElem?_drop] at this
  simpa using this

/-- One Op, opened. -/
theorem op_open {H : Type} {enc : TypeId × Value → H} {w : World} {base : Nat} {spare : Nat → Bool} {held : Bool} {fuel : Nat} {b o : Nat} {cs : List Value} {x : DataW H × List MemPlace}
    (hc : w.cells? base ⟨b, o, none⟩ 9 = some cs) (h : DataW.trod enc Tryz.prog w base spare held fuel 77 cs = some x) :
    ∃ kind W N M K S T aL nL cL made, OpAt w b o kind W N M K S T aL nL cL made := by
  obtain ⟨xs, n, rfl, _, hl, hxl, hf⟩ := DataW.trod_struct Tryz.underlying77 h
  obtain ⟨_, hlen, hcell⟩ := World.cells?_some hc
  have hx9 : xs.length = 9 := hxl
  have field : ∀ (i : Nat) (hi : i < 9), ∃ y, xs[i]? = some y := fun i hi => ⟨xs[i], List.getElem?_eq_getElem (by omega)⟩
  have cell : ∀ i, i < 9 → ∀ v, cs[i]? = some v → w.cell? ⟨b, o + i, none⟩ = some v := fun i hi v hv => by
    have := hcell i hi
    rw [Addr.add_lit, hv] at this
    exact this
  obtain ⟨y0, e0⟩ := field 0 (by omega)
  obtain ⟨y1, e1⟩ := field 1 (by omega)
  obtain ⟨y2, e2⟩ := field 2 (by omega)
  obtain ⟨y3, e3⟩ := field 3 (by omega)
  obtain ⟨y4, e4⟩ := field 4 (by omega)
  obtain ⟨y5, e5⟩ := field 5 (by omega)
  obtain ⟨y6, e6⟩ := field 6 (by omega)
  obtain ⟨y7, e7⟩ := field 7 (by omega)
  obtain ⟨y8, e8⟩ := field 8 (by omega)
  have f0 : DataW.trod enc Tryz.prog w base spare held n 3 ((cs.drop 0).take (Tryz.prog.cellsOf 3)) = some y0 := (hf 0 _ rfl).trans e0
  have f1 : DataW.trod enc Tryz.prog w base spare held n 3 ((cs.drop 1).take (Tryz.prog.cellsOf 3)) = some y1 := (hf 1 _ rfl).trans e1
  have f2 : DataW.trod enc Tryz.prog w base spare held n 3 ((cs.drop 2).take (Tryz.prog.cellsOf 3)) = some y2 := (hf 2 _ rfl).trans e2
  have f3 : DataW.trod enc Tryz.prog w base spare held n 3 ((cs.drop 3).take (Tryz.prog.cellsOf 3)) = some y3 := (hf 3 _ rfl).trans e3
  have f4 : DataW.trod enc Tryz.prog w base spare held n 3 ((cs.drop 4).take (Tryz.prog.cellsOf 3)) = some y4 := (hf 4 _ rfl).trans e4
  have f5 : DataW.trod enc Tryz.prog w base spare held n 9 ((cs.drop 5).take (Tryz.prog.cellsOf 9)) = some y5 := (hf 5 _ rfl).trans e5
  have f6 : DataW.trod enc Tryz.prog w base spare held n 9 ((cs.drop 6).take (Tryz.prog.cellsOf 9)) = some y6 := (hf 6 _ rfl).trans e6
  have f7 : DataW.trod enc Tryz.prog w base spare held n 75 ((cs.drop 7).take (Tryz.prog.cellsOf 75)) = some y7 := (hf 7 _ rfl).trans e7
  have f8 : DataW.trod enc Tryz.prog w base spare held n 4 ((cs.drop 8).take (Tryz.prog.cellsOf 4)) = some y8 := (hf 8 _ rfl).trans e8
  rw [Tryz.cells3] at f0 f1 f2 f3 f4
  rw [Tryz.cells9] at f5 f6
  rw [Tryz.cells32] at f7
  rw [Tryz.cells4] at f8
  obtain ⟨kind, g0, _, _⟩ := DataW.trod_int Tryz.underlying3 f0
  obtain ⟨W, g1, _, w1⟩ := DataW.trod_int Tryz.underlying3 f1
  obtain ⟨N, g2, _, _⟩ := DataW.trod_int Tryz.underlying3 f2
  obtain ⟨M, g3, _, _⟩ := DataW.trod_int Tryz.underlying3 f3
  obtain ⟨K, g4, _, w4⟩ := DataW.trod_int Tryz.underlying3 f4
  obtain ⟨S, g5, _, s5⟩ := DataW.trod_string Tryz.underlying9 f5
  obtain ⟨T, g6, _, _⟩ := DataW.trod_string Tryz.underlying9 f6
  obtain ⟨aL, nL, cL, g7⟩ := Go.Joins.slice_form Tryz.underlying75 f7
  obtain ⟨made, g8, _⟩ := DataW.trod_bool Tryz.underlying4 f8
  have b1 := int_bounds w1
  have b4 := int_bounds w4
  exact ⟨kind, W, N, M, K, S, T, aL, nL, cL, made, cell 0 (by omega) _ (cell_of_drop g0), cell 1 (by omega) _ (cell_of_drop g1), cell 2 (by omega) _ (cell_of_drop g2), cell 3 (by omega) _ (cell_of_drop g3), cell 4 (by omega) _ (cell_of_drop g4), cell 5 (by omega) _ (cell_of_drop g5), cell 6 (by omega) _ (cell_of_drop g6), cell 7 (by omega) _ (cell_of_drop g7), cell 8 (by omega) _ (cell_of_drop g8), b1.1, b1.2, b4.1, b4.2, s5⟩

end Go.Proofs.YtocbogeoffeolaaGreatDoor
