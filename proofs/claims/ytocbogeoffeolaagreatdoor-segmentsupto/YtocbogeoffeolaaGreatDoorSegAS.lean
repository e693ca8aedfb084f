/-
  THE LAST STEP of a law over a script: from the walk to the given statement, where what is read is of a bounded bulk. (Segments.)
-/
import Derived.Test.YtocbogeoffeolaaGreatDoorSegAB
import Derived.Test.YtocbogeoffeolaaGreatDoorSegAQ
import Derived.Test.YtocbogeoffeolaaGreatDoorCards
import Derived.Test.YtocbogeoffeolaaGreatDoorTie
import Derived.Test.YtocbogeoffeolaaGreatDoorSegAR
import Derived.Deep.DeepHandedRow
import Derived.Lib.LaidTab
import Derived.LaidMore
import Derived.Stop.LaidErr
namespace Go.Proofs.YtocbogeoffeolaaGreatDoor
open Go.ChangeShapes Go.WideShapes Go.ChangeAt Go.RowKit

theorem ownSegments : ownKnob Tryz.prog.godebug = none := by kernel_rfl
theorem laidSegments : laidOutB Tryz.prog = true := by kernel_rfl

/-- What the walk must give: a script of so many Ops, the table of weights laid. -/
def WalkSegments : Prop := ∀ (a : Option Addr) (n cap : Nat) (w : World), WOk w → ScriptAt2 w a n → n ≤ 600000 →
  Calls Tryz.prog 3 #[.slice a n cap] w fun e w' => e = .returned (.bool true) ∧ Below w.heap.size w w'

theorem weightsSegments {W : World} (h : laidMetH Tryz.prog Rows.segmentsUptoRow.laid W) : WOk W := by
  rw [MakeChecks.laidMetH_plain _ _ _ (by kernel_rfl)] at h
  have h3 := h.tail.tail.tail
  have ht := Lib.tabIs_of_head (k := .u64) (zs := [4, 10, 25]) (g := 0) (t := 195) (e := 141) (n := 3) (by kernel_rfl) (by kernel_rfl) Tryz.underlying195 Tryz.underlying141 (by kernel_rfl) (by kernel_rfl) h3
  exact ⟨ht.cell (by kernel_rfl) 0 (by decide), ht.cell (by kernel_rfl) 1 (by decide), ht.cell (by kernel_rfl) 2 (by decide)⟩

theorem bulkAll_len {H : Type} (l : List (DataW H)) : l.length * 2 ≤ Rows.uptoBulkAll l + l.length := by
  induction l with
  | nil => simp [Rows.uptoBulkAll]
  | cons d r ih =>
    have : 1 ≤ Rows.uptoBulk d := by
      cases d with
      | lit l => cases l <;> simp [Rows.uptoBulk]
      | nil => simp [Rows.uptoBulk]
      | ptr d => simp [Rows.uptoBulk]
      | slice elems spare => simp [Rows.uptoBulk]
      | agg parts => simp [Rows.uptoBulk]
      | iface t d => simp [Rows.uptoBulk]
      | map entries => simp [Rows.uptoBulk]
      | held h => simp [Rows.uptoBulk]
    simp only [Rows.uptoBulkAll, List.length_cons]
    omega
/-- An Op is of bulk 2 at the least: a struct with fields. -/
theorem bulk_two {H : Type} (D : Nat → DataW H) : ∀ (n : Nat), (∀ i, i < n → 2 ≤ Rows.uptoBulk (D i)) → 2 * n ≤ Rows.uptoBulkAll ((List.range n).map D) := by
  have hap : ∀ l r : List (DataW H), Rows.uptoBulkAll (l ++ r) = Rows.uptoBulkAll l + Rows.uptoBulkAll r := by
    intro l r
    induction l with
    | nil => simp [Rows.uptoBulkAll]
    | cons x l ih => simp only [List.cons_append, Rows.uptoBulkAll, ih]; omega
  intro n
  induction n with
  | zero => intro _; omega
  | succ n ih =>
    intro h
    have h1 := ih (fun i hi => h i (by omega))
    have h2 := h n (by omega)
    rw [List.range_succ, List.map_append, hap]
    simp only [List.map_cons, List.map_nil, Rows.uptoBulkAll]
    omega

set_option maxRecDepth 100000 in
theorem contractSegments (hwalk : WalkSegments) (H : Type) (enc : TypeId × Value → H) (W : World) (base : Nat) (args : Array Value) (ds gs : List (DataW H)) (before : List MemPlace)
    (hval0 : ∀ (j : Nat) t v, Tryz.f3.params[j]? = some t → args[j]? = some v → Value.okWide Tryz.prog W .any base t v)
    (hW : DataW.Whole enc Tryz.prog Tryz.f3.params.toList Rows.segmentsSpec.vars false W args.toList ds gs before) (hk : Rows.uptoSmall H (ds ++ gs) = true) (hL : laidMetH Tryz.prog Rows.segmentsUptoRow.laid W) :
    Calls Tryz.prog 3 args W fun e W' => ∃ v, e = .returned v ∧ Rows.segmentsSpec.post enc Tryz.prog Tryz.f3 false true false false W args v W' := by
  have hval : ∀ (j : Nat) t v, Tryz.f3.params[j]? = some t → args[j]? = some v → Value.okWide Tryz.prog W .any base t v := hval0
  have hW' := hW
  obtain ⟨p, q, hA0, hV, rfl, hfz, hnd⟩ := hW
  have hA : DataW.TrodAll enc Tryz.prog W 0 (fun _ => true) true Tryz.f3.params.toList args.toList ds p := hA0
  rw [Tryz.params3] at hA hval
  obtain ⟨v0, vs0, d0, ds0, p0, q0, hargs, rfl, rfl, h0, r0⟩ := trodAll_cons hA
  obtain ⟨rfl, rfl, rfl⟩ := trodAll_nil r0
  obtain rfl : args = #[v0] := by cases args; simp_all
  obtain ⟨rfl, rfl⟩ := trodVars_none hV
  obtain ⟨a0, len0, cap0, rfl⟩ := okWide_slice Tryz.underlying22 (hval 0 22 v0 rfl rfl)
  have k0 := h0
  have lt0 : ∀ x ∈ p0, x.block < W.heap.size := by obtain ⟨m, hm⟩ := k0; exact DataW.trod_lt m _ _ _ hm
  have hsc : ScriptAt2 W a0 len0 ∧ len0 ≤ 600000 := by
    obtain ⟨fuel, hf⟩ := h0
    rcases Deep.open_slice Tryz.underlying22 hf with ⟨hcs, _⟩ | ⟨x, l, c, m, n, D, Pl, hcs, _, hl, hm, hmm, hx, hel⟩
    · simp [Value.cells] at hcs
      obtain ⟨rfl, rfl, rfl⟩ := hcs
      exact ⟨fun k hk => by omega, by omega⟩
    · simp [Value.cells] at hcs
      obtain ⟨rfl, rfl, rfl⟩ := hcs
      have hlm : len0 ≤ m := by rw [hmm]; split <;> omega
      have hall : Rows.uptoBulkAll ((List.range len0).map D) ≤ 1048576 := by
        have hk2 := of_decide_eq_true hk
        have hd : d0 = .slice ((List.range len0).map D) ((List.range (m - len0)).map fun j => D (len0 + j)) := by
          have := congrArg Prod.fst hx; exact this
        rw [hd] at hk2
        simp only [List.append_nil, Rows.uptoBulkAll, Rows.uptoBulk] at hk2
        omega
      constructor
      · intro k hk
        obtain ⟨b, off, spot⟩ := x
        have hsp : spot = none := by
          obtain ⟨cs0, hc0, _⟩ := hel 0 (by omega)
          rw [Tryz.cellsOp] at hc0
          obtain ⟨_, hlen, hcell⟩ := World.cells?_some hc0
          have h1 := hcell 0 (by omega)
          rw [List.getElem?_eq_getElem (by omega)] at h1
          simpa [Addr.add] using World.cell?_spot h1
        subst hsp
        obtain ⟨cs, hc, ht⟩ := hel k (by omega)
        rw [Tryz.cellsOp, Addr.add_lit] at hc
        obtain ⟨kind, Wn, N, M, K, S, T, aL, nL, cL, made, hop⟩ := op_open2 hc ht (Nat.le_trans (bulkAll_mem _ k (D k) (by simp [hk])) hall)
        exact ⟨b, off, kind, Wn, N, M, K, S, T, aL, nL, cL, made, rfl, hop⟩
      · have hk2 := of_decide_eq_true hk
        have hd : d0 = .slice ((List.range len0).map D) ((List.range (m - len0)).map fun j => D (len0 + j)) := by
          have := congrArg Prod.fst hx; exact this
        have hD : ∀ i, i < len0 → 2 ≤ Rows.uptoBulk (D i) := fun i hi => by
          obtain ⟨cs, hc, ht⟩ := hel i (by omega)
          obtain ⟨xs, n', rfl, hx', _, hxl, _⟩ := DataW.trod_struct Tryz.underlying77 ht
          have hDi : D i = .agg (xs.map (·.1)) := by have := congrArg Prod.fst hx'; exact this
          have hl9 : (xs.map (·.1)).length = 9 := by rw [List.length_map]; exact hxl
          have := bulkAll_len (xs.map (·.1))
          rw [hDi]
          simp only [Rows.uptoBulk]
          omega
        have := bulk_two D len0 hD
        rw [hd] at hk2
        simp only [List.append_nil, Rows.uptoBulkAll, Rows.uptoBulk] at hk2
        omega
  clear hA0 hval0 hargs
  simp only [List.append_nil] at hW'
  refine (hwalk a0 len0 cap0 W (weightsSegments hL) hsc.1 hsc.2).mono fun e W' ⟨he, bel⟩ => ?_
  subst he
  exact ⟨_, rfl, _, _, _, [], _, [], hW', trodAll_mk1 (shut_bool Tryz.underlying4 _), (trodAll_cons_mk (Below.trod laidSegments (by kernel_rfl) (of_decide_eq_true (by kernel_rfl)) k0 bel lt0) trodAll_mk0), rfl, bel.frame _, fun h => by cases h⟩

/-- The heap that the door's own run leaves. -/
theorem laid_metSegments (os : Os) : laidMet Tryz.prog Rows.segmentsUptoRow.laid ((World.doorLaid Tryz.prog 29 os).forCall (fun _ _ => 0) ⟨#[], #[.slice none 0 0], []⟩).memory :=
  laidMet_of_run' 8 (by kernel_rfl) (by kernel_rfl)
theorem readsSegments (os : Os) {H : Type} (enc : TypeId × Value → H) : ∃ places, DataW.whole enc Tryz.prog ((World.doorLaid Tryz.prog 29 os).forCall (fun _ _ => 0) ⟨#[], #[.slice none 0 0], []⟩).memory Tryz.f3.params.toList Rows.segmentsSpec.vars false #[Value.slice none 0 0].toList 8 = some ([.nil], [], places) :=
  ⟨[], by kernel_rfl⟩

set_option maxRecDepth 100000 in
theorem liftedSegments (hwalk : WalkSegments) (os : Os) (started : os.Started) (H : Type) (enc : TypeId × Value → H) (F : Stop.Interp) :
    ReturnsInHanded {} Tryz.checked os 3 .any ((Rows.OpenSpec.upto Rows.segmentsSpec).preRow enc Tryz.prog Tryz.f3 Rows.segmentsUptoRow.domain false Rows.segmentsUptoRow.laid) (((Rows.OpenSpec.upto Rows.segmentsSpec).at F).post enc Tryz.prog Tryz.f3 false true false false) := by
  obtain ⟨places, hx⟩ := readsSegments os enc
  refine returnsInHanded_of_row (C := Tryz.checked) (s := Rows.OpenSpec.upto Rows.segmentsSpec) ownSegments started (by kernel_rfl) Tryz.func3
    (witness_row_at (enc := enc) (C := Tryz.checked) false (World.doorLaid Tryz.prog 29 os) #[.slice none 0 0] rfl (by kernel_rfl) (by kernel_rfl) (by kernel_rfl)
      (OpenSpec.preRow_of_cond 8 hx (by kernel_rfl) (fun k hk => by cases hk; kernel_rfl) (by kernel_rfl) (laid_metSegments os))) ?_
  intro W base args ds gs before hval hW _ hcond _ hL _ _
  exact contractSegments hwalk H enc W base args ds gs before hval hW (hcond _ rfl) hL

theorem aloneSegments (hwalk : WalkSegments) : OpenClaim.holds Tryz.pinned (Rows.OpenSpec.upto Rows.segmentsSpec) { Rows.segmentsUptoRow with leaving := false } :=
  OpenClaim.holds_of_cond 3 Tryz.f3 rfl rfl rfl rfl rfl rfl rfl ⟨rfl, rfl, rfl, rfl, rfl⟩ rfl rfl rfl rfl rfl (by kernel_rfl) Tryz.func3 (by kernel_rfl)
    (of_decide_eq_true (by kernel_rfl)) (by unfold Func.isWrapper; first | (rw [if_pos (by decide +kernel)]; kernel_rfl) | (rw [if_neg (by decide +kernel)]; exact ⟨rfl, rfl⟩))
    (fun os started H enc _ F => by rw [OpenClaim.pre_eq_preRow]; exact liftedSegments hwalk os started H enc F)

theorem saidSegments (hwalk : WalkSegments) : Rows.SegmentsUptoSaid := holds_leaving (by kernel_rfl) rfl rfl rfl (aloneSegments hwalk)

theorem plainSegments (f : FuncId) (fn : Func) (hf : Tryz.pinned.checked.prog.funcNamed Rows.segmentsUptoRow.func = some f) (hfn : Tryz.pinned.checked.prog.funcs[f]? = some fn) :
    true = Tryz.pinned.checked.prog.looks [] ∧ ∀ (j : Nat) t, fn.params[j]? = some t → Tryz.pinned.checked.prog.wantsStandIn t = false := by
  obtain rfl : f = 3 := Option.some.inj ((show Tryz.prog.funcNamed Rows.segmentsUptoRow.func = some 3 by kernel_rfl).symm.trans hf) |>.symm
  obtain rfl : fn = Tryz.f3 := (Option.some.inj (Tryz.func3.symm.trans hfn)).symm
  refine ⟨by kernel_rfl, fun j t ht => ?_⟩
  rw [Tryz.params3] at ht
  obtain rfl : t = 22 := by simpa using Array.mem_of_getElem? ht
  exact (show Tryz.prog.wantsStandIn 22 = false by kernel_rfl)

end Go.Proofs.YtocbogeoffeolaaGreatDoor

