/-
  REGIONS THAT DRAW THEIR ORDER, WHOSE OPERATIONS MAKE MEMORY BUT TURN NO ELDER ONE: what yields one value in every world that has grown so may be taken first.
  WALKS: the document's own answer: node. (Made by wip/mknode.py.)
-/
import Derived.Test.YtocbogeoffeolaaGreatDoorSegAF
import Derived.Test.YtocbogeoffeolaaGreatDoorSegAH
import Derived.OrdersHeld
import Derived.Below
import Derived.WalkKit
namespace Go.Proofs.YtocbogeoffeolaaGreatDoor
open Go.RowKit

def Ext (y y' : World) : Prop := Below y.heap.size y y'
theorem Ext.refl (y : World) : Ext y y := Below.refl _ _
theorem Ext.trans {a b c : World} (h : Ext a b) (h' : Ext b c) : Ext a c := Below.trans h (Below.mono h' (Below.size h))
theorem Ext.alloc (y : World) (o : Obj) : Ext y (y.alloc o) := (Below.refl _ _).alloc (Nat.le_refl _) o
def Stable (C : World → Prop) : Prop := ∀ y y', C y → Ext y y' → C y'
theorem stable_ext (w : World) : Stable (Ext w) := fun _ _ h h' => h.trans h'
theorem Stable.and {C D : World → Prop} (h : Stable C) (h' : Stable D) : Stable (fun y => C y ∧ D y) := fun y y' hh he => ⟨h y y' hh.1 he, h' y y' hh.2 he⟩

section
variable {P : Program} {ops : Array Oper} {md : Region.Mode} {Q : Exit → Act → World → Prop}

def JUpon (P : Program) (w : World) (B : Value → World → Prop) : Result Go.Next → Prop
  | .ok (.value u) w' => B u w'
  | .ok .skip w' => B undef w'
  | .ok (.enter f args) w' => w' = w ∧ Calls P f args w (fun e w'' => ∃ v, e = .returned v ∧ B v w'')
  | _ => False
def jAt (P : Program) (o : Oper) (a : Act) (w : World) (B : Value → World → Prop) : Prop := JUpon P w B ((execOp a.eval o).run P w)
theorem JUpon.mono {w : World} {B B' : Value → World → Prop} (h : ∀ v w, B v w → B' v w) : ∀ {r : Result Go.Next}, JUpon P w B r → JUpon P w B' r := by
  intro r hh
  cases r with
  | ok n w' =>
    cases n <;> simp only [JUpon] at hh ⊢
    case value u => exact h _ _ hh
    case skip => exact h _ _ hh
    case enter f args => exact ⟨hh.1, hh.2.mono fun e w'' ⟨v, he, hb⟩ => ⟨v, he, h _ _ hb⟩⟩
  | halt x w' => simp only [JUpon] at hh

/-- An operation comes up in a class of worlds. -/
def JOp (P : Program) (ops : Array Oper) (i : Nat) (C : World → Prop) (K : (World → Prop) → Act → Prop) (a : Act) : Prop :=
  match ops[i]? with
  | none => K C a
  | some o => if Region.wanted o (yielded ops a.tmps) = true then
      ∃ (X : Type) (Cx : X → World → Prop) (vx : X → Value), (∀ x, Stable (Cx x)) ∧ (∀ x y, Cx x y → C y) ∧ (∀ y, C y → jAt P o a y (fun v y' => Ext y y' ∧ ∃ x, v = vx x ∧ Cx x y')) ∧ ∀ x, K (Cx x) (a.put o.dst (vx x))
    else K C (a.put o.dst undef)

theorem JOp_mono {i : Nat} {C : World → Prop} {K K' : (World → Prop) → Act → Prop} {a : Act} (h : ∀ C a, K C a → K' C a) (hh : JOp P ops i C K a) : JOp P ops i C K' a := by
  unfold JOp at *
  split
  · rename_i ho; simp only [ho] at hh; exact h _ _ hh
  · rename_i o ho
    simp only [ho] at hh
    split
    · rename_i hw
      simp only [hw, if_true] at hh
      obtain ⟨X, Cx, vx, h1, h2, h3, h4⟩ := hh
      exact ⟨X, Cx, vx, h1, h2, h3, fun x => h _ _ (h4 x)⟩
    · rename_i hw; simp only [hw] at hh; exact h _ _ hh

/-- Whatever order is picked from here on, in whatever world of the class. -/
def WX (P : Program) (md : Region.Mode) (ops : Array Oper) (Q : Exit → Act → World → Prop) : Nat → Array Bool → (World → Prop) → Act → Prop
  | 0, listed, C, a => Region.ready md ops listed = [] ∧ ∀ y, C y → Q .normal a y
  | fuel + 1, listed, C, a =>
    (Region.ready md ops listed = [] → ∀ y, C y → Q .normal a y) ∧
    ∀ i ∈ Region.ready md ops listed, JOp P ops i C (fun C' a' => WX P md ops Q fuel (listed.setIfInBounds i true) C' a') a

theorem wpOp_of_JOp {i : Nat} {C : World → Prop} {K : (World → Prop) → Act → Prop} {K' : Act → World → Prop} {a : Act} {w : World} (hC : C w) (h : ∀ C a w, C w → K C a → K' a w) (hh : JOp P ops i C K a) : wpOp P ops Q i K' a w := by
  unfold JOp at hh
  unfold wpOp
  split
  · rename_i ho; simp only [ho] at hh; exact h _ _ _ hC hh
  · rename_i o ho
    simp only [ho] at hh
    split
    · rename_i hw
      simp only [hw, if_true] at hh
      obtain ⟨X, Cx, vx, _, _, h3, h4⟩ := hh
      have h5 := h3 w hC
      refine .inl ?_
      unfold jAt at h5
      unfold Oper.wp
      generalize (execOp a.eval o).run P w = r at *
      cases r with
      | ok n w' =>
        cases n <;> simp only [JUpon] at h5 <;> simp only [Oper.upon]
        case value u =>
          obtain ⟨_, x, rfl, hx⟩ := h5
          exact h _ _ _ hx (h4 x)
        case skip =>
          obtain ⟨_, x, e, hx⟩ := h5
          rw [e]
          exact h _ _ _ hx (h4 x)
        case enter f args =>
          obtain ⟨e1, hc⟩ := h5
          rw [e1]
          refine hc.mono fun e w'' he => ?_
          obtain ⟨v, rfl, _, x, rfl, hx⟩ := he
          exact h _ _ _ hx (h4 x)
      | halt x w' => simp only [JUpon] at h5
    · rename_i hw; simp only [hw] at hh; exact h _ _ _ hC hh

theorem wpAny_of_WX : ∀ (fuel : Nat) (listed : Array Bool) (C : World → Prop) (a : Act) (w : World), C w → WX P md ops Q fuel listed C a → wpAny P md ops Q fuel listed a w
  | 0, _, _, _, w, hw, h => ⟨h.1, h.2 w hw⟩
  | fuel + 1, _, _, _, w, hw, h => ⟨fun h0 => h.1 h0 w hw, fun i hi => wpOp_of_JOp hw (fun C' a' w' hw' h' => wpAny_of_WX fuel _ C' a' w' hw' h') (h.2 i hi)⟩

/-- In every world of the class an operation yields this one value, and turns no elder memory. -/
def YieldsX (P : Program) (ops : Array Oper) (C : World → Prop) (o : Oper) (v : Value) (a : Act) : Prop :=
  (Region.wanted o (yielded ops a.tmps) = true ∧ ∀ y, C y → jAt P o a y (fun u y' => Ext y y' ∧ u = v)) ∨
  (Region.wanted o (yielded ops a.tmps) = false ∧ v = undef)
theorem YieldsX.sub {C C' : World → Prop} {o : Oper} {v : Value} {a : Act} (h : YieldsX P ops C o v a) (hs : ∀ y, C' y → C y) : YieldsX P ops C' o v a := by
  rcases h with ⟨h1, h2⟩ | h
  · exact .inl ⟨h1, fun y hy => h2 y (hs y hy)⟩
  · exact .inr h
theorem YieldsX.of_same {C : World → Prop} {o : Oper} {v : Value} {a a' : Act} (hy : YieldsX P ops C o v a) (he : execOp a'.eval o = execOp a.eval o)
    (hw : Region.wanted o (yielded ops a'.tmps) = Region.wanted o (yielded ops a.tmps)) : YieldsX P ops C o v a' := by
  unfold YieldsX jAt at *
  rw [he, hw]
  exact hy
theorem YieldsX.jOp {C : World → Prop} {i : Nat} {o : Oper} {v : Value} {a : Act} (hi : ops[i]? = some o) (hC : Stable C) (hy : YieldsX P ops C o v a) {K : (World → Prop) → Act → Prop} (h : K C (a.put o.dst v)) : JOp P ops i C K a := by
  unfold JOp
  simp only [hi]
  rcases hy with ⟨hw, hv⟩ | ⟨hw, rfl⟩
  · simp only [hw, if_true]
    exact ⟨Unit, fun _ => C, fun _ => v, fun _ => hC, fun _ _ h => h, fun y hy => (hv y hy).mono fun u y' ⟨h1, h2⟩ => ⟨h1, (), h2, hC y y' hy h1⟩, fun _ => h⟩
  · simp only [hw, Bool.false_eq_true, if_false]; exact h

theorem JOp_put {C : World → Prop} {j : Nat} {oi oj : Oper} {v : Value} (hj : ops[j]? = some oj) (hap : oi.apart ops oj = true)
    (hsi : ∀ cs b, oi.op ≠ .select cs b) (hsj : ∀ cs b, oj.op ≠ .select cs b) {K : (World → Prop) → Act → Prop} {a : Act} (hC : Stable C)
    (hy : YieldsX P ops C oi v a) (h : JOp P ops j C K (a.put oi.dst v)) :
    JOp P ops j C (fun C' a' => Stable C' ∧ YieldsX P ops C' oi v a' ∧ K C' (a'.put oi.dst v)) a := by
  obtain ⟨h1, h2, h3⟩ := Oper.apart_spec hap
  have keep : ∀ (C : World → Prop) (a : Act), YieldsX P ops C oi v a → ∀ u, YieldsX P ops C oi v (a.put oj.dst u) := fun C a hy u =>
    hy.of_same (execOp_put oi hsi a oj.dst u h3) (wanted_put oi a oj.dst u h3)
  unfold JOp at *
  simp only [hj] at *
  rw [wanted_put oj a oi.dst v h1] at h
  split
  · rename_i hw
    simp only [hw, if_true] at h
    obtain ⟨X, Cx, vx, q1, q2, q3, q4⟩ := h
    refine ⟨X, Cx, vx, q1, q2, fun y hy' => ?_, fun x => ⟨q1 x, keep _ _ (hy.sub (q2 x)) _, by rw [← Act.put_comm a v (vx x) h2]; exact q4 x⟩⟩
    have := q3 y hy'
    unfold jAt at *
    rwa [execOp_put oj hsj a oi.dst v h1] at this
  · rename_i hw
    simp only [hw] at h
    exact ⟨hC, keep _ a hy _, by rw [← Act.put_comm a v undef h2]; exact h⟩

theorem WX_first {i : Nat} {oi : Oper} {v : Value} (hi : ops[i]? = some oi) (hsel : ∀ (j : Nat) (o : Oper) cs b, ops[j]? = some o → o.op ≠ .select cs b) :
    ∀ (fuel : Nat) (listed : Array Bool) (C : World → Prop) (a : Act),
      (∀ j oj, ops[j]? = some oj → j ≠ i → listed.getD j true = false → (∀ e ∈ oj.after, Region.binds md e = true → e.on ≠ i) → oi.apart ops oj = true) →
      i ∈ Region.ready md ops listed → Stable C → YieldsX P ops C oi v a →
      WX P md ops Q fuel (listed.setIfInBounds i true) C (a.put oi.dst v) → WX P md ops Q (fuel + 1) listed C a := by
  intro fuel
  induction fuel with
  | zero =>
    intro listed C a _ hr hC hy H
    refine ⟨fun h => (by rw [h] at hr; cases hr), fun j hj => ?_⟩
    by_cases hji : j = i
    · subst hji; exact hy.jOp hi hC H
    · have := ready_mono hj hji
      rw [H.1] at this
      cases this
  | succ fuel ih =>
    intro listed C a hfree hr hC hy H
    refine ⟨fun h => (by rw [h] at hr; cases hr), fun j hj => ?_⟩
    by_cases hji : j = i
    · subst hji; exact hy.jOp hi hC H
    · have h1 := H.2 j (ready_mono hj hji)
      obtain ⟨hjun, oj, hoj, hall⟩ := mem_ready.1 hj
      have hnot : ∀ e ∈ oj.after, Region.binds md e = true → e.on ≠ i := fun e he hb heq => by
        have h1 := hall e he hb
        have h0 := (mem_ready.1 hr).1
        rw [heq] at h1
        rcases Nat.lt_or_ge i listed.size with h' | h'
        · simp [h'] at h0 h1; rw [h0] at h1; cases h1
        · simp [Array.getElem?_eq_none h'] at h1
      have h2 := JOp_put hoj (hfree j oj hoj hji hjun hnot) (fun cs b => hsel i oi cs b hi) (fun cs b => hsel j oj cs b hoj) hC hy h1
      have hfree' : ∀ k ok, ops[k]? = some ok → k ≠ i → (listed.setIfInBounds j true).getD k true = false →
          (∀ e ∈ ok.after, Region.binds md e = true → e.on ≠ i) → oi.apart ops ok = true := fun k ok hk hki hun hno => by
        refine hfree k ok hk hki ?_ hno
        by_cases hjk : j = k
        · subst hjk; exact hjun
        · rw [getD_set_ne true hjk] at hun; exact hun
      refine JOp_mono (fun C' a' h3 => ih (listed.setIfInBounds j true) C' a' hfree' (ready_mono hr (Ne.symm hji)) h3.1 h3.2.1 ?_) h2
      rw [Array.setIfInBounds_comm _ _ hji]
      exact h3.2.2

/-- Take number i first. -/
theorem WX_take {i : Nat} {oi : Oper} {v : Value} {fuel : Nat} {listed : Array Bool} {C : World → Prop} {a : Act} (hi : ops[i]? = some oi)
    (hs : Region.noSelect ops = true) (hf : Region.free md ops listed i = true) (hr : (Region.ready md ops listed).contains i = true) (hC : Stable C)
    (hw : Region.wanted oi (yielded ops a.tmps) = true) (hy : ∀ y, C y → jAt P oi a y (fun u y' => Ext y y' ∧ u = v))
    (h : WX P md ops Q fuel (listed.setIfInBounds i true) C (a.put oi.dst v)) : WX P md ops Q (fuel + 1) listed C a :=
  WX_first hi (Region.noSelect_spec hs) fuel listed C a (Region.free_spec hi hf) (by simpa using hr) hC (.inl ⟨hw, hy⟩) h
theorem WX_all {rs : List Nat} {fuel : Nat} {listed : Array Bool} {C : World → Prop} {a : Act} (hr : Region.ready md ops listed = rs) (hne : rs ≠ [])
    (h : ∀ i ∈ rs, JOp P ops i C (fun C' a' => WX P md ops Q fuel (listed.setIfInBounds i true) C' a') a) : WX P md ops Q (fuel + 1) listed C a :=
  ⟨fun h0 => absurd (hr ▸ h0) hne, hr ▸ h⟩
theorem WX_done {listed : Array Bool} {C : World → Prop} {a : Act} (hr : Region.ready md ops listed = []) (h : ∀ y, C y → Q .normal a y) : ∀ fuel, WX P md ops Q fuel listed C a
  | 0 => ⟨hr, h⟩
  | _ + 1 => ⟨fun _ => h, by rw [hr]; simp⟩
/-- What makes a block of its own: the class is narrowed by what lies there. -/
theorem JOp_new {i : Nat} {oi : Oper} {C : World → Prop} {a : Act} {K : (World → Prop) → Act → Prop} (vx : Nat → Value) (D : Nat → World → Prop) (hi : ops[i]? = some oi) (hC : Stable C) (hD : ∀ g, Stable (D g))
    (hw : Region.wanted oi (yielded ops a.tmps) = true) (hy : ∀ y, C y → jAt P oi a y (fun v y' => Ext y y' ∧ v = vx y.heap.size ∧ D y.heap.size y'))
    (h : ∀ g, K (fun y => C y ∧ D g y) (a.put oi.dst (vx g))) : JOp P ops i C K a := by
  unfold JOp
  simp only [hi, hw, if_true]
  exact ⟨Nat, fun g y => C y ∧ D g y, vx, fun g => hC.and (hD g), fun _ _ h => h.1, fun y hy' => (hy y hy').mono fun v y' ⟨h1, h2, h3⟩ => ⟨h1, y.heap.size, h2, hC y y' hy' h1, h3⟩, h⟩
theorem wp_region_X {id : Nat} {a : Act} {w : World} (hm : P.follows .mixedOrders = true)
    (h : WX P .any ops Q ops.size (Array.replicate ops.size false) (Ext w) a) : (Code.region id ops true).wp P Q a w :=
  wp_region_any hm (wpAny_of_WX _ _ _ _ _ (show Ext w { w with drawn := w.drawn + 1 } from ⟨rfl, rfl, rfl, Nat.le_refl _, fun _ _ => rfl⟩) h)
/-- A cell that is there stays. -/
theorem stable_cell (a : Addr) (v : Value) : Stable (fun y => y.cell? a = some v) := fun y y' h he => by
  have hb : y'.heap[a.block]? = y.heap[a.block]? := Below.block he _ (World.block_lt_of_cell? y a h)
  show y'.cell? a = some v
  rw [World.cell?_of_block hb]; exact h
end

end Go.Proofs.YtocbogeoffeolaaGreatDoor

namespace Go.Proofs.YtocbogeoffeolaaGreatDoor
open Go.RowKit

theorem piece_let (x : Wd) (h : x.length ≤ 1048576) : ∃ P : ByteArray, (P.data.toList = pieceL x ∧ P.size ≤ 1048577) ∧ ∀ w : World, Calls Tryz.prog 149 #[.string ⟨x.toArray⟩] w fun e w' => e = .returned (.string P) ∧ Ext w w' := by
  refine ⟨⟨(pieceL x).toArray⟩, ⟨rfl, ?_⟩, fun w => piece_any ⟨x.toArray⟩ w ?_⟩
  · show (pieceL x).toArray.size ≤ _; simp [pieceL]; omega
  · show x.toArray.size ≤ _; simp; omega
theorem three_let (n : Int) (h0 : -9223372036854775808 ≤ n) (h1 : n ≤ 9223372036854775807) : ∃ P : ByteArray, (P.data.toList = threeL n ∧ P.size = 3) ∧ ∀ w : World, Calls Tryz.prog 202 #[.int .i64 n] w fun e w' => e = .returned (.string P) ∧ Ext w w' :=
  ⟨⟨(threeL n).toArray⟩, ⟨rfl, rfl⟩, fun w => three_any n w h0 h1⟩
theorem wrap_u8 (n : Int) : IntKind.u8.wrap n = n % 256 := by simp [IntKind.wrap, IntKind.signed, IntKind.bits]
/-- A byte of its own block, as a text. -/
theorem conv_one' {W : World} {g : Nat} {n : Int} (h : W.cell? ⟨g, 0, none⟩ = some (.int .u8 (IntKind.u8.wrap n))) : (convert 60 9 (.slice (some ⟨g, 0, none⟩) 1 1)).run Tryz.prog W = .ok (.string ⟨#[u8 n]⟩) W := by
  rw [wrap_u8] at h
  rw [run_convert_bytes_string W _ _ _ _ _ _ Tryz.underlying60 Tryz.underlying5 Tryz.underlying9]
  have hl := run_loadCells_list (P := Tryz.prog) W ⟨g, 0, none⟩ (byteVals [u8 n]) (fun j u hj => by
    rw [byteVals_u8] at hj
    match j, hj with
    | 0, hj => simp at hj; rw [← hj]; exact h
    | j + 1, hj => simp at hj)
  have hl' : (loadCells ⟨g, 0, none⟩ 1).run Tryz.prog W = .ok ((([u8 n].map fun c => (c.toNat : Int)).map (Value.int .u8)).toArray) W := by
    have e : byteVals [u8 n] = ([u8 n].map fun c => (c.toNat : Int)).map (Value.int .u8) := by simp [byteVals]
    rw [← e]; exact hl
  rw [run_bytesToString W _ _ _ _ hl', push_bytes]
  simp

/-- The children, as the cells of their block. -/
def chCells (ch : List Wd) : Array Value := (strVals ch).toArray
theorem ch_zero : chCells (List.replicate 256 []) = Tryz.zeroCells255 := by kernel_rfl
def NodeAt (w wr : World) (ch : List Wd) : Prop := wr.heap[w.heap.size]? = some (.cells (chCells ch) 255 (0, 0))

theorem atP_snoc_no {l : List Ent} {p : Wd} {k : Nat} (h : k < l.length) (hb : begB (keyE l[k]) p = false) : atP (l.take (k + 1)) p = atP (l.take k) p ∧ ownP (l.take (k + 1)) p = ownP (l.take k) p ∧ childTo l p (k + 1) = childTo l p k := by
  have hne : (keyE l[k] == p) = false := by
    rw [beq_eq_false_iff_ne]
    intro e
    have : begB (keyE l[k]) p = true := (begB_iff _ _).2 (by rw [e]; exact List.prefix_refl _)
    rw [hb] at this; cases this
  unfold atP ownP childTo
  rw [List.take_succ_eq_append_getElem h, List.filter_append, List.filter_append, List.foldl_append]
  refine ⟨?_, ?_, ?_⟩
  · simp [hb]
  · simp [hne]
  · show chSet l p _ l[k] = _
    unfold chSet
    rw [if_neg (by rw [hb]; simp)]
theorem atP_snoc_own {l : List Ent} {p : Wd} {k : Nat} (h : k < l.length) (hb : keyE l[k] = p) : atP (l.take (k + 1)) p = atP (l.take k) p ++ [l[k]] ∧ ownP (l.take (k + 1)) p = ownP (l.take k) p ++ [l[k]] ∧ childTo l p (k + 1) = childTo l p k := by
  have hb2 : begB (keyE l[k]) p = true := (begB_iff _ _).2 (by rw [hb]; exact List.prefix_refl _)
  have hne : (keyE l[k] == p) = true := beq_iff_eq.2 hb
  unfold atP ownP childTo
  rw [List.take_succ_eq_append_getElem h, List.filter_append, List.filter_append, List.foldl_append]
  refine ⟨?_, ?_, ?_⟩
  · simp [hb2]
  · simp [hne]
  · show chSet l p _ l[k] = _
    unfold chSet
    rw [if_neg (by rw [hb]; simp)]
theorem atP_snoc_on {l : List Ent} {p : Wd} {k : Nat} (h : k < l.length) (hb : begB (keyE l[k]) p = true) (hn : keyE l[k] ≠ p) : atP (l.take (k + 1)) p = atP (l.take k) p ++ [l[k]] ∧ ownP (l.take (k + 1)) p = ownP (l.take k) p ∧
    childTo l p (k + 1) = (childTo l p k).set ((keyE l[k]).getD p.length 0).toNat ((keyE l[k]).take (nextN l (keyE l[k]) (p.length + 1))) := by
  have hne : (keyE l[k] == p) = false := by rw [beq_eq_false_iff_ne]; exact hn
  unfold atP ownP childTo
  rw [List.take_succ_eq_append_getElem h, List.filter_append, List.filter_append, List.foldl_append]
  refine ⟨?_, ?_, ?_⟩
  · simp [hb]
  · simp [hne]
  · show chSet l p _ l[k] = _
    unfold chSet
    rw [if_pos ⟨hb, hn⟩]
theorem own_size {l : List Ent} {p : Wd} {k : Nat} {ob : ByteArray} (h : ∀ e ∈ l, rawOk e) (ho : ob.data.toList = (ownP (l.take k) p).flatMap entB) : ob.size ≤ k * 2097160 := by
  have h1 := flat_len (ownP (l.take k) p) (fun e he => h e (List.mem_of_mem_take (List.mem_filter.1 he).1))
  have h2 : (ownP (l.take k) p).length ≤ k := by
    have := List.length_filter_le (fun e => keyE e == p) (l.take k)
    unfold ownP
    simp at this ⊢; omega
  have h3 := congrArg List.length ho
  have h4 : ob.data.toList.length = ob.size := by simp
  have := Nat.mul_le_mul_right 2097160 h2
  omega
theorem maxW_snoc (l : List Ent) (e : Ent) : maxW (l ++ [e]) = if maxW l < e.weight then e.weight else maxW l := by
  unfold maxW
  rw [List.foldl_append]
  rfl

theorem NodeAt.ext {w w1 y : World} {ch : List Wd} (h : NodeAt w w1 ch) (he : Ext w1 y) : NodeAt w y ch := by
  unfold NodeAt at *
  rw [Below.block he _ (Array.getElem?_eq_some_iff.1 h).1]; exact h
theorem own_snoc {ob P1 P2 P3 : ByteArray} {m : List Ent} {e : Ent} (h : ob.data.toList = m.flatMap entB) (hg : P1.data.toList = pieceL e.name ∧ P2.data.toList = pieceL e.text ∧ P3.data.toList = threeL e.weight) :
    (ob ++ P1 ++ P2 ++ P3 ++ ⟨#[u8 e.tags]⟩).data.toList = (m ++ [e]).flatMap entB := by
  simp only [ByteArray.data_append, Array.toList_append, h, hg.1, hg.2.1, hg.2.2, List.flatMap_append, List.flatMap_cons, List.flatMap_nil, List.append_nil, entB, List.append_assoc]
theorem nextN_ge (l : List Ent) (s : Wd) (n : Nat) : n ≤ nextN l s n := by unfold nextN; omega
/-- A child is the beginning of a text, and longer. -/
theorem kid_ok (l : List Ent) (p : Wd) : ∀ k, k ≤ l.length → ∀ q ∈ childTo l p k, q ≠ [] → ∃ e ∈ l, q <+: keyE e ∧ p.length < q.length := by
  intro k
  induction k with
  | zero => intro _ q hq hne; simp only [childTo, List.take_zero, List.foldl_nil, List.mem_replicate] at hq; exact absurd hq.2 hne
  | succ k ih =>
    intro hk q hq hne
    have hlt : k < l.length := by omega
    by_cases hb : begB (keyE l[k]) p = true
    · by_cases hn : keyE l[k] = p
      · rw [(atP_snoc_own hlt hn).2.2] at hq
        exact ih (by omega) q hq hne
      · rw [(atP_snoc_on hlt hb hn).2.2] at hq
        rcases List.mem_or_eq_of_mem_set hq with h | h
        · exact ih (by omega) q h hne
        · refine ⟨l[k], List.getElem_mem hlt, by rw [h]; exact List.take_prefix _ _, ?_⟩
          have h1 := pre_lt ((begB_iff _ _).1 hb) hn
          have h2 := nextN_ge l (keyE l[k]) (p.length + 1)
          rw [h, List.length_take]
          omega
    · rw [(atP_snoc_no hlt (by simpa using hb)).2.2] at hq
      exact ih (by omega) q hq hne
theorem child_len (l : List Ent) (p : Wd) (k : Nat) : (childTo l p k).length = 256 := by
  unfold childTo
  generalize l.take k = m
  have : ∀ (m : List Ent) (ch : List Wd), ch.length = 256 → (m.foldl (chSet l p) ch).length = 256 := by
    intro m
    induction m with
    | nil => intro ch h; exact h
    | cons e m ih =>
      intro ch h
      rw [List.foldl_cons]
      refine ih _ ?_
      unfold chSet
      split
      · rw [List.length_set]; exact h
      · exact h
  exact this m _ List.length_replicate
def kidsTo (l : List Ent) (p : Wd) (k : Nat) : List Wd := ((childTo l p l.length).take k).filter fun q => !q.isEmpty
theorem kidsTo_all (l : List Ent) (p : Wd) : kidsTo l p 256 = kidsL l p := by
  unfold kidsTo kidsL
  rw [List.take_of_length_le (by rw [child_len]; omega)]
theorem kidsTo_snoc (l : List Ent) (p : Wd) (k : Nat) (h : k < (childTo l p l.length).length) : kidsTo l p (k + 1) = kidsTo l p k ++ (if (childTo l p l.length)[k].isEmpty = true then [] else [(childTo l p l.length)[k]]) := by
  unfold kidsTo
  rw [List.take_succ_eq_append_getElem h, List.filter_append, List.filter_cons, List.filter_nil]
  congr 1
  cases (childTo l p l.length)[k].isEmpty <;> simp
theorem kidsTo_len (l : List Ent) (p : Wd) (k : Nat) (g : Wd → Wd) : ((kidsTo l p k).flatMap g).length ≤ ((kidsL l p).flatMap g).length := by
  unfold kidsTo kidsL
  have e : (childTo l p l.length).filter (fun q => !q.isEmpty) = ((childTo l p l.length).take k).filter (fun q => !q.isEmpty) ++ ((childTo l p l.length).drop k).filter (fun q => !q.isEmpty) := by
    rw [← List.filter_append, List.take_append_drop]
  rw [e, List.flatMap_append, List.length_append]; omega
theorem ch_cell {w wr : World} {ch : List Wd} (h : NodeAt w wr ch) (k : Nat) (hk : k < ch.length) : wr.cell? ⟨w.heap.size, k, none⟩ = some (.string ⟨ch[k].toArray⟩) := by
  unfold NodeAt at h
  rw [cell_of_heap h]
  simp [chCells, strVals, hk]
theorem NodeAt.set {w wr : World} {ch : List Wd} (h : NodeAt w wr ch) (k : Nat) (q : ByteArray) : NodeAt w (wr.setCell ⟨w.heap.size, k, none⟩ (.string q)) (ch.set k q.data.toList) := by
  unfold NodeAt at *
  rw [heap_set h]
  congr 2
  unfold chCells
  apply Array.toList_inj.1
  rw [Array.toList_setIfInBounds]
  simp [strVals, List.map_set]
theorem node_eq {l : List Ent} {p a : Wd} {f : Nat} {P1 P2 ob bel : ByteArray} (h1 : P1.data.toList = pieceL (p.drop a.length)) (h2 : P2.data.toList = threeL (maxW (atP l p))) (ho : ob.data.toList = (ownP l p).flatMap entB) (hb : bel.data.toList = (kidsL l p).flatMap fun q => nodeL f l q p) :
    P1 ++ P2 ++ ⟨#[u8 (ownP l p).length]⟩ ++ ob ++ ⟨#[u8 (kidsL l p).length]⟩ ++ bel = ⟨(nodeL (f + 1) l p a).toArray⟩ := by
  apply ByteArray.ext
  apply Array.toList_inj.1
  simp only [ByteArray.data_append, Array.toList_append, h1, h2, ho, hb, nodeL, List.append_assoc, List.cons_append, List.nil_append]
theorem maxW_le63 (l : List Ent) (h : ∀ e ∈ l, e.weight ≤ 9223372036854775807) : maxW l ≤ 9223372036854775807 := by
  unfold maxW
  have : ∀ (l : List Ent) (g : Int), (∀ e ∈ l, e.weight ≤ 9223372036854775807) → g ≤ 9223372036854775807 → l.foldl (fun g e => if g < e.weight then e.weight else g) g ≤ 9223372036854775807 := by
    intro l
    induction l with
    | nil => intro g _ hg; exact hg
    | cons e l ih =>
      intro g h hg
      rw [List.foldl_cons]
      refine ih _ (fun x hx => h x (by simp [hx])) ?_
      split
      · exact h e (by simp)
      · exact hg
  exact this l 0 h (by omega)
/-- How long the parts of a node are. -/
theorem node_parts {l : List Ent} (hl : ∀ e ∈ l, rawOk e) (hlen : l.length ≤ 1048576) {f : Nat} (hf : f ≤ 2097152) (p a : Wd) (hp : p.length ≤ 1073741824) : (pieceL (p.drop a.length)).length + 3 + 1 + ((ownP l p).flatMap entB).length + 1 + ((kidsL l p).flatMap fun q => nodeL f l q p).length ≤ 7000000000000000000 := by
  have h := node_len (f + 1) l p a hl
  rw [nodeL] at h
  simp only [List.length_append, List.length_cons] at h
  have h3 : (threeL (maxW (atP l p))).length = 3 := rfl
  have h4 : (f + 1) * (l.length * 3145743) ≤ 2097153 * (1048576 * 3145743) := Nat.mul_le_mul (by omega) (Nat.mul_le_mul_right _ hlen)
  omega

end Go.Proofs.YtocbogeoffeolaaGreatDoor

