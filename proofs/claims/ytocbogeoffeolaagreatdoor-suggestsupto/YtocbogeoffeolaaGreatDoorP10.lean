/-
  WALKS: the program's own: the words that may come next.
-/
import Derived.Test.YtocbogeoffeolaaGreatDoorP8
import Derived.Test.YtocbogeoffeolaaGreatDoorP9
import Derived.Test.YtocbogeoffeolaaGreatDoorLaw
import Derived.Test.YtocbogeoffeolaaGreatDoorApp4
namespace Go.Proofs.YtocbogeoffeolaaGreatDoor
open Go.RowKit Go.Maps Go.Sort

theorem score_any' (b o B n : Nat) (ts : List (List Wd)) (vl : Value) (ah : List Wd) (x : Wd) (w : World) (hW : WOk w) (hB : w.cell? ⟨b, o, none⟩ = some (.map (some B))) (hC : CntMap w B n (cntW ts)) (hl : Rd w vl (strVals ah)) (ha : ah.length ≤ 2) (hah : ∀ y ∈ ah, y ≠ [] ∧ y.length ≤ 24) (hx : x ≠ [] ∧ x.length ≤ 24) (hbk : bulkT ts ≤ 16777216) :
    Calls Tryz.prog 95 #[.pointer (some ⟨b, o, none⟩), vl, .string ⟨x.toArray⟩] w fun e w' => e = .returned (.agg #[.int .u64 ((psc ts x ah).1 : Int), .int .u64 ((psc ts x ah).2 : Int)]) ∧ Below w.heap.size w w' := by
  match ah, ha with
  | [], _ => exact score0 b o B n ts vl x w hW.1 hB hC hl hx hbk
  | [u], _ => exact score1 b o B n ts vl u x w hW.1 hW.2.1 hB hC hl (hah u (by simp)) hx hbk
  | [u, v], _ => exact score2 b o B n ts vl u v x w hW.1 hW.2.1 hW.2.2 hB hC hl (hah u (by simp)) (hah v (by simp)) hx hbk
  | _ :: _ :: _ :: _, h => simp at h

/-- What the sort's row holds. -/
def candVals (sc : Wd → Fr) (ws : List Wd) : List Value := ws.flatMap (candL sc)
theorem candVals_len (sc : Wd → Fr) (ws : List Wd) : (candVals sc ws).length = ws.length * 3 := by
  induction ws with
  | nil => rfl
  | cons a l ih =>
    have e : candVals sc (a :: l) = candL sc a ++ candVals sc l := by simp [candVals]
    have hl : (candL sc a).length = 3 := rfl
    rw [e, List.length_append, ih, hl, List.length_cons]
    omega
theorem candVals_snoc (sc : Wd → Fr) (ws : List Wd) (x : Wd) : candVals sc (ws ++ [x]) = candVals sc ws ++ candL sc x := by simp [candVals]
theorem candVals_get (sc : Wd → Fr) : ∀ (ws : List Wd) (i c : Nat) (h : i < ws.length), c < 3 → (candVals sc ws)[i * 3 + c]? = (candL sc ws[i])[c]? := by
  intro ws
  induction ws with
  | nil => intro i c h; simp at h
  | cons a l ih =>
    intro i c h hc
    have e : candVals sc (a :: l) = candL sc a ++ candVals sc l := by simp [candVals]
    rw [e]
    cases i with
    | zero => rw [List.getElem?_append_left (by simp [candL]; omega)]; simp
    | succ i =>
      rw [List.getElem?_append_right (by simp [candL]; omega)]
      have hl : (candL sc a).length = 3 := rfl
      rw [hl, show (i + 1) * 3 + c - 3 = i * 3 + c by omega, ih i c (by simpa using h) hc]
      simp

theorem candL_one (sc : Wd → Fr) (x : Wd) : ∀ v ∈ candL sc x, v.oneCell' = true := by
  intro v hv
  simp [candL] at hv
  rcases hv with rfl | rfl | rfl <;> rfl

/-- From an owned row to what the sort asks. -/
theorem holds_cand {w : World} {base e n m cap g : Nat} (sc : Wd → Fr) {ws : List Wd} (h : w.ownsRow base e 3 (.slice (some ⟨g, 0, none⟩) m cap) n (candVals sc ws)) (hn : n = ws.length) : HoldsK (candL sc) 3 w g 0 ws.toArray := by
  subst hn
  intro j hj
  rw [size_flatK] at hj
  have hj' : j < ws.length * 3 := by simpa using hj
  have hd : j / 3 < ws.length := by omega
  have hget : (candVals sc ws)[j]? = some ((flatK (candL sc) 3 ws.toArray)[j]!) := by
    rw [get_flatK _ _ _ _ (by simpa using hj')]
    have := candVals_get sc ws (j / 3) (j % 3) hd (by omega)
    rw [show j / 3 * 3 + j % 3 = j by omega] at this
    rw [this]
    have e1 : ws.toArray[j / 3]! = ws[j / 3] := by rw [getElem!_pos _ _ (by simpa using hd)]; simp
    rw [e1]
    have hc : j % 3 < (candL sc ws[j / 3]).length := by simp [candL]; omega
    rw [List.getElem?_eq_getElem hc, getElem!_pos (candL sc ws[j / 3]) (j % 3) hc]
  rcases h.2 with ⟨h0, _⟩ | ⟨g', cap', cur, he, _, hg, _, _, hcs, htk⟩
  · simp at h0
  · simp only [Value.slice.injEq, Option.some.injEq, Addr.mk.injEq] at he
    obtain ⟨⟨rfl, _⟩, _, rfl⟩ := he
    refine ⟨?_, ?_⟩
    · rw [cell_of_heap hg]
      rw [← htk, List.getElem?_take, if_pos (by omega)] at hget
      rw [Nat.zero_add]
      simpa using hget
    · simp [World.frozen?, hg]

theorem sortW_below {w0 w : World} {k blk off m : Nat} {enc : Wd → List Value} {d : Array Wd} {os : Array Obj} (h : Below w0.heap.size w0 w) (hb : w0.heap.size ≤ blk) : Below w0.heap.size w0 (sortWorldK enc k w blk off m d os) := by
  have hz := h.size
  refine ⟨h.os, h.tape, h.output, ?_, fun j hj => ?_⟩
  · unfold sortWorldK putRowK putRow grow mapBlock
    simp
    omega
  · rw [← h.block j hj]
    unfold sortWorldK putRowK putRow grow mapBlock
    simp
    rw [Array.getElem?_append_left (by simp; omega), Array.getElem?_modify, if_neg (by omega)]

end Go.Proofs.YtocbogeoffeolaaGreatDoor
