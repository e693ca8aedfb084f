/-
  WALKS: hintlaw: plays: a whole script, of New, Observe and Suggest.
-/
import Derived.Test.YtocbogeoffeolaaGreatDoorW16
namespace Go.Proofs.YtocbogeoffeolaaGreatDoor
open Go.RowKit

/-- The k-th Op of a script lies in memory from that place on. -/
structure OpAt (w : World) (b o : Nat) (kind W N M K : Int) (S T : ByteArray) (aL : Option Addr) (nL cL : Nat) (made : Bool) : Prop where
  c0 : w.cell? ⟨b, o, none⟩ = some (.int .i64 kind)
  c1 : w.cell? ⟨b, o + 1, none⟩ = some (.int .i64 W)
  c2 : w.cell? ⟨b, o + 2, none⟩ = some (.int .i64 N)
  c3 : w.cell? ⟨b, o + 3, none⟩ = some (.int .i64 M)
  c4 : w.cell? ⟨b, o + 4, none⟩ = some (.int .i64 K)
  c5 : w.cell? ⟨b, o + 5, none⟩ = some (.string S)
  c6 : w.cell? ⟨b, o + 6, none⟩ = some (.string T)
  c7 : w.cell? ⟨b, o + 7, none⟩ = some (.slice aL nL cL)
  c8 : w.cell? ⟨b, o + 8, none⟩ = some (.bool made)
  w0 : -9223372036854775808 ≤ W
  w1 : W ≤ 9223372036854775807
  k0 : -9223372036854775808 ≤ K
  k1 : K ≤ 9223372036854775807
  s : S.size ≤ maxLen

/-- A script: so many Ops, one behind the other. -/
def ScriptAt (w : World) (a : Option Addr) (n : Nat) : Prop :=
  ∀ k, k < n → ∃ b off kind W N M K S T aL nL cL made, a = some ⟨b, off, none⟩ ∧ OpAt w b (off + k * 9) kind W N M K S T aL nL cL made

theorem OpAt.below {w w' : World} {b o : Nat} {kind W N M K : Int} {S T : ByteArray} {aL : Option Addr} {nL cL : Nat} {made : Bool} (h : OpAt w b o kind W N M K S T aL nL cL made) (hb : Below w.heap.size w w') : OpAt w' b o kind W N M K S T aL nL cL made :=
  ⟨cell_later hb h.c0, cell_later hb h.c1, cell_later hb h.c2, cell_later hb h.c3, cell_later hb h.c4, cell_later hb h.c5, cell_later hb h.c6, cell_later hb h.c7, cell_later hb h.c8, h.w0, h.w1, h.k0, h.k1, h.s⟩

section
variable {pe : World → (Nat → Prop) → Nat → List (List Wd) → Prop}

theorem GS.start (w : World) : GS pe w (w.alloc (.cells #[vNil, vNil, vNil, .int .i64 0] 74)) w.heap.size (fun _ => False) vNil vNil vNil 0 [] [] [] := by
  have hb : Below w.heap.size w (w.alloc (.cells #[vNil, vNil, vNil, .int .i64 0] 74)) := (Below.refl _ _).alloc (Nat.le_refl _) _
  refine ⟨?_, ⟨World.ownsRow_nil _ _ _ _, World.ownsRow_nil _ _ _ _, fun k hk => by simp [vNil, Value.ownBlock] at hk, fun k hk => by simp [vNil, Value.ownBlock] at hk, fun h => h, fun k h => h.elim, fun i u mm h => by simp at h⟩, rfl, World.ownsRow_nil _ _ _ _, fun k hk => by simp [vNil, Value.ownBlock] at hk, fun i hi => by simp at hi, fun i j hi => by simp at hi, hb, Nat.le_refl _, fun k hk => by simp [vNil, Value.ownBlock] at hk, fun k hk => by simp [vNil, Value.ownBlock] at hk, fun k hk => by simp [vNil, Value.ownBlock] at hk, fun k h => h.elim, fun i hi => by simp at hi⟩
  show (w.heap.push _)[w.heap.size]? = _
  rw [Array.getElem?_push, if_pos rfl]; rfl

/-- Between two rounds. -/
def Round (pe : World → (Nat → Prop) → Nat → List (List Wd) → Prop) (w0 w : World) (k : Nat) : Prop :=
  ∃ (D : Nat → Prop) (va vl vm : Value) (last : Nat) (us : List Value) (ms : List Wd) (es : List Eng), GS pe w0 w w0.heap.size D va vl vm last us ms es ∧ last ≤ k ∧ us.length ≤ 9 * k ∧ 1 ≤ es.length ∧ es.length ≤ 10 ∧ (∀ i (h : i < es.length), bulkT es[i].ts ≤ 25 * k)

set_option maxHeartbeats 2000000 in
set_option maxRecDepth 100000 in
theorem plays_words (hp : ProgOK pe) (a : Option Addr) (n cap : Nat) (w : World) (hW : WOk w) (hs : ScriptAt w a n) (hn : n ≤ 600000) :
    Calls Tryz.prog 13 #[.slice a n cap, .int .i64 10, .int .i64 11] w fun e w' => e = .returned (.bool true) ∧ Below w.heap.size w w' := by
  have HP : Hid (ProgOK pe) := hp
  have HSc : Hid (ScriptAt w a n) := hs
  have HGw : Hid (WOk w) := hW
  clear hp hs hW
  go_enter Tryz.func13, Tryz.ntmps13
  go_wp2_with fail
  refine (made_any HP.out w _ w.heap.size (fun _ => False) vNil vNil vNil 0 [] [] [] (GS.start w) (by simp)).mono ?_
  rintro e w1 ⟨rfl, va', en, hen, hG1⟩
  have HR1 : Hid (Round pe w w1 0) := ⟨_, _, _, _, 0, [], [], _, hG1, Nat.le_refl _, by simp, by simp, by simp, fun i hi => by
    have : i = 0 := by simp at hi; omega
    subst this
    simp [hen, bulkT]⟩
  clear hG1 hen
  go_wp2_with fail
  go_loopw [9] (fun i wr => ∃ k : Nat, k ≤ n ∧ i = .int .i64 k ∧ Round pe w wr k) (fun i _ => n - (intOf i).toNat)
  case atStart => exact ⟨0, Nat.zero_le _, rfl, HR1.out⟩
  case round =>
    obtain ⟨k, hk, rfl, hR⟩ := hrel
    obtain ⟨D, va, vl, vm, last, us, ms, es, hG, hl, hu, he1, he10, hbk⟩ := hR
    obtain ⟨av, cv, rfl, hcv⟩ := owns_slice_wide hG.row
    have hc0 : wr.cell? ⟨w.heap.size, 0, none⟩ = some (.slice av es.length cv) := by rw [cell_of_heap hG.heap]; rfl
    have HG : Hid (GS pe w wr w.heap.size D (.slice av es.length cv) vl vm last us ms es) := hG
    have HBK : Hid (∀ i (h : i < es.length), bulkT es[i].ts ≤ 25 * k) := hbk
    have hbase := hG.base
    clear hG hbk HR1
    by_cases hlt : k < n
    · by_cases hlt10 : es.length < 10
      · obtain ⟨b, off, kind, W, N, M, K, S, T, aL, nL, cL, made, rfl, hop⟩ := HSc.out k hlt
        have hop1 := hop.below hbase
        obtain ⟨c0, c1, c2, c3, c4, c5, c6, c7, c8, bw0, bw1, bk0, bk1, bs⟩ := hop1
        clear hop hbase
        by_cases hk1 : kind = 1
        · subst hk1
          go_wp2_with fail
          refine (step_new HP.out w wr w.heap.size D _ vl vm last us ms es (25 * k) W N M K S T _ made HG.out (by omega) ⟨aL, nL, cL, rfl⟩ HBK.out).mono ?_
          rintro e w2 ⟨rfl, D2, va2, vl2, vm2, last2, us2, ms2, es2, hG2, hl2, hu2, he2, he3, hb2⟩
          have hcl : w2.cell? ⟨w.heap.size, 1, none⟩ = some vl2 := by rw [cell_of_heap hG2.heap]; rfl
          have hcm : w2.cell? ⟨w.heap.size, 2, none⟩ = some vm2 := by rw [cell_of_heap hG2.heap]; rfl
          have HG2 : Hid (GS pe w w2 w.heap.size D2 va2 vl2 vm2 last2 us2 ms2 es2) := hG2
          have HB2 : Hid (∀ i (h : i < es2.length), bulkT es2[i].ts ≤ 25 * k + 25) := hb2
          clear hG2 hb2
          go_wp2_with fail
          refine (kept_any w.heap.size D2 vl2 vm2 us2 ms2 w2 hcl hcm HG2.out.lists HG2.out.len (by omega)).mono ?_
          rintro e w3 ⟨rfl, nq, rfl⟩
          have HR3 : Hid (Round pe w (w2.drewN nq) (k + 1)) := ⟨D2, va2, vl2, vm2, last2, us2, ms2, es2, HG2.out.below HP.out (below_drewN (Below.refl _ _) nq), by omega, by omega, by omega, by omega, fun i hi => by have := HB2.out i hi; omega⟩
          clear hcl hcm HG2 HB2 HG HBK
          go_wp2
          go_roundw
          case rel => exact ⟨k + 1, by omega, by go_num, HR3.out⟩
          case measure => simp [intOf]; omega
        · by_cases hk10 : kind = 10
          · subst hk10
            clear hk1
            go_wp2_with fail
            refine (step_obs HP.out w wr w.heap.size D _ vl vm last us ms es (25 * k) W N M K S T _ made HG.out he1 (by omega) ⟨aL, nL, cL, rfl⟩ HBK.out (by omega) bw0 bw1 bs (by omega) (by omega)).mono ?_
            rintro e w2 ⟨rfl, D2, va2, vl2, vm2, last2, us2, ms2, es2, hG2, hl2, hu2, he2, he3, hb2⟩
            have hcl : w2.cell? ⟨w.heap.size, 1, none⟩ = some vl2 := by rw [cell_of_heap hG2.heap]; rfl
            have hcm : w2.cell? ⟨w.heap.size, 2, none⟩ = some vm2 := by rw [cell_of_heap hG2.heap]; rfl
            have HG2 : Hid (GS pe w w2 w.heap.size D2 va2 vl2 vm2 last2 us2 ms2 es2) := hG2
            have HB2 : Hid (∀ i (h : i < es2.length), bulkT es2[i].ts ≤ 25 * k + 25) := hb2
            clear hG2 hb2
            go_wp2_with fail
            refine (kept_any w.heap.size D2 vl2 vm2 us2 ms2 w2 hcl hcm HG2.out.lists HG2.out.len (by omega)).mono ?_
            rintro e w3 ⟨rfl, nq, rfl⟩
            have HR3 : Hid (Round pe w (w2.drewN nq) (k + 1)) := ⟨D2, va2, vl2, vm2, last2, us2, ms2, es2, HG2.out.below HP.out (below_drewN (Below.refl _ _) nq), by omega, by omega, by omega, by omega, fun i hi => by have := HB2.out i hi; omega⟩
            clear hcl hcm HG2 HB2 HG HBK
            go_wp2
            go_roundw
            case rel => exact ⟨k + 1, by omega, by go_num, HR3.out⟩
            case measure => simp [intOf]; omega
          · by_cases hk11 : kind = 11
            · subst hk11
              clear hk1 hk10
              go_wp2_with fail
              refine (step_sug HP.out w wr w.heap.size D _ vl vm last us ms es (25 * k) W N M K S T _ made HGw.out HG.out he1 (by omega) ⟨aL, nL, cL, rfl⟩ HBK.out (by omega) bw0 bw1 bs bk0 bk1 (by omega) (by omega)).mono ?_
              rintro e w2 ⟨rfl, D2, va2, vl2, vm2, last2, us2, ms2, es2, hG2, hl2, hu2, he2, he3, hb2⟩
              have hcl : w2.cell? ⟨w.heap.size, 1, none⟩ = some vl2 := by rw [cell_of_heap hG2.heap]; rfl
              have hcm : w2.cell? ⟨w.heap.size, 2, none⟩ = some vm2 := by rw [cell_of_heap hG2.heap]; rfl
              have HG2 : Hid (GS pe w w2 w.heap.size D2 va2 vl2 vm2 last2 us2 ms2 es2) := hG2
              have HB2 : Hid (∀ i (h : i < es2.length), bulkT es2[i].ts ≤ 25 * k + 25) := hb2
              clear hG2 hb2
              go_wp2_with fail
              refine (kept_any w.heap.size D2 vl2 vm2 us2 ms2 w2 hcl hcm HG2.out.lists HG2.out.len (by omega)).mono ?_
              rintro e w3 ⟨rfl, nq, rfl⟩
              have HR3 : Hid (Round pe w (w2.drewN nq) (k + 1)) := ⟨D2, va2, vl2, vm2, last2, us2, ms2, es2, HG2.out.below HP.out (below_drewN (Below.refl _ _) nq), by omega, by omega, by omega, by omega, fun i hi => by have := HB2.out i hi; omega⟩
              clear hcl hcm HG2 HB2 HG HBK
              go_wp2
              go_roundw
              case rel => exact ⟨k + 1, by omega, by go_num, HR3.out⟩
              case measure => simp [intOf]; omega
            · have hb1 : (kind == 1) = false := by simpa using hk1
              have hR3 : Round pe w wr (k + 1) := ⟨D, _, vl, vm, last, us, ms, es, HG.out, by omega, by omega, he1, by omega, fun i hi => by have := HBK.out i hi; omega⟩
              have HR3 : Hid (Round pe w wr (k + 1)) := hR3
              clear hR3
              have hcase : kind < 10 ∨ 11 < kind := by omega
              rcases hcase with hlo | hhi
              all_goals
                go_wp2
                go_roundw
                case rel => exact ⟨k + 1, by omega, by go_num, HR3.out⟩
                case measure => simp [intOf]; omega
      · go_wp2
        go_ret
        exact ⟨rfl, hbase⟩
    · go_wp2
      go_ret
      exact ⟨rfl, hbase⟩
end

end Go.Proofs.YtocbogeoffeolaaGreatDoor
