/-
  WALKS: the program's own: is a word among others; the words that are not known.
-/
import Derived.Test.YtocbogeoffeolaaGreatDoorP4
namespace Go.Proofs.YtocbogeoffeolaaGreatDoor
open Go.RowKit Go.Maps

set_option maxHeartbeats 400000 in
set_option maxRecDepth 100000 in
theorem index_any (v : Value) (ws : List Wd) (x : Wd) (w : World) (hv : Rd w v (strVals ws)) :
    Calls Tryz.prog 186 #[v, .string ⟨x.toArray⟩] w fun e w' => (∃ z : Int, e = .returned (.int .i64 z) ∧ (0 ≤ z ↔ x ∈ ws)) ∧ w = w' := by
  obtain ⟨a, c, rfl, hc, hm, hr⟩ := hv
  rw [strVals_length] at hc ⊢
  unfold maxLen at hm
  go_enter Tryz.func186, Tryz.ntmps186
  go_wp2
  go_loop [8] (fun i => ∃ k : Nat, k ≤ ws.length ∧ i = .int .i64 k ∧ x ∉ ws.take k) (fun i => ws.length - (intOf i).toNat)
  case atStart => exact ⟨0, Nat.zero_le _, rfl, by simp⟩
  case round =>
    obtain ⟨k, hk, rfl, hno⟩ := hrel
    have HN : Hid (x ∉ ws.take k) := hno
    clear hno
    by_cases hlt : k < ws.length
    · obtain ⟨b, o, rfl, h0⟩ := hr k _ (strVals_get ws k hlt)
      have HM : Hid (ws[k] ∈ ws) := List.getElem_mem hlt
      have HT : Hid (ws.take (k + 1) = ws.take k ++ [ws[k]]) := List.take_succ_eq_append_getElem hlt
      have HR : Hid (∀ j u, (strVals ws)[j]? = some u → ∃ b' off, some (⟨b, o, none⟩ : Addr) = some ⟨b', off, none⟩ ∧ w.cell? ⟨b', off + j, none⟩ = some u) := hr
      clear hr
      generalize ws[k] = y at *
      by_cases he : x = y
      · subst he
        go_wp2
        go_ret
        exact ⟨⟨k, rfl, ⟨fun _ => HM.out, fun _ => by omega⟩⟩, rfl⟩
      · have hb : (x == y) = false := by simpa using he
        have HX : Hid (x ≠ y) := he
        clear he
        go_wp2
        go_round
        case rel => exact ⟨k + 1, by omega, by go_num, by rw [HT.out, List.mem_append, List.mem_singleton]; rintro (h | h); exact HN.out h; exact HX.out h⟩
        case measure => simp [intOf]; omega
    · go_wp2
      go_ret
      refine ⟨⟨-1, rfl, ⟨fun h => absurd h (by omega), fun h => ?_⟩⟩, rfl⟩
      have := HN.out
      rw [List.take_of_length_le (by omega)] at this
      exact absurd h this

set_option maxHeartbeats 400000 in
set_option maxRecDepth 100000 in
theorem contains_any (v : Value) (ws : List Wd) (x : Wd) (w : World) (hv : Rd w v (strVals ws)) :
    Calls Tryz.prog 134 #[v, .string ⟨x.toArray⟩] w fun e w' => e = .returned (.bool (decide (x ∈ ws))) ∧ w = w' := by
  have hix := index_any v ws x w hv
  go_enter Tryz.func134, Tryz.ntmps134
  go_wp2_with fail
  refine hix.mono ?_
  rintro e w' ⟨⟨z, rfl, hz⟩, rfl⟩
  by_cases hx : x ∈ ws
  · have h0 := hz.2 hx
    have HX : Hid (decide (x ∈ ws) = true) := decide_eq_true hx
    clear hix hz hx
    go_wp2
    go_ret
    exact ⟨ret_bool (by rw [HX.out]), rfl⟩
  · have h0 : ¬ 0 ≤ z := fun h => hx (hz.1 h)
    have HX : Hid (decide (x ∈ ws) = false) := decide_eq_false hx
    clear hix hz hx
    go_wp2
    go_ret
    exact ⟨ret_bool (by rw [HX.out]; exact decide_eq_false (by omega)), rfl⟩

set_option maxHeartbeats 1000000 in
set_option maxRecDepth 100000 in
theorem unknown_any (b o B n : Nat) (f : List Wd → Nat) (kn : List Wd) (v : Value) (ws : List Wd) (w : World) (hB : w.cell? ⟨b, o, none⟩ = some (.map (some B))) (hC : CntMap w B n f) (hv : Rd w v (strVals ws))
    (hws : ∀ x ∈ ws, x ≠ [] ∧ x.length ≤ 24) (hf : ∀ x ∈ ws, f [x] = 0 ↔ x ∉ kn) (hl : ws.length ≤ 1000) :
    Calls Tryz.prog 92 #[.pointer (some ⟨b, o, none⟩), v] w fun e w' => ∃ u, e = .returned u ∧ w'.ownsRow w.heap.size 9 1 u (newTo kn ws ws.length).length (strVals (newTo kn ws ws.length)) ∧ Below w.heap.size w w' := by
  obtain ⟨a, c, rfl, hc, hm, hr⟩ := hv
  rw [strVals_length] at hc ⊢
  unfold maxLen at hm
  obtain ⟨i0, hi, hz0, hz1, hz2⟩ := info_parts Tryz.info9
  go_enter Tryz.func92, Tryz.ntmps92
  go_wp2
  go_loopw [5, 10] (fun u i wr => ∃ k : Nat, k ≤ ws.length ∧ i = .int .i64 k ∧ wr.ownsRow w.heap.size 9 1 u (newTo kn ws k).length (strVals (newTo kn ws k)) ∧ Below w.heap.size w wr) (fun _ i _ => ws.length - (intOf i).toNat)
  case atStart => exact ⟨0, Nat.zero_le _, rfl, World.ownsRow_nil _ _ _ _, Below.refl _ _⟩
  case round =>
    obtain ⟨k, hk, rfl, hown, hb⟩ := hrel
    have HS := hb.size
    have hnl := (newTo_ok kn ws k hk).2.2
    by_cases hlt : k < ws.length
    · obtain ⟨ba, oa, rfl, h0⟩ := hr k _ (strVals_get ws k hlt)
      have HE : Hid (newTo kn ws (k + 1) = if ws[k] ∈ kn ∨ ws[k] ∈ newTo kn ws k then newTo kn ws k else newTo kn ws k ++ [ws[k]]) := newTo_succ kn ws k hlt
      have hx := hws _ (List.getElem_mem hlt)
      have hfx := hf _ (List.getElem_mem hlt)
      generalize ws[k] = x at *
      have h0' := cell_later hb h0
      have hB' := cell_later hb hB
      have hlook := (hC.below hb).look (ws := [x]) ⟨by simp, by simpa using hx⟩
      rw [show keyV [x] = .agg #[.string ⟨x.toArray⟩, .string ⟨#[]⟩, .string ⟨#[]⟩] from rfl] at hlook
      have HR : Hid (∀ j u, (strVals ws)[j]? = some u → ∃ b' off, some (⟨ba, oa, none⟩ : Addr) = some ⟨b', off, none⟩ ∧ w.cell? ⟨b', off + j, none⟩ = some u) := hr
      clear hr h0
      obtain ⟨au, cu, rfl, hcu⟩ := owns_slice hown
      by_cases hf0 : f [x] = 0
      · have HK : Hid (x ∉ kn) := hfx.1 hf0
        rw [hf0] at hlook
        have hlook' : (Instr.lookup 86 (.map (some B)) (.agg #[.string ⟨x.toArray⟩, .string ⟨#[]⟩, .string ⟨#[]⟩]) false).run Tryz.prog wr = .ok (.int .u64 0) wr := hlook
        clear hlook hf0 hfx
        have hcon := contains_any _ (newTo kn ws k) x wr (Rd.of_owns hown)
        go_wp2_with fail
        refine hcon.mono ?_
        rintro e w' ⟨rfl, rfl⟩
        clear hcon
        by_cases hin : x ∈ newTo kn ws k
        · have HE2 : Hid (newTo kn ws (k + 1) = newTo kn ws k) := by show _ = _; rw [HE.out, if_pos (Or.inr hin)]
          rw [decide_eq_true hin]
          clear hin
          go_wp2
          go_roundw
          case rel => exact ⟨k + 1, by omega, by go_num, by rw [HE2.out]; exact hown, hb⟩
          case measure => simp [intOf]; omega
        · have HE2 : Hid (newTo kn ws (k + 1) = newTo kn ws k ++ [x]) := by show _ = _; rw [HE.out, if_neg (by rintro (h | h); exact HK.out h; exact hin h)]
          rw [decide_eq_false hin]
          clear hin
          go_wp2_with (first
            | (at_builtin; refine wpList_append_one _ rfl _ _ 31 rfl w.heap.size 9 i0 (.string ⟨#[]⟩) 16 Tryz.underlying31 hi hz0 hz1 hz2 rfl _ _ _ rfl (hown.alloc _) ⟨wr.heap.size, 0, none⟩ _ rfl cell_new rfl ?c1 ?c2 ?c3 ?_))
          case c1 => omega
          case c2 => unfold maxLen; omega
          case c3 => first | omega | (simp; omega)
          intro v' w1 hown' hgrow _
          rw [← strVals_snoc, ← HE2.out] at hown'
          have hb' := (hb.alloc HS _).grown hgrow (by simp; omega) (fun b hb => (hown.lt b hb).1)
          have HLn : Hid ((newTo kn ws k).length + 1 = (newTo kn ws (k + 1)).length) := by show _ = _; rw [HE2.out]; simp
          rw [HLn.out] at hown'
          go_wp2
          go_roundw
          case rel => exact ⟨k + 1, by omega, by go_num, hown', hb'⟩
          case measure => simp [intOf]; omega
      · have hk' : x ∈ kn := by
          by_cases h : x ∈ kn
          · exact h
          · exact absurd (hfx.2 h) hf0
        have HE2 : Hid (newTo kn ws (k + 1) = newTo kn ws k) := by show _ = _; rw [HE.out, if_pos (Or.inl hk')]
        generalize f [x] = m at *
        have hm0 : ((m : Int) == 0) = false := by simpa using hf0
        clear hk' hfx hf0
        go_wp2
        go_roundw
        case rel => exact ⟨k + 1, by omega, by go_num, by rw [HE2.out]; exact hown, hb⟩
        case measure => simp [intOf]; omega
    · have ek : k = ws.length := by omega
      subst ek
      go_wp2
      go_ret
      exact ⟨_, rfl, hown, hb⟩

end Go.Proofs.YtocbogeoffeolaaGreatDoor
