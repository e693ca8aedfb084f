/-
  APPEND, once more: where the row comes to lie in a new block nothing that was there has turned.
-/
import Derived.Test.YtocbogeoffeolaaGreatDoorApp
namespace Go.Proofs.YtocbogeoffeolaaGreatDoor
open Go.RowKit

/-- .. and where the row lies behind it: where it lay, or in a block that is new. -/
theorem run_append_two {P : Program} (w : World) (base : Nat) (t ty e : TypeId) (i : TypeInfo) (z : Value) (bytes : Nat) (ht : P.underlying t = some (.slice e)) (hi : P.info? e = some i) (hz : i.zero = some z)
    (hsize : i.size = 1) (hby : i.bytes = bytes) (hzs : z.cells.size = 1)
    (v : Value) (n : Nat) (xs : List Value) (hown : w.ownsRow base e 1 v n xs)
    (x : Value) (news : List Value) (hx : Rd w x news) (h1 : ∀ u ∈ news, u.oneCell' = true)
    (hbytes : (n + news.length) * bytes ≤ 140737488355328) (h63 : n + news.length ≤ maxLen) (hbase : base ≤ w.heap.size) :
    ∃ v' w', (Builtin.append_ #[t, t] ty #[v, x]).run P w = .ok v' w' ∧ w'.ownsRow base e 1 v' (n + news.length) (xs ++ news) ∧ w.grownBy w' v.ownBlock ∧ (v'.ownBlock = v.ownBlock ∨ (v'.ownBlock = some w.heap.size ∧ Below w.heap.size w w')) := by
  obtain ⟨v', w', hr, h2, h3⟩ := run_append_rd (P := P) w base t ty e i z bytes ht hi hz hsize hby hzs v n xs hown x news hx h1 hbytes h63 hbase
  refine ⟨v', w', hr, h2, h3, ?_⟩
  obtain ⟨a, cap, rfl, hc, hm, hrd⟩ := hx
  cases a with
  | none =>
    have hn : news = [] := by
      cases news with
      | nil => rfl
      | cons u us => obtain ⟨b, off, he, _⟩ := hrd 0 u rfl; simp at he
    subst hn
    obtain ⟨b, c, rfl, hnc⟩ := owns_slice hown
    have := run_append_none (P := P) w t ty e i ht hi b n c cap hnc
    simp only [List.length_nil] at hr
    rw [this] at hr
    simp only [Result.ok.injEq] at hr
    exact Or.inl (by rw [← hr.1])
  | some ad =>
    have hnews : ∀ j u, news[j]? = some u → w.cell? (ad.add j) = some u := by
      intro j u hj
      obtain ⟨b, off, he, hcell⟩ := hrd j u hj
      simp only [Option.some.injEq] at he
      subst he
      rw [Addr.add_lit]; exact hcell
    have hl : news.length = news.length * i.size := by rw [hsize]; omega
    rcases hown.2 with ⟨rfl, rfl⟩ | ⟨g, c, cur, rfl, hbg, hg, hnc, hcm, hcs, htake⟩
    · by_cases hm0 : news.length = 0
      · have hn : news = [] := List.eq_nil_of_length_eq_zero hm0
        subst hn
        rcases h2.2 with ⟨rfl, _⟩ | ⟨g', c', cur', rfl, _, hg', _⟩
        · exact Or.inl rfl
        · exfalso
          have := run_append_own (P := P) w base t ty e i z 1 bytes ht hi hz hsize hby hzs (by decide) (.slice none 0 0) 0 xs hown ad 0 cap [] rfl (by simp) (by simp) (by simp) (by simp) hbase
          obtain ⟨v2, w2, hr2, _, _, h4⟩ := this
          simp only [List.length_nil] at hr
          rw [hr] at hr2
          simp only [Result.ok.injEq] at hr2
          have := h4.2 ⟨rfl, rfl⟩
          rw [← hr2.1] at this
          simp at this
      · have hr2 := run_append_nil (P := P) w t ty e i z ht hi hz ad news.length cap news hl hnews (by omega) (by simp only [maxLen] at h63; omega) (by rw [hby]; simp only [Nat.zero_add] at hbytes; omega)
        rw [hr2] at hr
        simp only [Result.ok.injEq] at hr
        exact Or.inr ⟨by rw [← hr.1]; rfl, by rw [← hr.2]; exact ((Below.refl _ _).drew).alloc (Nat.le_refl _) _⟩
    · by_cases hroom : n + news.length ≤ c
      · have hr2 := run_append_room (P := P) w t ty e i ht hi g n c cur hg ad news.length cap news hl hnews h1 hroom (by rw [hcs, hsize]; omega)
        rw [hr2] at hr
        simp only [Result.ok.injEq] at hr
        exact Or.inl (by rw [← hr.1]; rfl)
      · have holds : ∀ j u, xs[j]? = some u → w.cell? ((⟨g, 0, none⟩ : Addr).add j) = some u := hown.cells (g := g) rfl
        have hr2 := run_append_grow (P := P) w t ty e i z ht hi hz ⟨g, 0, none⟩ n c xs (by rw [hsize]; exact hown.1) holds ad news.length cap news hl hnews (by omega) (by simp only [maxLen] at h63; omega) (by rw [hby]; exact growslice_fits (by omega) hbytes)
        rw [hr2] at hr
        simp only [Result.ok.injEq] at hr
        exact Or.inr ⟨by rw [← hr.1]; rfl, by rw [← hr.2]; exact ((Below.refl _ _).drew).alloc (Nat.le_refl _) _⟩

theorem wpList_append_two {P : Program} (w : World) {ops : Array Oper} {rest : List Oper} {o : Oper} {a : Act} {Q : Exit → Act → World → Prop} (hgd : o.guard = none) (s x : Operand) (t : TypeId)
    (ho : o.op = .call { callee := .builtin .append, args := #[s, x], argTypes := #[t, t] })
    (base : Nat) (e : TypeId) (i : TypeInfo) (z : Value) (bytes : Nat) (ht : P.underlying t = some (.slice e)) (hi : P.info? e = some i) (hz : i.zero = some z)
    (hsize : i.size = 1) (hby : i.bytes = bytes) (hzs : z.cells.size = 1)
    (v : Value) (n : Nat) (xs : List Value) (hs : a.eval s = v) (hown : w.ownsRow base e 1 v n xs)
    (y : Value) (news : List Value) (hx : a.eval x = y) (hy : Rd w y news) (h1 : ∀ u ∈ news, u.oneCell' = true)
    (hbytes : (n + news.length) * bytes ≤ 140737488355328) (h63 : n + news.length ≤ maxLen) (hbase : base ≤ w.heap.size)
    (h : ∀ v' w', w'.ownsRow base e 1 v' (n + news.length) (xs ++ news) → w.grownBy w' v.ownBlock → (v'.ownBlock = v.ownBlock ∨ (v'.ownBlock = some w.heap.size ∧ Below w.heap.size w w')) → wpList P ops Q rest (a.put o.dst v') w') : wpList P ops Q (o :: rest) a w := by
  refine wpList_plain hgd fun _ hK => ?_
  obtain ⟨v', w', hr, h2, h3, h4⟩ := run_append_two (P := P) w base t o.type e i z bytes ht hi hz hsize hby hzs v n xs hown y news hy h1 hbytes h63 hbase
  unfold Oper.wp execOp
  simp only [ho, resolve, invoke, builtin, Sem.run_bind, Sem.run_pure, Result.andThen_ok, List.map_toArray, List.map_cons, List.map_nil, hs, hx, hr]
  exact hK _ _ (h v' w' h2 h3 h4)


end Go.Proofs.YtocbogeoffeolaaGreatDoor
