/-
  READING AND APPENDING rows whose elements have several cells (entries).
-/
import Derived.Test.YtocbogeoffeolaaGreatDoorApp3
namespace Go.Proofs.YtocbogeoffeolaaGreatDoor
open Go.RowKit

/-- The slice v, of n elements of s cells each, reads as the cells xs. -/
def RdW (w : World) (s : Nat) (v : Value) (n : Nat) (xs : List Value) : Prop :=
  ∃ a cap, v = .slice a n cap ∧ n ≤ cap ∧ cap ≤ maxLen ∧ xs.length = n * s ∧ ∀ j u, xs[j]? = some u → ∃ b off, a = some ⟨b, off, none⟩ ∧ w.cell? ⟨b, off + j, none⟩ = some u

theorem RdW.of_owns {w : World} {base e s n : Nat} {v : Value} {xs : List Value} (h : w.ownsRow base e s v n xs) : RdW w s v n xs := by
  have h0 := h
  obtain ⟨hl, h⟩ := h
  rcases h with ⟨rfl, rfl⟩ | ⟨g, cap, cur, rfl, _, hg, hn, hcm, hcs, htk⟩
  · have : xs = [] := List.eq_nil_of_length_eq_zero (by simpa using hl)
    subst this
    exact ⟨none, 0, rfl, Nat.le_refl _, by unfold maxLen; omega, by simp, by simp⟩
  · refine ⟨some ⟨g, 0, none⟩, cap, rfl, hn, hcm, hl, fun j u hj => ⟨g, 0, rfl, ?_⟩⟩
    have := h0.cells (g := g) rfl j u hj
    rwa [Addr.add_lit] at this

theorem RdW.nil (w : World) (s : Nat) : RdW w s (.slice none 0 0) 0 [] := ⟨none, 0, rfl, Nat.le_refl _, by unfold maxLen; omega, by simp, by simp⟩

theorem RdW.later {w w' : World} {s n : Nat} {v : Value} {xs : List Value} (h : RdW w s v n xs) (hc : ∀ a u, w.cell? a = some u → w'.cell? a = some u) : RdW w' s v n xs := by
  obtain ⟨a, cap, he, h1, h2, hl, hr⟩ := h
  refine ⟨a, cap, he, h1, h2, hl, fun j u hj => ?_⟩
  obtain ⟨b, off, e, hcell⟩ := hr j u hj
  exact ⟨b, off, e, hc _ _ hcell⟩
theorem RdW.below {w w' : World} {s n : Nat} {v : Value} {xs : List Value} (h : RdW w s v n xs) (hb : Below w.heap.size w w') : RdW w' s v n xs := h.later fun _ _ hc => cell_later hb hc

/-- The first k elements. -/
theorem RdW.take {w : World} {s n cap : Nat} {a : Option Addr} {xs : List Value} (h : RdW w s (.slice a n cap) n xs) (k : Nat) (hk : k ≤ n) : RdW w s (.slice a k cap) k (xs.take (k * s)) := by
  obtain ⟨a', cap', he, h1, h2, hl, hr⟩ := h
  simp only [Value.slice.injEq] at he
  obtain ⟨rfl, _, rfl⟩ := he
  have hks : k * s ≤ n * s := Nat.mul_le_mul_right _ hk
  refine ⟨a, cap, rfl, by omega, h2, by simp; omega, fun j u hj => hr j u ?_⟩
  rw [List.getElem?_take] at hj
  split at hj
  · exact hj
  · simp at hj

/-- Those from the k-th on. -/
theorem RdW.drop_lt {w : World} {s n cap b off : Nat} {xs : List Value} (h : RdW w s (.slice (some ⟨b, off, none⟩) n cap) n xs) (k : Nat) (hk : k ≤ n) : RdW w s (.slice (some ⟨b, off + k * s, none⟩) (n - k) (cap - k)) (n - k) (xs.drop (k * s)) := by
  obtain ⟨a', cap', he, h1, h2, hl, hr⟩ := h
  simp only [Value.slice.injEq] at he
  obtain ⟨rfl, _, rfl⟩ := he
  refine ⟨_, cap - k, rfl, by omega, by omega, by rw [List.length_drop, hl, Nat.sub_mul], fun j u hj => ⟨b, off + k * s, rfl, ?_⟩⟩
  rw [List.getElem?_drop] at hj
  obtain ⟨b', off', e, hc⟩ := hr (k * s + j) u hj
  simp only [Option.some.injEq, Addr.mk.injEq] at e
  obtain ⟨rfl, rfl, _⟩ := e
  rw [Nat.add_assoc]; exact hc
theorem RdW.empty {w : World} {s : Nat} {a : Option Addr} {n c : Nat} (hn : n = 0) (hc : c ≤ maxLen) : RdW w s (.slice a n c) n [] := by
  subst hn
  exact ⟨a, c, rfl, Nat.zero_le _, hc, by simp, by simp⟩

theorem run_append_w {P : Program} (w : World) (base : Nat) (t ty e : TypeId) (i : TypeInfo) (z : Value) (size bytes : Nat) (ht : P.underlying t = some (.slice e)) (hi : P.info? e = some i) (hz : i.zero = some z)
    (hsize : i.size = size) (hby : i.bytes = bytes) (hzs : z.cells.size = size) (hsz : 0 < size)
    (v : Value) (n : Nat) (xs : List Value) (hown : w.ownsRow base e size v n xs)
    (x : Value) (m : Nat) (news : List Value) (hx : RdW w size x m news) (h1 : ∀ u ∈ news, u.oneCell' = true)
    (hbytes : (n + m) * bytes ≤ 140737488355328) (h63 : n + m ≤ maxLen) (hbase : base ≤ w.heap.size) :
    ∃ v' w', (Builtin.append_ #[t, t] ty #[v, x]).run P w = .ok v' w' ∧ w'.ownsRow base e size v' (n + m) (xs ++ news) ∧ w.grownBy w' v.ownBlock ∧ (v'.ownBlock = v.ownBlock ∨ (v'.ownBlock = some w.heap.size ∧ Below w.heap.size w w')) := by
  obtain ⟨a, cap, rfl, hc, hm, hl, hrd⟩ := hx
  by_cases hm0 : m = 0
  · subst hm0
    have hn : news = [] := List.eq_nil_of_length_eq_zero (by simpa using hl)
    subst hn
    obtain ⟨b, c, rfl, hnc⟩ := owns_slice_wide hown
    have hr : (Builtin.append_ #[t, t] ty #[.slice b n c, .slice a 0 cap]).run P w = .ok (.slice b n c) w := by
      cases a with
      | none => exact run_append_none (P := P) w t ty e i ht hi b n c cap hnc
      | some ad =>
        cases b <;> simp [Builtin.append_, run_underlying ht, sizeOf, typeInfo, hi, Builtin.lenOf, Builtin.firstCells, hnc, storeCells, loadCells, loadCellsFrom]
    exact ⟨_, w, hr, by simpa using hown, World.grownBy.refl _ _, Or.inl rfl⟩
  · have hpos : 0 < news.length := by rw [hl]; exact Nat.mul_pos (by omega) hsz
    obtain ⟨b, off, ha, _⟩ := hrd 0 news[0] (List.getElem?_eq_getElem hpos)
    subst ha
    have hnews : ∀ j u, news[j]? = some u → w.cell? ((⟨b, off, none⟩ : Addr).add j) = some u := by
      intro j u hj
      obtain ⟨b', off', he, hcell⟩ := hrd j u hj
      simp only [Option.some.injEq, Addr.mk.injEq] at he
      obtain ⟨rfl, rfl, _⟩ := he
      rw [Addr.add_lit]; exact hcell
    obtain ⟨v', w', hr, h2, h3, _⟩ := run_append_own (P := P) w base t ty e i z size bytes ht hi hz hsize hby hzs hsz v n xs hown ⟨b, off, none⟩ m cap news hl hnews h1 h63 hbytes hbase
    refine ⟨v', w', hr, h2, h3, ?_⟩
    have hl' : news.length = m * i.size := by rw [hsize]; exact hl
    rcases hown.2 with ⟨rfl, rfl⟩ | ⟨g, c, cur, rfl, hbg, hg, hnc, hcm, hcs, htake⟩
    · have hr2 := run_append_nil (P := P) w t ty e i z ht hi hz ⟨b, off, none⟩ m cap news hl' hnews (by omega) (by simp only [maxLen] at h63; omega) (by rw [hby]; simp only [Nat.zero_add] at hbytes; omega)
      rw [hr2] at hr
      simp only [Result.ok.injEq] at hr
      exact Or.inr ⟨by rw [← hr.1]; rfl, by rw [← hr.2]; exact ((Below.refl _ _).drew).alloc (Nat.le_refl _) _⟩
    · by_cases hroom : n + m ≤ c
      · have hfit : n * i.size + news.length ≤ cur.size := by rw [hl', hcs, hsize, ← Nat.add_mul]; exact Nat.mul_le_mul_right _ hroom
        have hr2 := run_append_room (P := P) w t ty e i ht hi g n c cur hg ⟨b, off, none⟩ m cap news hl' hnews h1 hroom hfit
        rw [hr2] at hr
        simp only [Result.ok.injEq] at hr
        exact Or.inl (by rw [← hr.1]; rfl)
      · have holds : ∀ j u, xs[j]? = some u → w.cell? ((⟨g, 0, none⟩ : Addr).add j) = some u := hown.cells (g := g) rfl
        have hr2 := run_append_grow (P := P) w t ty e i z ht hi hz ⟨g, 0, none⟩ n c xs (by rw [hsize]; exact hown.1) holds ⟨b, off, none⟩ m cap news hl' hnews (by omega) (by simp only [maxLen] at h63; omega) (by rw [hby]; exact growslice_fits (by omega) hbytes)
        rw [hr2] at hr
        simp only [Result.ok.injEq] at hr
        exact Or.inr ⟨by rw [← hr.1]; rfl, by rw [← hr.2]; exact ((Below.refl _ _).drew).alloc (Nat.le_refl _) _⟩

theorem wpList_append_w {P : Program} (w : World) {ops : Array Oper} {rest : List Oper} {o : Oper} {a : Act} {Q : Exit → Act → World → Prop} (hgd : o.guard = none) (s x : Operand) (t : TypeId)
    (ho : o.op = .call { callee := .builtin .append, args := #[s, x], argTypes := #[t, t] })
    (base : Nat) (e : TypeId) (i : TypeInfo) (z : Value) (size bytes : Nat) (ht : P.underlying t = some (.slice e)) (hi : P.info? e = some i) (hz : i.zero = some z)
    (hsize : i.size = size) (hby : i.bytes = bytes) (hzs : z.cells.size = size) (hsz : 0 < size)
    (v : Value) (n : Nat) (xs : List Value) (hs : a.eval s = v) (hown : w.ownsRow base e size v n xs)
    (y : Value) (m : Nat) (news : List Value) (hx : a.eval x = y) (hy : RdW w size y m news) (h1 : ∀ u ∈ news, u.oneCell' = true)
    (hbytes : (n + m) * bytes ≤ 140737488355328) (h63 : n + m ≤ maxLen) (hbase : base ≤ w.heap.size)
    (h : ∀ v' w', w'.ownsRow base e size v' (n + m) (xs ++ news) → w.grownBy w' v.ownBlock → (v'.ownBlock = v.ownBlock ∨ (v'.ownBlock = some w.heap.size ∧ Below w.heap.size w w')) → wpList P ops Q rest (a.put o.dst v') w') : wpList P ops Q (o :: rest) a w := by
  refine wpList_plain hgd fun _ hK => ?_
  obtain ⟨v', w', hr, h2, h3, h4⟩ := run_append_w (P := P) w base t o.type e i z size bytes ht hi hz hsize hby hzs hsz v n xs hown y m news hy h1 hbytes h63 hbase
  unfold Oper.wp execOp
  simp only [ho, resolve, invoke, builtin, Sem.run_bind, Sem.run_pure, Result.andThen_ok, List.map_toArray, List.map_cons, List.map_nil, hs, hx, hr]
  exact hK _ _ (h v' w' h2 h3 h4)

end Go.Proofs.YtocbogeoffeolaaGreatDoor
