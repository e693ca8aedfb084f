/-
  APPEND of whatever slice reads (nil too) onto a row that is owned: one law.
-/
import Derived.Test.YtocbogeoffeolaaGreatDoorOwn
import Derived.Test.YtocbogeoffeolaaGreatDoorRd
namespace Go.Proofs.YtocbogeoffeolaaGreatDoor
open Go.RowKit

theorem run_append_none {P : Program} (w : World) (t ty e : TypeId) (i : TypeInfo) (ht : P.underlying t = some (.slice e)) (hi : P.info? e = some i) (b : Option Addr) (n cap c : Nat) (h : n ≤ cap) :
    (Builtin.append_ #[t, t] ty #[.slice b n cap, .slice none 0 c]).run P w = .ok (.slice b n cap) w := by
  cases b <;> simp [Builtin.append_, run_underlying ht, sizeOf, typeInfo, hi, Builtin.lenOf, Builtin.firstCells, h, storeCells]

theorem owns_slice {w : World} {base e n : Nat} {v : Value} {xs : List Value} (h : w.ownsRow base e 1 v n xs) : ∃ a cap, v = .slice a n cap ∧ n ≤ cap := by
  rcases h.2 with ⟨rfl, rfl⟩ | ⟨g, cap, cur, rfl, _, _, hn, _⟩
  · exact ⟨none, 0, rfl, Nat.le_refl _⟩
  · exact ⟨_, cap, rfl, hn⟩

theorem run_append_rd {P : Program} (w : World) (base : Nat) (t ty e : TypeId) (i : TypeInfo) (z : Value) (bytes : Nat) (ht : P.underlying t = some (.slice e)) (hi : P.info? e = some i) (hz : i.zero = some z)
    (hsize : i.size = 1) (hby : i.bytes = bytes) (hzs : z.cells.size = 1)
    (v : Value) (n : Nat) (xs : List Value) (hown : w.ownsRow base e 1 v n xs)
    (x : Value) (news : List Value) (hx : Rd w x news) (h1 : ∀ u ∈ news, u.oneCell' = true)
    (hbytes : (n + news.length) * bytes ≤ 140737488355328) (h63 : n + news.length ≤ maxLen) (hbase : base ≤ w.heap.size) :
    ∃ v' w', (Builtin.append_ #[t, t] ty #[v, x]).run P w = .ok v' w' ∧ w'.ownsRow base e 1 v' (n + news.length) (xs ++ news) ∧ w.grownBy w' v.ownBlock := by
  obtain ⟨a, cap, rfl, hc, hm, hr⟩ := hx
  cases a with
  | none =>
    have hn : news = [] := by
      cases news with
      | nil => rfl
      | cons u us => obtain ⟨b, off, he, _⟩ := hr 0 u rfl; simp at he
    subst hn
    obtain ⟨b, c, rfl, hnc⟩ := owns_slice hown
    refine ⟨_, w, run_append_none w t ty e i ht hi b n c cap hnc, by simpa using hown, World.grownBy.refl _ _⟩
  | some ad =>
    by_cases hn : news = []
    · subst hn
      obtain ⟨v', w', h1, h2, h3, _⟩ := run_append_own (P := P) w base t ty e i z 1 bytes ht hi hz hsize hby hzs (by decide) v n xs hown ad 0 cap [] rfl (by simp) (by simp) (by simpa using h63) (by simpa using hbytes) hbase
      exact ⟨v', w', h1, h2, h3⟩
    · obtain ⟨b, off, he, _⟩ : ∃ b off, some ad = some ⟨b, off, none⟩ ∧ True := by
        cases news with
        | nil => exact absurd rfl hn
        | cons u us => obtain ⟨b, off, he, _⟩ := hr 0 u rfl; exact ⟨b, off, he, trivial⟩
      simp only [Option.some.injEq] at he
      subst he
      obtain ⟨v', w', h1, h2, h3, _⟩ := run_append_own (P := P) w base t ty e i z 1 bytes ht hi hz hsize hby hzs (by decide) v n xs hown ⟨b, off, none⟩ news.length cap news (by simp) (fun j u hj => by
        obtain ⟨b', off', he, hcell⟩ := hr j u hj
        simp only [Option.some.injEq, Addr.mk.injEq] at he
        obtain ⟨rfl, rfl, _⟩ := he
        rw [Addr.add_lit]; exact hcell) h1 h63 hbytes hbase
      exact ⟨v', w', h1, h2, h3⟩

theorem wpList_append_rd {P : Program} (w : World) {ops : Array Oper} {rest : List Oper} {o : Oper} {a : Act} {Q : Exit → Act → World → Prop} (hgd : o.guard = none) (s x : Operand) (t : TypeId)
    (ho : o.op = .call { callee := .builtin .append, args := #[s, x], argTypes := #[t, t] })
    (base : Nat) (e : TypeId) (i : TypeInfo) (z : Value) (bytes : Nat) (ht : P.underlying t = some (.slice e)) (hi : P.info? e = some i) (hz : i.zero = some z)
    (hsize : i.size = 1) (hby : i.bytes = bytes) (hzs : z.cells.size = 1)
    (v : Value) (n : Nat) (xs : List Value) (hs : a.eval s = v) (hown : w.ownsRow base e 1 v n xs)
    (y : Value) (news : List Value) (hx : a.eval x = y) (hy : Rd w y news) (h1 : ∀ u ∈ news, u.oneCell' = true)
    (hbytes : (n + news.length) * bytes ≤ 140737488355328) (h63 : n + news.length ≤ maxLen) (hbase : base ≤ w.heap.size)
    (h : ∀ v' w', w'.ownsRow base e 1 v' (n + news.length) (xs ++ news) → w.grownBy w' v.ownBlock → wpList P ops Q rest (a.put o.dst v') w') : wpList P ops Q (o :: rest) a w := by
  refine wpList_plain hgd fun _ hK => ?_
  obtain ⟨v', w', hr, h2, h3⟩ := run_append_rd (P := P) w base t o.type e i z bytes ht hi hz hsize hby hzs v n xs hown y news hy h1 hbytes h63 hbase
  unfold Oper.wp execOp
  simp only [ho, resolve, invoke, builtin, Sem.run_bind, Sem.run_pure, Result.andThen_ok, List.map_toArray, List.map_cons, List.map_nil, hs, hx, hr]
  exact hK _ _ (h v' w' h2 h3)

/-- .. and where the row lies behind it: where it lay, or in a block that is new. -/
theorem run_append_full {P : Program} (w : World) (base : Nat) (t ty e : TypeId) (i : TypeInfo) (z : Value) (bytes : Nat) (ht : P.underlying t = some (.slice e)) (hi : P.info? e = some i) (hz : i.zero = some z)
    (hsize : i.size = 1) (hby : i.bytes = bytes) (hzs : z.cells.size = 1)
    (v : Value) (n : Nat) (xs : List Value) (hown : w.ownsRow base e 1 v n xs)
    (x : Value) (news : List Value) (hx : Rd w x news) (h1 : ∀ u ∈ news, u.oneCell' = true)
    (hbytes : (n + news.length) * bytes ≤ 140737488355328) (h63 : n + news.length ≤ maxLen) (hbase : base ≤ w.heap.size) :
    ∃ v' w', (Builtin.append_ #[t, t] ty #[v, x]).run P w = .ok v' w' ∧ w'.ownsRow base e 1 v' (n + news.length) (xs ++ news) ∧ w.grownBy w' v.ownBlock ∧ (v'.ownBlock = v.ownBlock ∨ v'.ownBlock = some w.heap.size) := by
  obtain ⟨v', w', hr, h2, h3⟩ := run_append_rd (P := P) w base t ty e i z bytes ht hi hz hsize hby hzs v n xs hown x news hx h1 hbytes h63 hbase
  refine ⟨v', w', hr, h2, h3, ?_⟩
  obtain ⟨a, cap, rfl, hc, hm, hrd⟩ := hx
  cases a with
  | none =>
    have hn : news = [] := by
      cases news with
      | nil => rfl
      | cons u us => obtain ⟨b, off, he, _⟩ := hrd 0 u rfl; simp at he
    subst hn
    obtain ⟨b, c, rfl, hnc⟩ := owns_slice hown
    have := run_append_none (P := P) w t ty e i ht hi b n c cap hnc
    simp only [List.length_nil] at hr
    rw [this] at hr
    simp only [Result.ok.injEq] at hr
    exact Or.inl (by rw [← hr.1])
  | some ad =>
    have hnews : ∀ j u, news[j]? = some u → w.cell? (ad.add j) = some u := by
      intro j u hj
      obtain ⟨b, off, he, hcell⟩ := hrd j u hj
      simp only [Option.some.injEq] at he
      subst he
      rw [Addr.add_lit]; exact hcell
    have hl : news.length = news.length * i.size := by rw [hsize]; omega
    rcases hown.2 with ⟨rfl, rfl⟩ | ⟨g, c, cur, rfl, hbg, hg, hnc, hcm, hcs, htake⟩
    · by_cases hm0 : news.length = 0
      · have hn : news = [] := List.eq_nil_of_length_eq_zero hm0
        subst hn
        rcases h2.2 with ⟨rfl, _⟩ | ⟨g', c', cur', rfl, _, hg', _⟩
        · exact Or.inl rfl
        · exfalso
          have := run_append_own (P := P) w base t ty e i z 1 bytes ht hi hz hsize hby hzs (by decide) (.slice none 0 0) 0 xs hown ad 0 cap [] rfl (by simp) (by simp) (by simp) (by simp) hbase
          obtain ⟨v2, w2, hr2, _, _, h4⟩ := this
          simp only [List.length_nil] at hr
          rw [hr] at hr2
          simp only [Result.ok.injEq] at hr2
          have := h4.2 ⟨rfl, rfl⟩
          rw [← hr2.1] at this
          simp at this
      · have hr2 := run_append_nil (P := P) w t ty e i z ht hi hz ad news.length cap news hl hnews (by omega) (by simp only [maxLen] at h63; omega) (by rw [hby]; simp only [Nat.zero_add] at hbytes; omega)
        rw [hr2] at hr
        simp only [Result.ok.injEq] at hr
        exact Or.inr (by rw [← hr.1]; rfl)
    · by_cases hroom : n + news.length ≤ c
      · have hr2 := run_append_room (P := P) w t ty e i ht hi g n c cur hg ad news.length cap news hl hnews h1 hroom (by rw [hcs, hsize]; omega)
        rw [hr2] at hr
        simp only [Result.ok.injEq] at hr
        exact Or.inl (by rw [← hr.1]; rfl)
      · have holds : ∀ j u, xs[j]? = some u → w.cell? ((⟨g, 0, none⟩ : Addr).add j) = some u := hown.cells (g := g) rfl
        have hr2 := run_append_grow (P := P) w t ty e i z ht hi hz ⟨g, 0, none⟩ n c xs (by rw [hsize]; exact hown.1) holds ad news.length cap news hl hnews (by omega) (by simp only [maxLen] at h63; omega) (by rw [hby]; exact growslice_fits (by omega) hbytes)
        rw [hr2] at hr
        simp only [Result.ok.injEq] at hr
        exact Or.inr (by rw [← hr.1]; rfl)

theorem wpList_append_full {P : Program} (w : World) {ops : Array Oper} {rest : List Oper} {o : Oper} {a : Act} {Q : Exit → Act → World → Prop} (hgd : o.guard = none) (s x : Operand) (t : TypeId)
    (ho : o.op = .call { callee := .builtin .append, args := #[s, x], argTypes := #[t, t] })
    (base : Nat) (e : TypeId) (i : TypeInfo) (z : Value) (bytes : Nat) (ht : P.underlying t = some (.slice e)) (hi : P.info? e = some i) (hz : i.zero = some z)
    (hsize : i.size = 1) (hby : i.bytes = bytes) (hzs : z.cells.size = 1)
    (v : Value) (n : Nat) (xs : List Value) (hs : a.eval s = v) (hown : w.ownsRow base e 1 v n xs)
    (y : Value) (news : List Value) (hx : a.eval x = y) (hy : Rd w y news) (h1 : ∀ u ∈ news, u.oneCell' = true)
    (hbytes : (n + news.length) * bytes ≤ 140737488355328) (h63 : n + news.length ≤ maxLen) (hbase : base ≤ w.heap.size)
    (h : ∀ v' w', w'.ownsRow base e 1 v' (n + news.length) (xs ++ news) → w.grownBy w' v.ownBlock → (v'.ownBlock = v.ownBlock ∨ v'.ownBlock = some w.heap.size) → wpList P ops Q rest (a.put o.dst v') w') : wpList P ops Q (o :: rest) a w := by
  refine wpList_plain hgd fun _ hK => ?_
  obtain ⟨v', w', hr, h2, h3, h4⟩ := run_append_full (P := P) w base t o.type e i z bytes ht hi hz hsize hby hzs v n xs hown y news hy h1 hbytes h63 hbase
  unfold Oper.wp execOp
  simp only [ho, resolve, invoke, builtin, Sem.run_bind, Sem.run_pure, Result.andThen_ok, List.map_toArray, List.map_cons, List.map_nil, hs, hx, hr]
  exact hK _ _ (h v' w' h2 h3 h4)

/-- One element that has just been laid in a block of its own. -/
theorem Rd.one {w : World} {b : Nat} {y : Value} (h : w.cell? ⟨b, 0, none⟩ = some y) : Rd w (.slice (some ⟨b, 0, none⟩) 1 1) [y] := by
  refine ⟨some ⟨b, 0, none⟩, 1, rfl, Nat.le_refl _, by unfold maxLen; omega, fun j u hj => ⟨b, 0, rfl, ?_⟩⟩
  match j, hj with
  | 0, hj => simp at hj; subst hj; exact h
  | j + 1, hj => simp at hj

theorem strVals_one {ws : List Wd} : ∀ u ∈ strVals ws, u.oneCell' = true := by
  intro u hu
  simp only [strVals, List.mem_map] at hu
  obtain ⟨b, _, rfl⟩ := hu
  rfl

/-- A part of what a slice reads. -/
theorem Rd.take {w : World} {a : Option Addr} {n cap : Nat} {xs : List Value} (h : Rd w (.slice a n cap) xs) (k : Nat) (hk : k ≤ xs.length) : Rd w (.slice a k cap) (xs.take k) := by
  obtain ⟨a', cap', he, hc, hm, hr⟩ := h
  simp only [Value.slice.injEq] at he
  obtain ⟨rfl, rfl, rfl⟩ := he
  have hl : (xs.take k).length = k := by simp; omega
  refine ⟨a, cap, by rw [hl], by omega, hm, fun j u hj => hr j u ?_⟩
  rw [List.getElem?_take] at hj
  split at hj
  · exact hj
  · simp at hj

theorem Rd.take_str {w : World} {a : Option Addr} {n cap : Nat} {ws : List Wd} (h : Rd w (.slice a n cap) (strVals ws)) (k : Nat) (hk : k ≤ ws.length) : Rd w (.slice a k cap) (strVals (ws.take k)) := by
  have := h.take k (by rw [strVals_length]; exact hk)
  simpa [strVals, List.map_take] using this

theorem Rd.drop {w : World} {a : Option Addr} {n cap : Nat} {xs : List Value} (h : Rd w (.slice a n cap) xs) (k : Nat) (hk : k ≤ xs.length) :
    Rd w (.slice (if cap = k then a else a.map fun x => x.add k) (n - k) (cap - k)) (xs.drop k) := by
  obtain ⟨a', cap', he, hc, hm, hr⟩ := h
  simp only [Value.slice.injEq] at he
  obtain ⟨rfl, rfl, rfl⟩ := he
  refine ⟨if cap = k then a else a.map fun x => x.add k, cap - k, by rw [List.length_drop], by simp; omega, by omega, fun j u hj => ?_⟩
  rw [List.getElem?_drop] at hj
  obtain ⟨b, off, rfl, hcell⟩ := hr (k + j) u hj
  have hlt : k + j < xs.length := by
    by_cases h : k + j < xs.length
    · exact h
    · rw [List.getElem?_eq_none (by omega)] at hj; simp at hj
  refine ⟨b, off + k, ?_, by rw [Nat.add_assoc]; exact hcell⟩
  rw [if_neg (by omega)]
  simp [Addr.add_lit]

theorem Rd.drop_str {w : World} {a : Option Addr} {n cap : Nat} {ws : List Wd} (h : Rd w (.slice a n cap) (strVals ws)) (k : Nat) (hk : k ≤ ws.length) :
    Rd w (.slice (if cap = k then a else a.map fun x => x.add k) (n - k) (cap - k)) (strVals (ws.drop k)) := by
  have := h.drop k (by rw [strVals_length]; exact hk)
  simpa [strVals, List.map_drop] using this

theorem Rd.drop_str_lt {w : World} {b off n cap : Nat} {ws : List Wd} (h : Rd w (.slice (some ⟨b, off, none⟩) n cap) (strVals ws)) (k : Nat) (hk : k < ws.length) (hc : n ≤ cap) (hn : n = ws.length) :
    Rd w (.slice (some ⟨b, off + k, none⟩) (n - k) (cap - k)) (strVals (ws.drop k)) := by
  have := h.drop_str k (by omega)
  rw [if_neg (by omega)] at this
  simpa [Addr.add_lit] using this

theorem Rd.empty' {w : World} {a : Option Addr} {n c : Nat} (hn : n = 0) (hc : c ≤ maxLen) : Rd w (.slice a n c) [] := by
  subst hn
  exact ⟨a, c, rfl, Nat.zero_le _, hc, by simp⟩

/-- What a slice reads stays where nothing that was there has turned. -/
theorem Rd.later {w w' : World} {v : Value} {xs : List Value} (h : Rd w v xs) (hc : ∀ a u, w.cell? a = some u → w'.cell? a = some u) : Rd w' v xs := by
  obtain ⟨a, cap, he, h1, h2, hr⟩ := h
  refine ⟨a, cap, he, h1, h2, fun j u hj => ?_⟩
  obtain ⟨b, off, e, hcell⟩ := hr j u hj
  exact ⟨b, off, e, hc _ _ hcell⟩

theorem cell_lt {w : World} {a : Addr} {u : Value} (h : w.cell? a = some u) : a.block < w.heap.size := by
  by_cases hl : a.block < w.heap.size
  · exact hl
  · unfold World.cell? at h
    rw [Array.getElem?_eq_none (by omega)] at h
    simp at h

theorem Rd.below {w w' : World} {v : Value} {xs : List Value} (h : Rd w v xs) (hb : Below w.heap.size w w') : Rd w' v xs :=
  h.later fun _ _ hc => cell_later hb hc

/-- What stays where one block alone may have turned. -/
theorem Rd.grown {w w' : World} {a : Option Addr} {n cap : Nat} {xs : List Value} {row : Option Nat} (h : Rd w (.slice a n cap) xs) (hg : w.grownBy w' row) (hne : ∀ ad, a = some ad → some ad.block ≠ row) : Rd w' (.slice a n cap) xs := by
  obtain ⟨a', cap', he, h1, h2, hr⟩ := h
  simp only [Value.slice.injEq] at he
  obtain ⟨rfl, rfl, rfl⟩ := he
  refine ⟨a, cap, rfl, h1, h2, fun j u hj => ?_⟩
  obtain ⟨b, off, e, hcell⟩ := hr j u hj
  exact ⟨b, off, e, hg.cell hcell (hne ⟨b, off, none⟩ e)⟩

theorem owns_mono {w : World} {base base' e size n : Nat} {v : Value} {xs : List Value} (h : w.ownsRow base e size v n xs) (hb : base' ≤ base) : w.ownsRow base' e size v n xs := by
  obtain ⟨h1, h2⟩ := h
  refine ⟨h1, ?_⟩
  rcases h2 with h2 | ⟨g, cap, cur, hv, hg, r⟩
  · exact Or.inl h2
  · exact Or.inr ⟨g, cap, cur, hv, by omega, r⟩

end Go.Proofs.YtocbogeoffeolaaGreatDoor
