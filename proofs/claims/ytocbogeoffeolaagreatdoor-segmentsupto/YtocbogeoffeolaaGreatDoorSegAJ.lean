/-
  The library's contracts that the program's segments need, laid over this seat's numbers: strings.Clone's, slices.Sort at strings, slices.SortFunc over leaves. (The numbers are this seat's: the kit's own tool lay-plain.mjs makes this text, as wip/sh.sh does for Sh.)
  WALKS: the program's own: Clone; Upsert, Delete.
  WALKS: the program's own: Delete, Segments, Dump.
  WALKS: the program's own: what is written onto bytes: appendString, appendWeight, appendEntry.
  WALKS: the program's own: leaves in memory; greatestWeight, countEnding, commonLength.
  WALKS: the program's own: split.
-/
import Derived.Test.YtocbogeoffeolaaGreatDoorSegAG
import Derived.Test.YtocbogeoffeolaaGreatDoorSegAI
import Derived.Shelf.Strconv.Clone
import Derived.Shelf.Sort.Plain
import Derived.Shelf.Slices.In.SortNone
import Derived.Shelf.SlSortCmp.WholeK
import Derived.Shelf.SlSortCmp.NoneTotal
import Derived.Shelf.SlGeneric
import Derived.Test.YtocbogeoffeolaaGreatDoorProg
import Derived.Lib.AppendStr
namespace Go.Proofs.YtocbogeoffeolaaGreatDoor
open Go.Shelf
def Tryz.lays316_ren : Go.Shelf.Ren := ⟨fun | 316 => 90 | n => n, fun | 9 => 9 | 3 => 3 | 4 => 4 | 37 => 60 | 0 => 0 | 127 => 187 | 5 => 5 | n => n, fun | n => n⟩
theorem Tryz.lays316 : Go.Proofs.LaysM.n316 Tryz.prog Tryz.lays316_ren := {
  mixed := by kernel_rfl
  f316 := Tryz.func90.trans (congrArg some (by kernel_rfl))
  t0 := Tryz.underlying0
  a0 := Tryz.isAgg0
  z0 := Tryz.sizeOf0
  v0 := Tryz.zeroValue0
  t3 := Tryz.underlying3
  a3 := Tryz.isAgg3
  z3 := Tryz.sizeOf3
  v3 := Tryz.zeroValue3
  t4 := Tryz.underlying4
  a4 := Tryz.isAgg4
  z4 := Tryz.sizeOf4
  v4 := Tryz.zeroValue4
  t9 := Tryz.underlying9
  a9 := Tryz.isAgg9
  z9 := Tryz.sizeOf9
  v9 := Tryz.zeroValue9
  t37 := Tryz.underlying60
  a37 := Tryz.isAgg60
  z37 := Tryz.sizeOf60
  v37 := Tryz.zeroValue60
  t127 := Tryz.underlying187
  a127 := Tryz.isAgg187
  z127 := Tryz.sizeOf187
  v127 := Tryz.zeroValue187
  t5 := Tryz.underlying5
  a5 := Tryz.isAgg5
  z5 := Tryz.sizeOf5
  v5 := Tryz.zeroValue5
  i0 := by kernel_rfl
  i3 := by kernel_rfl
  i4 := by kernel_rfl
  i5 := by kernel_rfl
  i9 := by kernel_rfl
  i37 := by kernel_rfl
  i127 := by kernel_rfl }
def Tryz.lays190_ren : Go.Shelf.Ren := ⟨fun | 190 => 162 | 125 => 125 | 258 => 217 | 128 => 172 | 129 => 173 | 302 => 243 | 303 => 244 | 304 => 245 | 305 => 246 | 306 => 247 | 307 => 248 | 308 => 249 | 309 => 250 | 310 => 251 | 333 => 271 | 329 => 219 | 330 => 220 | 334 => 272 | 335 => 273 | 336 => 175 | 344 => 279 | n => n, fun | 31 => 31 | 9 => 9 | 3 => 3 | 46 => 184 | 0 => 0 | 51 => 229 | 53 => 141 | 4 => 4 | 183 => 222 | 182 => 221 | 131 => 226 | 5 => 5 | 218 => 272 | 222 => 276 | 228 => 292 | 229 => 212 | n => n, fun | n => n⟩
theorem Tryz.lays190 : Go.Proofs.Lays.n190 Tryz.prog Tryz.lays190_ren := {
  mixed := by kernel_rfl
  f125 := Tryz.func125.trans (congrArg some (by kernel_rfl))
  f128 := Tryz.func172.trans (congrArg some (by kernel_rfl))
  f129 := Tryz.func173.trans (congrArg some (by kernel_rfl))
  f190 := Tryz.func162.trans (congrArg some (by kernel_rfl))
  f258 := Tryz.func217.trans (congrArg some (by kernel_rfl))
  f302 := Tryz.func243.trans (congrArg some (by kernel_rfl))
  f303 := Tryz.func244.trans (congrArg some (by kernel_rfl))
  f304 := Tryz.func245.trans (congrArg some (by kernel_rfl))
  f305 := Tryz.func246.trans (congrArg some (by kernel_rfl))
  f306 := Tryz.func247.trans (congrArg some (by kernel_rfl))
  f307 := Tryz.func248.trans (congrArg some (by kernel_rfl))
  f308 := Tryz.func249.trans (congrArg some (by kernel_rfl))
  f309 := Tryz.func250.trans (congrArg some (by kernel_rfl))
  f310 := Tryz.func251.trans (congrArg some (by kernel_rfl))
  f329 := Tryz.func219.trans (congrArg some (by kernel_rfl))
  f330 := Tryz.func220.trans (congrArg some (by kernel_rfl))
  f333 := Tryz.func271.trans (congrArg some (by kernel_rfl))
  f334 := Tryz.func272.trans (congrArg some (by kernel_rfl))
  f335 := Tryz.func273.trans (congrArg some (by kernel_rfl))
  f336 := Tryz.func175.trans (congrArg some (by kernel_rfl))
  f344 := Tryz.func279.trans (congrArg some (by kernel_rfl))
  t0 := Tryz.underlying0
  a0 := Tryz.isAgg0
  z0 := Tryz.sizeOf0
  v0 := Tryz.zeroValue0
  t3 := Tryz.underlying3
  a3 := Tryz.isAgg3
  z3 := Tryz.sizeOf3
  v3 := Tryz.zeroValue3
  t4 := Tryz.underlying4
  a4 := Tryz.isAgg4
  z4 := Tryz.sizeOf4
  v4 := Tryz.zeroValue4
  t5 := Tryz.underlying5
  a5 := Tryz.isAgg5
  z5 := Tryz.sizeOf5
  v5 := Tryz.zeroValue5
  t9 := Tryz.underlying9
  a9 := Tryz.isAgg9
  z9 := Tryz.sizeOf9
  v9 := Tryz.zeroValue9
  t31 := Tryz.underlying31
  a31 := Tryz.isAgg31
  z31 := Tryz.sizeOf31
  v31 := Tryz.zeroValue31
  t46 := Tryz.underlying184
  a46 := Tryz.isAgg184
  z46 := Tryz.sizeOf184
  v46 := Tryz.zeroValue184
  t51 := Tryz.underlying229
  a51 := Tryz.isAgg229
  z51 := Tryz.sizeOf229
  v51 := Tryz.zeroValue229
  t53 := Tryz.underlying141
  a53 := Tryz.isAgg141
  z53 := Tryz.sizeOf141
  v53 := Tryz.zeroValue141
  t131 := Tryz.underlying226
  a131 := Tryz.isAgg226
  z131 := Tryz.sizeOf226
  v131 := Tryz.zeroValue226
  t182 := Tryz.underlying221
  a182 := Tryz.isAgg221
  z182 := Tryz.sizeOf221
  v182 := Tryz.zeroValue221
  t183 := Tryz.underlying222
  a183 := Tryz.isAgg222
  z183 := Tryz.sizeOf222
  v183 := Tryz.zeroValue222
  t218 := Tryz.underlying272
  a218 := Tryz.isAgg272
  z218 := Tryz.sizeOf272
  v218 := Tryz.zeroValue272
  t222 := Tryz.underlying276
  a222 := Tryz.isAgg276
  z222 := Tryz.sizeOf276
  v222 := Tryz.zeroValue276
  t228 := Tryz.underlying292
  a228 := Tryz.isAgg292
  z228 := Tryz.sizeOf292
  v228 := Tryz.zeroValue292
  t229 := Tryz.underlying212
  a229 := Tryz.isAgg212
  z229 := Tryz.sizeOf212
  v229 := Tryz.zeroValue212 }
def Tryz.sortLeaf_ren : Go.Shelf.Ren := ⟨fun | 6 => 184 | 15 => 125 | 14 => 227 | 28 => 172 | 29 => 173 | 20 => 257 | 21 => 258 | 22 => 259 | 23 => 260 | 24 => 261 | 25 => 262 | 26 => 263 | 27 => 264 | 46 => 276 | 47 => 219 | 48 => 220 | 49 => 277 | 50 => 278 | 57 => 280 | n => n, fun | 22 => 190 | 24 => 237 | 25 => 242 | 3 => 3 | 39 => 184 | 0 => 0 | 53 => 229 | 55 => 141 | 4 => 4 | 46 => 222 | 45 => 221 | 50 => 226 | 5 => 5 | 9 => 9 | 66 => 272 | 70 => 276 | 76 => 292 | 77 => 212 | n => n, fun | n => n⟩
theorem Tryz.sortLeaf : Go.Proofs.SlLaysF0.n6 Tryz.prog Tryz.sortLeaf_ren := {
  mixed := by kernel_rfl
  f6 := ⟨Tryz.f184.name, by decide, Tryz.func184.trans (congrArg some (by kernel_rfl))⟩
  f14 := ⟨Tryz.f227.name, by decide, Tryz.func227.trans (congrArg some (by kernel_rfl))⟩
  f15 := Tryz.func125.trans (congrArg some (by kernel_rfl))
  f20 := ⟨Tryz.f257.name, by decide, Tryz.func257.trans (congrArg some (by kernel_rfl))⟩
  f21 := ⟨Tryz.f258.name, by decide, Tryz.func258.trans (congrArg some (by kernel_rfl))⟩
  f22 := ⟨Tryz.f259.name, by decide, Tryz.func259.trans (congrArg some (by kernel_rfl))⟩
  f23 := ⟨Tryz.f260.name, by decide, Tryz.func260.trans (congrArg some (by kernel_rfl))⟩
  f24 := ⟨Tryz.f261.name, by decide, Tryz.func261.trans (congrArg some (by kernel_rfl))⟩
  f25 := ⟨Tryz.f262.name, by decide, Tryz.func262.trans (congrArg some (by kernel_rfl))⟩
  f26 := ⟨Tryz.f263.name, by decide, Tryz.func263.trans (congrArg some (by kernel_rfl))⟩
  f27 := ⟨Tryz.f264.name, by decide, Tryz.func264.trans (congrArg some (by kernel_rfl))⟩
  f28 := Tryz.func172.trans (congrArg some (by kernel_rfl))
  f29 := Tryz.func173.trans (congrArg some (by kernel_rfl))
  f46 := ⟨Tryz.f276.name, by decide, Tryz.func276.trans (congrArg some (by kernel_rfl))⟩
  f47 := Tryz.func219.trans (congrArg some (by kernel_rfl))
  f48 := Tryz.func220.trans (congrArg some (by kernel_rfl))
  f49 := ⟨Tryz.f277.name, by decide, Tryz.func277.trans (congrArg some (by kernel_rfl))⟩
  f50 := ⟨Tryz.f278.name, by decide, Tryz.func278.trans (congrArg some (by kernel_rfl))⟩
  f57 := ⟨Tryz.f280.name, by decide, Tryz.func280.trans (congrArg some (by kernel_rfl))⟩
  t0 := Tryz.underlying0
  a0 := Tryz.isAgg0
  z0 := Tryz.sizeOf0
  v0 := Tryz.zeroValue0
  t3 := Tryz.underlying3
  a3 := Tryz.isAgg3
  z3 := Tryz.sizeOf3
  v3 := Tryz.zeroValue3
  t4 := Tryz.underlying4
  a4 := Tryz.isAgg4
  z4 := Tryz.sizeOf4
  v4 := Tryz.zeroValue4
  t5 := Tryz.underlying5
  a5 := Tryz.isAgg5
  z5 := Tryz.sizeOf5
  v5 := Tryz.zeroValue5
  t9 := Tryz.underlying9
  a9 := Tryz.isAgg9
  z9 := Tryz.sizeOf9
  v9 := Tryz.zeroValue9
  t22 := Tryz.underlying190
  a22 := Tryz.isAgg190
  z22 := Tryz.sizeOf190
  v22 := Tryz.zeroValue190
  t25 := Tryz.underlying242
  a25 := Tryz.isAgg242
  z25 := Tryz.sizeOf242
  v25 := Tryz.zeroValue242
  t39 := Tryz.underlying184
  a39 := Tryz.isAgg184
  z39 := Tryz.sizeOf184
  v39 := Tryz.zeroValue184
  t45 := Tryz.underlying221
  a45 := Tryz.isAgg221
  z45 := Tryz.sizeOf221
  v45 := Tryz.zeroValue221
  t46 := Tryz.underlying222
  a46 := Tryz.isAgg222
  z46 := Tryz.sizeOf222
  v46 := Tryz.zeroValue222
  t50 := Tryz.underlying226
  a50 := Tryz.isAgg226
  z50 := Tryz.sizeOf226
  v50 := Tryz.zeroValue226
  t53 := Tryz.underlying229
  a53 := Tryz.isAgg229
  z53 := Tryz.sizeOf229
  v53 := Tryz.zeroValue229
  t55 := Tryz.underlying141
  a55 := Tryz.isAgg141
  z55 := Tryz.sizeOf141
  v55 := Tryz.zeroValue141
  t66 := Tryz.underlying272
  a66 := Tryz.isAgg272
  z66 := Tryz.sizeOf272
  v66 := Tryz.zeroValue272
  t70 := Tryz.underlying276
  a70 := Tryz.isAgg276
  z70 := Tryz.sizeOf276
  v70 := Tryz.zeroValue276
  t76 := Tryz.underlying292
  a76 := Tryz.isAgg292
  z76 := Tryz.sizeOf292
  v76 := Tryz.zeroValue292
  t77 := Tryz.underlying212
  a77 := Tryz.isAgg212
  z77 := Tryz.sizeOf212
  v77 := Tryz.zeroValue212 }
end Go.Proofs.YtocbogeoffeolaaGreatDoor

namespace Go.Proofs.YtocbogeoffeolaaGreatDoor
open Go.RowKit Go.Maps

set_option maxHeartbeats 1000000 in
theorem clone_any (s : ByteArray) (w : World) (hs : s.size ≤ 281474976710656) :
    Calls Tryz.prog 61 #[.string s] w fun e w' => e = .returned (.string s) ∧ Below w.heap.size w w' := by
  have hcon := Any.stringslite_Clone Tryz.lays316 s w hs
  change Calls Tryz.prog 90 _ _ _ at hcon
  go_enter Tryz.func61, Tryz.ntmps61
  go_wp2_with fail
  refine hcon.mono ?_
  rintro e w1 ⟨rfl, hb⟩
  have HB : Hid (Below w.heap.size w w1) := hb
  clear hcon hb
  go_wp2
  go_ret
  exact ⟨rfl, HB.out⟩

def PE2 (w : World) (F : Nat → Prop) (b : Nat) (buf : List Ent) (ss : List (List Ent)) : Prop := (∀ k, F k → k < w.heap.size) ∧ ∃ Bb vS vM vK, PEn w F b buf ss Bb vS vM vK

theorem PEn.stay {w w' : World} {F : Nat → Prop} {b : Nat} {buf : List Ent} {ss : List (List Ent)} {Bb : Nat} {vS vM vK : Value} (h : PEn w F b buf ss Bb vS vM vK) (hb : ∀ k, F k → w'.heap[k]? = w.heap[k]?) : PEn w' F b buf ss Bb vS vM vK where
  blk := by rw [hb b h.fb]; exact h.blk
  fb := h.fb
  fB := h.fB
  say := MapL.stay h.say (hb Bb h.fB)
  row := owns_stay h.row (fun k hk => hb k (h.frow k hk))
  frow := h.frow
  inv := h.inv
theorem PE2.below {w w' : World} {F : Nat → Prop} {b : Nat} {buf : List Ent} {ss : List (List Ent)} (h : PE2 w F b buf ss) (hb : Below w.heap.size w w') : PE2 w' F b buf ss := by
  obtain ⟨hF, Bb, vS, vM, vK, hP⟩ := h
  exact ⟨fun k hk => Nat.lt_of_lt_of_le (hF k hk) hb.size, Bb, vS, vM, vK, hP.stay (fun k hk => hb.block k (hF k hk))⟩
/-- The buffer's map alone has turned. -/
theorem PEn.buffer {w w' : World} {F : Nat → Prop} {b : Nat} {buf buf' : List Ent} {ss : List (List Ent)} {Bb : Nat} {vS vM vK : Value} (h : PEn w F b buf ss Bb vS vM vK) (hF : ∀ k, F k → k < w.heap.size) (hf : FrameF (· = Bb) w w') (hs : SayM w' Bb buf') (hi : Inv buf' ss) : PEn w' F b buf' ss Bb vS vM vK where
  blk := by rw [hf.block b (hF b h.fb) (fun e => MapL.cells_ne h.say h.blk e.symm)]; exact h.blk
  fb := h.fb
  fB := h.fB
  say := hs
  row := owns_stay h.row (fun k hk => hf.block k (hF k (h.frow k hk)) (fun e => own_map_ne h.row h.say (by rw [hk, e])))
  frow := h.frow
  inv := hi

theorem Tryz.zero111 (w : World) : (zeroValue 111).run Tryz.prog w = .ok (.agg #[.bool false, .string ⟨#[]⟩, .string ⟨#[]⟩, .int .i64 0, .int .i64 0]) w := by kernel_rfl
/-- What is found of a name: something, in five cells; is it there? -/
theorem look_say {w : World} {B : Nat} {es : List Ent} (h : SayM w B es) (x : Wd) (hx : x.length ≤ maxLen) : ∃ g a t n m, (Instr.lookup 85 (.map (some B)) (.string ⟨x.toArray⟩) true).run Tryz.prog w = .ok (.tuple #[.agg #[.bool g, .string a, .string t, .int .i64 n, .int .i64 m], .bool (decide (x ∈ es.map Ent.name))]) w := by
  have hl := (MapL.look h Tryz.underlying9 Tryz.underlying85 (Tryz.zero111 w) x hx).2
  have e2 : ((es.map sayP).any fun p => p.1 == x) = decide (x ∈ es.map Ent.name) := by
    rw [Bool.eq_iff_iff, decide_eq_true_eq, List.any_eq_true, List.mem_map]
    constructor
    · rintro ⟨p, hp, h⟩
      obtain ⟨e, he, rfl⟩ := List.mem_map.1 hp
      exact ⟨e, he, by simpa [sayP] using h⟩
    · rintro ⟨e, he, rfl⟩
      exact ⟨sayP e, List.mem_map.2 ⟨e, he, rfl⟩, by simp [sayP]⟩
  rw [e2] at hl
  unfold lookP at hl
  cases hf : (es.map sayP).find? fun p => p.1 == x with
  | none => rw [hf] at hl; exact ⟨_, _, _, _, _, hl⟩
  | some p =>
    rw [hf] at hl
    obtain ⟨e, _, rfl⟩ := List.mem_map.1 (List.mem_of_find?_eq_some hf)
    exact ⟨_, _, _, _, _, hl⟩
theorem find_names {l : List Ent} {x : Wd} : findI l x = none ↔ x ∉ l.map Ent.name := ⟨find_none, find_none'⟩

set_option maxHeartbeats 4000000 in
set_option maxRecDepth 100000 in
theorem pUpsert (w : World) (F : Nat → Prop) (b : Nat) (buf : List Ent) (ss : List (List Ent)) (name text : ByteArray) (weight tags : Int) (hP : PE2 w F b buf ss) (hn : name.size ≤ maxLen) (ht : text.size ≤ maxLen) :
    Calls Tryz.prog 38 #[.pointer (some ⟨b, 0, none⟩), .string name, .string text, .int .i64 weight, .int .i64 tags] w fun e w' => e = .returned (.int .i64 (upsL buf ss name.data.toList text.data.toList weight tags).1) ∧
      PE2 w' F b (upsL buf ss name.data.toList text.data.toList weight tags).2 ss ∧ FrameF F w w' := by
  have HP : Hid (PE2 w F b buf ss) := hP
  have hIN := pisName_any name w hn
  have hIT := isText_any text w ht
  clear hP
  by_cases hnm : nameB name.data.toList = true
  · rw [hnm] at hIN
    by_cases htx : queryB text.data.toList = true ∧ text.data.toList ≠ []
    · rw [decide_eq_true htx] at hIT
      by_cases hbad : weight < 0 ∨ 1000000 < weight ∨ tags < 0 ∨ 255 < tags
      · have HU : Hid (upsL buf ss name.data.toList text.data.toList weight tags = (3, buf)) := by show upsL _ _ _ _ _ _ = _; unfold upsL; rw [if_pos hnm, if_pos htx, if_pos hbad]
        have hc4 : weight < 0 ∨ (0 ≤ weight ∧ 1000000 < weight) ∨ (0 ≤ weight ∧ weight ≤ 1000000 ∧ tags < 0) ∨ (0 ≤ weight ∧ weight ≤ 1000000 ∧ 0 ≤ tags ∧ 255 < tags) := by omega
        clear hbad htx hnm
        rcases hc4 with c1 | ⟨c1, c2⟩ | ⟨c1, c2, c3⟩ | ⟨c1, c2, c3, c4⟩
        all_goals
          go_enter Tryz.func38, Tryz.ntmps38
          go_wp2_with fail
          refine hIN.mono ?_
          rintro e w' ⟨rfl, rfl⟩
          go_wp2_with fail
          refine hIT.mono ?_
          rintro e w' ⟨rfl, rfl⟩
          go_wp2
          go_ret
          refine ⟨ret_int (by rw [HU.out]; rfl), ?_, FrameF.refl _ _⟩
          rw [HU.out]
          exact HP.out
      · have hw0 : 0 ≤ weight := by omega
        have hw1 : weight ≤ 1000000 := by omega
        have ht0 : 0 ≤ tags := by omega
        have ht1 : tags ≤ 255 := by omega
        obtain ⟨hF, Bb, vS, vM, vK, hE⟩ := id HP.out
        have HE : Hid (PEn w F b buf ss Bb vS vM vK) := hE
        have HF : Hid (∀ k, F k → k < w.heap.size) := hF
        have hth := pthere_any F b buf ss Bb vS vM vK w hE
        have HU : Hid (upsL buf ss name.data.toList text.data.toList weight tags = if 30 ≤ (thereL ss buf).length ∧ findI (thereL ss buf) name.data.toList = none then (4, buf) else (0, overL buf [⟨name.data.toList, false, text.data.toList, weight, tags⟩])) := by
          show upsL _ _ _ _ _ _ = _; unfold upsL; rw [if_pos hnm, if_pos htx, if_neg hbad]
        have HI : Hid (Inv (upsL buf ss name.data.toList text.data.toList weight tags).2 ss) := inv_ups hE.inv _ _ _ _
        have hnl8 := (name_len hnm).2
        have hns : name.size ≤ 281474976710656 := by have : name.data.toList.length = name.size := by simp
                                                     omega
        have hts : text.size ≤ 281474976710656 := by
          have h1 := query_len htx.1
          have : text.data.toList.length = text.size := by simp
          omega
        have hnl : name.data.toList.length ≤ maxLen := by unfold maxLen; omega
        clear hbad htx hnm hF hE
        go_enter Tryz.func38, Tryz.ntmps38
        go_wp2_with fail
        refine hIN.mono ?_
        rintro e w' ⟨rfl, rfl⟩
        go_wp2_with fail
        refine hIT.mono ?_
        rintro e w' ⟨rfl, rfl⟩
        clear hIN hIT
        go_wp2_with fail
        refine hth.mono ?_
        rintro e w1 ⟨C, rfl, hC, hs, hb1⟩
        have hz1 := hb1.size
        obtain ⟨g, aa, tt, nn, mm, hlk⟩ := look_say hs name.data.toList hnl
        rw [← bytes_eta name] at hlk
        have HB1 : Hid (Below w.heap.size w w1) := hb1
        have hlen := fun (ty : TypeId) (o : Obj) => MapL.len (MapL.kept hs (World.grownBy_alloc w1 o none) (by simp)) Tryz.underlying85 ty
        rw [List.length_map] at hlen
        have hfn := find_names (l := thereL ss buf) (x := name.data.toList)
        by_cases hk : name.data.toList ∈ (thereL ss buf).map Ent.name
        · rw [decide_eq_true hk] at hlk
          have HU2 : Hid (upsL buf ss name.data.toList text.data.toList weight tags = (0, overL buf [⟨name.data.toList, false, text.data.toList, weight, tags⟩])) := by show upsL _ _ _ _ _ _ = _; rw [HU.out, if_neg (fun h => hfn.1 h.2 hk)]
          clear hfn hk hs hb1 hth HU
          go_wp2_with fail
          have hb2 := HB1.out.alloc hz1 (.cells #[.bool g, .string aa, .string tt, .int .i64 nn, .int .i64 mm] 111)
          clear hlen hlk
          generalize w1.alloc (.cells #[.bool g, .string aa, .string tt, .int .i64 nn, .int .i64 mm] 111) = w2 at hb2 ⊢
          have hS2 : w2.drew.cell? ⟨b, 0, none⟩ = some (.map (some Bb)) := by
            have : w2.cell? ⟨b, 0, none⟩ = some (.map (some Bb)) := cell_later hb2 (by rw [cell_of_heap HE.out.blk]; rfl)
            exact this
          have HB2 : Hid (Below w.heap.size w w2.drew) := ⟨hb2.os, hb2.tape, hb2.output, hb2.size, hb2.block⟩
          clear hb2
          refine wp_region_held (S := fun w' => w'.cell? ⟨b, 0, none⟩ = some (.map (some Bb))) (by kernel_rfl) ?_
          refine wpAnyH_take (i := 0) (v := ?_) rfl (by kernel_rfl) (by kernel_rfl) (by kernel_rfl) (fun _ _ _ h => h) (Or.inl ⟨by rfl, ?_⟩) hS2 ?_
          rotate_left
          · rintro w' hSw; go_simp; first | done | with_reducible rfl
          refine wpAnyH_take (i := 1) (v := ?_) rfl (by kernel_rfl) (by kernel_rfl) (by kernel_rfl) (fun _ _ _ h => h) (Or.inl ⟨by rfl, ?_⟩) hS2 ?_
          rotate_left
          · rintro w' hSw; go_simp; first | done | with_reducible rfl
          refine wpAnyH_take (i := 2) (v := ?_) rfl (by kernel_rfl) (by kernel_rfl) (by kernel_rfl) (fun _ _ _ h => h) (Or.inl ⟨by rfl, ?_⟩) hS2 ?_
          rotate_left
          · rintro w' hSw; go_simp; first | done | with_reducible rfl
          refine wpAnyH_take (i := 3) (v := ?_) rfl (by kernel_rfl) (by kernel_rfl) (by kernel_rfl) (fun _ _ _ h => h) (Or.inl ⟨by rfl, ?_⟩) hS2 ?_
          rotate_left
          · rintro w' hSw; go_simp; first | done | with_reducible rfl
          refine wpAnyH_take (i := 4) (v := ?_) rfl (by kernel_rfl) (by kernel_rfl) (by kernel_rfl) (fun _ _ _ h => h) (Or.inl ⟨by rfl, ?_⟩) hS2 ?_
          rotate_left
          · rintro w' hSw; go_simp; first | done | with_reducible rfl
          refine wpAnyH_take (i := 6) (v := ?_) rfl (by kernel_rfl) (by kernel_rfl) (by kernel_rfl) (fun _ _ _ h => h) (Or.inl ⟨by rfl, ?_⟩) hS2 ?_
          rotate_left
          · rintro w' hSw; go_simp; first | done | with_reducible rfl
          refine wpAnyH_take (i := 8) (v := ?_) rfl (by kernel_rfl) (by kernel_rfl) (by kernel_rfl) (fun _ _ _ h => h) (Or.inl ⟨by rfl, ?_⟩) hS2 ?_
          rotate_left
          · rintro w' hSw; go_simp; first | done | with_reducible rfl
          refine wpAnyH_take (i := 9) (v := ?_) rfl (by kernel_rfl) (by kernel_rfl) (by kernel_rfl) (fun _ _ _ h => h) (Or.inl ⟨by rfl, ?_⟩) hS2 ?_
          rotate_left
          · rintro w' hSw; go_simp; first | done | with_reducible rfl
          refine wpAnyH_all (rs := [5]) (by kernel_rfl) (by simp) ?_
          intro i hi
          simp only [List.mem_singleton] at hi
          subst hi
          refine wpOp_step (by rfl) fun K' hK' => ?_
          rw [if_pos (by rfl)]
          unfold Oper.wp
          go_simp
          refine (clone_any name w2.drew hns).mono ?_
          rintro e w3 ⟨rfl, hb3⟩
          have HB3 : Hid (Below w.heap.size w w3) := HB2.out.trans (hb3.mono HB2.out.size)
          have hS3 : w3.cell? ⟨b, 0, none⟩ = some (.map (some Bb)) := cell_later hb3 hS2
          clear hb3
          refine hK' _ _ ⟨hS3, ?_⟩
          clear hK'
          refine wpAnyH_all (rs := [7]) (by kernel_rfl) (by simp) ?_
          intro i hi
          simp only [List.mem_singleton] at hi
          subst hi
          refine wpOp_step (by rfl) fun K' hK' => ?_
          rw [if_pos (by rfl)]
          unfold Oper.wp
          go_simp
          refine (clone_any text w3 hts).mono ?_
          rintro e w4 ⟨rfl, hb4⟩
          have HB4 : Hid (Below w.heap.size w w4) := HB3.out.trans (hb4.mono HB3.out.size)
          have hS4 : w4.cell? ⟨b, 0, none⟩ = some (.map (some Bb)) := cell_later hb4 hS3
          clear hb4
          refine hK' _ _ ⟨hS4, ?_⟩
          clear hK'
          refine wpAnyH_take (i := 10) (v := ?_) rfl (by kernel_rfl) (by kernel_rfl) (by kernel_rfl) (fun _ _ _ h => h) (Or.inl ⟨by rfl, ?_⟩) hS4 ?_
          rotate_left
          · rintro w' hSw; go_simp; first | done | with_reducible rfl
          refine wpAnyH_all (rs := [11]) (by kernel_rfl) (by simp) ?_
          intro i hi
          simp only [List.mem_singleton] at hi
          subst hi
          refine wpOp_step (by rfl) fun K' hK' => ?_
          rw [if_pos (by rfl)]
          unfold Oper.wp
          go_simp
          have hpt := put_any Bb buf ⟨name.data.toList, false, text.data.toList, weight, tags⟩ w4 (MapL.below HE.out.say HB4.out) rfl (by have := inv_buf HE.out.inv; omega) hnl
          rw [show entV ⟨name.data.toList, false, text.data.toList, weight, tags⟩ = .agg #[.string name, .string text, .int .i64 weight, .int .i64 tags] by unfold entV; simp only [← bytes_eta]] at hpt
          refine hpt.mono ?_
          rintro e w5 ⟨rfl, q1, q2⟩
          clear hpt
          have hE4 : PEn w4 F b buf ss Bb vS vM vK := HE.out.stay (fun k hk => HB4.out.block k (HF.out k hk))
          have hF4 : ∀ k, F k → k < w4.heap.size := fun k hk => Nat.lt_of_lt_of_le (HF.out k hk) HB4.out.size
          have hi : Inv (overL buf [⟨name.data.toList, false, text.data.toList, weight, tags⟩]) ss := by
            have := HI.out
            rw [HU2.out] at this
            exact this
          have hE5 := hE4.buffer hF4 q2 q1 hi
          have HE5 : Hid (PEn w5 F b (overL buf [⟨name.data.toList, false, text.data.toList, weight, tags⟩]) ss Bb vS vM vK) := hE5
          have HF5 : Hid (FrameF F w w5) := (FrameF.of_below HB4.out).then (q2.mono (fun k hk => by subst hk; exact HE.out.fB))
          have HL5 : Hid (∀ k, F k → k < w5.heap.size) := fun k hk => Nat.lt_of_lt_of_le (hF4 k hk) q2.size
          refine hK' _ _ ⟨by rw [cell_of_heap hE5.blk]; rfl, wpAnyH_done (by kernel_rfl) ?_ _⟩
          clear hK' q1 q2 hE4 hF4 hi hE5
          go_wp2
          go_ret
          refine ⟨ret_int (by rw [HU2.out]; rfl), ?_, HF5.out⟩
          rw [HU2.out]
          exact ⟨HL5.out, Bb, vS, vM, vK, HE5.out⟩
        · rw [decide_eq_false hk] at hlk
          by_cases h30 : 30 ≤ (thereL ss buf).length
          · have HU2 : Hid (upsL buf ss name.data.toList text.data.toList weight tags = (4, buf)) := by show upsL _ _ _ _ _ _ = _; rw [HU.out, if_pos ⟨h30, hfn.2 hk⟩]
            have h30i : (30 : Int) ≤ ((thereL ss buf).length : Int) := by omega
            clear hfn hk hs hb1 hth HU
            go_wp2
            go_ret
            have hb2 := HB1.out.alloc hz1 (.cells #[.bool g, .string aa, .string tt, .int .i64 nn, .int .i64 mm] 111)
            refine ⟨ret_int (by rw [HU2.out]; rfl), ?_, FrameF.of_below hb2⟩
            rw [HU2.out]
            exact HP.out.below hb2
          · have HU2 : Hid (upsL buf ss name.data.toList text.data.toList weight tags = (0, overL buf [⟨name.data.toList, false, text.data.toList, weight, tags⟩])) := by show upsL _ _ _ _ _ _ = _; rw [HU.out, if_neg (fun h => h30 h.1)]
            have h30i : decide ((30 : Int) ≤ ((thereL ss buf).length : Int)) = false := decide_eq_false (by omega)
            clear hfn hk hs hb1 hth HU
            go_wp2_with fail
            have hb2 := HB1.out.alloc hz1 (.cells #[.bool g, .string aa, .string tt, .int .i64 nn, .int .i64 mm] 111)
            clear hlen hlk
            generalize w1.alloc (.cells #[.bool g, .string aa, .string tt, .int .i64 nn, .int .i64 mm] 111) = w2 at hb2 ⊢
            have hS2 : w2.drew.cell? ⟨b, 0, none⟩ = some (.map (some Bb)) := by
              have : w2.cell? ⟨b, 0, none⟩ = some (.map (some Bb)) := cell_later hb2 (by rw [cell_of_heap HE.out.blk]; rfl)
              exact this
            have HB2 : Hid (Below w.heap.size w w2.drew) := ⟨hb2.os, hb2.tape, hb2.output, hb2.size, hb2.block⟩
            clear hb2
            refine wp_region_held (S := fun w' => w'.cell? ⟨b, 0, none⟩ = some (.map (some Bb))) (by kernel_rfl) ?_
            refine wpAnyH_take (i := 0) (v := ?_) rfl (by kernel_rfl) (by kernel_rfl) (by kernel_rfl) (fun _ _ _ h => h) (Or.inl ⟨by rfl, ?_⟩) hS2 ?_
            rotate_left
            · rintro w' hSw; go_simp; first | done | with_reducible rfl
            refine wpAnyH_take (i := 1) (v := ?_) rfl (by kernel_rfl) (by kernel_rfl) (by kernel_rfl) (fun _ _ _ h => h) (Or.inl ⟨by rfl, ?_⟩) hS2 ?_
            rotate_left
            · rintro w' hSw; go_simp; first | done | with_reducible rfl
            refine wpAnyH_take (i := 2) (v := ?_) rfl (by kernel_rfl) (by kernel_rfl) (by kernel_rfl) (fun _ _ _ h => h) (Or.inl ⟨by rfl, ?_⟩) hS2 ?_
            rotate_left
            · rintro w' hSw; go_simp; first | done | with_reducible rfl
            refine wpAnyH_take (i := 3) (v := ?_) rfl (by kernel_rfl) (by kernel_rfl) (by kernel_rfl) (fun _ _ _ h => h) (Or.inl ⟨by rfl, ?_⟩) hS2 ?_
            rotate_left
            · rintro w' hSw; go_simp; first | done | with_reducible rfl
            refine wpAnyH_take (i := 4) (v := ?_) rfl (by kernel_rfl) (by kernel_rfl) (by kernel_rfl) (fun _ _ _ h => h) (Or.inl ⟨by rfl, ?_⟩) hS2 ?_
            rotate_left
            · rintro w' hSw; go_simp; first | done | with_reducible rfl
            refine wpAnyH_take (i := 6) (v := ?_) rfl (by kernel_rfl) (by kernel_rfl) (by kernel_rfl) (fun _ _ _ h => h) (Or.inl ⟨by rfl, ?_⟩) hS2 ?_
            rotate_left
            · rintro w' hSw; go_simp; first | done | with_reducible rfl
            refine wpAnyH_take (i := 8) (v := ?_) rfl (by kernel_rfl) (by kernel_rfl) (by kernel_rfl) (fun _ _ _ h => h) (Or.inl ⟨by rfl, ?_⟩) hS2 ?_
            rotate_left
            · rintro w' hSw; go_simp; first | done | with_reducible rfl
            refine wpAnyH_take (i := 9) (v := ?_) rfl (by kernel_rfl) (by kernel_rfl) (by kernel_rfl) (fun _ _ _ h => h) (Or.inl ⟨by rfl, ?_⟩) hS2 ?_
            rotate_left
            · rintro w' hSw; go_simp; first | done | with_reducible rfl
            refine wpAnyH_all (rs := [5]) (by kernel_rfl) (by simp) ?_
            intro i hi
            simp only [List.mem_singleton] at hi
            subst hi
            refine wpOp_step (by rfl) fun K' hK' => ?_
            rw [if_pos (by rfl)]
            unfold Oper.wp
            go_simp
            refine (clone_any name w2.drew hns).mono ?_
            rintro e w3 ⟨rfl, hb3⟩
            have HB3 : Hid (Below w.heap.size w w3) := HB2.out.trans (hb3.mono HB2.out.size)
            have hS3 : w3.cell? ⟨b, 0, none⟩ = some (.map (some Bb)) := cell_later hb3 hS2
            clear hb3
            refine hK' _ _ ⟨hS3, ?_⟩
            clear hK'
            refine wpAnyH_all (rs := [7]) (by kernel_rfl) (by simp) ?_
            intro i hi
            simp only [List.mem_singleton] at hi
            subst hi
            refine wpOp_step (by rfl) fun K' hK' => ?_
            rw [if_pos (by rfl)]
            unfold Oper.wp
            go_simp
            refine (clone_any text w3 hts).mono ?_
            rintro e w4 ⟨rfl, hb4⟩
            have HB4 : Hid (Below w.heap.size w w4) := HB3.out.trans (hb4.mono HB3.out.size)
            have hS4 : w4.cell? ⟨b, 0, none⟩ = some (.map (some Bb)) := cell_later hb4 hS3
            clear hb4
            refine hK' _ _ ⟨hS4, ?_⟩
            clear hK'
            refine wpAnyH_take (i := 10) (v := ?_) rfl (by kernel_rfl) (by kernel_rfl) (by kernel_rfl) (fun _ _ _ h => h) (Or.inl ⟨by rfl, ?_⟩) hS4 ?_
            rotate_left
            · rintro w' hSw; go_simp; first | done | with_reducible rfl
            refine wpAnyH_all (rs := [11]) (by kernel_rfl) (by simp) ?_
            intro i hi
            simp only [List.mem_singleton] at hi
            subst hi
            refine wpOp_step (by rfl) fun K' hK' => ?_
            rw [if_pos (by rfl)]
            unfold Oper.wp
            go_simp
            have hpt := put_any Bb buf ⟨name.data.toList, false, text.data.toList, weight, tags⟩ w4 (MapL.below HE.out.say HB4.out) rfl (by have := inv_buf HE.out.inv; omega) hnl
            rw [show entV ⟨name.data.toList, false, text.data.toList, weight, tags⟩ = .agg #[.string name, .string text, .int .i64 weight, .int .i64 tags] by unfold entV; simp only [← bytes_eta]] at hpt
            refine hpt.mono ?_
            rintro e w5 ⟨rfl, q1, q2⟩
            clear hpt
            have hE4 : PEn w4 F b buf ss Bb vS vM vK := HE.out.stay (fun k hk => HB4.out.block k (HF.out k hk))
            have hF4 : ∀ k, F k → k < w4.heap.size := fun k hk => Nat.lt_of_lt_of_le (HF.out k hk) HB4.out.size
            have hi : Inv (overL buf [⟨name.data.toList, false, text.data.toList, weight, tags⟩]) ss := by
              have := HI.out
              rw [HU2.out] at this
              exact this
            have hE5 := hE4.buffer hF4 q2 q1 hi
            have HE5 : Hid (PEn w5 F b (overL buf [⟨name.data.toList, false, text.data.toList, weight, tags⟩]) ss Bb vS vM vK) := hE5
            have HF5 : Hid (FrameF F w w5) := (FrameF.of_below HB4.out).then (q2.mono (fun k hk => by subst hk; exact HE.out.fB))
            have HL5 : Hid (∀ k, F k → k < w5.heap.size) := fun k hk => Nat.lt_of_lt_of_le (hF4 k hk) q2.size
            refine hK' _ _ ⟨by rw [cell_of_heap hE5.blk]; rfl, wpAnyH_done (by kernel_rfl) ?_ _⟩
            clear hK' q1 q2 hE4 hF4 hi hE5
            go_wp2
            go_ret
            refine ⟨ret_int (by rw [HU2.out]; rfl), ?_, HF5.out⟩
            rw [HU2.out]
            exact ⟨HL5.out, Bb, vS, vM, vK, HE5.out⟩
    · rw [decide_eq_false htx] at hIT
      have HU : Hid (upsL buf ss name.data.toList text.data.toList weight tags = (2, buf)) := by show upsL _ _ _ _ _ _ = _; unfold upsL; rw [if_pos hnm, if_neg htx]
      clear htx hnm
      go_enter Tryz.func38, Tryz.ntmps38
      go_wp2_with fail
      refine hIN.mono ?_
      rintro e w' ⟨rfl, rfl⟩
      go_wp2_with fail
      refine hIT.mono ?_
      rintro e w' ⟨rfl, rfl⟩
      go_wp2
      go_ret
      refine ⟨ret_int (by rw [HU.out]; rfl), ?_, FrameF.refl _ _⟩
      rw [HU.out]
      exact HP.out
  · have hnm' : nameB name.data.toList = false := by simpa using hnm
    rw [hnm'] at hIN
    have HU : Hid (upsL buf ss name.data.toList text.data.toList weight tags = (1, buf)) := by show upsL _ _ _ _ _ _ = _; unfold upsL; rw [if_neg hnm]
    clear hnm hnm'
    go_enter Tryz.func38, Tryz.ntmps38
    go_wp2_with fail
    refine hIN.mono ?_
    rintro e w' ⟨rfl, rfl⟩
    go_wp2
    go_ret
    refine ⟨ret_int (by rw [HU.out]; rfl), ?_, FrameF.refl _ _⟩
    rw [HU.out]
    exact HP.out

end Go.Proofs.YtocbogeoffeolaaGreatDoor

namespace Go.Proofs.YtocbogeoffeolaaGreatDoor
open Go.RowKit Go.Maps

set_option maxHeartbeats 4000000 in
set_option maxRecDepth 100000 in
theorem pDelete (w : World) (F : Nat → Prop) (b : Nat) (buf : List Ent) (ss : List (List Ent)) (name : ByteArray) (hP : PE2 w F b buf ss) (hn : name.size ≤ maxLen) :
    Calls Tryz.prog 37 #[.pointer (some ⟨b, 0, none⟩), .string name] w fun e w' => e = .returned (.int .i64 (delL buf ss name.data.toList).1) ∧
      PE2 w' F b (delL buf ss name.data.toList).2 ss ∧ FrameF F w w' := by
  have HP : Hid (PE2 w F b buf ss) := hP
  have hIN := pisName_any name w hn
  clear hP
  by_cases hnm : nameB name.data.toList = true
  · rw [hnm] at hIN
    obtain ⟨hF, Bb, vS, vM, vK, hE⟩ := id HP.out
    have HE : Hid (PEn w F b buf ss Bb vS vM vK) := hE
    have HF : Hid (∀ k, F k → k < w.heap.size) := hF
    have hth := pthere_any F b buf ss Bb vS vM vK w hE
    have HU : Hid (delL buf ss name.data.toList = if findI (thereL ss buf) name.data.toList = none then (5, buf) else if 100 ≤ goneN buf then (4, buf) else (0, overL buf [⟨name.data.toList, true, [], 0, 0⟩])) := by
      show delL _ _ _ = _; unfold delL; rw [if_pos hnm, gone_count]; rfl
    have HI : Hid (Inv (delL buf ss name.data.toList).2 ss) := inv_del hE.inv _
    have hnl8 := (name_len hnm).2
    have hns : name.size ≤ 281474976710656 := by
      have : name.data.toList.length = name.size := by simp
      omega
    have hnl : name.data.toList.length ≤ maxLen := by unfold maxLen; omega
    clear hnm hF hE
    go_enter Tryz.func37, Tryz.ntmps37
    go_wp2_with fail
    refine hIN.mono ?_
    rintro e w' ⟨rfl, rfl⟩
    clear hIN
    go_wp2_with fail
    refine hth.mono ?_
    rintro e w1 ⟨C, rfl, hC, hs, hb1⟩
    have hz1 := hb1.size
    obtain ⟨g, aa, tt, nn, mm, hlk⟩ := look_say hs name.data.toList hnl
    rw [← bytes_eta name] at hlk
    have hfn := find_names (l := thereL ss buf) (x := name.data.toList)
    have HB2 : Hid (Below w.heap.size w (w1.alloc (.cells #[.bool g, .string aa, .string tt, .int .i64 nn, .int .i64 mm] 111))) := hb1.alloc hz1 _
    by_cases hk : name.data.toList ∈ (thereL ss buf).map Ent.name
    · rw [decide_eq_true hk] at hlk
      have HU1 : Hid (delL buf ss name.data.toList = if 100 ≤ goneN buf then (4, buf) else (0, overL buf [⟨name.data.toList, true, [], 0, 0⟩])) := by show delL _ _ _ = _; rw [HU.out, if_neg (fun h => hfn.1 h hk)]
      clear hfn hk hs hb1 hth HU
      have hb2 := HB2.out
      obtain ⟨w2, hw2⟩ : ∃ w2, w1.alloc (.cells #[.bool g, .string aa, .string tt, .int .i64 nn, .int .i64 mm] 111) = w2 := ⟨_, rfl⟩
      rw [hw2] at hb2
      have hc0 : w2.cell? ⟨b, 0, none⟩ = some (.map (some Bb)) := cell_later hb2 (by rw [cell_of_heap HE.out.blk]; rfl)
      have hgo := lgone_any Bb buf w2 (MapL.below HE.out.say hb2) (by have := inv_buf HE.out.inv; omega)
      have HBa : Hid (Below w.heap.size w w2) := hb2
      clear HB2 hb2
      go_wp2_with fail
      refine hgo.mono ?_
      rintro e w3 ⟨rfl, hb3⟩
      have HB3 : Hid (Below w.heap.size w w3) := HBa.out.trans (hb3.mono HBa.out.size)
      clear hgo hb3 hw2 hlk hc0
      by_cases h100 : 100 ≤ goneN buf
      · have HU2 : Hid (delL buf ss name.data.toList = (4, buf)) := by show delL _ _ _ = _; rw [HU1.out, if_pos h100]
        have h100i : (100 : Int) ≤ (goneN buf : Int) := by omega
        go_wp2
        go_ret
        refine ⟨ret_int (by rw [HU2.out]; rfl), ?_, FrameF.of_below HB3.out⟩
        rw [HU2.out]
        exact HP.out.below HB3.out
      · have HU2 : Hid (delL buf ss name.data.toList = (0, overL buf [⟨name.data.toList, true, [], 0, 0⟩])) := by show delL _ _ _ = _; rw [HU1.out, if_neg h100]
        have h100i : ¬ (100 : Int) ≤ (goneN buf : Int) := by omega
        clear HU1 h100 hz1
        go_wp2_with fail
        clear h100i
        generalize w3 = w2 at *
        have hS2 : w2.drew.cell? ⟨b, 0, none⟩ = some (.map (some Bb)) := by
          have : w2.cell? ⟨b, 0, none⟩ = some (.map (some Bb)) := cell_later HB3.out (by rw [cell_of_heap HE.out.blk]; rfl)
          exact this
        have HB2 : Hid (Below w.heap.size w w2.drew) := ⟨HB3.out.os, HB3.out.tape, HB3.out.output, HB3.out.size, HB3.out.block⟩
        clear HB3
        refine wp_region_held (S := fun w' => w'.cell? ⟨b, 0, none⟩ = some (.map (some Bb))) (by kernel_rfl) ?_
        refine wpAnyH_take (i := 0) (v := ?_) rfl (by kernel_rfl) (by kernel_rfl) (by kernel_rfl) (fun _ _ _ h => h) (Or.inl ⟨by rfl, ?_⟩) hS2 ?_
        rotate_left
        · rintro w' hSw; go_simp; first | done | with_reducible rfl
        refine wpAnyH_take (i := 1) (v := ?_) rfl (by kernel_rfl) (by kernel_rfl) (by kernel_rfl) (fun _ _ _ h => h) (Or.inl ⟨by rfl, ?_⟩) hS2 ?_
        rotate_left
        · rintro w' hSw; go_simp; first | done | with_reducible rfl
        refine wpAnyH_take (i := 2) (v := ?_) rfl (by kernel_rfl) (by kernel_rfl) (by kernel_rfl) (fun _ _ _ h => h) (Or.inl ⟨by rfl, ?_⟩) hS2 ?_
        rotate_left
        · rintro w' hSw; go_simp; first | done | with_reducible rfl
        refine wpAnyH_take (i := 3) (v := ?_) rfl (by kernel_rfl) (by kernel_rfl) (by kernel_rfl) (fun _ _ _ h => h) (Or.inl ⟨by rfl, ?_⟩) hS2 ?_
        rotate_left
        · rintro w' hSw; go_simp; first | done | with_reducible rfl
        refine wpAnyH_take (i := 4) (v := ?_) rfl (by kernel_rfl) (by kernel_rfl) (by kernel_rfl) (fun _ _ _ h => h) (Or.inl ⟨by rfl, ?_⟩) hS2 ?_
        rotate_left
        · rintro w' hSw; go_simp; first | done | with_reducible rfl
        refine wpAnyH_all (rs := [5]) (by kernel_rfl) (by simp) ?_
        intro i hi
        simp only [List.mem_singleton] at hi
        subst hi
        refine wpOp_step (by rfl) fun K' hK' => ?_
        rw [if_pos (by rfl)]
        unfold Oper.wp
        go_simp
        refine (clone_any name w2.drew hns).mono ?_
        rintro e w3 ⟨rfl, hb3⟩
        have HB3 : Hid (Below w.heap.size w w3) := HB2.out.trans (hb3.mono HB2.out.size)
        have hS3 : w3.cell? ⟨b, 0, none⟩ = some (.map (some Bb)) := cell_later hb3 hS2
        clear hb3
        refine hK' _ _ ⟨hS3, ?_⟩
        clear hK'
        refine wpAnyH_all (rs := [6]) (by kernel_rfl) (by simp) ?_
        intro i hi
        simp only [List.mem_singleton] at hi
        subst hi
        refine wpOp_step (by rfl) fun K' hK' => ?_
        rw [if_pos (by rfl)]
        unfold Oper.wp
        go_simp
        have hpt := takeAway_any Bb buf name.data.toList w3 (MapL.below HE.out.say HB3.out) (by have := inv_buf HE.out.inv; omega) hnl
        rw [← bytes_eta name] at hpt
        refine hpt.mono ?_
        rintro e w5 ⟨rfl, q1, q2⟩
        clear hpt
        have hE4 : PEn w3 F b buf ss Bb vS vM vK := HE.out.stay (fun k hk => HB3.out.block k (HF.out k hk))
        have hF4 : ∀ k, F k → k < w3.heap.size := fun k hk => Nat.lt_of_lt_of_le (HF.out k hk) HB3.out.size
        have hi : Inv (overL buf [⟨name.data.toList, true, [], 0, 0⟩]) ss := by
          have := HI.out
          rw [HU2.out] at this
          exact this
        have hE5 := hE4.buffer hF4 q2 q1 hi
        have HE5 : Hid (PEn w5 F b (overL buf [⟨name.data.toList, true, [], 0, 0⟩]) ss Bb vS vM vK) := hE5
        have HF5 : Hid (FrameF F w w5) := (FrameF.of_below HB3.out).then (q2.mono (fun k hk => by subst hk; exact HE.out.fB))
        have HL5 : Hid (∀ k, F k → k < w5.heap.size) := fun k hk => Nat.lt_of_lt_of_le (hF4 k hk) q2.size
        refine hK' _ _ ⟨by rw [cell_of_heap hE5.blk]; rfl, wpAnyH_done (by kernel_rfl) ?_ _⟩
        clear hK' q1 q2 hE4 hF4 hi hE5
        go_wp2
        go_ret
        refine ⟨ret_int (by rw [HU2.out]; rfl), ?_, HF5.out⟩
        rw [HU2.out]
        exact ⟨HL5.out, Bb, vS, vM, vK, HE5.out⟩
    · rw [decide_eq_false hk] at hlk
      have HU2 : Hid (delL buf ss name.data.toList = (5, buf)) := by show delL _ _ _ = _; rw [HU.out, if_pos (hfn.2 hk)]
      clear hfn hk hs hb1 hth HU
      go_wp2
      go_ret
      refine ⟨ret_int (by rw [HU2.out]; rfl), ?_, FrameF.of_below HB2.out⟩
      rw [HU2.out]
      exact HP.out.below HB2.out
  · have hnm' : nameB name.data.toList = false := by simpa using hnm
    rw [hnm'] at hIN
    have HU : Hid (delL buf ss name.data.toList = (1, buf)) := by show delL _ _ _ = _; unfold delL; rw [if_neg hnm]
    clear hnm hnm'
    go_enter Tryz.func37, Tryz.ntmps37
    go_wp2_with fail
    refine hIN.mono ?_
    rintro e w' ⟨rfl, rfl⟩
    go_wp2
    go_ret
    refine ⟨ret_int (by rw [HU.out]; rfl), ?_, FrameF.refl _ _⟩
    rw [HU.out]
    exact HP.out

set_option maxHeartbeats 1000000 in
set_option maxRecDepth 100000 in
theorem pSegments (w : World) (F : Nat → Prop) (b : Nat) (buf : List Ent) (ss : List (List Ent)) (hP : PE2 w F b buf ss) :
    Calls Tryz.prog 30 #[.pointer (some ⟨b, 0, none⟩)] w fun e w' => e = .returned (.int .i64 ss.length) ∧ w = w' := by
  obtain ⟨hF, Bb, vS, vM, vK, hE⟩ := hP
  obtain ⟨aS, cS, rfl, hcS⟩ := owns_slice hE.row
  have hc1 : w.cell? ⟨b, 1, none⟩ = some (.slice aS ss.length cS) := by rw [cell_of_heap hE.blk]; rfl
  clear hE
  go_enter Tryz.func30, Tryz.ntmps30
  go_wp2
  go_ret
  exact ⟨rfl, rfl⟩

/-- Dump: its answer. -/
def dumpL (ss : List (List Ent)) (n : Int) : Wd × Nat := if n < 0 ∨ (ss.length : Int) ≤ n then ([], 6) else (packC (ss.getD n.toNat []), 0)

set_option maxHeartbeats 1000000 in
set_option maxRecDepth 100000 in
theorem pDump (w : World) (F : Nat → Prop) (b : Nat) (buf : List Ent) (ss : List (List Ent)) (n : Int) (hP : PE2 w F b buf ss) :
    Calls Tryz.prog 26 #[.pointer (some ⟨b, 0, none⟩), .int .i64 n] w fun e w' => e = .returned (.tuple #[.string ⟨(dumpL ss n).1.toArray⟩, .int .i64 (dumpL ss n).2]) ∧ w = w' := by
  obtain ⟨hF, Bb, vS, vM, vK, hE⟩ := hP
  obtain ⟨aS, cS, rfl, hcS⟩ := owns_slice hE.row
  have hc1 : w.cell? ⟨b, 1, none⟩ = some (.slice aS ss.length cS) := by rw [cell_of_heap hE.blk]; rfl
  have h6 := hE.inv.few
  have HR : Hid (∀ j (hj : j < ss.length), ∃ bb off, aS = some ⟨bb, off, none⟩ ∧ w.cell? ⟨bb, off + j, none⟩ = some (.string ⟨(packC ss[j]).toArray⟩)) := by
    intro j hj
    obtain ⟨a', c', he, _, _, hr⟩ := Rd.of_owns hE.row
    simp only [Value.slice.injEq] at he
    obtain ⟨rfl, _, rfl⟩ := he
    exact hr j _ (by simp [strVals, hj])
  clear hE
  by_cases h0 : n < 0
  · have HD : Hid (dumpL ss n = ([], 6)) := by show dumpL _ _ = _; unfold dumpL; rw [if_pos (Or.inl h0)]
    go_enter Tryz.func26, Tryz.ntmps26
    go_wp2
    go_ret2
    rw [HD.out]
    exact ⟨rfl, rfl⟩
  · have h0' : 0 ≤ n := by omega
    by_cases h1 : (ss.length : Int) ≤ n
    · have HD : Hid (dumpL ss n = ([], 6)) := by show dumpL _ _ = _; unfold dumpL; rw [if_pos (Or.inr h1)]
      go_enter Tryz.func26, Tryz.ntmps26
      go_wp2
      go_ret2
      rw [HD.out]
      exact ⟨rfl, rfl⟩
    · obtain ⟨m, rfl⟩ : ∃ m : Nat, n = (m : Int) := ⟨n.toNat, by omega⟩
      have hm : m < ss.length := by omega
      have hmi : (m : Int) < (ss.length : Int) := by omega
      have HD : Hid (dumpL ss (m : Int) = (packC ss[m], 0)) := by
        show dumpL _ _ = _
        unfold dumpL
        rw [if_neg (by omega), Int.toNat_natCast, List.getD_eq_getElem?_getD, List.getElem?_eq_getElem hm]
        rfl
      obtain ⟨bb, off, rfl, hcell⟩ := HR.out m hm
      clear h0 h0' h1
      go_enter Tryz.func26, Tryz.ntmps26
      go_wp2
      go_ret2
      rw [HD.out]
      exact ⟨rfl, rfl⟩

end Go.Proofs.YtocbogeoffeolaaGreatDoor

namespace Go.Proofs.YtocbogeoffeolaaGreatDoor
open Go.RowKit Go.Maps

/-- append of a text onto bytes that are there. -/
theorem run_append_str {P : Program} (w : World) (base : Nat) (t u ty e : TypeId) (i : TypeInfo) (ht : P.underlying t = some (.slice e)) (hu : P.underlying u = some .string) (hi : P.info? e = some i) (hz : i.zero = some (.int .u8 0))
    (hsize : i.size = 1) (hby : i.bytes = 1) (v : Value) (n : Nat) (xs : List Value) (hown : w.ownsRow base e 1 v n xs) (hn : 0 < n) (s : ByteArray) (hb : (n + s.size) * 1 ≤ 140737488355328) (hbase : base ≤ w.heap.size) :
    ∃ v' w', (Builtin.append_ #[t, u] ty #[v, .string s]).run P w = .ok v' w' ∧ w'.ownsRow base e 1 v' (n + s.size) (xs ++ byteVals s.data.toList) ∧ w.grownBy w' v.ownBlock ∧ (v'.ownBlock = v.ownBlock ∨ v'.ownBlock = some w.heap.size) := by
  obtain ⟨v', w', hr, h2, h3, _⟩ := Lib.run_append_own_string (P := P) w base t u ty e i ht hu hi hz hsize hby v n xs hown s (by unfold maxLen; omega) (by omega) hbase
  refine ⟨v', w', hr, h2, h3, ?_⟩
  rcases hown.2 with ⟨rfl, rfl⟩ | ⟨g, c, cur, rfl, hbg, hg, hnc, hcm, hcs, htake⟩
  · omega
  · by_cases hroom : n + s.size ≤ c
    · have hr2 := Lib.run_append_room_string (P := P) w t u ty e i ht hu hi hsize g n c cur hg s hroom (by omega)
      rw [hr2] at hr
      simp only [Result.ok.injEq] at hr
      exact Or.inl (by rw [← hr.1]; rfl)
    · have holds : ∀ j u, xs[j]? = some u → w.cell? ((⟨g, 0, none⟩ : Addr).add j) = some u := hown.cells (g := g) rfl
      have hr2 := Lib.run_append_grow_string (P := P) w t u ty e i (.int .u8 0) ht hu hi hz ⟨g, 0, none⟩ n c xs (by rw [hsize]; exact hown.1) holds s (by omega) (by omega) (by rw [hby]; exact growslice_fits (by omega) hb)
      rw [hr2] at hr
      simp only [Result.ok.injEq] at hr
      exact Or.inr (by rw [← hr.1]; rfl)

theorem wpList_append_str {P : Program} (w : World) {ops : Array Oper} {rest : List Oper} {o : Oper} {a : Act} {Q : Exit → Act → World → Prop} (hgd : o.guard = none) (sl x : Operand) (t u : TypeId)
    (ho : o.op = .call { callee := .builtin .append, args := #[sl, x], argTypes := #[t, u] })
    (base : Nat) (e : TypeId) (i : TypeInfo) (ht : P.underlying t = some (.slice e)) (hu : P.underlying u = some .string) (hi : P.info? e = some i) (hz : i.zero = some (.int .u8 0))
    (hsize : i.size = 1) (hby : i.bytes = 1) (v : Value) (n : Nat) (xs : List Value) (hs : a.eval sl = v) (hown : w.ownsRow base e 1 v n xs) (hn : 0 < n) (s : ByteArray) (hx : a.eval x = .string s) (hb : (n + s.size) * 1 ≤ 140737488355328) (hbase : base ≤ w.heap.size)
    (h : ∀ v' w', w'.ownsRow base e 1 v' (n + s.size) (xs ++ byteVals s.data.toList) → w.grownBy w' v.ownBlock → (v'.ownBlock = v.ownBlock ∨ v'.ownBlock = some w.heap.size) → wpList P ops Q rest (a.put o.dst v') w') : wpList P ops Q (o :: rest) a w := by
  refine wpList_plain hgd fun _ hK => ?_
  obtain ⟨v', w', hr, h2, h3, h4⟩ := run_append_str (P := P) w base t u o.type e i ht hu hi hz hsize hby v n xs hown hn s hb hbase
  unfold Oper.wp execOp
  simp only [ho, resolve, invoke, builtin, Sem.run_bind, Sem.run_pure, Result.andThen_ok, List.map_toArray, List.map_cons, List.map_nil, hs, hx, hr]
  exact hK _ _ (h v' w' h2 h3 h4)

/-- Bytes of one's own. -/
def OutB (w : World) (base : Nat) (v : Value) (l : Wd) : Prop := w.ownsRow base 5 1 v l.length (byteVals l)
/-- Nothing has turned but where the bytes lie; they lie there, or in new memory. -/
def Wrote (w w' : World) (v v' : Value) : Prop := FrameF (fun k => v.ownBlock = some k) w w' ∧ ∀ k, v'.ownBlock = some k → v.ownBlock = some k ∨ w.heap.size ≤ k
theorem Wrote.trans {a b c : World} {u v x : Value} (h : Wrote a b u v) (k : Wrote b c v x) : Wrote a c u x := by
  refine ⟨h.1.trans k.1 (fun i hi hv => ?_), fun i hi => ?_⟩
  · rcases h.2 i hv with h1 | h1
    · exact h1
    · omega
  · rcases k.2 i hi with h1 | h1
    · exact h.2 i h1
    · exact Or.inr (Nat.le_trans h.1.size h1)
theorem Wrote.refl (w : World) (v : Value) : Wrote w w v v := ⟨FrameF.refl _ _, fun _ h => Or.inl h⟩
theorem Wrote.below {w w' : World} (h : Below w.heap.size w w') (v : Value) : Wrote w w' v v := ⟨FrameF.of_below h, fun _ h => Or.inl h⟩
theorem Wrote.of {w w' : World} {o : Obj} {v v' : Value} (hg : (w.alloc o).grownBy w' v.ownBlock) (hl : v'.ownBlock = v.ownBlock ∨ v'.ownBlock = some (w.heap.size + 1)) : Wrote w w' v v' := by
  have hs := hg.size
  simp at hs
  refine ⟨⟨hg.os, hg.tape, hg.output, by omega, fun k hk hn => ?_⟩, fun k hk => ?_⟩
  · rw [hg.block k (by simp; omega) (fun e => hn e.symm), Below.heap_alloc _ _ _ hk]
  · rcases hl with h | h
    · exact Or.inl (by rw [← h]; exact hk)
    · rw [h] at hk
      simp at hk
      exact Or.inr (by omega)
theorem Wrote.of' {w w' : World} {v v' : Value} (hg : w.grownBy w' v.ownBlock) (hl : v'.ownBlock = v.ownBlock ∨ v'.ownBlock = some w.heap.size) : Wrote w w' v v' := by
  refine ⟨⟨hg.os, hg.tape, hg.output, hg.size, fun k hk hn => hg.block k hk (fun e => hn e.symm)⟩, fun k hk => ?_⟩
  rcases hl with h | h
  · exact Or.inl (by rw [← h]; exact hk)
  · rw [h] at hk
    simp at hk
    exact Or.inr (by omega)
def AppO (base : Nat) (w : World) (v : Value) (l new : Wd) (e : Ending) (w' : World) : Prop := ∃ v', e = .returned v' ∧ OutB w' base v' (l ++ new) ∧ Wrote w w' v v'

theorem OutB.below {w w' : World} {base : Nat} {v : Value} {l : Wd} (h : OutB w base v l) (hb : Below w.heap.size w w') : OutB w' base v l := owns_stay h (fun k hk => hb.block k (h.lt k hk).2)
theorem byteVals_append (a b : Wd) : byteVals (a ++ b) = byteVals a ++ byteVals b := by simp [byteVals]

set_option maxHeartbeats 1000000 in
set_option maxRecDepth 100000 in
theorem appendString_any (base : Nat) (v : Value) (l : Wd) (s : ByteArray) (w : World) (h : OutB w base v l) (hl : l.length ≤ 1099511627776) (hs : s.size ≤ 1099511627776) (hbase : base ≤ w.heap.size) :
    Calls Tryz.prog 177 #[v, .string s] w (AppO base w v l (pieceL s.data.toList)) := by
  obtain ⟨i0, hi, hz0, hz1, hz2⟩ := info_parts Tryz.info5
  obtain ⟨a, c, rfl, hc⟩ := owns_slice h
  have HO : Hid (OutB w base (.slice a l.length c) l) := h
  clear h
  go_enter Tryz.func177, Tryz.ntmps177
  go_wp2_with (first
    | (at_builtin; refine wpList_append_full _ rfl _ _ 60 rfl base 5 i0 (.int .u8 0) 1 Tryz.underlying60 hi hz0 hz1 hz2 rfl _ _ _ rfl (HO.out.alloc _) _ [.int .u8 ((s.size : Int) % 256)] rfl (Rd.one cell_new) (by simp [Value.oneCell']) ?c1 ?c2 ?c3 ?_))
  case c1 => simp; omega
  case c2 => unfold maxLen; simp; omega
  case c3 => simp; omega
  intro v1 w1 hown1 hg1 hl1
  have hO1 : OutB w1 base v1 (l ++ [u8 s.size]) := by
    unfold OutB
    rw [byteVals_append, byteVals_u8, List.length_append]
    exact hown1
  have HW1 : Hid (Wrote w w1 (.slice a l.length c) v1) := Wrote.of hg1 hl1
  have hO1' : w1.ownsRow base 5 1 v1 (l.length + 1) (byteVals (l ++ [u8 s.size])) := by
    unfold OutB at hO1
    rw [List.length_append] at hO1
    exact hO1
  obtain ⟨a1, c1, rfl, hc1⟩ := owns_slice hO1'
  have HO1 : Hid (w1.ownsRow base 5 1 (.slice a1 (l.length + 1) c1) (l.length + 1) (byteVals (l ++ [u8 s.size]))) := hO1'
  have hzz1 := HW1.out.1.size
  clear hown1 hg1 hl1 hO1 hO1'
  go_wp2_with (first
    | (at_builtin; refine wpList_append_str _ rfl _ _ 60 9 rfl base 5 i0 Tryz.underlying60 Tryz.underlying9 hi hz0 hz1 hz2 _ _ _ rfl HO1.out ?d1 s rfl ?d2 ?d3 ?_))
  case d1 => omega
  case d2 => omega
  case d3 => omega
  intro v2 w2 hown2 hg2 hl2
  have HO2 : Hid (OutB w2 base v2 (l ++ pieceL s.data.toList)) := by
    show OutB _ _ _ _
    unfold OutB pieceL
    have e : l ++ u8 s.data.toList.length :: s.data.toList = (l ++ [u8 s.size]) ++ s.data.toList := by simp
    rw [e, byteVals_append, List.length_append]
    have e2 : s.data.toList.length = s.size := by simp
    have e3 : (l ++ [u8 s.size]).length = l.length + 1 := by simp
    rw [e2, e3]
    exact hown2
  have HW2 : Hid (Wrote w w2 (.slice a l.length c) v2) := HW1.out.trans (Wrote.of' hg2 hl2)
  clear hown2 hg2 hl2
  go_wp2
  go_ret
  exact ⟨v2, rfl, HO2.out, HW2.out⟩

theorem Rd.three {w : World} {x y z : Value} {t : TypeId} : Rd (w.alloc (.cells #[x, y, z] t)) (.slice (some ⟨w.heap.size, 0, none⟩) 3 3) [x, y, z] := by
  refine ⟨some ⟨w.heap.size, 0, none⟩, 3, rfl, Nat.le_refl _, by unfold maxLen; omega, fun j u hj => ⟨w.heap.size, 0, rfl, ?_⟩⟩
  rw [World.cell?_alloc_at _ _ _ _ rfl, Nat.zero_add]
  match j, hj with
  | 0, hj => simpa using hj
  | 1, hj => simpa using hj
  | 2, hj => simpa using hj
  | j + 3, hj => simp at hj

set_option maxHeartbeats 1000000 in
set_option maxRecDepth 100000 in
theorem appendWeight_any (base : Nat) (v : Value) (l : Wd) (n : Int) (w : World) (h : OutB w base v l) (hl : l.length ≤ 1099511627776) (hn0 : 0 ≤ n) (hn : n ≤ 1000000) (hbase : base ≤ w.heap.size) :
    Calls Tryz.prog 178 #[v, .int .i64 n] w (AppO base w v l (threeL n)) := by
  obtain ⟨i0, hi, hz0, hz1, hz2⟩ := info_parts Tryz.info5
  obtain ⟨a, c, rfl, hc⟩ := owns_slice h
  have HO : Hid (OutB w base (.slice a l.length c) l) := h
  clear h
  go_enter Tryz.func178, Tryz.ntmps178
  go_wp2_with (first
    | (at_builtin; refine wpList_append_full _ rfl _ _ 60 rfl base 5 i0 (.int .u8 0) 1 Tryz.underlying60 hi hz0 hz1 hz2 rfl _ _ _ rfl (HO.out.alloc _) _ [.int .u8 (n / 65536), .int .u8 (n / 256 % 256), .int .u8 (n % 256)] rfl Rd.three (by simp [Value.oneCell']) ?c1 ?c2 ?c3 ?_))
  case c1 => simp; omega
  case c2 => unfold maxLen; simp; omega
  case c3 => simp; omega
  intro v1 w1 hown1 hg1 hl1
  have HO1 : Hid (OutB w1 base v1 (l ++ threeL n)) := by
    show OutB _ _ _ _
    unfold OutB
    rw [byteVals_append, List.length_append]
    have e : byteVals (threeL n) = [.int .u8 (n / 65536), .int .u8 (n / 256 % 256), .int .u8 (n % 256)] := by
      obtain ⟨m, rfl⟩ : ∃ m : Nat, n = (m : Int) := ⟨n.toNat, by omega⟩
      rw [three_nat m (by omega)]
      simp only [byteVals, List.map_cons, List.map_nil]
      rw [u8_nat _ (by omega), u8_nat _ (by omega), u8_nat _ (by omega)]
      simp
    rw [e]
    exact hown1
  have HW1 : Hid (Wrote w w1 (.slice a l.length c) v1) := Wrote.of hg1 hl1
  clear hown1 hg1 hl1
  go_wp2
  go_ret
  exact ⟨v1, rfl, HO1.out, HW1.out⟩

theorem OutB.form {w : World} {base : Nat} {v : Value} {l : Wd} (h : OutB w base v l) : ∃ a c, v = .slice a l.length c := by
  obtain ⟨a, c, e, _⟩ := owns_slice h
  exact ⟨a, c, e⟩

set_option maxHeartbeats 2000000 in
set_option maxRecDepth 100000 in
theorem appendEntry_any (base : Nat) (v : Value) (l : Wd) (e : Ent) (w : World) (h : OutB w base v l) (hl : l.length ≤ 549755813888) (hok : okE e) (hbase : base ≤ w.heap.size) :
    Calls Tryz.prog 181 #[v, entV e] w (AppO base w v l (entB e)) := by
  obtain ⟨i0, hi, hz0, hz1, hz2⟩ := info_parts Tryz.info5
  obtain ⟨nm, gn, tx, wt, tg⟩ := e
  have h1 := (name_len hok.2.1).2
  have h2 := query_len hok.2.2.1
  obtain ⟨_, _, _, _, h3, h4, h5, h6⟩ := hok
  simp only at h1 h2 h3 h4 h5 h6
  obtain ⟨a, c, rfl⟩ := h.form
  obtain ⟨w0, hw0⟩ : ∃ w0, w.alloc (.cells #[.string ⟨nm.toArray⟩, .string ⟨tx.toArray⟩, .int .i64 wt, .int .i64 tg] 96) = w0 := ⟨_, rfl⟩
  have hb0 : Below w.heap.size w w0 := by rw [← hw0]; exact (Below.refl _ _).alloc (Nat.le_refl _) _
  have hz0' := hb0.size
  have hh0 : w0.heap[w.heap.size]? = some (.cells #[.string ⟨nm.toArray⟩, .string ⟨tx.toArray⟩, .int .i64 wt, .int .i64 tg] 96 (0, 0)) := by rw [← hw0]; exact heap_alloc_new w _
  have hcells : ∀ W : World, W.heap[w.heap.size]? = some (.cells #[.string ⟨nm.toArray⟩, .string ⟨tx.toArray⟩, .int .i64 wt, .int .i64 tg] 96 (0, 0)) → W.cell? ⟨w.heap.size, 0, none⟩ = some (.string ⟨nm.toArray⟩) ∧ W.cell? ⟨w.heap.size, 1, none⟩ = some (.string ⟨tx.toArray⟩) ∧ W.cell? ⟨w.heap.size, 2, none⟩ = some (.int .i64 wt) ∧ W.cell? ⟨w.heap.size, 3, none⟩ = some (.int .i64 tg) := by
    intro W hW
    exact ⟨by rw [cell_of_heap hW]; rfl, by rw [cell_of_heap hW]; rfl, by rw [cell_of_heap hW]; rfl, by rw [cell_of_heap hW]; rfl⟩
  have HC : Hid (∀ W : World, W.heap[w.heap.size]? = some (.cells #[.string ⟨nm.toArray⟩, .string ⟨tx.toArray⟩, .int .i64 wt, .int .i64 tg] 96 (0, 0)) → W.cell? ⟨w.heap.size, 0, none⟩ = some (.string ⟨nm.toArray⟩) ∧ W.cell? ⟨w.heap.size, 1, none⟩ = some (.string ⟨tx.toArray⟩) ∧ W.cell? ⟨w.heap.size, 2, none⟩ = some (.int .i64 wt) ∧ W.cell? ⟨w.heap.size, 3, none⟩ = some (.int .i64 tg)) := hcells
  obtain ⟨d0, _, _, _⟩ := hcells w0 hh0
  have hO0 := h.below hb0
  have hns : (⟨nm.toArray⟩ : ByteArray).size ≤ 1099511627776 := by show nm.toArray.size ≤ _; simp; omega
  have hts : (⟨tx.toArray⟩ : ByteArray).size ≤ 1099511627776 := by show tx.toArray.size ≤ _; simp; omega
  have hA1 := appendString_any base _ l ⟨nm.toArray⟩ w0 hO0 (by omega) hns (by omega)
  have HW0 : Hid (Wrote w w0 (.slice a l.length c) (.slice a l.length c)) := Wrote.below hb0 _
  have HH0 : Hid (w0.heap[w.heap.size]? = some (.cells #[.string ⟨nm.toArray⟩, .string ⟨tx.toArray⟩, .int .i64 wt, .int .i64 tg] 96 (0, 0))) := hh0
  have hva : ∀ (W : World) (v : Value) (k : Wd), OutB W base v k → W.heap[w.heap.size]? = some (.cells #[.string ⟨nm.toArray⟩, .string ⟨tx.toArray⟩, .int .i64 wt, .int .i64 tg] 96 (0, 0)) → v.ownBlock ≠ some w.heap.size := fun W v k ho hh => blk_ne hh ho (by decide)
  have HVA : Hid (∀ (W : World) (v : Value) (k : Wd), OutB W base v k → W.heap[w.heap.size]? = some (.cells #[.string ⟨nm.toArray⟩, .string ⟨tx.toArray⟩, .int .i64 wt, .int .i64 tg] 96 (0, 0)) → v.ownBlock ≠ some w.heap.size) := hva
  have HO0 : Hid (OutB w0 base (.slice a l.length c) l) := hO0
  clear h hb0 hh0 hcells hva hO0
  unfold entV
  go_enter Tryz.func181, Tryz.ntmps181
  go_wp2_with fail
  refine hA1.mono ?_
  rintro e1 w1 ⟨v1, rfl, hO1, hW1⟩
  obtain ⟨L1, hL1⟩ : ∃ L1, L1 = l ++ pieceL nm := ⟨_, rfl⟩
  have hl1 : L1.length ≤ l.length + 30 := by rw [hL1]; simp [pieceL]; omega
  have HL1 : Hid (L1 = l ++ pieceL nm) := hL1
  change OutB w1 base v1 (l ++ pieceL nm) at hO1
  rw [← hL1] at hO1
  have hh1 : w1.heap[w.heap.size]? = some (.cells #[.string ⟨nm.toArray⟩, .string ⟨tx.toArray⟩, .int .i64 wt, .int .i64 tg] 96 (0, 0)) := by rw [hW1.1.block _ (heap_lt HH0.out) (HVA.out w0 _ _ HO0.out HH0.out)]; exact HH0.out
  have HW1 : Hid (Wrote w w1 (.slice a l.length c) v1) := HW0.out.trans hW1
  obtain ⟨a1, c1, rfl⟩ := hO1.form
  have HO1 : Hid (OutB w1 base (.slice a1 L1.length c1) L1) := hO1
  have HH1 : Hid (w1.heap[w.heap.size]? = some (.cells #[.string ⟨nm.toArray⟩, .string ⟨tx.toArray⟩, .int .i64 wt, .int .i64 tg] 96 (0, 0))) := hh1
  obtain ⟨x10, x11, x12, x13⟩ := HC.out w1 hh1
  have hzz1 := hW1.1.size
  clear hA1 hO1 hW1 hh1 hL1
  clear hw0 d0
  have hA2 := appendString_any base _ L1 ⟨tx.toArray⟩ w1 HO1.out (by omega) hts (by omega)
  go_wp2_with fail
  refine hA2.mono ?_
  rintro e2 w2 ⟨v2, rfl, hO2, hW2⟩
  obtain ⟨L2, hL2⟩ : ∃ L2, L2 = L1 ++ pieceL tx := ⟨_, rfl⟩
  have hl2 : L2.length ≤ L1.length + 30 := by rw [hL2]; simp [pieceL]; omega
  have HL2 : Hid (L2 = L1 ++ pieceL tx) := hL2
  change OutB w2 base v2 (L1 ++ pieceL tx) at hO2
  rw [← hL2] at hO2
  have hh2 : w2.heap[w.heap.size]? = some (.cells #[.string ⟨nm.toArray⟩, .string ⟨tx.toArray⟩, .int .i64 wt, .int .i64 tg] 96 (0, 0)) := by rw [hW2.1.block _ (heap_lt HH1.out) (HVA.out w1 _ _ HO1.out HH1.out)]; exact HH1.out
  have HW2 : Hid (Wrote w w2 (.slice a l.length c) v2) := HW1.out.trans hW2
  obtain ⟨a2, c2, rfl⟩ := hO2.form
  have HO2 : Hid (OutB w2 base (.slice a2 L2.length c2) L2) := hO2
  have HH2 : Hid (w2.heap[w.heap.size]? = some (.cells #[.string ⟨nm.toArray⟩, .string ⟨tx.toArray⟩, .int .i64 wt, .int .i64 tg] 96 (0, 0))) := hh2
  obtain ⟨x20, x21, x22, x23⟩ := HC.out w2 hh2
  have hzz2 := hW2.1.size
  clear hA2 hO2 hW2 hh2 hL2
  have hA3 := appendWeight_any base _ L2 wt w2 HO2.out (by omega) h3 h4 (by omega)
  clear x10 x11 x12 x13
  go_wp2_with fail
  refine hA3.mono ?_
  rintro e3 w3 ⟨v3, rfl, hO3, hW3⟩
  obtain ⟨L3, hL3⟩ : ∃ L3, L3 = L2 ++ threeL wt := ⟨_, rfl⟩
  have hl3 : L3.length ≤ L2.length + 30 := by rw [hL3]; simp [threeL]
  have HL3 : Hid (L3 = L2 ++ threeL wt) := hL3
  change OutB w3 base v3 (L2 ++ threeL wt) at hO3
  rw [← hL3] at hO3
  have hh3 : w3.heap[w.heap.size]? = some (.cells #[.string ⟨nm.toArray⟩, .string ⟨tx.toArray⟩, .int .i64 wt, .int .i64 tg] 96 (0, 0)) := by rw [hW3.1.block _ (heap_lt HH2.out) (HVA.out w2 _ _ HO2.out HH2.out)]; exact HH2.out
  have HW3 : Hid (Wrote w w3 (.slice a l.length c) v3) := HW2.out.trans hW3
  obtain ⟨a3, c3, rfl⟩ := hO3.form
  have HO3 : Hid (OutB w3 base (.slice a3 L3.length c3) L3) := hO3
  have HH3 : Hid (w3.heap[w.heap.size]? = some (.cells #[.string ⟨nm.toArray⟩, .string ⟨tx.toArray⟩, .int .i64 wt, .int .i64 tg] 96 (0, 0))) := hh3
  obtain ⟨x30, x31, x32, x33⟩ := HC.out w3 hh3
  have hzz3 := hW3.1.size
  clear hA3 hO3 hW3 hh3 hL3
  clear x20 x21 x22 x23
  go_wp2_with (first
    | (at_builtin; refine wpList_append_full _ rfl _ _ 60 rfl base 5 i0 (.int .u8 0) 1 Tryz.underlying60 hi hz0 hz1 hz2 rfl _ _ _ rfl (HO3.out.alloc _) _ [.int .u8 tg] rfl (Rd.one cell_new) (by simp [Value.oneCell']) ?c1 ?c2 ?c3 ?_))
  case c1 => simp; omega
  case c2 => unfold maxLen; simp; omega
  case c3 => simp; omega
  intro v4 w4 hown4 hg4 hl4
  have HO4 : Hid (OutB w4 base v4 (l ++ entB ⟨nm, gn, tx, wt, tg⟩)) := by
    show OutB _ _ _ _
    have e : l ++ entB ⟨nm, gn, tx, wt, tg⟩ = L3 ++ [u8 tg] := by rw [HL3.out, HL2.out, HL1.out]; simp [entB]
    rw [e]
    unfold OutB
    rw [byteVals_append, byteVals_u8, List.length_append, show tg % 256 = tg by omega]
    exact hown4
  have HW4 : Hid (Wrote w w4 (.slice a l.length c) v4) := HW3.out.trans (Wrote.of hg4 hl4)
  clear hown4 hg4 hl4
  go_wp2
  go_ret
  exact ⟨v4, rfl, HO4.out, HW4.out⟩

end Go.Proofs.YtocbogeoffeolaaGreatDoor

namespace Go.Proofs.YtocbogeoffeolaaGreatDoor
open Go.RowKit Go.Maps

/-- A leaf, in memory. -/
structure LeafAt (w : World) (b o : Nat) (e : Ent) : Prop where
  path : w.cell? ⟨b, o, none⟩ = some (.string ⟨(keyE e).toArray⟩)
  name : w.cell? ⟨b, o + 1, none⟩ = some (.string ⟨e.name.toArray⟩)
  text : w.cell? ⟨b, o + 2, none⟩ = some (.string ⟨e.text.toArray⟩)
  weight : w.cell? ⟨b, o + 3, none⟩ = some (.int .i64 e.weight)
  tags : w.cell? ⟨b, o + 4, none⟩ = some (.int .i64 e.tags)
  blk : ∃ cs fz, w.heap[b]? = some (.cells cs 237 fz)
/-- Leaves, in memory. -/
def LvR (w : World) (v : Value) (L : List Ent) : Prop := ∃ a cap, v = .slice a L.length cap ∧ L.length ≤ cap ∧ cap ≤ maxLen ∧ ∀ i (h : i < L.length), ∃ b off, a = some ⟨b, off, none⟩ ∧ LeafAt w b (off + i * 5) L[i]

theorem LeafAt.stay {w w' : World} {b o : Nat} {e : Ent} (h : LeafAt w b o e) (hb : w'.heap[b]? = w.heap[b]?) : LeafAt w' b o e := by
  have hc : ∀ (o : Nat) (u : Value), w.cell? ⟨b, o, none⟩ = some u → w'.cell? ⟨b, o, none⟩ = some u := fun o u hu => by
    simp only [World.cell?] at hu ⊢
    rw [hb]
    exact hu
  exact ⟨hc _ _ h.path, hc _ _ h.name, hc _ _ h.text, hc _ _ h.weight, hc _ _ h.tags, by rw [hb]; exact h.blk⟩
theorem LeafAt.lt {w : World} {b o : Nat} {e : Ent} (h : LeafAt w b o e) : b < w.heap.size := by
  obtain ⟨cs, fz, hh⟩ := h.blk
  exact (Array.getElem?_eq_some_iff.1 hh).1
theorem LvR.below {w w' : World} {v : Value} {L : List Ent} (h : LvR w v L) (hb : Below w.heap.size w w') : LvR w' v L := by
  obtain ⟨a, cap, h1, h2, h3, h4⟩ := h
  refine ⟨a, cap, h1, h2, h3, fun i hi => ?_⟩
  obtain ⟨b, off, e1, e2⟩ := h4 i hi
  exact ⟨b, off, e1, e2.stay (hb.block b e2.lt)⟩
/-- Bytes have been written. -/
theorem LvR.wrote {w w' : World} {v u u' : Value} {base : Nat} {l : Wd} {L : List Ent} (h : LvR w v L) (ho : OutB w base u l) (hw : Wrote w w' u u') : LvR w' v L := by
  obtain ⟨a, cap, h1, h2, h3, h4⟩ := h
  refine ⟨a, cap, h1, h2, h3, fun i hi => ?_⟩
  obtain ⟨b, off, e1, e2⟩ := h4 i hi
  refine ⟨b, off, e1, e2.stay (hw.1.block b e2.lt (fun e => ?_))⟩
  obtain ⟨cs, fz, hh⟩ := e2.blk
  exact blk_ne hh ho (by decide) e

set_option maxHeartbeats 1000000 in
set_option maxRecDepth 100000 in
theorem greatest_any (v : Value) (L : List Ent) (w : World) (h : LvR w v L) :
    Calls Tryz.prog 179 #[v] w fun e w' => e = .returned (.int .i64 (maxW L)) ∧ Below w.heap.size w w' := by
  obtain ⟨a, cap, rfl, hc, hm, hr⟩ := h
  have HR : Hid (∀ i (h : i < L.length), ∃ b off, a = some ⟨b, off, none⟩ ∧ LeafAt w b (off + i * 5) L[i]) := hr
  unfold maxLen at hm
  clear hr
  go_enter Tryz.func179, Tryz.ntmps179
  go_wp2
  go_loopw [3, 8] (fun g i wr => ∃ k : Nat, k ≤ L.length ∧ i = .int .i64 k ∧ g = .int .i64 (maxW (L.take k)) ∧ Below w.heap.size w wr) (fun _ i _ => L.length - (intOf i).toNat)
  case atStart => exact ⟨0, Nat.zero_le _, rfl, rfl, Below.refl _ _⟩
  case round =>
    obtain ⟨k, hk, rfl, rfl, hb⟩ := hrel
    have HB : Hid (Below w.heap.size w wr) := hb
    have hz := hb.size
    clear hb
    by_cases hlt : k < L.length
    · obtain ⟨b, off, rfl, hL⟩ := HR.out k hlt
      have q0 := cell_later HB.out hL.path
      have q1 := cell_later HB.out hL.name
      have q2 := cell_later HB.out hL.text
      have q3 := cell_later HB.out hL.weight
      have q4 := cell_later HB.out hL.tags
      have HE : Hid (maxW (L.take (k + 1)) = max (maxW (L.take k)) L[k].weight) := by
        show _ = _
        rw [List.take_succ_eq_append_getElem hlt, maxW_append, maxW_cons, show maxW [] = 0 from rfl]
        have := maxW_pos (L.take k)
        omega
      clear hL
      go_wp2
      go_roundw
      case rel => exact ⟨k + 1, by omega, by go_num, by rw [HE.out], HB.out.alloc hz _⟩
      case measure => simp [intOf]; omega
    · have HE : Hid (L.take k = L) := List.take_of_length_le (by omega)
      go_wp2
      go_ret
      exact ⟨ret_int (by rw [HE.out]), HB.out⟩

theorem here_le (L : List Ent) (d : Nat) : hereN L d ≤ L.length := by
  unfold hereN
  exact (List.takeWhile_sublist _).length_le
theorem here_all {L : List Ent} {d k : Nat} (hk : k ≤ L.length) (h1 : ∀ j (h : j < k), (keyE (L[j]'(by omega))).length = d) (h2 : ∀ h : k < L.length, (keyE L[k]).length ≠ d) : hereN L d = k := by
  unfold hereN
  exact takeWhile_len _ _ k hk (fun j hj => by simpa using h1 j hj) (fun h => by simpa using h2 h)

set_option maxHeartbeats 1000000 in
set_option maxRecDepth 100000 in
theorem countEnding_any (v : Value) (L : List Ent) (d : Nat) (w : World) (h : LvR w v L) :
    Calls Tryz.prog 180 #[v, .int .i64 d] w fun e w' => e = .returned (.int .i64 (hereN L d)) ∧ Below w.heap.size w w' := by
  obtain ⟨a, cap, rfl, hc, hm, hr⟩ := h
  have HR : Hid (∀ i (h : i < L.length), ∃ b off, a = some ⟨b, off, none⟩ ∧ LeafAt w b (off + i * 5) L[i]) := hr
  unfold maxLen at hm
  clear hr
  go_enter Tryz.func180, Tryz.ntmps180
  go_wp2
  go_loopw [5] (fun i wr => ∃ k : Nat, k ≤ L.length ∧ i = .int .i64 k ∧ (∀ j (h : j < k) (h' : j < L.length), (keyE L[j]).length = d) ∧ Below w.heap.size w wr) (fun i _ => L.length - (intOf i).toNat)
  case atStart => exact ⟨0, Nat.zero_le _, rfl, fun j h => by omega, Below.refl _ _⟩
  case round =>
    obtain ⟨k, hk, rfl, hall, hb⟩ := hrel
    have HB : Hid (Below w.heap.size w wr) := hb
    have HA : Hid (∀ j (h : j < k) (h' : j < L.length), (keyE L[j]).length = d) := hall
    clear hb hall
    by_cases hlt : k < L.length
    · obtain ⟨b, off, rfl, hL⟩ := HR.out k hlt
      have q0 := cell_later HB.out hL.path
      have hlti : (k : Int) < (L.length : Int) := by omega
      clear hL
      by_cases hd' : (keyE L[k]).length = d
      · have HD : Hid ((keyE L[k]).length = d) := hd'
        have hdi : (((keyE L[k]).length : Int) == (d : Int)) = true := beq_iff_eq.2 (by omega)
        clear hd'
        go_wp2
        go_roundw
        case rel => exact ⟨k + 1, by omega, by go_num, fun j h h' => by
          by_cases e : j = k
          · subst e; exact HD.out
          · exact HA.out j (by omega) h', HB.out⟩
        case measure => simp [intOf]; omega
      · have HE : Hid (hereN L d = k) := here_all hk (fun j h => HA.out j h (by omega)) (fun _ => hd')
        have hdi : (((keyE L[k]).length : Int) == (d : Int)) = false := beq_eq_false_iff_ne.2 (by omega)
        clear hd'
        go_wp2
        go_ret
        exact ⟨ret_int (by rw [HE.out]), HB.out⟩
    · have HE : Hid (hereN L d = k) := here_all hk (fun j h => HA.out j h (by omega)) (fun h => absurd h hlt)
      go_wp2
      go_ret
      exact ⟨ret_int (by rw [HE.out]), HB.out⟩

theorem len_pos {α : Type} {L : List α} (h : L ≠ []) : 0 < L.length := List.length_pos_iff.2 h
theorem lcp2_len {a b : Wd} {n : Nat} (h1 : n ≤ a.length) (h3 : a.take n = b.take n) (h4 : n = a.length ∨ n = b.length ∨ a.getD n 0 ≠ b.getD n 0) : (lcp2 a b).length = n := by
  have hp : a.take n <+: lcp2 a b := lcp2_most a b _ (List.take_prefix _ _) (by rw [h3]; exact List.take_prefix _ _)
  have hl := hp.length_le
  rw [List.length_take, Nat.min_eq_left h1] at hl
  have ha := lcp2_left a b
  have hb := lcp2_right a b
  rcases Nat.lt_or_ge n (lcp2 a b).length with hlt | hge
  · have e1 := pre_getD ha n hlt
    have e2 := pre_getD hb n hlt
    have := ha.length_le
    have := hb.length_le
    rcases h4 with h | h | h
    · omega
    · omega
    · exact absurd (e1.trans e2.symm) h
  · omega
theorem take_step {a b : Wd} {n : Nat} (h1 : n < a.length) (h2 : n < b.length) (h3 : a.take n = b.take n) (h4 : a.getD n 0 = b.getD n 0) : a.take (n + 1) = b.take (n + 1) := by
  rw [List.take_succ_eq_append_getElem h1, List.take_succ_eq_append_getElem h2, h3]
  rw [List.getD_eq_getElem?_getD, List.getElem?_eq_getElem h1, List.getD_eq_getElem?_getD, List.getElem?_eq_getElem h2] at h4
  simp only [Option.getD_some] at h4
  rw [h4]
theorem com_last {L : List Ent} (h : L ≠ []) : comL L = lcp2 (keyE (L[0]'(len_pos h))) (keyE (L[L.length - 1]'(by have := len_pos h; omega))) := by
  cases L with
  | nil => exact absurd rfl h
  | cons e C =>
    unfold comL
    simp only [List.getElem_cons_zero]
    rw [List.getLast_eq_getElem]

set_option maxHeartbeats 2000000 in
set_option maxRecDepth 100000 in
theorem common_any (v : Value) (L : List Ent) (w : World) (h : LvR w v L) (hne : L ≠ []) (hk24 : ∀ e ∈ L, (keyE e).length ≤ 24) :
    Calls Tryz.prog 183 #[v] w fun e w' => e = .returned (.int .i64 (comL L).length) ∧ Below w.heap.size w w' := by
  obtain ⟨a, cap, rfl, hc, hm, hr⟩ := h
  unfold maxLen at hm
  have hpos := len_pos hne
  obtain ⟨b, off, rfl, h0⟩ := hr 0 hpos
  obtain ⟨b', off', e', h1⟩ := hr (L.length - 1) (by omega)
  simp only [Option.some.injEq, Addr.mk.injEq, and_true] at e'
  obtain ⟨rfl, rfl⟩ := e'
  have HC : Hid (comL L = lcp2 (keyE (L[0]'hpos)) (keyE (L[L.length - 1]'(by omega)))) := com_last hne
  have hA : (keyE (L[0]'hpos)).length ≤ 24 := hk24 _ (List.getElem_mem _)
  have hB : (keyE (L[L.length - 1]'(by omega))).length ≤ 24 := hk24 _ (List.getElem_mem _)
  have c0 := h0.path
  have c1 := h1.path
  rw [Nat.zero_mul, Nat.add_zero] at c0
  obtain ⟨m, hm1⟩ : ∃ m, L.length = m + 1 := ⟨L.length - 1, by omega⟩
  have hidx : L.length - 1 = m := by omega
  rw [show off + (L.length - 1) * 5 = off + m * 5 by rw [hidx]] at c1
  clear h0 h1 hr hk24
  generalize hkA : keyE (L[0]'hpos) = A at *
  generalize hkB : keyE (L[L.length - 1]'(by omega)) = B at *
  clear hkA hkB hne hidx hpos
  rw [hm1] at hc ⊢
  have hw1 : IntKind.i64.wrap (((m + 1 : Nat) : Int) - 1) = (m : Int) := by simp only [IntKind.wrap_i64]; omega
  have hw1' : IntKind.i64.wrap ((m : Int) + 1 - 1) = (m : Int) := by simp only [IntKind.wrap_i64]; omega
  have i0 : (0 : Int) < (m : Int) + 1 := by omega
  have i1 : (m : Int) < (m : Int) + 1 := by omega
  have i2 : (0 : Int) ≤ (m : Int) := by omega
  have hsA : (⟨A.toArray⟩ : ByteArray).size = A.length := by show A.toArray.size = _; simp
  have hsB : (⟨B.toArray⟩ : ByteArray).size = B.length := by show B.toArray.size = _; simp
  have HGA : Hid (∀ (n : Nat) (h : n < (⟨A.toArray⟩ : ByteArray).size), (⟨A.toArray⟩ : ByteArray)[n] = A.getD n 0) := fun n h => (getD_get ⟨A.toArray⟩ n h).symm
  have HGB : Hid (∀ (n : Nat) (h : n < (⟨B.toArray⟩ : ByteArray).size), (⟨B.toArray⟩ : ByteArray)[n] = B.getD n 0) := fun n h => (getD_get ⟨B.toArray⟩ n h).symm
  generalize (⟨A.toArray⟩ : ByteArray) = bA at *
  generalize (⟨B.toArray⟩ : ByteArray) = bB at *
  go_enter Tryz.func183, Tryz.ntmps183
  go_wp2_with fail
  go_quiet (fail)
  go_wp2
  go_loopw [5] (fun i wr => ∃ n : Nat, n ≤ A.length ∧ n ≤ B.length ∧ i = .int .i64 n ∧ A.take n = B.take n ∧ Below w.heap.size w wr) (fun i _ => A.length - (intOf i).toNat)
  case atStart => exact ⟨0, Nat.zero_le _, Nat.zero_le _, rfl, by simp, below_dn (Below.refl _ _) _⟩
  case round =>
    obtain ⟨n, hnA, hnB, rfl, heq, hb⟩ := hrel
    have HB : Hid (Below w.heap.size w wr) := hb
    have HE : Hid (A.take n = B.take n) := heq
    clear hb heq
    by_cases h1 : n < A.length
    · have h1i : (n : Int) < (A.length : Int) := by omega
      by_cases h2 : n < B.length
      · have h2i : (n : Int) < (B.length : Int) := by omega
        have gA := HGA.out n (by omega)
        have gB := HGB.out n (by omega)
        by_cases h3 : A.getD n 0 = B.getD n 0
        · have HT : Hid (A.take (n + 1) = B.take (n + 1)) := take_step h1 h2 HE.out h3
          have h3i : (((bA[n]'(by omega)).toNat : Int) == ((bB[n]'(by omega)).toNat : Int)) = true := beq_iff_eq.2 (by rw [gA, gB, h3])
          clear h3 gA gB
          go_wp2_with fail
          go_quiet (fail)
          go_wp2
          go_roundw
          case rel => exact ⟨n + 1, by omega, by omega, by go_num, HT.out, below_dn HB.out _⟩
          case measure => simp [intOf]; omega
        · have HT : Hid ((comL L).length = n) := by show _ = _; rw [HC.out]; exact lcp2_len hnA HE.out (Or.inr (Or.inr h3))
          have h3i : (((bA[n]'(by omega)).toNat : Int) == ((bB[n]'(by omega)).toNat : Int)) = false := beq_eq_false_iff_ne.2 (by
            rw [gA, gB]
            intro hh
            exact h3 (UInt8.toNat_inj.1 (by omega)))
          clear h3 gA gB
          go_wp2_with fail
          go_quiet (fail)
          go_wp2
          go_ret
          exact ⟨ret_int (by rw [HT.out]), below_dn HB.out _⟩
      · have HT : Hid ((comL L).length = n) := by show _ = _; rw [HC.out]; exact lcp2_len hnA HE.out (Or.inr (Or.inl (by omega)))
        have h2i : decide ((n : Int) < (B.length : Int)) = false := decide_eq_false (by omega)
        go_wp2_with fail
        go_quiet (fail)
        go_wp2
        go_ret
        exact ⟨ret_int (by rw [HT.out]), below_dn HB.out _⟩
    · have HT : Hid ((comL L).length = n) := by show _ = _; rw [HC.out]; exact lcp2_len hnA HE.out (Or.inl (by omega))
      have h1i : decide ((n : Int) < (A.length : Int)) = false := decide_eq_false (by omega)
      go_wp2_with fail
      go_quiet (fail)
      go_wp2
      go_ret
      exact ⟨ret_int (by rw [HT.out]), below_dn HB.out _⟩

end Go.Proofs.YtocbogeoffeolaaGreatDoor

namespace Go.Proofs.YtocbogeoffeolaaGreatDoor
open Go.RowKit Go.Maps

theorem runs_head (d : Nat) (e : Ent) (l : List Ent) : ∃ g gs, runs d (e :: l) = (e :: g) :: gs := by
  unfold runs
  split
  · exact ⟨[], [], rfl⟩
  · exact ⟨[], _, rfl⟩
  · split
    · exact ⟨_, _, rfl⟩
    · exact ⟨[], _, rfl⟩
theorem runs_cut (d : Nat) : ∀ (X : List Ent) (j : Nat), j < X.length → (∀ i, i < j → ∀ (h' : i + 1 < X.length), byteAt d (X[i]'(by omega)) = byteAt d X[i + 1]) → (∀ h : j + 1 < X.length, byteAt d (X[j]'(by omega)) ≠ byteAt d X[j + 1]) →
    runs d X = X.take (j + 1) :: runs d (X.drop (j + 1)) := by
  intro X
  induction X with
  | nil => intro j h; simp at h
  | cons e l ih =>
    intro j hj hs hn
    cases j with
    | zero =>
      cases l with
      | nil => simp [runs]
      | cons x l' =>
        obtain ⟨g, gs, hg⟩ := runs_head d x l'
        have hne := hn (by simp)
        simp only [List.getElem_cons_zero, List.getElem_cons_succ] at hne
        simp only [List.take_succ_cons, List.take_zero, List.drop_succ_cons, List.drop_zero]
        rw [runs, hg]
        simp only
        rw [if_neg hne]
    | succ j =>
      have hj' : j < l.length := by simpa using hj
      have h1 := ih j hj' (fun i h h' => by have := hs (i + 1) (by omega) (by simpa using h'); simpa using this) (fun h => by have := hn (by simpa using h); simpa using this)
      cases l with
      | nil => simp at hj'
      | cons x l' =>
        have heq := hs 0 (by omega) (by simp)
        simp only [List.getElem_cons_zero, List.getElem_cons_succ] at heq
        rw [List.take_succ_cons, List.drop_succ_cons, runs, h1, List.take_succ_cons]
        simp only
        rw [if_pos heq]

theorem runs_close {d : Nat} {L : List Ent} {st k : Nat} (hst : st ≤ k) (hk : k < L.length) (hs : ∀ i, st ≤ i → i < k → ∀ (h' : i + 1 < L.length), byteAt d (L[i]'(by omega)) = byteAt d L[i + 1]) (hn : ∀ h : k + 1 < L.length, byteAt d (L[k]'(by omega)) ≠ byteAt d L[k + 1]) :
    runs d (L.drop st) = (L.drop st).take (k + 1 - st) :: runs d (L.drop (k + 1)) := by
  have h := runs_cut d (L.drop st) (k - st) (by simp; omega) (fun i hi h' => by
    rw [List.length_drop] at h'
    have := hs (st + i) (by omega) (by omega) (by omega)
    simpa [Nat.add_assoc] using this) (fun h' => by
    rw [List.length_drop] at h'
    have := hn (by omega)
    have e : st + (k - st) = k := by omega
    have e1 : st + (k - st + 1) = k + 1 := by omega
    simpa [e, e1] using this)
  rw [h, List.drop_drop, show st + (k - st + 1) = k + 1 by omega, show k - st + 1 = k + 1 - st by omega]

theorem LvR.sub {w : World} {b off n cap : Nat} {L : List Ent} (h : LvR w (.slice (some ⟨b, off, none⟩) n cap) L) (s t : Nat) (hst : s ≤ t) (ht : t ≤ L.length) : LvR w (.slice (some ⟨b, off + s * 5, none⟩) (t - s) (cap - s)) ((L.drop s).take (t - s)) := by
  obtain ⟨a, c, e, h1, h2, h3⟩ := h
  simp only [Value.slice.injEq] at e
  obtain ⟨rfl, _, rfl⟩ := e
  have hl : ((L.drop s).take (t - s)).length = t - s := by simp; omega
  refine ⟨some ⟨b, off + s * 5, none⟩, cap - s, by rw [hl], by omega, by omega, fun i hi => ?_⟩
  rw [hl] at hi
  obtain ⟨b', off', e', hL⟩ := h3 (s + i) (by omega)
  simp only [Option.some.injEq, Addr.mk.injEq, and_true] at e'
  obtain ⟨rfl, rfl⟩ := e'
  refine ⟨b, off + s * 5, rfl, ?_⟩
  have e2 : ((L.drop s).take (t - s))[i]'(by rw [hl]; exact hi) = L[s + i]'(by omega) := by simp
  rw [e2, show off + s * 5 + i * 5 = off + (s + i) * 5 by omega]
  exact hL

/-- Parts of leaves, in memory. -/
def PartsR (w : World) (v : Value) (Cs : List (List Ent)) : Prop := ∃ vs : List Value, w.ownsRow 0 190 1 v Cs.length vs ∧ Zip (LvR w) vs Cs
theorem PartsR.below {w w' : World} {v : Value} {Cs : List (List Ent)} (h : PartsR w v Cs) (hb : Below w.heap.size w w') : PartsR w' v Cs := by
  obtain ⟨vs, h1, h2⟩ := h
  exact ⟨vs, owns_stay h1 (fun k hk => hb.block k (h1.lt k hk).2), h2.mono (fun u l hu => hu.below hb)⟩
theorem PartsR.wrote {w w' : World} {v u u' : Value} {base : Nat} {l : Wd} {Cs : List (List Ent)} (h : PartsR w v Cs) (ho : OutB w base u l) (hw : Wrote w w' u u') : PartsR w' v Cs := by
  obtain ⟨vs, h1, h2⟩ := h
  exact ⟨vs, owns_stay h1 (fun k hk => hw.1.block k (h1.lt k hk).2 (fun e => owns_ne_wide h1 ho (by decide) k hk e)), h2.mono (fun u l hu => hu.wrote ho hw)⟩

theorem Tryz.infoLl : (Tryz.prog.info? 190).map (fun i => (i.zero, i.size, i.bytes)) = some (some (.slice none 0 0), 1, 24) := by kernel_rfl

set_option maxHeartbeats 4000000 in
set_option maxRecDepth 100000 in
theorem split_any (v : Value) (L : List Ent) (d : Nat) (w : World) (h : LvR w v L) (hk : ∀ e ∈ L, d < (keyE e).length) (hk2 : ∀ e ∈ L, (keyE e).length ≤ 24) (hl : L.length ≤ 1048576) :
    Calls Tryz.prog 182 #[v, .int .i64 d] w fun e w' => ∃ v', e = .returned v' ∧ PartsR w' v' (runs d L) ∧ Below w.heap.size w w' := by
  obtain ⟨i0, hi, hz0, hz1, hz2⟩ := info_parts Tryz.infoLl
  obtain ⟨a, cap, rfl, hc, hm, hr⟩ := id h
  have HL : Hid (LvR w (.slice a L.length cap) L) := h
  have HR : Hid (∀ i (h : i < L.length), ∃ b off, a = some ⟨b, off, none⟩ ∧ LeafAt w b (off + i * 5) L[i]) := hr
  have HK : Hid (∀ e ∈ L, d < (keyE e).length) := hk
  have HK2 : Hid (∀ e ∈ L, (keyE e).length ≤ 24) := hk2
  unfold maxLen at hm
  clear hr h hk hk2
  go_enter Tryz.func182, Tryz.ntmps182
  go_wp2
  go_loopw [5, 6, 11] (fun v s i wr => ∃ (k st : Nat) (Ps : List (List Ent)) (vs : List Value), k ≤ L.length ∧ st ≤ k ∧ i = .int .i64 k ∧ s = .int .i64 st ∧ Ps.length ≤ k ∧ wr.ownsRow w.heap.size 190 1 v Ps.length vs ∧ Zip (LvR w) vs Ps ∧ runs d L = Ps ++ runs d (L.drop st) ∧ (∀ i (h : st ≤ i) (h2 : i < k) (h' : i + 1 < L.length), byteAt d (L[i]'(by omega)) = byteAt d L[i + 1]) ∧ (k = L.length → st = k) ∧ Below w.heap.size w wr) (fun _ _ i _ => L.length - (intOf i).toNat)
  case atStart => exact ⟨0, 0, [], [], Nat.zero_le _, Nat.le_refl _, rfl, rfl, Nat.le_refl _, World.ownsRow_nil _ _ _ _, Zip.nil _, by simp, fun i h h2 => by omega, fun _ => rfl, Below.refl _ _⟩
  case round =>
    obtain ⟨k, st, Ps, vs, hkl, hsk, rfl, rfl, hPl, hown, hzip, hruns, hsame, hfin, hb⟩ := hrel
    have HB : Hid (Below w.heap.size w wr) := hb
    have HO : Hid (wr.ownsRow w.heap.size 190 1 _ Ps.length vs) := hown
    have HZ : Hid (Zip (LvR w) vs Ps) := hzip
    have HRu : Hid (runs d L = Ps ++ runs d (L.drop st)) := hruns
    have HS : Hid (∀ i (h : st ≤ i) (h2 : i < k) (h' : i + 1 < L.length), byteAt d (L[i]'(by omega)) = byteAt d L[i + 1]) := hsame
    obtain ⟨aP, cP, rfl, hcP⟩ := owns_slice hown
    have hz := hb.size
    clear hb hown hzip hruns hsame
    by_cases hlt : k < L.length
    · obtain ⟨b, off, rfl, hL⟩ := HR.out k hlt
      have q0 := cell_later HB.out hL.path
      have hlti : (k : Int) < (L.length : Int) := by omega
      have HSL : Hid (LvR w (.slice (some ⟨b, off + st * 5, none⟩) (k + 1 - st) (cap - st)) ((L.drop st).take (k + 1 - st))) := HL.out.sub st (k + 1) (by omega) (by omega)
      have hdk := HK.out _ (List.getElem_mem hlt)
      clear hL hfin
      by_cases hlast : k + 1 = L.length
      · have hlb : (((k : Int) + 1) == (L.length : Int)) = true := beq_iff_eq.2 (by omega)
        have HC : Hid (runs d (L.drop st) = (L.drop st).take (k + 1 - st) :: runs d (L.drop (k + 1))) := runs_close hsk hlt (fun i h h2 h' => HS.out i h h2 h') (fun h => by omega)
        have hcap : st < cap := by omega
        have hk1 : (k : Int) + 1 ≤ (cap : Int) := by omega
        clear hlast
        go_wp2_with fail
        go_quiet (fail)
        have HOd : Hid ((wr.drewN nq).ownsRow w.heap.size 190 1 (.slice aP Ps.length cP) Ps.length vs) := HO.out
        have HBd : Hid (Below w.heap.size w (wr.drewN nq)) := below_dn HB.out nq
        have hzd : w.heap.size ≤ (wr.drewN nq).heap.size := hz
        clear HO
        generalize wr.drewN nq = wd at *
        go_wp2_with (first
          | (at_builtin; refine wpList_append_one _ rfl _ _ 239 rfl w.heap.size 190 i0 (.slice none 0 0) 24 Tryz.underlying239 hi hz0 hz1 hz2 rfl _ _ _ rfl (HOd.out.alloc _) ⟨wd.heap.size, 0, none⟩ _ rfl cell_new rfl ?c1 ?c2 ?c3 ?_))
        case c1 => omega
        case c2 => unfold maxLen; omega
        case c3 => first | omega | (simp; omega)
        intro v' w1 hown' hgrow _
        have HO1 : Hid (w1.ownsRow w.heap.size 190 1 v' (Ps ++ [(L.drop st).take (k + 1 - st)]).length (vs ++ [.slice (some ⟨b, off + st * 5, none⟩) (k + 1 - st) (cap - st)])) := by
          show w1.ownsRow _ _ _ _ _ _
          rw [List.length_append]
          exact hown'
        have HB1 : Hid (Below w.heap.size w w1) := (HBd.out.alloc hzd _).grown hgrow (by simp; omega) (fun b hb => (HOd.out.lt b hb).1)
        have HZ1 : Hid (Zip (LvR w) (vs ++ [.slice (some ⟨b, off + st * 5, none⟩) (k + 1 - st) (cap - st)]) (Ps ++ [(L.drop st).take (k + 1 - st)])) := HZ.out.append (Zip.one HSL.out)
        clear hown' hgrow
        go_wp2
        go_roundw
        case rel =>
          refine ⟨k + 1, k + 1, _, _, by omega, Nat.le_refl _, by go_num, by go_num, by simp; omega, HO1.out, HZ1.out, ?_, fun i h h2 => by omega, fun _ => rfl, HB1.out⟩
          rw [HRu.out, HC.out]
          simp
        case measure => simp [intOf]; omega
      · have hlb : (((k : Int) + 1) == (L.length : Int)) = false := beq_eq_false_iff_ne.2 (by omega)
        have hk1 : k + 1 < L.length := by omega
        have hk1i : (k : Int) + 1 < (L.length : Int) := by omega
        obtain ⟨b', off', e', hL1⟩ := HR.out (k + 1) hk1
        simp only [Option.some.injEq, Addr.mk.injEq, and_true] at e'
        obtain ⟨rfl, rfl⟩ := e'
        have q1 := cell_later HB.out hL1.path
        have hdk1 := HK.out _ (List.getElem_mem hk1)
        have hA24 := HK2.out _ (List.getElem_mem hlt)
        have hB24 := HK2.out _ (List.getElem_mem hk1)
        have hsA : (⟨(keyE L[k]).toArray⟩ : ByteArray).size = (keyE L[k]).length := by show (keyE L[k]).toArray.size = _; simp
        have hsB : (⟨(keyE L[k + 1]).toArray⟩ : ByteArray).size = (keyE L[k + 1]).length := by show (keyE L[k + 1]).toArray.size = _; simp
        have gA : ∀ h : d < (⟨(keyE L[k]).toArray⟩ : ByteArray).size, (⟨(keyE L[k]).toArray⟩ : ByteArray)[d] = byteAt d L[k] := fun h => (getD_get ⟨(keyE L[k]).toArray⟩ d h).symm
        have gB : ∀ h : d < (⟨(keyE L[k + 1]).toArray⟩ : ByteArray).size, (⟨(keyE L[k + 1]).toArray⟩ : ByteArray)[d] = byteAt d L[k + 1] := fun h => (getD_get ⟨(keyE L[k + 1]).toArray⟩ d h).symm
        generalize (⟨(keyE L[k]).toArray⟩ : ByteArray) = bA at *
        generalize (⟨(keyE L[k + 1]).toArray⟩ : ByteArray) = bB at *
        have hdA : d < bA.size := by omega
        have hdB : d < bB.size := by omega
        have hdAi : (d : Int) < (bA.size : Int) := by omega
        have hdBi : (d : Int) < (bB.size : Int) := by omega
        have gA' := gA hdA
        have gB' := gB hdB
        have hwk : IntKind.i64.wrap ((k : Int) + 1) = ((k + 1 : Nat) : Int) := by simp only [IntKind.wrap_i64]; omega
        have hk1j : ((k + 1 : Nat) : Int) < (L.length : Int) := by omega
        have hcap : st < cap := by omega
        have hkc : (k : Int) + 1 ≤ (cap : Int) := by omega
        clear hL1 hsA hsB hlast gA gB
        by_cases hbe : byteAt d L[k] = byteAt d L[k + 1]
        · have hbi : (((bA[d]'hdA).toNat : Int) != ((bB[d]'hdB).toNat : Int)) = false := by rw [gA', gB', hbe]; simp
          have HBE : Hid (byteAt d L[k] = byteAt d L[k + 1]) := hbe
          clear hbe gA' gB'
          go_wp2_with fail
          go_quiet (fail)
          go_wp2
          go_roundw
          case rel =>
            refine ⟨k + 1, st, Ps, vs, by omega, by omega, by go_num, rfl, by omega, HO.out, HZ.out, HRu.out, fun i h h2 h' => ?_, fun h => by omega, below_dn HB.out _⟩
            by_cases e : i = k
            · subst e; exact HBE.out
            · exact HS.out i h (by omega) h'
          case measure => simp [intOf]; omega
        · have hbi : (((bA[d]'hdA).toNat : Int) != ((bB[d]'hdB).toNat : Int)) = true := by
            rw [gA', gB', bne_iff_ne]
            intro hh
            exact hbe (UInt8.toNat_inj.1 (by omega))
          have HC : Hid (runs d (L.drop st) = (L.drop st).take (k + 1 - st) :: runs d (L.drop (k + 1))) := runs_close hsk hlt (fun i h h2 h' => HS.out i h h2 h') (fun _ => hbe)
          clear hbe gA' gB'
          go_wp2_with fail
          go_quiet (fail)
          have HOd : Hid ((wr.drewN nq).ownsRow w.heap.size 190 1 (.slice aP Ps.length cP) Ps.length vs) := HO.out
          have HBd : Hid (Below w.heap.size w (wr.drewN nq)) := below_dn HB.out nq
          have hzd : w.heap.size ≤ (wr.drewN nq).heap.size := hz
          clear HO
          generalize wr.drewN nq = wd at *
          go_wp2_with (first
            | (at_builtin; refine wpList_append_one _ rfl _ _ 239 rfl w.heap.size 190 i0 (.slice none 0 0) 24 Tryz.underlying239 hi hz0 hz1 hz2 rfl _ _ _ rfl (HOd.out.alloc _) ⟨wd.heap.size, 0, none⟩ _ rfl cell_new rfl ?c1 ?c2 ?c3 ?_))
          case c1 => omega
          case c2 => unfold maxLen; omega
          case c3 => first | omega | (simp; omega)
          intro v' w1 hown' hgrow _
          have HO1 : Hid (w1.ownsRow w.heap.size 190 1 v' (Ps ++ [(L.drop st).take (k + 1 - st)]).length (vs ++ [.slice (some ⟨b, off + st * 5, none⟩) (k + 1 - st) (cap - st)])) := by
            show w1.ownsRow _ _ _ _ _ _
            rw [List.length_append]
            exact hown'
          have HB1 : Hid (Below w.heap.size w w1) := (HBd.out.alloc hzd _).grown hgrow (by simp; omega) (fun b hb => (HOd.out.lt b hb).1)
          have HZ1 : Hid (Zip (LvR w) (vs ++ [.slice (some ⟨b, off + st * 5, none⟩) (k + 1 - st) (cap - st)]) (Ps ++ [(L.drop st).take (k + 1 - st)])) := HZ.out.append (Zip.one HSL.out)
          clear hown' hgrow
          go_wp2
          go_roundw
          case rel =>
            refine ⟨k + 1, k + 1, _, _, by omega, Nat.le_refl _, by go_num, by go_num, by simp; omega, HO1.out, HZ1.out, ?_, fun i h h2 => by omega, fun _ => rfl, HB1.out⟩
            rw [HRu.out, HC.out]
            simp
          case measure => simp [intOf]; omega
    · have hkl' : k = L.length := by omega
      have hst := hfin hkl'
      have HE : Hid (runs d L = Ps) := by
        show _ = _
        rw [HRu.out, hst, hkl', List.drop_length]
        simp [runs]
      clear hfin
      go_wp2
      go_ret
      refine ⟨_, rfl, ?_, HB.out⟩
      rw [HE.out]
      exact ⟨vs, owns_mono HO.out (Nat.zero_le _), HZ.out.mono (fun u l hu => hu.below HB.out)⟩

end Go.Proofs.YtocbogeoffeolaaGreatDoor

