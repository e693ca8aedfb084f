import Derived.WalkSpells
import Derived.WalkLawsBesides
import Derived.Lib.ConvBytes
import Derived.Shelf.Strings.FieldsFuncAny
import Derived.Shelf.Bits.Mul64
import Derived.Shelf.Small.Strs
import Derived.Shelf.SlSortCmp.NoneTotal
import Derived.DeepKeys4
import Derived.Deep.Light
import Derived.Deep.RegionHeld3
set_option linter.all false
namespace Go.Proofs.YtocbogeoffeolaaGreatDoor
theorem o!{p:Prop}(h:p:=by omega):p:=h
theorem k!{p:Prop}(h:p:=by kernel_rfl):p:=h
theorem i!{p:Prop}(h:p:=by simp):p:=h
theorem j!{p:Prop}(h:p:=by simp;omega):p:=h
theorem d!{p:Prop}(h:p:=by decide):p:=h
theorem l!{p:Prop}(h:p:=by rfl):p:=h
theorem a!{p:Prop}(h:p:=by assumption):p:=h
theorem k?{α:Type _}{a:Option α}{b c:α}(h:a=some b)(e:b=c:=by kernel_rfl):a=some c:=h.trans (congrArg some e)
abbrev B?(w:World):=RowKit.Below w.heap.size w
theorem g!{P:Program}{f:FuncId}{a:Array Value}{w:World}{v:Ending}{Q:Ending→World→Prop}(h:Calls P f a w fun e w'=>e=v∧w=w')(k:Q v w):Calls P f a w Q:=h.mono fun _ _ ⟨h1,h2⟩=>by subst h1 h2;exact k
def J?(p:Prop):Prop:=p
theorem J?.o{p:Prop}(h:J? p):p:=h
theorem h!{p:Prop}(h:p):J? p:=h
theorem n!{p:Prop}(h:p:=by go_simp;first|done|with_reducible rfl):p:=h
theorem M!{p:Prop}(h:p:=by simp[RowKit.intOf,Proofs.intOf];omega):p:=h
theorem q?{α:Sort _}{a:α}:a=a:=rfl
theorem t!:True:=trivial
theorem u!{p q:Prop}(h:p)(e:p->q:=by intro h;simpa using h):q:=e h
theorem v!{p q:Prop}(h:p)(e:p->q:=by intro h;omega):q:=e h
abbrev b?:=ByteArray
abbrev F?:=Nat→Prop
abbrev V?:=Array Value
abbrev L?:=List Value
def AI:=@Array.getElem?_eq_some_iff
def AS:=@List.getD_eq_getElem?_getD
def AT:=@Nat.lt_of_lt_of_le
def By:=@Array.getD_eq_getD_getElem?
def BY:=@List.getElem?_eq_getElem
def If:=@List.take_of_length_le
def IN:=@Nat.mul_le_mul_right
def IS:=@List.take_succ_eq_append_getElem
def IT:=@Bool.and_eq_true
def No:=@List.length_filter_le
def Za:=@List.mem_of_mem_take
def Zb:=@List.mem_filter
def Zd:=@Array.getElem?_setIfInBounds_ne
def Ze:=@Array.getElem?_modify
def Zf:=@Option.bind_some
def Zg:=@List.mem_singleton
def Zh:=@List.length_append
def Zi:=@List.getElem?_take
def Zj:=@List.filter_append
def Zk:=@Bool.false_eq_true
def Zl:=@Go.World.cell?_alloc_at
def Zm:=@List.mem_cons
def Zn:=@List.nodup_append
def Zq:=@List.append_assoc
def Zr:=@List.pairwise_iff_getElem
def Zs:=@List.getElem?_eq_some_iff
def Zt:=@List.getElem?_append_left
def Zu:=@Nat.le_refl
def Zv:=@List.mem_map
def Zw:=@List.getElem_mem
def Zx:=@List.getElem_append_left
def Zy:=@List.all_eq_true
def Zz:=@Go.info_parts
def Z0:=@Go.cell_later
def Z1:=@Array.getElem?_eq_getElem
def Z2:=@List.nodup_cons
def Z3:=@List.mem_append
def Z4:=@List.map_append
def Z5:=@List.length_map
def Z6:=@List.append_nil
def Z7:=@Bool.or_eq_true
def Z8:=@Bool.eq_iff_iff
def Z9:=@Go.World.ownsRow_nil
def Z':=@List.mem_append_right
def ZA:=@List.getElem?_eq_none
def ZB:=@Array.getElem?_eq_none
def ZC:=@Option.bind_eq_some_iff
def ZD:=@Nat.zero_add
def ZE:=@Nat.le_trans
def ZF:=@List.mem_iff_getElem
def ZG:=@List.mem_cons_of_mem
def ZH:=@Go.RowKit.Below.heap_setCell
def ZI:=@Go.wp_loop_rounds
def ZJ:=@Nat.eq_zero_or_pos
def ZK:=@List.map_cons
def ZL:=@Array.getElem?_toList
def ZM:=@List.map_congr_left
def ZN:=@List.filter_sublist
def ZO:=@List.filter_eq_self
def ZP:=@Nat.zero_le
def ZQ:=@Array.mem_toList_iff
def ZR:=@Array.getElem?_setIfInBounds_self_of_lt
def ZS:=@List.pairwise_cons
def ZT:=@List.mem_cons_self
def ZU:=@List.map_nil
def ZV:=@List.filter_filter
def ZW:=@Go.wpList_plain
def ZX:=@Classical.byContradiction
def ZY:=@List.pairwise_map
def ZZ:=@List.getElem?_map
def b!:=@List.foldl_append
def c!:=@List.flatMap_cons
def d?:=@List.filter_congr
def e!:=@Go.RowKit.Below.heap_alloc
def h?:=@Go.rounds_succ
def j?:=@Bool.eq_false_iff
def m?:=@Option.some.injEq
def o?:=@List.take_length
def p!:=@List.perm_middle
def q!:=@List.not_mem_nil
def r!:=@List.mem_flatMap
def u?:=@List.length_drop
def w!:=@List.length_cons
def z?:=@List.getElem_map
def A!:=@List.filter_cons
def B!:=@List.cons_append
def C!:=@List.any_eq_true
def D?:=@List.takeWhile_append_dropWhile
def D!:=@List.range_succ
def E!:=@List.nil_append
def F!:=@List.length_nil
def G?:=@List.foldl_cons
def G!:=@List.mem_range
def H?:=@UInt8.toNat_inj
def H!:=@Nat.lt_or_ge
def I?:=@List.Perm.append_left
def I!:=@Option.getD_some
def J!:=@List.sum_cons
def K?:=@List.getElem?_append_right
def K!:=@List.getElem_append_right
def L!:=@List.exists_mem_of_ne_nil
def M?:=@List.drop_eq_getElem_cons
def N?:=@Int.eq_ofNat_of_zero_le
def N!:=@Option.map_some
def O!:=@Go.Addr.mk.injEq
def P!:=@Array.getElem?_append_left
def Q?:=@List.takeWhile_sublist
def Q!:=@List.getElem_cons_zero
def R!:=@List.filter_eq_nil_iff
def S!:=@List.take_append_drop
def T?:=@List.length_singleton
def T!:=@List.getElem?_toArray
def U?:=@List.cons_prefix_cons
def U!:=@Go.heap_alloc_new
def V!:=@List.mem_of_mem_drop
def W!:=@List.mem_of_getElem?
def X?:=@Go.IntKind.wrap_i64
def X!:=@Go.ByteArray.toList_eq
def Y?:=@UInt8.lt_iff_toNat_lt
def Y!:=@Nat.mul_left_comm
def Z?:=@List.take_succ_cons
def Z!:=@List.flatMap_append
end Go.Proofs.YtocbogeoffeolaaGreatDoor
