import Derived.Below
import Derived.WalkKit
import Derived.WalkSpells
import Derived.Test.YtocbogeoffeolaaGreatDoorProg
import Derived.WalkLawsBesides
import Derived.Lib.ConvBytes
import Derived.Laws.IdiomStrings
import Derived.Lib.FieldsP
import Derived.Laws.RangeString
import Derived.Lib.Bytealg
import Derived.Sort.Statements
import Derived.Shelf.SlSortCmp.Insertion
import Derived.Deep.Draws
import Derived.WalkSmall
import Derived.Shelf.Strings.FieldsFuncAny
import Derived.Shelf.Bits.Mul64
import Derived.Shelf.Small.Strs
import Derived.Shelf.SlSortCmp.WholeK
import Derived.Shelf.SlSortCmp.NoneTotal
import Derived.Shelf.SlGeneric
import Derived.Maps.OwnSet
import Derived.Maps.OwnOps
import Derived.DeepKeys4
import Derived.Laws.IdiomCopy
import Derived.Deep.QuietTactic
import Derived.BigQuiet
import Derived.Deep.Light
import Derived.Deep.RegionWith
import Derived.Deep.RegionHeld
import Derived.Deep.CutRange
import Derived.Deep.RegionLaw
import Derived.Laws.MakeOwn
import Derived.Maps.RangeWalk
import Derived.Test.YtocbogeoffeolaaGreatDoorCom0
set_option linter.all false
set_option maxHeartbeats 8000000
set_option maxRecDepth 1000000
open List renaming mem_filter->bx,take_succ_eq_append_getElem->bz,mem_map->bY,replicate->bZ,getD_eq_getElem?_getD->cc,filter_append->cd,mem_cons->ce,length_append->cf,mem_append->cg,getElem?_append_left->ci,getElem?_eq_getElem->cj,map_cons->ck,flatMap_cons->cn,pairwise_cons->cp,mem_flatMap->cq,exists_mem_of_ne_nil->cr,length_cons->ct,any_eq_true->cv,length_filter_le->cw,getElem?_eq_none->cz,nil_prefix->c5,prefix_refl->c6,eq_nil_of_length_eq_zero->c7,take_of_length_le->c8,mem_singleton->c9,append_nil->cA,cons_prefix_cons->cC,map_nil->cD,getElem_mem->cE,length_map->cF,getElem?_take->cG,filter_eq_nil_iff->cH,filter_congr->cI,append_assoc->cJ,takeWhile_append_dropWhile->cK,prefix_of_prefix_length_le->cL,map_toArray->cM,nodup_cons->cN,nil_append->cO,length_nil->cP,foldl_cons->cQ,filter_eq_self->cR,perm_ext_iff_of_nodup->cT,getElem?_append_right->cU,nodup_append->cV,take_length->cW,filter_cons->cX,cons_append->cY,range->cZ,map_append->da,mem_append_right->db,length_replicate->dc,pairwise_append->de,mem_iff_getElem->df,filter_sublist->dg,getElem?_drop->dh,pairwise_map->di,any_eq_false->dj,length_drop->dr,getElem_map->dt,ext_getElem->dw,all_eq_true->d',all_append->dN,drop_eq_getElem_cons->dS,getElem_append_left->ee,prefix_iff_eq_take->ef,drop_of_length_le->eg,take_append_drop->ei,set_append_right->ej,length_singleton->en,replicate_succ'->eq,length->er,takeWhile_cons->et,map_congr_left->ev,length_pos_iff->ex,getD_cons_zero->e4,prefix_append->e5,ne_nil_of_mem->e6,getElem_range->e7,filter_filter->e8,foldl_append->eC,take_prefix->fa,perm_middle->fd,not_mem_nil->ff,flatMap_map->fi,sum_append->fk,prefix_nil->fm,sum_cons->fr,any_cons->ft,Nodup->fv
open Option renaming bind_eq_some_iff->f',bind_some->ga,map_some->gc
open Go renaming maxLen->gd,cell_later->ge,Calls->gg,wpList->gi,wpList_plain->gj,run_append_own->go,info_parts->gt,rounds_succ->gv,run_append_room->g5,run_append_grow->g6,run_append_nil->g7,growslice_fits->g8,execOp->g9,wp_loop_rounds->gA,run_convert_bytes_string->h9,resolve->hI,TypeId->hJ,madeCells->hM,run_underlying->hO,keyOf->hP,storeCells->hQ
open Nat renaming zero_le->hV,le_refl->hW,zero_add->hX,mul_le_mul_right->hY,le_trans->hZ,lt_of_lt_of_le->ie,min_eq_left->ip,le_antisymm->iv,add_assoc->i3,sub_self->i4,lt_or_ge->i6,add_mul->i7
open Bool renaming and_eq_true->i9,or_eq_true->i',eq_iff_iff->jt,eq_false_iff->j',false_eq_true->ka
open Option.some renaming injEq->kc
open Go.RowKit.Below renaming refl->kd,heap_setCell->ke,heap_alloc->kf
open Go.World renaming setCell->kj,ownsRow_nil->kk,cell?_alloc_at->ko,frozen?->kr,cell?_of_block->kt,ownsMap_made->kv,cell?->kx
open Go.Op renaming bytesLess->ky
open Go.Proofs.Tryz renaming underlying75->k',underlying60->la,underlying9->ld,underlying5->lf,ntmps103->lk,underlying31->ln,func103->lo,ntmps106->lp,func106->lv,ntmps207->lw,underlying118->ly,underlying72->l0,func207->l4
open Go.Result.ok renaming injEq->lE
open Go.ByteArray renaming toList_eq->mb
open Go.Value renaming ownBlock->md
open Go.RowKit renaming Hid->mi
open Go.Builtin renaming append_->mp,firstCells->mr,lenOf->mv,len_->mx
open Go.Result renaming andThen_ok->m4,andThen->m5
open UInt8 renaming ofNat->m6,lt_iff_toNat_lt->m7,toNat_inj->m8
open Array renaming getElem?_eq_none->m',getElem?_modify->ne,toList_inj->nl
open List.Perm renaming append_left->nn,eq_of_pairwise->no,refl->nr
open Go.Addr renaming add_lit->nv,add->nw
open Prod.mk renaming injEq->ny
open Go.Sem renaming run_pure->n6,run_bind->n7
open Classical renaming byContradiction->n8
open Go.Maps renaming string_keyed->nL,size->nU,has->oa
open Go.Obj.cells renaming injEq->ob
open ByteArray renaming ext->od,size_append->og
open Go.Value.slice renaming injEq->oi
open Go.Oper renaming wp->oj
open Int renaming eq_ofNat_of_zero_le->on,emod_nonneg->oo
open Prod renaming fst->ot
open Bool renaming false->f?,true->t?
open Go renaming Program->P?,Value->v?,World->w?
open Go.Ending renaming returned->e?
open Go.IntKind renaming i64->i?
open Go.Obj renaming cells->c?
open Go.Value renaming int->n?,pointer->p?,string->s?
open List renaming length->l?,toArray->a?
open Option renaming none->x?,some->y?
namespace Go.Proofs.YtocbogeoffeolaaGreatDoor
open Go.Proofs.Tryz
section
open Go.RowKit
def jz(c:UInt8):Bool:=decide ((97<=c.toNat/\c.toNat<=122)\/(48<=c.toNat/\c.toNat<=57))
def nG(c:UInt8):Bool:=decide (32<=c.toNat/\c.toNat<=126)
def eR(l:List UInt8):Bool:=decide (l? l<=24)&&l.all nG
def wT(c:UInt8):UInt8:=if 65<=c.toNat/\c.toNat<=90 then c+32 else c
def eA(l:List UInt8):List UInt8:=l.map wT
def qp(s:ByteArray)(k)(h):s.1.1.take (k+1)=s.1.1.take k++[s[k]]:=by rw[bz _];rfl
def fO(l):(eA l).length=l? l:=by simp[eA]
def Am(l)(c):eA (l++[c])=eA l++[wT c]:=by simp[eA]
def eO(l:List UInt8):List v?:=l.map λc=>Value.int .u8 c.toNat
def nM(l):(eO l).length=l? l:=by simp[eO]
def B8(l)(c):eO (l++[c])=eO l++[Value.int .u8 c.toNat]:=by simp[eO]
def KQ(c)(h:65<=c.toNat/\c.toNat<=90):((wT c).toNat)=(c.toNat:Int)+32:=by unfold wT;rw[if_pos h,UInt8.toNat_add];have:(32:UInt8).toNat=32:=rfl;omega
def Kt(c)(h:¬(65<=c.toNat/\c.toNat<=90)):wT c=c:=by unfold wT;rw[if_neg h]
def io(l:List UInt8)(i:Nat):Bool:=jz (l.getD i 0)&&(decide (i=0) || !jz (l.getD (i-1) 0))
def dy(O:List (List UInt8)):List v?:=O.map λb=>Value.string ⟨a? b⟩
def dZ(ws):(dy ws).length=l? ws:=by simp[dy]
def nX(ws)(b):dy (ws++[b])=dy ws++[Value.string ⟨a? b⟩]:=by simp[dy]
def jr(s:ByteArray)(k)(h):s.1.1.getD k 0=s[k]:=by rw[cc,cj _];rfl
def yK(s:ByteArray)(k)(h:k<s.size):s[k]∈s.1.1:=by exact cE _
def dT{a b}(h:a=b):Ending.returned (.bool a)=e? (.bool b):=by rw[h]
def wB{a b}(h:a=b):Ending.returned (s? a)=e? (s? b):=by rw[h]
def dQ{k a b}(h:a=b):Ending.returned (n? k a)=e? (n? k b):=by rw[h]
variable {v:v?} {w:w?}
def fE{P}(w){ops rest o a Q}(ab:o.guard=x?)(s x)(t)
  (ho:o.op=.call {callee:=.builtin .append,args:=#[s,x],argTypes:=#[t,t]})
  (base) (e) (i) (z) (bytes) (ht:P.underlying t=y? (.slice e)) (hi:P.info? e=y? i) (hz:i.zero=y? z)
  (U:i.size=1) (ac:i.bytes=bytes) (ae:z.cells.size=1)
  (v) (n) (xs) (hs:a.eval s=v) (aa:w.ownsRow base e 1 v n xs)
  (ad) (y) (hx:a.eval x=.slice (y? ad) 1 1) (W:w.cell? ad=y? y) (h1:y.oneCell'=t?)
  (O:(n+1)*bytes<=140737488355328) (af:n+1<=gd) (Y:base<=w.1.size)
  (h:∀v' w',w'.ownsRow base e 1 v' (n+1) (xs++[y])->w.grownBy w' v.ownBlock->v'≠.slice x? 0 0->gi P ops Q rest (a.put o.dst v') w'):gi P ops Q (o::rest) a w:=by
 refine wpList_append_own w ab s x t ho base e i z 1 bytes ht hi hz U ac ae d! v n xs hs aa ad 1 1 [y] hx q? ?_ ?_ af O Y ?_;intro j u hj;match j,hj with
 |0,hj=>simp at hj;subst hj;simpa[nw]using W|j+1,hj=>simp at hj
 intro u hu;simp at hu;subst hu;exact h1;intro v' w' h2 h3 h4;refine h v' w' h2 h3 ?_;intro he;have:=h4.1 he;simp at this
def iC{t}:(w.alloc (c? #[v] t)).cell? ⟨w.1.size,0,x?⟩=y? v:=by rw[ko _ _ _ _ rfl];rfl
def A5:∀(l:List UInt8)(s:ByteArray),(l.map λc=>(c.toNat:Int)).foldl (λr n=>r.push (m6 n.toNat)) s=⟨s.data++l.toArray⟩:=by
 intro l;induction l with
 |nil=>simp|cons c l O=>intro s;rw[ck,cQ,O];simp
def uB{P}{base u8 src O n:Nat}{l}(h:w.ownsRow base u8 1 v n (eO l))
  (Y:P.underlying src=y? (.slice u8)) (he:P.underlying u8=y? (.int .u8)) (hd:P.underlying O=y? .string) :
  (convert src O v).run P w=.ok (s? ⟨a? l⟩) w:=by
 have h0:=h;obtain⟨U,h⟩:=h;obtain⟨rfl,rfl⟩|⟨g,cap,cur,rfl,_,hg,_,_,aa,ab⟩:=h
 have:=by simpa[eO]using U
 subst this;rw[h9 w src O u8 _ _ _ Y he hd];rfl;rw[h9 w src O u8 _ _ _ Y he hd];have hn:n=l? l:=by rw[nM]at U;omega
 have W:=run_loadCells_list (P:=P) w _ _ (h0.cells q?);rw[nM,<-hn]at W;have e:eO l=(l.map λc=>c.toNat).map (Value.int .u8):=by simp[eO]
 rw[e]at W;rw[run_bytesToString w _ _ _ _ W,A5];simp
def p9(c)(w) :
  gg prog 199 #[n? .u8 c.toNat] w λe w'=>e=e? (.bool (jz c))/\w=w':=by
 go_enter func199,ntmps199;go_wp2
 all_goals
  go_ret;refine⟨dT ?_,q?⟩;unfold jz;rw[jt];simp only[decide_eq_true_eq,i',true_iff,false_iff,ka];omega
def kP(s)(w)(hs:s.size<=gd) :
  gg prog 142 #[s? s] w λe w'=>e=e? (.bool (eR s.1.1))/\w=w':=by
 unfold gd at hs;by_cases aa:s.size<=24
 .have hd:decide (24<(s.size:Int))=f?:=j!;go_enter func142,ntmps142;go_wp2;go_loop [3] (λi=>∃k:Nat,k<=s.size/\i=n? i? k/\(s.1.1.take k).all nG=t?) (λi=>s.size-(intOf i).toNat)
  case atStart=>exact⟨0,hV _,q?,q?⟩
  case round=>
   obtain⟨k,hk,rfl,fl⟩:=hrel;have HA:mi _:=fl;clear fl;by_cases U:k<s.size
   .have W:=qp s k U;have HS:mi _:=W;clear W;by_cases O:nG s[k]=t?
    .have HP:mi _:=O;have Y:32<=(s[k].toNat:Int):=by simp[nG]at O;omega
     have h2:(s[k].toNat:Int)<=126:=by simp[nG]at O;omega
     clear O;go_wp2;go_round
     case rel=>exact⟨k+1,o!,by go_num,by rw[HS.out,dN,HA.out];simp[HP.out]⟩
     case measure=>simp[intOf];omega
    have HP:mi _:=O;have Y:(s[k].toNat:Int)<32\/126<(s[k].toNat:Int):=by simp[nG]at O;omega
    clear O;obtain Y|Y:=Y
    all_goals
     go_wp2;go_ret;refine⟨dT ?_,q?⟩;symm;rw[j'];intro hq;apply HP;simp only[eR,i9]at hq;exact d'.1 hq.2 _ (yK s k U)
   go_wp2;go_ret;refine⟨dT ?_,q?⟩;have e:s.1.1.take k=s.1.1:=c8 j!;have:=HA.out;rw[e]at this;simp[eR,this];exact aa
 go_enter func142,ntmps142;go_wp2;go_ret;refine⟨dT ?_,q?⟩;simp[eR];omega
def BV:(prog.info? 5).map (λi=>(i.zero,i.size,i.bytes))=y? (y? (n? .u8 0),1,1):=by kernel_rfl
def qi(s)(w)(hs:s.size<=1099511627776) :
  gg prog 200 #[s? s] w λe w'=>e=e? (s? ⟨(eA s.1.1).toArray⟩)/\B? w w':=by
 obtain⟨i0,hi,ab,ac,ad⟩:=gt BV;go_enter func200,ntmps200;go_wp2;go_loopw [3,4] (λv i wr=>∃k:Nat,k<=s.size/\i=n? i? k/\wr.ownsRow w.1.size 5 1 v k (eO (eA (s.1.1.take k)))/\B? w wr) (λ_ i _=>s.size-(intOf i).toNat)
 case atStart=>exact⟨0,hV _,q?,kk _ _ _ _,kd _ _⟩
 case round=>
  obtain⟨k,hk,rfl,O,W⟩:=hrel;have HS:=W.size;have hl:(eO (eA (s.1.1.take k))).length=k:=by rw[nM,fO];simp;omega
  by_cases ae:k<s.size
  .have HE:mi (eO (eA (s.1.1.take (k+1)))=eO (eA (s.1.1.take k))++[n? .u8 (wT s[k]).toNat]):=by
    rw[qp s k ae,Am,B8];rfl
   by_cases Y:65<=s[k].toNat/\s[k].toNat<=90
   .have h1:65<=(s[k].toNat:Int):=o!;have h2:(s[k].toNat:Int)<=90:=o!;have HL:mi (((wT s[k]).toNat:Int)=(s[k].toNat:Int)+32):=KQ _ Y;clear Y
    go_wp2_with (first
     |(at_builtin;refine fE _ q? _ _ 60 q? w.1.size 5 i0 (n? .u8 0) 1 la hi ab ac ad q? _ _ _ q? (O.alloc _) ⟨wr.1.size,0,x?⟩ _ q? iC q? ?c1 ?c2 ?c3 ?_))
    case c1=>omega
    case c2=>unfold gd;omega
    case c3=>first|omega|(simp;omega)
    intro v' w1 hown' U _;rw[<-HL.out,<-HE.out]at hown';have hb':=(W.alloc HS _).grown U j! (λb hb=>(O.lt b hb).1);go_wp2;go_roundw
    case rel=>exact⟨k+1,o!,by go_num,hown',hb'⟩
    case measure=>simp[intOf];omega
   have HL:mi (wT s[k]=s[k]):=Kt _ Y;have af:(s[k].toNat:Int)<65\/90<(s[k].toNat:Int):=o!;clear Y;obtain h1|h1:=af
   all_goals
    go_wp2_with (first
     |(at_builtin;refine fE _ q? _ _ 60 q? w.1.size 5 i0 (n? .u8 0) 1 la hi ab ac ad q? _ _ _ q? (O.alloc _) ⟨wr.1.size,0,x?⟩ _ q? iC q? ?c1 ?c2 ?c3 ?_))
    case c1=>omega
    case c2=>unfold gd;omega
    case c3=>first|omega|(simp;omega)
    intro v' w1 hown' U _;have aa:=HE.out;rw[HL.out]at aa;rw[<-aa]at hown';have hb':=(W.alloc HS _).grown U j! (λb hb=>(O.lt b hb).1);clear aa;go_wp2;go_roundw
    case rel=>exact⟨k+1,o!,by go_num,hown',hb'⟩
    case measure=>simp[intOf];omega
  have ek:k=s.size:=o!;subst ek;have ag:=uB O la lf ld;go_wp2;go_ret;refine⟨wB ?_,W⟩;rw[c8 i!]
def Jb(s)(k:Nat)(w)(hs:s.size<=1099511627776)(hk:k<s.size) :
  gg prog 207 #[s? s,n? i? k] w λe w'=>e=e? (.bool (io s.1.1 k))/\w=w':=by
 have O:=jr s k hk;by_cases W:jz s[k]=t?
 .by_cases h0:k=0
  .subst h0;have U:mi (io s.1.1 0=t?):=by unfold io;rw[O,W];rfl
   clear O;go_enter l4,lw;go_wp2_with (go_at_call 199;refine(p9 _ _).mono ?_;rintro e w' ⟨rfl,rfl⟩);go_ret;exact⟨dT (by rw[U.out]),q?⟩
  have Y:k-1<s.size:=o!;have e2:=jr s (k-1) Y;have hb:((k:Int)==0)=f?:=j!;have U:mi (io s.1.1 k = !jz s[k-1]):=by show io s.1.1 k=_;unfold io;rw[O,W,e2];simp[h0]
  clear O e2;go_enter l4,lw;go_wp2_with fail;refine(p9 _ _).mono ?_;rintro e w' ⟨rfl,rfl⟩;go_wp2_with fail;refine(p9 _ _).mono ?_;rintro e w' ⟨rfl,rfl⟩;go_wp2;go_ret;exact⟨dT (by rw[U.out]),q?⟩
 have aa:jz s[k]=f?:=by simpa using W
 have U:mi (io s.1.1 k=f?):=by unfold io;rw[O,aa];rfl
 clear O;go_enter l4,lw;go_wp2_with (go_at_call 199;refine(p9 _ _).mono ?_;rintro e w' ⟨rfl,rfl⟩);go_ret;exact⟨dT (by rw[U.out]),q?⟩
def Cl:(prog.info? 9).map (λi=>(i.zero,i.size,i.bytes))=y? (y? (s? ⟨#[]⟩),1,16):=by kernel_rfl
def rF(c)(w) :
  gg prog 98 #[n? .u8 c.toNat] w λe w'=>e=e? (.bool (jz c))/\w=w':=by
 go_wp2
 all_goals
  go_ret;refine⟨dT ?_,q?⟩;unfold jz;rw[jt];simp only[decide_eq_true_eq,i',true_iff,false_iff,ka];omega
def sF(s)(w)(hs:s.size<=gd) :
  gg prog 48 #[s? s] w λe w'=>e=e? (.bool (eR s.1.1))/\w=w':=by
 unfold gd at hs;by_cases aa:s.size<=24
 .have hd:decide (24<(s.size:Int))=f?:=j!;go_enter func48,ntmps48;go_wp2;go_loop [9] (λi=>∃k:Nat,k<=s.size/\i=n? i? k/\(s.1.1.take k).all nG=t?) (λi=>s.size-(intOf i).toNat)
  case atStart=>exact⟨0,hV _,q?,q?⟩
  case round=>
   obtain⟨k,hk,rfl,fl⟩:=hrel;have HA:mi _:=fl;clear fl;by_cases U:k<s.size
   .have W:=qp s k U;have HS:mi _:=W;clear W;by_cases O:nG s[k]=t?
    .have HP:mi _:=O;have Y:32<=(s[k].toNat:Int):=by simp[nG]at O;omega
     have h2:(s[k].toNat:Int)<=126:=by simp[nG]at O;omega
     clear O;go_wp2;go_round
     case rel=>exact⟨k+1,o!,by go_num,by rw[HS.out,dN,HA.out];simp[HP.out]⟩
     case measure=>simp[intOf];omega
    have HP:mi _:=O;have Y:(s[k].toNat:Int)<32\/126<(s[k].toNat:Int):=by simp[nG]at O;omega
    clear O;obtain Y|Y:=Y
    all_goals
     go_wp2;go_ret;refine⟨dT ?_,q?⟩;symm;rw[j'];intro hq;apply HP;simp only[eR,i9]at hq;exact d'.1 hq.2 _ (yK s k U)
   go_wp2;go_ret;refine⟨dT ?_,q?⟩;have e:s.1.1.take k=s.1.1:=c8 j!;have:=HA.out;rw[e]at this;simp[eR,this];exact aa
 go_enter func48,ntmps48;go_wp2;go_ret;refine⟨dT ?_,q?⟩;simp[eR];omega
def AE(s)(w)(Y:s.size<=gd) :
  gg prog 65 #[s? s] w λe w'=>e=e? (.bool (decide (eR s.1.1=t?/\s.1.1≠[])))/\w=w':=by
 by_cases O:s.1.1=[]
 .have U:s=⟨#[]⟩:=by
   apply od;apply nl.1;exact O
  subst U;go_wp2;go_ret;exact⟨dT i!,q?⟩
 have W:s.toList.isEmpty=f?:=by
  rw[mb]
  cases h:s.1.1 with
  |nil=>exact absurd h O|cons a l=>rfl
 have HQ:mi (decide (eR s.1.1=t?/\s.1.1≠[])=eR s.1.1):=by rw[jt,decide_eq_true_eq];exact⟨λh=>h.1,λh=>⟨h,O⟩⟩
 go_enter func65,ntmps65;go_wp2_with fail;refine(sF _ _ Y).mono ?_;rintro e w' ⟨rfl,rfl⟩;go_wp2;go_ret;exact⟨dT (by rw[HQ.out]),q?⟩
def tE(w:w?)(g:Nat)(l:List UInt8):Prop:=∀j(h:j<l? l),w.cell? ⟨g,j,x?⟩=y? (n? .u8 l[j].toNat)/\w.frozen? ⟨g,j,x?⟩=f?
def tE.set{w g l}(h:tE w g l)(k)(c)(v)(W:v=n? .u8 c.toNat):tE (w.setCell ⟨g,k,x?⟩ v) g (l.set k c):=by
 subst W;intro j Y;have O:j<l? l:=by simpa using Y
 obtain⟨U,h2⟩:=h j O;refine⟨?_,by rw[World.frozen?_setCell];exact h2⟩;by_cases e:k=j;subst e;rw[World.cell?_setCell_same _ _ _ U];simp;rw[World.cell?_setCell_other _ _ _ _ (by intro hh;simp at hh),U];simp[e]
def jF(l:List UInt8)(k:Nat):List UInt8:=eA (l.take k)++l.drop k
def uD(l)(k):(jF l k).length=l? l:=by simp[jF,eA];omega
def zD(l)(k)(h):(jF l k)[k]'(by rw[uD];exact h)=l[k]:=by unfold jF;simp[eA,ip (Nat.le_of_lt h)]
def Ho(l)(k)(h):jF l (k+1)=(jF l k).set k (wT l[k]):=by
 unfold jF;rw[bz h,Am];have O:(eA (l.take k)).length=k:=by rw[fO];simp;omega
 rw[ej _ _ o!,O,i4,cJ];rw[dS h];rfl
def Kd(l):jF l l.length=eA l:=by simp[jF]
def EA(l):jF l 0=l:=by simp[jF,eA]
def drawn_setCell(w:w?)(a)(v):(w.setCell a v).drawn=w.drawn:=by unfold kj;split <;>(try split) <;>(try split)<;>rfl
def ur(s)(w)(hs:s.size<=1099511627776) :
  gg prog 50 #[s? s] w λe w'=>e=e? (s? ⟨(eA s.1.1).toArray⟩)/\B? w w'/\w.drawn<=w'.drawn:=by
 have ab:=Lib.run_convert_string_bytes (P:=prog) w 9 60 5 s ld la lf;go_enter func50,ntmps50;obtain⟨W0,O⟩:∃W0,Lib.bytesWorld w 5 s=W0:=⟨_,q?⟩
 have hb0:B? w W0:=by subst O;exact⟨q?,q?,q?,by rw[Lib.bytesWorld_size];omega,λk hk=>Lib.bytesWorld_at_old w _ s k hk⟩
 have hd0:w.drawn<=W0.drawn:=by subst O;exact Nat.le_succ _
 have hz0:w.1.size<W0.1.size:=by subst O;rw[Lib.bytesWorld_size];omega
 have hA0:tE W0 w.1.size (jF s.1.1 0):=by
  rw[EA];intro j hj;have ac:j<s.size:=by simpa using hj
  subst O;refine⟨?_,?_⟩;rw[Lib.bytesWorld_cell w _ s j ac,cc,cj hj];rfl;simp[kr,Lib.bytesWorld_at_new];intro h;simp[Lib.bytesCells]at h;omega
 rw[O]at ab;clear O;go_wp2;go_loopw [10] (λi wr=>∃k:Nat,k<=s.size/\i=n? i? k/\tE wr w.1.size (jF s.1.1 k)/\B? w wr/\w.1.size<wr.1.size/\w.drawn<=wr.drawn) (λi _=>s.size-(intOf i).toNat)
 case atStart=>exact⟨0,hV _,q?,hA0,hb0,hz0,hd0⟩
 case round=>
  obtain⟨k,hk,rfl,hA,hb,hz,hd⟩:=hrel;have HD:mi (w.drawn<=wr.drawn):=hd;clear hd;by_cases ad:k<s.size
  .have W:k<l? s.1.1:=by simpa using ad
   obtain⟨hc,hf⟩:=hA k (by rw[uD];exact W);rw[zD _ _ W]at hc;have HE:mi (jF s.1.1 (k+1)=(jF s.1.1 k).set k (wT s.1.1[k])):=Ho _ _ W;have HG:mi (l? s.1.1=s.size):=by show _=_;simp
   have aa:mi ((jF s.1.1 k)[k]'(by rw[uD];exact W)=s.1.1[k]):=zD _ _ W;have HA:mi (tE wr w.1.size (jF s.1.1 k)):=hA;generalize s.1.1[k]=c at *;clear hA;by_cases U:65<=c.toNat/\c.toNat<=90
   .have h1:65<=(c.toNat:Int):=o!;have h2:(c.toNat:Int)<=90:=o!;have HL:mi (((wT c).toNat:Int)=(c.toNat:Int)+32):=KQ _ U;clear U;go_wp2;go_roundw
    case rel=>exact⟨k+1,o!,by go_num,by rw[HE.out];exact HA.set k _ _ (by rw[HL.out];go_num),Below.setCell hb (hW _) _,by simpa[kj]using hz,by rw[drawn_setCell];exact HD⟩
    case measure=>simp[intOf];omega
   have HL:mi (wT c=c):=Kt _ U;have ae:(c.toNat:Int)<65\/90<(c.toNat:Int):=o!
   have HS:mi (jF s.1.1 (k+1)=jF s.1.1 k):=by show _=_;rw[HE.out,HL.out,<-aa.out];simp
   clear U;obtain h1|h1:=ae
   all_goals
    go_wp2;go_roundw
    case rel=>exact⟨k+1,o!,by go_num,by rw[HS.out];exact HA,hb,hz,HD⟩
    case measure=>simp[intOf];omega
  have ek:k=s.size:=o!;subst ek;have W:(eA s.1.1).length=s.size:=by rw[fO];simp
  have e1:jF s.1.1 s.size=eA s.1.1:=by have:s.size=l? s.1.1:=i!;rw[this,Kd]
  rw[e1]at hA
  have Y:=run_convert_bytes_back (P:=prog) wr 60 9 5 ⟨w.1.size,0,x?⟩ (grownCap w s.size 0 5) (eA s.1.1) la lf ld (λj hj=>by
   have:=(hA j hj).1
   have e2:(⟨w.1.size,0,x?⟩:Addr).add j=⟨w.1.size,j,x?⟩:=by unfold nw;split;rename_i h;rw[h];simp
   rw[e2];exact this)
  rw[W]at Y;clear W e1;go_wp2;go_ret;exact⟨q?,hb,HD⟩
def tr(s)(w)(O:s.size<=1099511627776) :
  gg prog 50 #[s? s] w λe w'=>e=e? (s? ⟨(eA s.1.1).toArray⟩)/\B? w w':=(ur s w O).mono λ_ _ h=>⟨h.1,h.2.1⟩
abbrev Wd:=List UInt8
def TC(t O:List Wd)(k j:Nat):Bool:=decide ((t.drop k).take j=O.take j)
def Vk(t O:List Wd)(k:Nat):Bool:=TC t O k O.length
def Lk(t O:List Wd)(k:Nat):Nat:=((cZ k).filter (Vk t O)).length
def RR(t O:List Wd):Nat:=Lk t O (l? t+1-l? O)
def PZ(ts:List (List Wd))(O:List Wd):Nat:=(ts.map λt=>RR t O).sum
def CW(ts:List (List Wd)):Nat:=(ts.map λt=>l? t+1).sum
def TW(out:List Wd)(x:Wd):Nat:=(out.takeWhile λy=>ky y x).length
def VU(out:List Wd)(x:Wd):List Wd:=if out[TW out x]?=y? x then out else out.take (TW out x)++([x]++out.drop (TW out x))
def PC(ts:List (List Wd)):List Wd:=ts.foldl (λout t=>t.foldl VU out) []
def ng{α:Type}(p:α->Bool):∀(l:List α)(n)(O:n<=l? l),(∀j(h:j<n),p (l[j]'o!)=t?)->(∀h:n<l? l,p l[n]=f?)->(l.takeWhile p).length=n:=by
 intro l;induction l with
 |nil=>intro n O _ _;simp at O;simp[O]|cons c l ih=>
  intro n O U W
  cases n with
  |zero=>have:=W i!;simp at this;simp[this]|succ n=>have Y:=U 0 o!;simp at Y;rw[et,Y];simp only[if_true,ct];rw[ih n (u! O) (λj hj=>by have:=U (j+1) o!;simpa using this) (λhh=>by have:=W (u! hh);simpa using this)]
def NV(ts:List (List Wd)):Nat:=(ts.map λt=>l? t).sum
def jH:∀x:Wd,ky x x=f?:=by
 intro x;induction x with
 |nil=>rfl|cons a x O=>simp[ky,O]
def EX{a b c:UInt8}(h:a<b)(k:b<c):a<c:=by rw[m7]at *;omega
def nB:∀x y z:Wd,ky x y=t?->ky y z=t?->ky x z=t?:=by
 intro x;induction x with
 |nil=>intro y z U O;cases z with
  |nil=>cases y<;>simp[ky]at O
  |cons=>rfl
 |cons a x W=>
  intro y z U O
  cases y with
  |nil=>simp[ky]at U|cons b y=>
   cases z with
   |nil=>simp[ky]at O|cons c z=>
    simp only[ky,i',i9,decide_eq_true_eq,beq_iff_eq]at *;obtain U|⟨rfl,U⟩:=U
    obtain O|⟨rfl,O⟩:=O
    exact Or.inl (EX U O);exact Or.inl U;obtain O|⟨rfl,O⟩:=O
    exact Or.inl O;exact Or.inr ⟨q?,W y z U O⟩
def jZ:∀x y:Wd,ky x y=t?\/x=y\/ky y x=t?:=by
 intro x;induction x with
 |nil=>intro y;cases y with
  |nil=>exact Or.inr (Or.inl q?)|cons=>exact Or.inl rfl
 |cons a x W=>
  intro y
  cases y with
  |nil=>exact Or.inr (Or.inr q?)|cons b y=>
   simp only[ky,i',i9,decide_eq_true_eq,beq_iff_eq];by_cases O:a<b;exact Or.inl (Or.inl O);by_cases U:b<a;exact Or.inr (Or.inr (Or.inl U))
   obtain rfl:a=b:=by apply m8.1;rw[m7]at O U;omega
   obtain h|h|h:=W y
   exact Or.inl (Or.inr ⟨q?,h⟩);exact Or.inr (Or.inl (by rw[h]));exact Or.inr (Or.inr (Or.inr ⟨q?,h⟩))
def FN{x y:Wd}(h:ky x y=t?):x≠y:=by intro e;subst e;rw[jH]at h;cases h
def ta{x y:Wd}(h:ky x y=t?):ky y x=f?:=by
 cases O:ky y x with
 |false=>rfl|true=>have:=nB _ _ _ h O;rw[jH]at this;cases this
def TD(ts:List (List Wd))(O:List Wd):Nat:=if O=[]then NV ts else PZ ts O
def OD(ws):TD [] ws=0:=by unfold TD;split<;>simp[NV,PZ]
def Rd(w:w?)(v:v?)(xs:List v?):Prop:=
 ∃a cap,v=.slice a xs.length cap/\l? xs<=cap/\cap<=gd/\∀j u,xs[j]?=y? u->∃b off,a=y? ⟨b,off,x?⟩/\w.cell? ⟨b,off+j,x?⟩=y? u
def Rd.eL{w}{base e n:Nat}{v xs}(h:w.ownsRow base e 1 v n xs):Rd w v xs:=by
 have U:=h;obtain⟨W,h⟩:=h;obtain⟨rfl,rfl⟩|⟨g,cap,cur,rfl,_,hg,hn,O,Y,aa⟩:=h
 have:=by simpa using W
 subst this;exact⟨x?,0,q?,hW _,o!,i!⟩;have e:n=l? xs:=o!;refine⟨y? _,cap,by rw[e],o!,O,λj u hj=>⟨g,0,q?,?_⟩⟩;have:=U.cells (g:=g) q? j u hj
 have e2:(⟨g,0,x?⟩:Addr).add j=⟨g,0+j,x?⟩:=by unfold nw;split;rename_i h;rw[h];rfl
 rw[e2]at this;exact this
def lK(O:List Wd)(j)(h:j<l? O):(dy O)[j]?=y? (s? ⟨O[j].toArray⟩):=by simp[dy,h]
variable {ops:Array Oper} {Q:Exit->Act->w?->Prop} {rest:List Oper} {xs:List v?} {base cap e n:Nat} {o:Oper} {a:Option Addr} {w':w?}
def jY{P}(w)(t ty e)(i)(O:P.underlying t=y? (.slice e))(U:P.info? e=y? i)(b)(n cap c)(h:n<=cap) :
  (mp #[t,t] ty #[.slice b n cap,.slice x? 0 c]).run P w=.ok (.slice b n cap) w:=by
 cases b<;>simp[mp,hO O,sizeOf,typeInfo,U,mv,mr,h,hQ]
def dH(h:w.ownsRow base e 1 v n xs):∃a cap,v=.slice a n cap/\n<=cap:=by
 obtain⟨rfl,rfl⟩|⟨g,cap,cur,rfl,_,_,O,_⟩:=h.2
 exact⟨x?,0,q?,hW _⟩;exact⟨_,cap,q?,O⟩
def pX{P}(w)(base)(t ty e)(i)(z)(bytes)(ht:P.underlying t=y? (.slice e))(hi:P.info? e=y? i)(hz:i.zero=y? z)
  (W:i.size=1) (ab:i.bytes=bytes) (ac:z.cells.size=1)
  (v) (n) (xs) (O:w.ownsRow base e 1 v n xs)
  (x) (news) (hx:Rd w x news) (h1:∀u∈news,u.oneCell'=t?)
  (U:(n+l? news)*bytes<=140737488355328) (ae:n+l? news<=gd) (Y:base<=w.1.size) :
  ∃v' w',(mp #[t,t] ty #[v,x]).run P w=.ok v' w'/\w'.ownsRow base e 1 v' (n+l? news) (xs++news)/\w.grownBy w' v.ownBlock:=by
 obtain⟨a,cap,rfl,hc,hm,hr⟩:=hx
 cases a with
 |none=>
  have hn:news=[]:=by
   cases news with
   |nil=>rfl|cons u us=>obtain⟨b,off,he,_⟩:=hr 0 u rfl;simp at he
  subst hn;obtain⟨b,c,rfl,af⟩:=dH O;refine⟨_,w,jY w t ty e i ht hi b n c cap af,u! O,World.grownBy.refl ..⟩
 |some ad=>
  by_cases hn:news=[];subst hn;obtain⟨v',w',h1,h2,h3,_⟩:=go (P:=P) w base t ty e i z 1 bytes ht hi hz W ab ac d! v n xs O ad 0 cap [] q? i! i! (u! ae) (u! U) Y;exact⟨v',w',h1,h2,h3⟩
  obtain⟨b,off,he,_⟩:∃b off,y? ad=y? ⟨b,off,x?⟩/\True:=by
   cases news with
   |nil=>exact absurd q? hn|cons u us=>obtain⟨b,off,he,_⟩:=hr 0 u rfl;exact⟨b,off,he,t!⟩
  simp only[kc]at he;subst he
  obtain⟨v',w',h1,h2,h3,_⟩:=go (P:=P) w base t ty e i z 1 bytes ht hi hz W ab ac d! v n xs O _ _ cap news i! (λj u hj=>by
   obtain⟨b',ag,he,aa⟩:=hr j u hj;obtain⟨rfl,rfl,_⟩:=he
   rw[nv];exact aa) h1 ae U Y
  exact⟨v',w',h1,h2,h3⟩
def qj{P}(w){a}(aa:o.guard=x?)(s x)(t)
  (ho:o.op=.call {callee:=.builtin .append,args:=#[s,x],argTypes:=#[t,t]})
  (base) (e) (i) (z) (bytes) (ht:P.underlying t=y? (.slice e)) (hi:P.info? e=y? i) (hz:i.zero=y? z)
  (U:i.size=1) (ab:i.bytes=bytes) (ac:z.cells.size=1)
  (v) (n) (xs) (hs:a.eval s=v) (Y:w.ownsRow base e 1 v n xs)
  (y) (news) (hx:a.eval x=y) (hy:Rd w y news) (h1:∀u∈news,u.oneCell'=t?)
  (O:(n+l? news)*bytes<=140737488355328) (ad:n+l? news<=gd) (W:base<=w.1.size)
  (h:∀v' w',w'.ownsRow base e 1 v' (n+l? news) (xs++news)->w.grownBy w' v.ownBlock->gi P ops Q rest (a.put o.dst v') w'):gi P ops Q (o::rest) a w:=by
 refine gj aa λ_ hK=>?_;obtain⟨v',w',hr,h2,h3⟩:=pX (P:=P) w base t o.type e i z bytes ht hi hz U ab ac v n xs Y y news hy h1 O ad W;unfold oj g9;simp only[ho,hI,invoke,builtin,n7,n6,m4,cM,ck,cD,hs,hx,hr];exact hK _ _ (h v' w' h2 h3)
def nK{P}(w)(base)(t ty e)(i)(z)(bytes)(ht:P.underlying t=y? (.slice e))(hi:P.info? e=y? i)(hz:i.zero=y? z)
  (O:i.size=1) (ac:i.bytes=bytes) (ah:z.cells.size=1)
  (v) (n) (xs) (U:w.ownsRow base e 1 v n xs)
  (x) (news) (hx:Rd w x news) (h1:∀u∈news,u.oneCell'=t?)
  (W:(n+l? news)*bytes<=140737488355328) (ae:n+l? news<=gd) (ab:base<=w.1.size) :
  ∃v' w',(mp #[t,t] ty #[v,x]).run P w=.ok v' w'/\w'.ownsRow base e 1 v' (n+l? news) (xs++news)/\w.grownBy w' v.ownBlock/\(v'.ownBlock=v.ownBlock\/v'.ownBlock=y? w.1.size):=by
 obtain⟨v',w',hr,h2,h3⟩:=pX (P:=P) w base t ty e i z bytes ht hi hz O ac ah v n xs U x news hx h1 W ae ab;refine⟨v',w',hr,h2,h3,?_⟩;obtain⟨a,cap,rfl,hc,hm,ai⟩:=hx
 cases a with
 |none=>
  have hn:news=[]:=by
   cases news with
   |nil=>rfl|cons u us=>obtain⟨b,off,he,_⟩:=ai 0 u rfl;simp at he
  subst hn;obtain⟨b,c,rfl,aj⟩:=dH U;have:=jY (P:=P) w t ty e i ht hi b n c cap aj;simp only[cP]at hr;rw[this]at hr;simp only[lE]at hr;exact Or.inl (by rw[<-hr.1])
 |some ad=>
  have aa:∀j u,news[j]?=y? u->w.cell? (ad.add j)=y? u:=by intro j u hj;obtain⟨b,off,he,af⟩:=ai j u hj;simp only[kc]at he;subst he;rw[nv];exact af
  have hl:l? news=l? news*i.size:=by rw[O];omega
  obtain⟨rfl,rfl⟩|⟨g,c,cur,rfl,an,hg,aj,ao,ap,ak⟩:=U.2
  by_cases al:l? news=0;have hn:=c7 al;subst hn;obtain⟨rfl,_⟩|⟨g',c',am,rfl,_,aq,_⟩:=h2.2
  exact Or.inl rfl;have:=go (P:=P) w base t ty e i z 1 bytes ht hi hz O ac ah d! _ 0 xs U ad 0 cap [] q? i! i! i! i! ab;obtain⟨v2,w2,Y,_,_,h4⟩:=this;simp only[cP]at hr;rw[hr]at Y;simp only[lE]at Y;have:=h4.2 ⟨q?,q?⟩;rw[<-Y.1]at this;simp at this;have Y:=g7 (P:=P) w t ty e i z ht hi hz ad _ cap news hl aa o! (by simp only[gd]at ae;omega) (by rw[ac];simp only[hX]at W;omega);rw[Y]at hr;simp only[lE]at hr;exact Or.inr (by rw[<-hr.1];rfl);by_cases ag:n+l? news<=c;have Y:=g5 (P:=P) w t ty e i ht hi g n c cur hg ad _ cap news hl aa h1 ag (by rw[O];omega);rw[Y]at hr;simp only[lE]at hr;exact Or.inl (by rw[<-hr.1];rfl);have holds:=U.cells (g:=g) rfl;have Y:=g6 (P:=P) w t ty e i z ht hi hz _ n c xs (by rw[O];exact U.1) holds ad _ cap news hl aa o! (by simp only[gd]at ae;omega) (by rw[ac];exact g8 o! W);rw[Y]at hr;simp only[lE]at hr;exact Or.inr (by rw[<-hr.1];rfl)
def dW{P}(w){a}(ab:o.guard=x?)(s x)(t)
  (ho:o.op=.call {callee:=.builtin .append,args:=#[s,x],argTypes:=#[t,t]})
  (base) (e) (i) (z) (bytes) (ht:P.underlying t=y? (.slice e)) (hi:P.info? e=y? i) (hz:i.zero=y? z)
  (U:i.size=1) (ac:i.bytes=bytes) (ad:z.cells.size=1)
  (v) (n) (xs) (hs:a.eval s=v) (aa:w.ownsRow base e 1 v n xs)
  (y) (news) (hx:a.eval x=y) (hy:Rd w y news) (h1:∀u∈news,u.oneCell'=t?)
  (O:(n+l? news)*bytes<=140737488355328) (ae:n+l? news<=gd) (W:base<=w.1.size)
  (h:∀Y w',w'.ownsRow base e 1 Y (n+l? news) (xs++news)->w.grownBy w' v.ownBlock->(Y.ownBlock=v.ownBlock\/Y.ownBlock=y? w.1.size)->gi P ops Q rest (a.put o.dst Y) w'):gi P ops Q (o::rest) a w:=by
 refine gj ab λ_ hK=>?_;obtain⟨Y,w',hr,h2,h3,h4⟩:=nK (P:=P) w base t o.type e i z bytes ht hi hz U ac ad v n xs aa y news hy h1 O ae W;unfold oj g9;simp only[ho,hI,invoke,builtin,n7,n6,m4,cM,ck,cD,hs,hx,hr];exact hK _ _ (h Y w' h2 h3 h4)
def Rd.one{b y}(h:w.cell? ⟨b,0,x?⟩=y? y):Rd w (.slice (y? ⟨b,0,x?⟩) 1 1) [y]:=by
 refine⟨y? _,1,q?,hW _,by unfold gd;omega,λj u O=>⟨b,0,q?,?_⟩⟩;match j,O with
 |0,O=>simp at O;subst O;exact h|j+1,O=>simp at O
def nE{U:List Wd}:∀u∈dy U,u.oneCell'=t?:=by intro u O;simp only[dy,bY]at O;obtain⟨b,_,rfl⟩:=O;rfl
def Rd.take(h:Rd w (.slice a n cap) xs)(k)(hk:k<=l? xs):Rd w (.slice a k cap) (xs.take k):=by obtain⟨a',U,W,hc,hm,Y⟩:=h;obtain⟨rfl,rfl,rfl⟩:=W;have hl:(xs.take k).length=k:=j!;refine⟨a,cap,by rw[hl],o!,hm,λj u O=>Y j u ?_⟩;rw[cG]at O;split at O;exact O;simp at O
def Rd.drop(h:Rd w (.slice a n cap) xs)(k)(hk:k<=l? xs) :
  Rd w (.slice (if cap=k then a else a.map λx=>x.add k) (n-k) (cap-k)) (xs.drop k):=by
 obtain⟨a',W,Y,hc,hm,hr⟩:=h;obtain⟨rfl,rfl,rfl⟩:=Y;refine⟨if cap=k then a else a.map _,cap-k,by rw[dr],j!,o!,λj u U=>?_⟩;rw[dh]at U;obtain⟨b,off,rfl,O⟩:=hr _ u U
 have aa:k+j<l? xs:=by by_cases h:k+j<l? xs;exact h;rw[cz o!]at U;simp at U
 refine⟨b,off+k,?_,by rw[i3];exact O⟩;rw[if_neg o!];simp[nv]
def Rd.TQ{c}(O:n=0)(U:c<=gd):Rd w (.slice a n c) []:=by subst O;exact⟨a,c,q?,hV _,U,i!⟩
def Rd.later(h:Rd w v xs)(U:∀a u,w.cell? a=y? u->w'.cell? a=y? u):Rd w' v xs:=by obtain⟨a,cap,W,Y,h2,hr⟩:=h;refine⟨a,cap,W,Y,h2,λj u hj=>?_⟩;obtain⟨b,off,e,O⟩:=hr j u hj;exact⟨b,off,e,U _ _ O⟩
def SN{a u}(h:w.cell? a=y? u):a.block<w.1.size:=by by_cases O:a.block<w.1.size;exact O;unfold kx at h;rw[m' o!]at h;simp at h
def Rd.below(h:Rd w v xs)(hb:B? w w'):Rd w' v xs:=
 h.later λ_ _ O=>ge hb O
def fj{base' size}(h:w.ownsRow base e size v n xs)(hb:base'<=base):w.ownsRow base' e size v n xs:=by
 obtain⟨U,O⟩:=h;refine⟨U,?_⟩;obtain O|⟨g,cap,cur,W,Y,r⟩:=O
 exact Or.inl O;exact Or.inr ⟨g,cap,cur,W,o!,r⟩
open Go.Maps
variable {f:List Wd->Nat} {B:Nat}
def Wp(O:List Wd):v?:=.agg #[s? ⟨(O.getD 0 []).toArray⟩,s? ⟨(O.getD 1 []).toArray⟩,s? ⟨(O.getD 2 []).toArray⟩]
def Td(O:List Wd):Prop:=l? O<=3/\∀x∈O,x≠[]/\l? x<=24
def Tryz.zG:laidOutB prog=t?:=by kernel_rfl
def Us:143<prog.types.size:=of_decide_eq_true k!
def SJ:∃d,prog.types.size=d+1:=⟨prog.types.size-1,by have:=Us;omega⟩
def mu(w:w?)(B n:Nat)(f:List Wd->Nat):Prop:=
 ∃D:DataW Unit,w.ownsMap prog 143 (plainElem prog 141) B n D/\∀O l,Td O->hP prog 143 (Wp O)=y? l->D.atKey l (.lit (.int .u64 0))=.lit (.int .u64 (f O:Nat))
def mu.made(w:w?):mu (w.alloc (.map #[] 0)) w.1.size 0 (λ_=>0):=⟨.map [],kv ..,λ_ _ _ _=>rfl⟩
def mu.stay{w'}(h:mu w B n f)(hb:w'.1[B]?=w.1[B]?):mu w' B n f:=by obtain⟨D,⟨es,clock,O,U⟩,W⟩:=h;exact⟨D,⟨es,clock,hb.trans O,U⟩,W⟩
def mu.lt(h:mu w B n f):B<w.1.size:=by obtain⟨D,O,_⟩:=h;exact O.lt
def mu.mono{m}{g:List Wd->Nat}(h:mu w B n f)(W:n<=m)(Y:∀O,Td O->f O=g O):mu w B m g:=by obtain⟨D,h1,h2⟩:=h;exact⟨D,h1.mono W,λO l U hl=>by rw[h2 O l U hl,Y O U]⟩
end
section
open Go.RowKit
def CG(n k)(h:n=k)(O:0<=n)(U:n<=4611686018427387904):IntKind.i64.wrap n=k:=by rw[IntWalk.i64_in n o!,h]
variable {xs:List v?} {base c e g m n:Nat} {v:v?} {w:w?}
def dV(l:List Nat):List v?:=l.map λ(n:Nat)=>Value.int i? (n:Int)
def vO(l:List Bool):List v?:=l.map Value.bool
def zL(l):(dV l).length=l? l:=by simp[dV]
def vq(l)(n:Nat):dV (l++[n])=dV l++[Value.int i? n]:=by simp[dV]
def gR(l)(j)(h:j<l? l):(dV l)[j]?=y? (n? i? (l.getD j 0)):=by simp[dV,cc,h]
def Pt:(prog.info? 3).map (λi=>(i.zero,i.size,i.bytes))=y? (y? (n? i? 0),1,8):=by kernel_rfl
def US:(prog.info? 4).map (λi=>(i.zero,i.size,i.bytes))=y? (y? (.bool f?),1,1):=by kernel_rfl
def Ih(n):(hM #[Value.bool f?] n).toList=vO (bZ n f?):=by apply dw;simp[hM,vO];simp[hM,vO,Nat.mod_one]
def tk{b1 b2 Y e2 n1 n2:Nat}{v1 v2 x1 x2}(h1:w.ownsRow b1 Y 1 v1 n1 x1)(h2:w.ownsRow b2 e2 1 v2 n2 x2)(O:Y≠e2):v1.ownBlock=x?\/v1.ownBlock≠v2.ownBlock:=by
 obtain⟨rfl,_⟩|⟨g,cap,cur,rfl,_,U,_⟩:=h1.2
 exact Or.inl rfl;right;obtain⟨rfl,_⟩|⟨g2,aa,ab,rfl,_,W,_⟩:=h2.2
 simp[md];intro he;simp only[md,kc]at he;rw[he,W]at U;simp only[kc,ob]at U;exact O U.2.1.symm
def A6{w'}(h:w.ownsRow base e 1 v n xs)(hb:B? w w'):w'.ownsRow base e 1 v n xs:=
 h.kept (row:=x?) ⟨hb.os,hb.tape,hb.output,hb.size,λk O _=>hb.block k O⟩ (by cases v.ownBlock<;>simp)
def fy{a}(h:w.ownsRow base e 1 (.slice a m c) n xs)(k)(u)(U:xs[k]?=y? u):∃b off,a=y? ⟨b,off,x?⟩/\w.cell? ⟨b,off+k,x?⟩=y? u:=by obtain⟨Y,c',O,_,_,W⟩:=Rd.eL h;simp only[oi]at O;rw[O.1];exact W k u U
def nA(h:w.ownsRow base e 1 (.slice (y? ⟨g,0,x?⟩) m c) n xs)(o):w.frozen? ⟨g,o,x?⟩=f?:=by
 obtain⟨h,_⟩|⟨g',cap,cur,O,_,U,_⟩:=h.2
 simp at h;obtain⟨⟨rfl,_⟩,_⟩:=O;simp[kr,U]
def sy(h:w.ownsRow base e 1 (.slice (y? ⟨g,0,x?⟩) m c) n xs)(k)(v)(hk:k<n) :
  (w.setCell ⟨g,k,x?⟩ v).ownsRow base e 1 (.slice (y? ⟨g,0,x?⟩) m c) n (xs.set k v):=by
 obtain⟨U,W⟩:=h;refine⟨u! U,?_⟩;obtain⟨h,_⟩|⟨g',cap,cur,Y,hb,hg,h3,h4,h5,h6⟩:=W
 simp at h;have O:=Y;obtain⟨⟨rfl,_⟩,rfl,rfl⟩:=O;refine Or.inr ⟨g,c,cur.setIfInBounds k v,q?,hb,?_,h3,h4,u! h5,?_⟩;simp only[kj,ne,hg];simp;rw[Array.toList_setIfInBounds,List.take_set,h6]
def sq(h:w.ownsRow base e 1 v n xs)(a)(u)(O:v.ownBlock≠y? a.block):(w.setCell a u).ownsRow base e 1 v n xs:=by
 obtain⟨W,U⟩:=h;refine⟨W,?_⟩;obtain U|⟨g',cap,cur,rfl,hb,Y,h3⟩:=U
 exact Or.inl U;refine Or.inr ⟨g',cap,cur,q?,hb,?_,h3⟩;rw[ke _ _ _ _ (λe=>O (by simp[md,e]))];exact Y
def km{b t}(hb:b=w.1.size):(w.alloc (c? #[v] t)).cell? ⟨b,0,x?⟩=y? v:=by subst hb;exact iC
variable {cs:Array v?} {b:Nat} {fz:Nat×Nat} {F G:Nat->Prop} {t:hJ} {w':w?}
structure dp(F:Nat->Prop)(w w':w?):Prop where
 os:w'.os=w.os
 tape:w'.tape=w.tape
 output:w'.output=w.output
 size:w.1.size<=w'.1.size
 block:∀k,k<w.1.size->¬F k->w'.1[k]?=w.1[k]?
def kJ(F:Nat->Prop)(w w':w?):Nat->Prop:=λk=>F k\/(w.1.size<=k/\k<w'.1.size)
def dp.refl(F)(w):dp F w w:=⟨q?,q?,q?,hW _,λ_ _ _=>rfl⟩
def dp.eB(h:B? w w'):dp F w w':=⟨h.os,h.tape,h.output,h.size,λk O _=>h.block k O⟩
def dp.trans{a b c}(h:dp F a b)(k:dp G b c)(U:∀i,i<a.1.size->G i->F i):dp F a c:=
 ⟨k.os.trans h.os,k.tape.trans h.tape,k.output.trans h.output,hZ h.size k.size,λi O hF=>by rw[k.block i (ie O h.size) (λW=>hF (U i O W)),h.block i O hF]⟩
def dp.mono(h:dp F w w')(hF:∀k,F k->G k):dp G w w':=⟨h.os,h.tape,h.output,h.size,λk O U=>h.block k O (λW=>U (hF k W))⟩
def dK(h:w.ownsRow base e 1 v n xs)(hb:∀k,v.ownBlock=y? k->w'.1[k]?=w.1[k]?):w'.ownsRow base e 1 v n xs:=by
 obtain⟨W,O⟩:=h;refine⟨W,?_⟩;obtain O|⟨g,cap,cur,rfl,U,Y,r⟩:=O
 exact Or.inl O;exact Or.inr ⟨g,cap,cur,q?,U,by rw[hb g rfl];exact Y,r⟩
def pV(w:w?)(F:Nat->Prop)(O:v?)(ts:List (List Wd)):Prop:=
 ∃vs:List v?,l? vs=l? ts/\w.ownsRow 0 31 1 O ts.length vs/\(∀k,O.ownBlock=y? k->F k)/\
  ∀i(h:i<l? ts),∃u,vs[i]?=y? u/\w.ownsRow 0 9 1 u ts[i].length (dy ts[i])/\(∀k,u.ownBlock=y? k->F k)
def pV.stay{vT ts}(h:pV w F vT ts)(hb:∀k,F k->w'.1[k]?=w.1[k]?)(U:∀k,F k->G k):pV w' G vT ts:=by obtain⟨vs,h1,h2,W,h4⟩:=h;refine⟨vs,h1,dK h2 (λk O=>hb k (W k O)),λk O=>U k (W k O),λi hi=>?_⟩;obtain⟨u,hu,ho,Y⟩:=h4 i hi;exact⟨u,hu,dK ho (λk O=>hb k (Y k O)),λk O=>U k (Y k O)⟩
def dq(h:w.1[b]?=y? (c? cs t fz))(o):w.cell? ⟨b,o,x?⟩=cs[o]?:=by simp[kx,h]
def dP(h:w.1[b]?=y? (c? cs t (0,0)))(o):w.frozen? ⟨b,o,x?⟩=f?:=by simp[kr,h]
def heap_set(h:w.1[b]?=y? (c? cs t fz))(o)(v):(w.setCell ⟨b,o,x?⟩ v).1[b]?=y? (c? (cs.setIfInBounds o v) t fz):=by simp[kj,ne,h]
def gD(h:w.1[b]?=y? (c? cs t fz))(Y:w.ownsRow base e 1 v n xs)(O:t≠e):v.ownBlock≠y? b:=by
 obtain⟨rfl,_⟩|⟨g,cap,cur,rfl,_,U,_⟩:=Y.2
 simp[md];intro W;simp only[md,kc]at W;rw[W,h]at U;simp only[kc,ob]at U;exact O U.2.1
def TU:(prog.info? 31).map (λi=>(i.zero,i.size,i.bytes))=y? (y? (.slice x? 0 0),1,24):=by kernel_rfl
open Go.Maps
def F0(w:w?)(o):(w.alloc o).1[w.1.size]?=y? o:=by simp[World.alloc,-World.alloc_eq]
def WH(ts:List (List Wd)):Prop:=∀t∈ts,∀x∈t,x≠[]/\l? x<=24
structure PW(w:w?)(F:Nat->Prop)(b:Nat)(vB vS:v?)(ts:List (List Wd))(B n:Nat)(vK:v?)(kn:List Wd):Prop where
 blk:w.1[b]?=some (.cells #[vB,vS,.map (some B),vK] 90 (0,0))
 fb:F b
 fB:F B
 cnt:mu w B n (TD ts)
 room:n<=8*CW ts
 row:w.ownsRow 0 9 1 vK kn.length (dy kn)
 qc:∀k,vK.ownBlock=some k->F k
 perm:kn.Perm (PC ts)
 ok:WH ts
 yW:l? kn<=60
end
section
open Go.RowKit Go.Sort
def SM(x y)(g)(w)(Y:w.cell? ⟨g,0,x?⟩=y? (n? i? x))(h1:w.cell? ⟨g,1,x?⟩=y? (n? i? y)):gg prog 126 #[.slice (y? ⟨g,0,x?⟩) 2 2] w λe w'=>e=e? (n? i? (if x≠0 then x else y))/\w=w':=by
 by_cases U:x=0
 .subst U;rw[if_neg i!];by_cases O:y=0
  .subst O;go_enter func126,ntmps126;go_wp2;refine gA 3 ?_;rw[gv];go_wp2;rw[gv];go_wp2;rw[gv];go_wp2;go_ret;exact⟨q?,q?⟩
  have W:(y==0)=f?:=by simpa using O
  go_enter func126,ntmps126;go_wp2;refine gA 2 ?_;rw[gv];go_wp2;rw[gv];go_wp2;go_ret;exact⟨q?,q?⟩
 go_wp2;refine gA 1 ?_;rw[gv];go_wp2;go_ret;exact⟨q?,q?⟩
def T1{w:w?}{x y t g}(O:g=w.1.size):(w.alloc (c? #[x,y] t)).cell? ⟨g,0,x?⟩=y? x/\(w.alloc (c? #[x,y] t)).cell? ⟨g,1,x?⟩=y? y:=by subst O;constructor;rw[ko _ _ _ _ rfl];rfl;rw[ko _ _ _ _ rfl];rfl
end
section
open Go.RowKit
def nd(m:Wd):v?:=s? ⟨a? m⟩
def Ei(w:w?)(D:Nat->Prop)(u:v?)(m:Wd):Prop:=∃n,Rd w u (bZ n (nd m))/\∀k,u.ownBlock=y? k->D k
structure lT(w:w?)(D:Nat->Prop)(B:Nat)(vl vm:v?)(us:List v?)(ms:List Wd):Prop where
 ol:w.ownsRow 0 31 1 vl us.length us
 om:w.ownsRow 0 9 1 vm ms.length (dy ms)
 dl:∀k,vl.ownBlock=some k->¬D k
 dm:∀k,vm.ownBlock=some k->¬D k
 dB:¬D B
 yP:∀k,D k->k<w.1.size
 each:∀(i:Nat)(u:v?)(mm:Wd),us[i]?=some u->ms[i]?=some mm->Ei w D u mm
def Ei.stay{w w' D D' u m}(h:Ei w D u m)(hb:∀k,D k->w'.1[k]?=w.1[k]?)(U:∀k,D k->D' k):Ei w' D' u m:=by obtain⟨n,⟨a,cap,rfl,W,Y,hr⟩,O⟩:=h;refine⟨n,⟨a,cap,q?,W,Y,λj v hj=>?_⟩,λk hk=>U k (O k hk)⟩;obtain⟨b,off,rfl,hc⟩:=hr j v hj;refine⟨b,off,q?,?_⟩;rw[kt (w:=w) (hb b (O b q?))];exact hc
def O3(n)(m)(j)(h:j<n):(bZ n (nd m))[j]?=y? (nd m):=by simp[h]
def Pw(B)(D)(vl vm)(us)(ms)(w)(h1:w.cell? ⟨B,1,x?⟩=y? vl)(h2:w.cell? ⟨B,2,x?⟩=y? vm)(hL:lT w D B vl vm us ms)(O:l? us=l? ms)(hB:l? us<=1099511627776) :
  gg prog 42 #[p? (y? ⟨B,0,x?⟩)] w λe w'=>e=e? (.bool t?)/\∃n,w'=w.drewN n:=by
 obtain⟨Y,W,_,_,_,_,U⟩:=hL;obtain⟨al,cl,rfl,lg⟩:=dH Y;obtain⟨am,cm,rfl,ae⟩:=dH W;rw[<-O]at h2 ae W;have af:mi _:=Y;have ag:mi _:=W;have HE:mi _:=U;have ah:mi _:=O;clear Y W U O;go_enter func42,ntmps42;go_wp2;go_loopw [3] (λi wr=>∃k m:Nat,k<=l? us/\i=n? i? k/\wr=w.drewN m) (λi _=>l? us-(intOf i).toNat)
 case atStart=>exact⟨0,0,hV _,q?,q?⟩
 case round=>
  obtain⟨k,m,hk,rfl,rfl⟩:=hrel;by_cases ai:k<l? us
  .have aa:k<l? ms:=by have:=ah.out;omega
   have hu:us[k]?=y? us[k]:=cj ai;obtain⟨n,⟨au,cu,ab,aj,hmu,ac⟩,_⟩:=HE.out k us[k] ms[k] hu (cj aa);rw[ab]at hu;clear ab;obtain⟨bl,ol,rfl,ad⟩:=fy af k _ hu;obtain⟨bm,om,rfl,ao⟩:=fy ag k _ (lK ms k aa);have ak:mi _:=ac;rw[dc]at ad aj;unfold gd at hmu;clear ac hu;generalize ms[k]=mk at *;go_wp2_with fail;go_loopw [4] (λi wr=>∃q m:Nat,q<=n/\i=n? i? q/\wr=w.drewN m) (λi _=>n-(intOf i).toNat)
   case atStart=>exact⟨0,m,hV _,q?,q?⟩
   case round=>
    obtain⟨q,m,hq,rfl,rfl⟩:=hrel;by_cases an:q<n
    .obtain⟨bu,ou,rfl,hcu1⟩:=ak.out q _ (O3 n mk q an);unfold nd at hcu1;go_wp2_with fail;go_quiet (fail);go_wp2;go_roundw
     case rel=>exact⟨q+1,_,o!,by go_num,q?⟩
     case measure=>simp[intOf];omega
    go_wp2;go_roundw
    case rel=>exact⟨k+1,_,o!,by go_num,q?⟩
    case measure=>simp[intOf];omega
  go_wp2;go_ret;exact⟨q?,_,q?⟩
def zf{P}(w)(base)(t ty e)(i)(z)(bytes)(ht:P.underlying t=y? (.slice e))(hi:P.info? e=y? i)(hz:i.zero=y? z)
  (O:i.size=1) (ac:i.bytes=bytes) (ah:z.cells.size=1)
  (v) (n) (xs) (U:w.ownsRow base e 1 v n xs)
  (x) (news) (hx:Rd w x news) (h1:∀u∈news,u.oneCell'=t?)
  (W:(n+l? news)*bytes<=140737488355328) (ae:n+l? news<=gd) (ab:base<=w.1.size) :
  ∃v' w',(mp #[t,t] ty #[v,x]).run P w=.ok v' w'/\w'.ownsRow base e 1 v' (n+l? news) (xs++news)/\w.grownBy w' v.ownBlock/\(v'.ownBlock=v.ownBlock\/(v'.ownBlock=y? w.1.size/\Below w.1.size w w')):=by
 obtain⟨v',w',hr,h2,h3⟩:=pX (P:=P) w base t ty e i z bytes ht hi hz O ac ah v n xs U x news hx h1 W ae ab;refine⟨v',w',hr,h2,h3,?_⟩;obtain⟨a,cap,rfl,hc,hm,ai⟩:=hx
 cases a with
 |none=>
  have hn:news=[]:=by
   cases news with
   |nil=>rfl|cons u us=>obtain⟨b,off,he,_⟩:=ai 0 u rfl;simp at he
  subst hn;obtain⟨b,c,rfl,aj⟩:=dH U;have:=jY (P:=P) w t ty e i ht hi b n c cap aj;simp only[cP]at hr;rw[this]at hr;simp only[lE]at hr;exact Or.inl (by rw[<-hr.1])
 |some ad=>
  have aa:∀j u,news[j]?=y? u->w.cell? (ad.add j)=y? u:=by intro j u hj;obtain⟨b,off,he,af⟩:=ai j u hj;simp only[kc]at he;subst he;rw[nv];exact af
  have hl:l? news=l? news*i.size:=by rw[O];omega
  obtain⟨rfl,rfl⟩|⟨g,c,cur,rfl,an,hg,aj,ao,ap,ak⟩:=U.2
  by_cases al:l? news=0;have hn:=c7 al;subst hn;obtain⟨rfl,_⟩|⟨g',c',am,rfl,_,aq,_⟩:=h2.2
  exact Or.inl rfl;have:=go (P:=P) w base t ty e i z 1 bytes ht hi hz O ac ah d! _ 0 xs U ad 0 cap [] q? i! i! i! i! ab;obtain⟨v2,w2,Y,_,_,h4⟩:=this;simp only[cP]at hr;rw[hr]at Y;simp only[lE]at Y;have:=h4.2 ⟨q?,q?⟩;rw[<-Y.1]at this;simp at this;have Y:=g7 (P:=P) w t ty e i z ht hi hz ad _ cap news hl aa o! (by simp only[gd]at ae;omega) (by rw[ac];simp only[hX]at W;omega);rw[Y]at hr;simp only[lE]at hr;exact Or.inr ⟨by rw[<-hr.1];rfl,by rw[<-hr.2];exact((kd ..).drew).alloc (hW _) _⟩;by_cases ag:n+l? news<=c;have Y:=g5 (P:=P) w t ty e i ht hi g n c cur hg ad _ cap news hl aa h1 ag (by rw[O];omega);rw[Y]at hr;simp only[lE]at hr;exact Or.inl (by rw[<-hr.1];rfl);have holds:=U.cells (g:=g) rfl;have Y:=g6 (P:=P) w t ty e i z ht hi hz _ n c xs (by rw[O];exact U.1) holds ad _ cap news hl aa o! (by simp only[gd]at ae;omega) (by rw[ac];exact g8 o! W);rw[Y]at hr;simp only[lE]at hr;exact Or.inr ⟨by rw[<-hr.1];rfl,by rw[<-hr.2];exact((kd ..).drew).alloc (hW _) _⟩
def wb{P}(w){ops rest o a Q}(ab:o.guard=x?)(s x)(t)
  (ho:o.op=.call {callee:=.builtin .append,args:=#[s,x],argTypes:=#[t,t]})
  (base) (e) (i) (z) (bytes) (ht:P.underlying t=y? (.slice e)) (hi:P.info? e=y? i) (hz:i.zero=y? z)
  (U:i.size=1) (ac:i.bytes=bytes) (ad:z.cells.size=1)
  (v) (n) (xs) (hs:a.eval s=v) (aa:w.ownsRow base e 1 v n xs)
  (y) (news) (hx:a.eval x=y) (hy:Rd w y news) (h1:∀u∈news,u.oneCell'=t?)
  (O:(n+l? news)*bytes<=140737488355328) (ae:n+l? news<=gd) (W:base<=w.1.size)
  (h:∀Y w',w'.ownsRow base e 1 Y (n+l? news) (xs++news)->w.grownBy w' v.ownBlock->(Y.ownBlock=v.ownBlock\/(Y.ownBlock=y? w.1.size/\Below w.1.size w w'))->gi P ops Q rest (a.put o.dst Y) w'):gi P ops Q (o::rest) a w:=by
 refine gj ab λ_ hK=>?_;obtain⟨Y,w',hr,h2,h3,h4⟩:=zf (P:=P) w base t o.type e i z bytes ht hi hz U ac ad v n xs aa y news hy h1 O ae W;unfold oj g9;simp only[ho,hI,invoke,builtin,n7,n6,m4,cM,ck,cD,hs,hx,hr];exact hK _ _ (h Y w' h2 h3 h4)
variable {us:List v?} {ms:List Wd} {B n:Nat} {D:Nat->Prop} {o:Obj} {l u v vl vm:v?} {w':w?}
structure NK(w:w?)(D:Nat->Prop)(l:v?)(n:Nat)(m:Wd):Prop where
 row:w.ownsRow 0 9 1 l n (bZ n (nd m))
 blk:∀k,l.ownBlock=some k->D k
def UF(l:v?)(n:Nat)(m:Wd)(us:List v?)(ms:List Wd):Prop:=
 ∀(i:Nat)(u:v?),us[i]?=y? u->u.ownBlock≠x?->u.ownBlock=l.ownBlock->(∃g n' c,u=.slice (y? ⟨g,0,x?⟩) n' c/\n'<=n/\n'<=c/\c<=gd)/\∀O,ms[i]?=y? O->O=m
def lT.stay{w}(h:lT w D B vl vm us ms)(W:w.1.size<=w'.1.size)
  (hb:∀k,D k->w'.1[k]?=w.1[k]?) (Y:∀k,vl.ownBlock=y? k->w'.1[k]?=w.1[k]?) (hm:∀k,vm.ownBlock=y? k->w'.1[k]?=w.1[k]?):lT w' D B vl vm us ms:=
 ⟨dK h.ol Y,dK h.om hm,h.dl,h.dm,h.dB,λk O=>ie (h.yP k O) W,λi u mm hu U=>(h.each i u mm hu U).stay hb (λ_ O=>O)⟩
def NK.stay{w m}(h:NK w D l n m)(hb:∀k,D k->w'.1[k]?=w.1[k]?):NK w' D l n m:=
 ⟨dK h.row (λk O=>hb k (h.blk k O)),h.blk⟩
def Rd.prefix{w}{base e g n' c cap:Nat}{xs}(h:w.ownsRow base e 1 (.slice (y? ⟨g,0,x?⟩) n cap) n xs)(W:n'<=n)(Y:n'<=c)(hm:c<=gd):Rd w (.slice (y? ⟨g,0,x?⟩) n' c) (xs.take n'):=by
 have hl:l? xs=n:=by have:=h.1;omega
 refine⟨y? ⟨g,0,x?⟩,c,j!,j!,hm,λj u O=>?_⟩
 have U:xs[j]?=y? u:=by rw[cG]at O;split at O;exact O;simp at O
 exact⟨g,0,q?,by have:=h.cells (g:=g) q? j u U;rwa [nv]at this⟩
def J6{w N l' m}
  (h:lT w D B vl vm us ms) (hc:NK w D l n m) (hg:UF l n m us ms) (ar:B<w.1.size) (ao:l? us=l? ms)
  (ho:w'.ownsRow 0 9 1 l' (n+1) (bZ n (nd m)++[nd m])) (ah:(w.alloc o).grownBy w' l.ownBlock)
  (hb:l'.ownBlock=l.ownBlock\/(l'.ownBlock=y? N/\Below (w.alloc o).1.size (w.alloc o) w')) (hN:N=w.1.size+1) :
  ∃D',lT w' D' B vl vm us ms/\NK w' D' l' (n+1) m/\UF l' (n+1) m us ms/\(∀k,D k->D' k)/\(∀k,D' k->D k\/w.1.size<=k):=by
 have ai:bZ n (nd m)++[nd m]=bZ (n+1) (nd m):=by rw[eq]
 rw[ai]at ho;have hz:w.1.size+1<=w'.1.size:=by have:=ah.size;simpa using this
 obtain hb|⟨hb,aj⟩:=hb
 .
  have W:∀k,k<w.1.size->y? k≠l.ownBlock->w'.1[k]?=w.1[k]?:=λk O ad=>by rw[ah.block k j! ad,kf _ _ _ O]
  refine⟨D,⟨dK h.ol (λk O=>W k (h.ol.lt k O).2 (λe=>h.dl k O (hc.blk k e.symm))),dK h.om (λk O=>W k (h.om.lt k O).2 (λe=>h.dm k O (hc.blk k e.symm))),h.dl,h.dm,h.dB,λk O=>by have:=h.yP k O;omega,?_⟩,⟨ho,λk O=>hc.blk k (by rw[<-hb];exact O)⟩,?_,λ_ O=>O,λ_ O=>Or.inl O⟩;intro i u mm hu ab;obtain⟨n0,am,hf⟩:=h.each i u mm hu ab;by_cases Y:u.ownBlock=x?\/u.ownBlock≠l.ownBlock;refine⟨n0,?_,hf⟩;obtain⟨a,cap,rfl,h1,h2,hr⟩:=am;refine⟨a,cap,q?,h1,h2,λj v hj=>?_⟩;obtain⟨b,off,rfl,ae⟩:=hr j v hj;refine⟨b,off,q?,?_⟩
  have ad:y? b≠l.ownBlock:=by
   obtain Y|Y:=Y
   simp[md]at Y;exact Y
  rw[kt (w:=w) (W b (h.yP b (hf b q?)) ad)];exact ae;have ak:u.ownBlock≠x?:=λe=>Y (Or.inl e);have ac:u.ownBlock=l.ownBlock:=Decidable.byContradiction λe=>Y (Or.inr e);obtain⟨⟨g,n',c,rfl,an,af,ag⟩,hm⟩:=hg i u hu ak ac;have:=hm mm ab;subst this;obtain⟨a',c',rfl,_⟩:=dH ho
  have ha:a'=y? ⟨g,0,x?⟩:=by
   obtain⟨he,_⟩|⟨g',ap,aq,he,_⟩:=ho.2
   simp at he;simp only[oi]at he;obtain⟨rfl,_,rfl⟩:=he
   have:y? g'=y? g:=by have e1:(Value.slice (y? ⟨g',0,x?⟩) (n+1) c').ownBlock=y? g':=rfl;have e2:(Value.slice (y? ⟨g,0,x?⟩) n' c).ownBlock=y? g:=rfl;rw[<-e1,hb,<-ac,e2]
   simp only[kc]at this;rw[this]
  subst ha;refine⟨n',?_,hf⟩;have:=Rd.prefix ho (n':=n') (c:=c) o! af ag;rw[List.take_replicate,ip o!]at this;exact this;intro i u hu al aa;rw[hb]at aa;obtain⟨⟨g,n',c,rfl,an,af,ag⟩,hm⟩:=hg i u hu al aa;exact⟨⟨g,n',c,q?,o!,af,ag⟩,hm⟩
 .
  have W:∀k,k<w.1.size->w'.1[k]?=w.1[k]?:=λk O=>by rw[aj.block k j!,kf _ _ _ O]
  refine⟨λk=>D k\/k=N,⟨dK h.ol (λk O=>W k (h.ol.lt k O).2),dK h.om (λk O=>W k (h.om.lt k O).2),?_,?_,?_,?_,?_⟩,⟨ho,λk O=>by rw[hb]at O;simp only[kc]at O;exact Or.inr O.symm⟩,?_,λ_ O=>Or.inl O,?_⟩;intro k O U;obtain U|U:=U
  exact h.dl k O U;have:=(h.ol.lt k O).2;omega;intro k O U;obtain U|U:=U
  exact h.dm k O U;have:=(h.om.lt k O).2;omega;intro U;obtain U|U:=U
  exact h.dB U;omega;intro k U;obtain U|U:=U
  have:=h.yP k U;omega;have:=(ho.lt N hb).2;omega;intro i u mm hu ab;exact(h.each i u mm hu ab).stay (λk O=>W k (h.yP k O)) (λ_ O=>Or.inl O);intro i u hu al aa;exfalso;rw[hb]at aa
  have hi:i<l? us:=by by_cases hi:i<l? us;exact hi;rw[cz o!]at hu;simp at hu
  obtain⟨_,_,hf⟩:=h.each i u ms[i] hu (cj o!);have:=h.yP N (hf N aa);omega;intro k U;obtain U|U:=U
  exact Or.inl U;exact Or.inr o!
def sK{w o cs}(h:lT w D B vl vm us ms)(W:w.1[B]?=y? (c? cs 74 (0,0))) :
  lT (w.setCell ⟨B,o,x?⟩ v) D B vl vm us ms:=by
 have O:∀k,k≠B->(w.setCell ⟨B,o,x?⟩ v).1[k]?=w.1[k]?:=λk U=>ke _ _ _ _ U;refine h.stay (by simp[kj]) (λk U=>O k (λe=>h.dB (e▸U))) (λk U=>O k (λe=>?_)) (λk U=>O k (λe=>?_));subst e;exact gD W h.ol d! U;subst e;exact gD W h.om d! U
def C8{w o m}(h:NK w D l n m)(O:¬D B):NK (w.setCell ⟨B,o,x?⟩ v) D l n m:=
 h.stay (λk U=>ke _ _ _ _ (λe=>O (by have W:k=B:=e;rw[<-W];exact U)))
def IZ{w vl'}
  (h:lT w D B vl vm us ms) (ab:l? us=l? ms)
  (ho:w'.ownsRow 0 31 1 vl' (l? us+1) (us++[u])) (Y:(w.alloc o).grownBy w' vl.ownBlock) (hb:vl'.ownBlock=vl.ownBlock\/vl'.ownBlock=y? (w.1.size+1)) :
  lT w' D B vl' vm (us++[u]) ms:=by
 have hz:w.1.size+1<=w'.1.size:=by have:=Y.size;simpa using this
 have U:∀k,k<w.1.size->y? k≠vl.ownBlock->w'.1[k]?=w.1[k]?:=λk O aa=>by rw[Y.block k j! aa,kf _ _ _ O]
 refine⟨by have:(us++[u]).length=l? us+1:=i!
           rw[this];exact ho,dK h.om (λk O=>U k (h.om.lt k O).2 (λe=>?_)),λk O hd=>?_,h.dm,h.dB,λk O=>by have:=h.yP k O;omega,λi v mm hv W=>?_⟩
 obtain h1|h1:=tk h.om h.ol d!
 rw[h1]at O;simp at O;exact h1 (by rw[O,e]);obtain hb|hb:=hb
 exact h.dl k (by rw[<-hb];exact O) hd;rw[hb]at O;simp only[kc]at O;have:=h.yP k hd;omega
 have hi:i<l? ms:=by by_cases hi:i<l? ms;exact hi;rw[cz o!]at W;simp at W
 rw[ci o!]at hv;exact(h.each i v mm hv W).stay (λk O=>U k (h.yP k O) (λe=>h.dl k e.symm O)) (λ_ O=>O)
def Ie{w vm' m}
  (h:lT w D B vl vm us ms) (ac:l? us=l? ms+1) (hu:us[l? ms]?=y? u) (hc:NK w D u n m)
  (ho:w'.ownsRow 0 9 1 vm' (l? ms+1) (dy ms++[nd m])) (aa:(w.alloc o).grownBy w' vm.ownBlock) (hb:vm'.ownBlock=vm.ownBlock\/vm'.ownBlock=y? (w.1.size+1)) :
  lT w' D B vl vm' us (ms++[m])/\NK w' D u n m:=by
 have hz:w.1.size+1<=w'.1.size:=by have:=aa.size;simpa using this
 have Y:∀k,k<w.1.size->y? k≠vm.ownBlock->w'.1[k]?=w.1[k]?:=λk O ab=>by rw[aa.block k j! ab,kf _ _ _ O]
 have hD:∀k,D k->w'.1[k]?=w.1[k]?:=λk O=>Y k (h.yP k O) (λe=>h.dm k e.symm O);have U:=hc.stay hD;refine⟨⟨dK h.ol (λk O=>Y k (h.ol.lt k O).2 (λe=>?_)),?_,h.dl,λk O hd=>?_,h.dB,λk O=>by have:=h.yP k O;omega,λi v mm hv W=>?_⟩,U⟩;obtain h1|h1:=tk h.ol h.om d!
 rw[h1]at O;simp at O;exact h1 (by rw[O,e]);have e1:(ms++[m]).length=l? ms+1:=i!;rw[e1,nX];exact ho;obtain hb|hb:=hb
 exact h.dm k (by rw[<-hb];exact O) hd;rw[hb]at O;simp only[kc]at O;have:=h.yP k hd;omega;by_cases hi:i<l? ms;rw[ci hi]at W;exact(h.each i v mm hv W).stay hD (λ_ O=>O)
 have Ey:i=l? ms:=by by_cases Ey:i<l? us;omega;rw[cz o!]at hv;simp at hv
 subst Ey;rw[hu]at hv;simp at W;simp only[kc]at hv;subst W;subst hv;exact⟨n,Rd.eL U.row,U.blk⟩
variable {row:Option Nat} {vl1:v?} {w3 wr:w?}
def dp.grown{G w o}(h:dp G w wr)(O:(wr.alloc o).grownBy w' row)(Y:∀k,row=y? k->G k\/w.1.size<=k):dp G w w':=by
 refine⟨O.os.trans h.os,O.tape.trans h.tape,O.output.trans h.output,?_,λk hk U=>?_⟩;have:=O.size;have:=h.size;simp at *;omega;have hz:=h.size;rw[O.block k j! (λe=>?_),kf _ _ _ o!,h.block k hk U];obtain W|W:=Y k e.symm
 exact U W;omega
def dp.setCell{G w o v}(h:dp G w wr)(U:G B):dp G w (wr.setCell ⟨B,o,x?⟩ v):=by refine⟨h.os,h.tape,h.output,by simp[kj];exact h.size,λk W O=>?_⟩;rw[ke _ _ _ _ (λe=>O (by have Y:=e;rw[Y];exact U))];exact h.block k W O
def wP{w:w?}{o cs t fz}(h:w.1[B]?=y? (c? cs t fz))(W:(w.alloc o).grownBy w' row)(O:row≠y? B):w'.1[B]?=y? (c? cs t fz):=by
 have U:B<w.1.size:=by by_cases U:B<w.1.size;exact U;rw[m' o!]at h;simp at h
 rw[W.block B j! (λe=>O e.symm),kf _ _ _ U];exact h
def N0(xs)(v:v?)(k)(h:k<l? xs):(bZ k v++xs.drop k).set k v=bZ (k+1) v++xs.drop (k+1):=by have e:=dS h;rw[e,ej _ _ i!,eq,cJ,dc,i4];rfl
def Rx:(prog.info? 9).map (λi=>(i.zero,i.size,i.bytes))=y? (y? (s? ⟨#[]⟩),1,16):=by kernel_rfl
structure KS(w0:w?)(G D0 Pl Pm:Nat->Prop)(B:Nat)(va:v?)(lastv:Int)(m:Wd)(w:w?)(D:Nat->Prop)(vl vm l:v?)(n:Nat)(us:List v?)(ms:List Wd):Prop where
 heap:w.1[B]?=some (.cells #[va,vl,vm,.int .i64 lastv] 74 (0,0))
 lists:lT w D B vl vm us ms
 len:l? us=l? ms
 cur:NK w D l n m
 jR:UF l n m us ms
 frame:dp G w0 w
 gB:G B
 gl:∀k,vl.ownBlock=some k->Pl k\/w0.1.size<=k
 gm:∀k,vm.ownBlock=some k->Pm k\/w0.1.size<=k
 gx:∀k,l.ownBlock=some k->G k\/w0.1.size<=k
 pl:∀k,Pl k->G k
 pm:∀k,Pm k->G k
 dd:∀k,D k->D0 k\/w0.1.size<=k
def Oo{w:w?}{base e n:Nat}{l m ms xs}(h:UF l n m us ms)(W:l? us=l? ms)(ho:w.ownsRow base e 1 l n xs):UF l n m (us++[l]) (ms++[m]):=by
 intro i u U Y aa;by_cases hi:i<l? us;rw[ci hi]at U;obtain⟨h1,h2⟩:=h i u U Y aa;exact⟨h1,λmm O=>by rw[ci o!]at O;exact h2 mm O⟩
 have Ey:i=l? us:=by by_cases Ey:i<(us++[l]).length;simp at Ey;omega;rw[cz o!]at U;simp at U
 subst Ey;simp at U;subst U;constructor;obtain⟨rfl,_⟩|⟨g,cap,cur,rfl,_,_,hn,ab,_⟩:=ho.2
 exact absurd q? Y;exact⟨g,n,cap,q?,hW _,hn,ab⟩;intro mm O;rw[W]at O;simp at O;exact O.symm
section
variable {w0 w:w?} {G D0 Pl Pm D:Nat->Prop} {B n:Nat} {va vl vm l:v?} {lastv:Int} {m:Wd} {us:List v?} {ms:List Wd}
def KS.Ws(h:KS w0 G D0 Pl Pm B va lastv m w D vl vm l n us ms){o}(aa:w3.ownsRow 0 31 1 vl1 (l? us+1) (us++[l]))(O:(w.alloc o).grownBy w3 vl.ownBlock)
  (ab:vl1.ownBlock=vl.ownBlock\/vl1.ownBlock=y? (w.1.size+1)) :
  w3.1[B]?=y? (c? #[va,vl,vm,n? i? lastv] 74 (0,0))/\lT (w3.setCell ⟨B,1,x?⟩ vl1) D B vl1 vm (us++[l]) ms/\NK (w3.setCell ⟨B,1,x?⟩ vl1) D l n m/\dp G w0 (w3.setCell ⟨B,1,x?⟩ vl1):=by
 have U:=wP h.1 O (gD h.1 h.lists.ol d!);have hL:=IZ h.lists h.len aa O ab
 have W:=h.cur.stay (λk Y=>by rw[O.block k (by have:=h.lists.yP k Y;simp;omega) (λe=>h.lists.dl k e.symm Y),kf _ _ _ (h.lists.yP k Y)])
 have ac:=h.frame.grown O (λk Y=>by
  obtain h1|h1:=h.gl k Y
  exact Or.inl (h.pl k h1)
  exact Or.inr h1)
 exact⟨U,sK hL U,C8 W h.lists.dB,ac.setCell h.gB⟩
def KS.push(h:KS w0 G D0 Pl Pm B va lastv m w D vl vm l n us ms){w5 vm1 o o'}(ah:w3.ownsRow 0 31 1 vl1 (l? us+1) (us++[l]))(aa:(w.alloc o).grownBy w3 vl.ownBlock)
  (ab:vl1.ownBlock=vl.ownBlock\/vl1.ownBlock=y? (w.1.size+1))
  (ai:w5.ownsRow 0 9 1 vm1 (l? ms+1) (dy ms++[nd m])) (W:((w3.setCell ⟨B,1,x?⟩ vl1).alloc o').grownBy w5 vm.ownBlock) (ac:vm1.ownBlock=vm.ownBlock\/vm1.ownBlock=y? (w3.1.size+1)) :
  w5.1[B]?=y? (c? #[va,vl1,vm,n? i? lastv] 74 (0,0))/\KS w0 G D0 Pl Pm B va lastv m (w5.setCell ⟨B,2,x?⟩ vm1) D vl1 vm1 l n (us++[l]) (ms++[m]):=by
 obtain⟨aj,ad,ak,ae⟩:=h.Ws ah aa ab;have al:(w3.setCell ⟨B,1,x?⟩ vl1).1.size=w3.1.size:=by simp[kj]
 have ao:=h.frame.size;have af:(w3.setCell ⟨B,1,x?⟩ vl1).1[B]?=y? (c? #[va,vl1,vm,n? i? lastv] 74 (0,0)):=by rw[heap_set aj];rfl
 have Y:=wP af W (gD af ad.om d!);obtain⟨am,an⟩:=Ie ad (by simp[h.len]) (by rw[<-h.len];simp) ak ai W (by rw[al];exact ac)
 have ag:=ae.grown W (λk U=>by
  obtain O|O:=h.gm k U
  exact Or.inl (h.pm k O)
  exact Or.inr O)
 have ap:=by have:=aa.size;simpa using this
 refine⟨Y,?_,sK am Y,by simp[h.len],C8 an h.lists.dB,Oo h.jR h.len h.cur.row,ag.setCell h.gB,h.gB,?_,?_,h.gx,h.pl,h.pm,h.dd⟩;rw[heap_set Y];rfl;intro k U;obtain O|O:=ab
 exact h.gl k (by rw[<-O];exact U);rw[O]at U;simp only[kc]at U;exact Or.inr o!;intro k U;obtain O|O:=ac
 exact h.gm k (by rw[<-O];exact U);rw[O]at U;simp only[kc]at U;exact Or.inr o!
def KS.more(h:KS w0 G D0 Pl Pm B va lastv m w D vl vm l n us ms){Y o}(ho:w'.ownsRow 0 9 1 Y (n+1) (bZ n (nd m)++[nd m]))(O:(w.alloc o).grownBy w' l.ownBlock)
  (hb:Y.ownBlock=l.ownBlock\/(Y.ownBlock=y? (w.1.size+1)/\Below (w.1.size+1) (w.alloc o) w')) :
  ∃D',KS w0 G D0 Pl Pm B va lastv m w' D' vl vm Y (n+1) us ms:=by
 have aa:B<w.1.size:=by by_cases hB:B<w.1.size;exact hB;have:=h.1;rw[m' o!]at this;simp at this
 have ad:=h.frame.size;have ab:(w.alloc o).1.size=w.1.size+1:=i!;obtain⟨D',hL,hC,hG,ae,ac⟩:=J6 h.lists h.cur h.jR aa h.len ho O (by rw[ab];exact hb) rfl;refine⟨D',wP h.1 O (gD h.1 h.cur.row d!),hL,h.len,hC,hG,h.frame.grown O h.gx,h.gB,h.gl,h.gm,?_,h.pl,h.pm,?_⟩;intro k W;obtain U|⟨U,_⟩:=hb
 exact h.gx k (by rw[<-U];exact W);rw[U]at W;simp only[kc]at W;exact Or.inr o!;intro k W;obtain U|U:=ac k W
 exact h.dd k U;exact Or.inr o!
end
def Po(B)(D)(va vl vm l)(us)(ms)(last n:Nat)(xs)(w)
  (hB:w.1[B]?=y? (c? #[va,vl,vm,n? i? last] 74 (0,0))) (hL:lT w D B vl vm us ms) (az:l? us=l? ms)
  (hl:w.ownsRow 0 9 1 l n xs) (a8:∀k,l.ownBlock=y? k->¬D k) (a9:∀k,l.ownBlock=y? k->vm.ownBlock≠y? k)
  (bG:last<=1073741824) (bH:l? us<=17179869184) (bI:n<=1000) :
  gg prog 113 #[p? (y? ⟨B,0,x?⟩),l] w λe w'=>e=e? (.tuple #[])/\∃(D':Nat->Prop)(af ag:v?)(aa:List v?)(ad:List Wd),
   w'.1[B]?=y? (c? #[va,af,ag,n? i? (last+1:Nat)] 74 (0,0))/\lT w' D' B af ag aa ad/\l? aa=l? ad/\l? aa=l? us+9/\
   dp (λk=>k=B\/vl.ownBlock=y? k\/vm.ownBlock=y? k\/l.ownBlock=y? k) w w'/\(∀k,D' k->D k\/l.ownBlock=y? k\/w.1.size<=k)/\
   (∀k,af.ownBlock=y? k->vl.ownBlock=y? k\/w.1.size<=k)/\(∀k,ag.ownBlock=y? k->vm.ownBlock=y? k\/w.1.size<=k):=by
 obtain⟨i0,hi,a',aA,aB⟩:=gt Rx;obtain⟨i8,aO,aP,aQ,aR⟩:=gt TU;have h3:=dq hB 3;have bn:=dP hB 3;obtain⟨al,cl,rfl,lg⟩:=dH hl;have ar:(Value.slice al n cl).ownBlock≠y? B:=gD hB hl d!;have HB:mi _:=hB;clear hB;go_enter func113,ntmps113;go_wp2_with fail;obtain⟨G,hG⟩:∃G:Nat->Prop,G=λk=>k=B\/vl.ownBlock=y? k\/vm.ownBlock=y? k\/(Value.slice al n cl).ownBlock=y? k:=⟨_,q?⟩;have aS:G B:=by rw[hG];exact Or.inl rfl
 have aT:∀k,vl.ownBlock=y? k->G k:=λk hk=>by rw[hG];exact Or.inr (Or.inl hk)
 have aU:∀k,vm.ownBlock=y? k->G k:=λk hk=>by rw[hG];exact Or.inr (Or.inr (Or.inl hk))
 have aC:∀k,(Value.slice al n cl).ownBlock=y? k->G k:=λk hk=>by rw[hG];exact Or.inr (Or.inr (Or.inr hk))
 have HG:mi _:=hG;clear hG;have ak:(w.setCell ⟨B,3,x?⟩ (n? i? ((last:Int)+1))).1[B]?=y? (c? #[va,vl,vm,n? i? ((last:Int)+1)] 74 (0,0)):=by rw[heap_set HB.out];rfl
 have aj:=sK (o:=3) (v:=n? i? ((last:Int)+1)) hL HB;have hl1:(w.setCell ⟨B,3,x?⟩ (n? i? ((last:Int)+1))).ownsRow 0 9 1 (.slice al n cl) n xs:=sq hl _ _ ar;have a4:dp G w (w.setCell ⟨B,3,x?⟩ (n? i? ((last:Int)+1))):=(dp.refl G w).setCell aS;generalize w.setCell ⟨B,3,x?⟩ (n? i? ((last:Int)+1))=W1 at *;clear hL hl HB h3 bn;have bo:=dq ak 3;go_loop [4,5] (λv i=>∃(k:Nat)(s:ByteArray),k<=last+1/\i=n? i? k/\v=s? s/\s.size=4+k) (λ_ i=>last+1-(intOf i).toNat)
 case atStart=>exact⟨0,_,hV _,q?,q?,q?⟩
 case round=>
  obtain⟨k,s,hk,rfl,rfl,aV⟩:=hrel;have HS:mi _:=aV;have bp:s.size<=4294967296:=o!;clear aV;by_cases aD:k<last+1
  .go_wp2;go_round
   case rel=>refine⟨k+1,_,o!,by go_num,q?,?_⟩;have:=HS.out;go_light;rw[og];show s.size+1=_;omega
   case measure=>simp[intOf];omega
  have bq:k=last+1:=o!;subst bq;clear aD hk HS;have aW:s=⟨a? s.1.1⟩:=by apply od;simp
  rw[aW];generalize s.1.1=m at *;clear aW bp;have bJ:l? xs=n:=by have:=hl1.1;omega
  go_wp2_with fail;go_loopw [6] (λi wr=>∃k:Nat,k<=n/\i=n? i? k/\wr.ownsRow 0 9 1 (.slice al n cl) n (bZ k (nd m)++xs.drop k)/\dp (λq=>(Value.slice al n cl).ownBlock=y? q) W1 wr) (λi _=>n-(intOf i).toNat)
  case atStart=>exact⟨0,hV _,q?,u! hl1,dp.refl _ _⟩
  case round=>
   obtain⟨k,hk,rfl,ah,ae⟩:=hrel;by_cases aD:k<n
   .obtain⟨bl,ol,rfl,a5⟩:=fy ah k xs[k] (by rw[cU i!];simp)
    have br:ol=0:=by
     obtain⟨he,_⟩|⟨g',b6,b7,he,_⟩:=ah.2
     simp at he;simp only[oi,kc,Addr.mk.injEq]at he;exact he.1.2.1
    subst br;rw[hX]at a5;have bK:=nA ah k;have hl2:=sy ah k (nd m) aD
    have HX:mi ((bZ k (nd m)++xs.drop k).set k (nd m)=bZ (k+1) (nd m)++xs.drop (k+1)):=by exact N0 xs (nd m) k o!
    rw[HX.out]at hl2;have hf2:dp (λq=>(Value.slice (y? ⟨bl,0,x?⟩) n cl).ownBlock=y? q) W1 (wr.setCell ⟨bl,k,x?⟩ (nd m)):=ae.setCell rfl;go_wp2;go_roundw
    case rel=>exact⟨k+1,o!,by go_num,hl2,hf2⟩
    case measure=>simp[intOf];omega
   have bt:k=n:=o!;subst bt
   have au:wr.ownsRow 0 9 1 (.slice al k cl) k (bZ k (nd m)):=by
    have e:bZ k (nd m)++xs.drop k=bZ k (nd m):=by rw[List.drop_eq_nil_of_le o!];simp
    rw[e]at ah;exact ah
   have ab:lT wr D B vl vm us ms:=aj.stay ae.size (λq U=>ae.block q (aj.yP q U) (λe=>a8 q e U))
    (λq U=>ae.block q (aj.ol.lt q U).2 (λe=>by
      obtain h1|h1:=tk hl1 aj.ol d!
      rw[h1]at e;simp at e
      exact h1 (by rw[e,U])))
    (λq U=>ae.block q (aj.om.lt q U).2 (λe=>a9 q e U))
   have aX:B<W1.1.size:=by by_cases hB:B<W1.1.size;exact hB;rw[m' o!]at ak;simp at ak
   have aE:wr.1[B]?=y? (c? #[va,vl,vm,n? i? ((last:Int)+1)] 74 (0,0)):=by rw[ae.block B aX ar];exact ak
   have a6:dp G w wr:=a4.trans ae (λq _ U=>aC q U)
   obtain⟨D1,aY,aZ,ba,bc⟩:∃D1:Nat->Prop,lT wr D1 B vl vm us ms/\NK wr D1 (.slice al k cl) k m/\(∀q,D1 q->D q\/(Value.slice al k cl).ownBlock=y? q)/\UF (.slice al k cl) k m us ms:=by
    refine⟨λq=>D q\/(Value.slice al k cl).ownBlock=y? q,⟨ab.ol,ab.om,?_,?_,?_,?_,?_⟩,⟨au,λq U=>Or.inr U⟩,λq U=>U,?_⟩;intro q U W;obtain W|W:=W
    exact ab.dl q U W;obtain h1|h1:=tk au ab.ol d!
    rw[h1]at W;simp at W;exact h1 (by rw[W,U]);intro q U W;obtain W|W:=W
    exact ab.dm q U W;exact a9 q W U;intro W;obtain W|W:=W
    exact ab.dB W;exact ar W;intro q W;obtain W|W:=W
    exact ab.yP q W;exact(au.lt q W).2;intro i u mm hu bu;exact(ab.each i u mm hu bu).stay (λ_ _=>rfl) (λ_ hk=>Or.inl hk);intro i u hu bv bw;exfalso
    have bd:i<l? us:=by by_cases bd:i<l? us;exact bd;rw[cz o!]at hu;simp at hu
    obtain⟨_,_,hf⟩:=ab.each i u ms[i] hu (cj o!)
    cases aF:u.ownBlock with
    |none=>exact bv aF|some q=>exact a8 q (by rw[<-bw,aF]) (hf q aF)
   have HK:mi (KS w G (λq=>D q\/(Value.slice al k cl).ownBlock=y? q) (λq=>vl.ownBlock=y? q) (λq=>vm.ownBlock=y? q) B va ((last:Int)+1) m wr D1 vl vm (.slice al k cl) k us ms):=
    ⟨aE,aY,az,aZ,bc,a6,aS,λq U=>Or.inl U,λq U=>Or.inl U,λq U=>Or.inl (aC q U),aT,aU,λq U=>Or.inl (ba q U)⟩
   clear ab aj hl1 ah ae a4 ak bo au a8 a9 ar aY aZ ba bc a6 aT aU aC az;have aG:=dq aE 1;clear aE;go_wp2_with (at_builtin;go_must (refine dW _ q? _ _ 72 q? 0 31 i8 (.slice x? 0 0) 24 l0 aO aP aQ aR q? _ _ _ q? (HK.lists.ol.alloc _) _ [.slice al k cl] q? ?a0 ?a00 ?a1 ?a2 ?a3 ?_))
   case a0=>go_light;exact Rd.one (km q?)
   case a00=>intro u hu;simp at hu;subst hu;rfl
   case a1=>simp;omega
   case a2=>simp[gd];omega
   case a3=>exact hV _
   intro vl1 w3 av aH aI;obtain⟨bL,bM,rfl,a5⟩:=dH av;have O:=HK.Ws av aH aI;have am:=dq O.1 1;have an:=dP O.1 1;have ao:=dq O.1 2;have ap:=O.2.1.om;have ai:l? ms<=17179869184:=by have:=HK.len;omega
   clear O aG;go_wp2_with (at_builtin;go_must (refine dW _ q? _ _ 31 q? 0 9 i0 (s? ⟨#[]⟩) 16 ln hi a' aA aB q? _ _ _ q? (ap.alloc _) _ [nd m] q? ?b0 ?b00 ?b1 ?b2 ?b3 ?_))
   case b0=>go_light;exact Rd.one (km i!)
   case b00=>intro u hu;simp at hu;subst hu;rfl
   case b1=>simp;omega
   case b2=>simp[gd];omega
   case b3=>exact hV _
   intro bN w5 aJ be bf;obtain⟨bO,bP,rfl,b8⟩:=dH aJ;have ac:=HK.push av aH aI aJ be bf;have b9:=dq ac.1 2;have b':=dP ac.1 2;have bg:=ac.2;have HK2':mi (KS w G (λq=>D q\/(Value.slice al k cl).ownBlock=y? q) (λq=>vl.ownBlock=y? q) (λq=>vm.ownBlock=y? q) B va ((last:Int)+1) m _ D1 _ _ (.slice al k cl) k (us++[.slice al k cl]) (ms++[m])):=bg;clear ac bg HK ap ai av aH aI aJ be bf am an ao;go_wp2_with fail;go_loopw [1,7] (λl' i wx=>∃(j:Nat)(D':Nat->Prop)(af ag:v?)(aa:List v?)(ad:List Wd),j<=8/\i=n? i? j/\l? aa=l? us+1+j/\KS w G (λq=>D q\/(Value.slice al k cl).ownBlock=y? q) (λq=>vl.ownBlock=y? q) (λq=>vm.ownBlock=y? q) B va ((last:Int)+1) m wx D' af ag l' (k+j) aa ad) (λ_ i _=>8-(intOf i).toNat)
   case atStart=>exact⟨0,D1,_,_,_,_,hV _,q?,i!,HK2'⟩
   case round=>
    obtain⟨j,D',af,ag,aa,ad,hj,rfl,bh,Y⟩:=hrel;obtain⟨ax,cx,rfl,bQ⟩:=dH Y.cur.row;have HU:mi _:=bh;have bA:l? aa<=17179869193:=o!;clear bh;by_cases bB:j<8
    .have HK:mi _:=Y;have a7:=Y.cur.row;clear Y HK2';go_wp2_with (at_builtin;go_must (refine wb _ q? _ _ 31 q? 0 9 i0 (s? ⟨#[]⟩) 16 ln hi a' aA aB q? _ _ _ q? (a7.alloc _) _ [nd m] q? ?e0 ?e00 ?e1 ?e2 ?e3 ?_))
     case e0=>go_light;exact Rd.one (km q?)
     case e00=>intro u hu;simp at hu;subst hu;rfl
     case e1=>simp;omega
     case e2=>simp[gd];omega
     case e3=>exact hV _
     intro lx bR aK bi bj;obtain⟨D2,aq⟩:=HK.more aK bi bj;obtain⟨ay,cy,rfl,bS⟩:=dH aK;clear HK a7 aK bi bj;have aG:=dq aq.1 1;have HK:mi _:=aq;clear aq;go_wp2_with (at_builtin;go_must (refine dW _ q? _ _ 72 q? 0 31 i8 (.slice x? 0 0) 24 l0 aO aP aQ aR q? _ _ _ q? (HK.lists.ol.alloc _) _ [.slice ay (k+j+1) cy] q? ?f0 ?f00 ?f1 ?f2 ?f3 ?_))
     case f0=>go_light;exact Rd.one (km q?)
     case f00=>intro u hu;simp at hu;subst hu;rfl
     case f1=>simp;omega
     case f2=>simp[gd];omega
     case f3=>exact hV _
     intro vl1 w6 aw aL aM;obtain⟨bT,bU,rfl,bC⟩:=dH aw;have O:=HK.Ws aw aL aM;have am:=dq O.1 1;have an:=dP O.1 1;have ao:=dq O.1 2;have ap:=O.2.1.om;have ai:l? ad<=17179869193:=by have:=HK.len;omega
     clear O aG;go_wp2_with (at_builtin;go_must (refine dW _ q? _ _ 31 q? 0 9 i0 (s? ⟨#[]⟩) 16 ln hi a' aA aB q? _ _ _ q? (ap.alloc _) _ [nd m] q? ?g0 ?g00 ?g1 ?g2 ?g3 ?_))
     case g0=>go_light;exact Rd.one (km i!)
     case g00=>intro u hu;simp at hu;subst hu;rfl
     case g1=>simp;omega
     case g2=>simp[gd];omega
     case g3=>exact hV _
     intro bV w7 aN bk bm;obtain⟨bW,bX,rfl,bD⟩:=dH aN;have ac:=HK.push aw aL aM aN bk bm;have bE:=dq ac.1 2;have bF:=dP ac.1 2;have b4:mi (KS w G (λq=>D q\/(Value.slice al k cl).ownBlock=y? q) (λq=>vl.ownBlock=y? q) (λq=>vm.ownBlock=y? q) B va ((last:Int)+1) m (w7.setCell ⟨B,2,x?⟩ _) D2 _ _ (.slice ay (k+j+1) cy) (k+j+1) (aa++[.slice ay (k+j+1) cy]) (ad++[m])):=ac.2;clear ac HK ap ai aw aL aM aN bk bm am an ao;go_wp2;go_roundw
     case rel=>exact⟨j+1,D2,_,_,_,_,o!,by go_num,by have:=HU.out;simp;omega,b4⟩
     case measure=>simp[intOf];omega
    have b5:j=8:=o!;subst b5;go_wp2;go_end0;refine⟨q?,D',af,ag,aa,ad,?_,Y.lists,Y.len,?_,?_,?_,Y.gl,Y.gm⟩;have:=Y.1;simpa using this;have:=HU.out;omega;have:=Y.frame;rw[HG.out]at this;exact this;intro q U;rcases Y.dd q U with(h1|h1)|h1
    exact Or.inl h1;exact Or.inr (Or.inl h1);exact Or.inr (Or.inr h1)
def CM(c:Int)(n:Nat):Nat:=((if c<0 then -(c+1)else c) % (n:Int)).toNat
def EL(c)(n)(h:0<n):CM c n<n:=by unfold CM;have O:0<=(if c<0 then -(c+1)else c) % (n:Int):=oo _ o!;have U:(if c<0 then -(c+1)else c) % (n:Int)<(n:Int):=Int.emod_lt_of_pos _ o!;omega
def QI(c)(n:Nat)(w)(W : -9223372036854775808<=c)(Y:c<=9223372036854775807)(hn:0<n)(aa:n<=1000000) :
  gg prog 75 #[n? i? c,n? i? n] w λe w'=>e=e? (n? i? (CM c n))/\w=w':=by
 have hp:=EL c n hn
 have O:mi ((CM c n:Int)=(if c<0 then -(c+1)else c) % (n:Int)):=by show _=_;unfold CM;have h1:0<=(if c<0 then -(c+1)else c) % (n:Int):=oo _ o!;omega
 have ab:((n:Int)==0)=f?:=j!;by_cases U:c<0
 .go_enter func75,ntmps75;go_wp2;go_ret;refine⟨dQ ?_,q?⟩;rw[O.out,if_pos o!,<-Int.neg_tmod,Int.tmod_eq_emod_of_nonneg o!]
 go_enter func75,ntmps75;go_wp2;go_ret;refine⟨dQ ?_,q?⟩;rw[O.out,if_neg o!]
def yT(c)(w):gg prog 104 #[n? i? c] w λe w'=>e=e? (n? i? c)/\w=w':=by go_enter func104,ntmps104;go_wp2;go_ret;exact⟨q?,q?⟩
def Qk(va vb)(l:List Wd)(w)(ha:Rd w va (dy l))(hb:Rd w vb (dy l))(_hl:l? l<=1000000) :
  gg prog 112 #[va,vb] w λe w'=>e=e? (.bool t?)/\∃n,w'=w.drewN n:=by
 obtain⟨aa,ca,rfl,Y,hma,O⟩:=ha;obtain⟨ab,cb,rfl,ac,hmb,U⟩:=hb;rw[dZ]at Y ac⊢;unfold gd at hma hmb;have HA:mi _:=O;have HB:mi _:=U;clear O U;go_enter func112,ntmps112;go_wp2;go_loopw [5] (λi wr=>∃k m:Nat,k<=l? l/\i=n? i? k/\wr=w.drewN m) (λi _=>l? l-(intOf i).toNat)
 case atStart=>exact⟨0,0,hV _,q?,q?⟩
 case round=>
  obtain⟨k,m,hk,rfl,rfl⟩:=hrel;by_cases W:k<l? l
  .obtain⟨b1,o1,rfl,ad⟩:=HA.out k _ (lK l k W);obtain⟨b2,o2,rfl,ae⟩:=HB.out k _ (lK l k W);go_wp2_with fail;go_quiet (fail);go_wp2;go_roundw
   case rel=>exact⟨k+1,_,o!,by go_num,q?⟩
   case measure=>simp[intOf];omega
  go_wp2;go_ret;exact⟨q?,_,q?⟩
variable {xs:List v?} {base e size:Nat} {w:w?}
def ux{P}(w){ops rest o a Q}(aj:o.guard=x?)(s x)(t)
  (ho:o.op=.call {callee:=.builtin .append,args:=#[s,x],argTypes:=#[t,t]})
  (base) (e) (i) (z) (size bytes) (ht:P.underlying t=y? (.slice e)) (hi:P.info? e=y? i) (hz:i.zero=y? z)
  (O:i.size=size) (ae:i.bytes=bytes) (ak:z.cells.size=size) (al:0<size)
  (v) (n) (xs) (hs:a.eval s=v) (Y:w.ownsRow base e size v n xs)
  (ad) (m c) (news) (hx:a.eval x=.slice (y? ad) m c) (hl:l? news=m*size) (hm:0<m) (U:∀j u,news[j]?=y? u->w.cell? (ad.add j)=y? u) (h1:∀u∈news,u.oneCell'=t?)
  (af:n+m<=gd) (W:(n+m)*bytes<=140737488355328) (ag:base<=w.1.size)
  (h:∀v' w',w'.ownsRow base e size v' (n+m) (xs++news)->w.grownBy w' v.ownBlock->(v'.ownBlock=v.ownBlock\/v'.ownBlock=y? w.1.size)->gi P ops Q rest (a.put o.dst v') w'):gi P ops Q (o::rest) a w:=by
 refine gj aj λ_ hK=>?_;obtain⟨v',w',hr,h2,h3,h4⟩:=go (P:=P) w base t _ e i z size bytes ht hi hz O ae ak al v n xs Y ad m c news hl U h1 af W ag
 have ah:v'.ownBlock=v.ownBlock\/v'.ownBlock=y? w.1.size:=by
  have ac:l? news=m*i.size:=by rw[O];exact hl
  obtain⟨rfl,rfl⟩|⟨g,cap,cur,rfl,ao,hg,ap,aq,am,an⟩:=Y.2
  have aa:=g7 (P:=P) w t o.type e i z ht hi hz ad m c news ac U hm (by simp only[gd]at af;omega) (by rw[ae];simp only[hX]at W;omega);rw[aa]at hr;simp only[lE]at hr;exact Or.inr (by rw[<-hr.1];rfl);by_cases ab:n+m<=cap;have ai:n*i.size+l? news<=cur.size:=by rw[ac,am,O,<-i7];exact hY _ ab
  have aa:=g5 (P:=P) w t o.type e i ht hi g n cap cur hg ad m c news ac U h1 ab ai;rw[aa]at hr;simp only[lE]at hr;exact Or.inl (by rw[<-hr.1];rfl);have holds:=Y.cells (g:=g) rfl;have aa:=g6 (P:=P) w t o.type e i z ht hi hz _ n cap xs (by rw[O];exact Y.1) holds ad m c news ac U o! (by simp only[gd]at af;omega) (by rw[ae];exact g8 o! W);rw[aa]at hr;simp only[lE]at hr;exact Or.inr (by rw[<-hr.1];rfl)
 unfold oj g9;simp only[ho,hI,invoke,builtin,n7,n6,m4,cM,ck,cD,hs,hx,hr];exact hK _ _ (h v' w' h2 h3 ah)
def dG{w':w?}(h:w.ownsRow base e size v n xs)(hb:∀k,v.ownBlock=y? k->w'.1[k]?=w.1[k]?):w'.ownsRow base e size v n xs:=by
 obtain⟨W,O⟩:=h;refine⟨W,?_⟩;obtain O|⟨g,cap,cur,rfl,U,Y,r⟩:=O
 exact Or.inl O;exact Or.inr ⟨g,cap,cur,q?,U,by rw[hb g rfl];exact Y,r⟩
def fP{b1 b2 e1 e2 s1 s2 n1 n2:Nat}{v1 v2 x1 x2}(h1:w.ownsRow b1 e1 s1 v1 n1 x1)(h2:w.ownsRow b2 e2 s2 v2 n2 x2)(Y:e1≠e2)(k)(O:v1.ownBlock=y? k)(U:v2.ownBlock=y? k):False:=by
 obtain⟨rfl,_⟩|⟨g,cap,cur,rfl,_,hg,_⟩:=h1.2
 simp[md]at O;obtain⟨rfl,_⟩|⟨g2,aa,ab,rfl,_,W,_⟩:=h2.2
 simp[md]at U;simp only[md,kc]at O U;rw[O]at hg;rw[U,hg]at W;simp only[kc,ob]at W;exact Y W.2.1
def fc{b cs t fz}(h:w.1[b]?=y? (c? cs t fz))(Y:w.ownsRow base e size v n xs)(O:t≠e):v.ownBlock≠y? b:=by
 obtain⟨rfl,_⟩|⟨g,cap,cur,rfl,_,U,_⟩:=Y.2
 simp[md];intro W;simp only[md,kc]at W;rw[W,h]at U;simp only[kc,ob]at U;exact O U.2.1
def dL(h:w.ownsRow base e size v n xs):∃a cap,v=.slice a n cap/\n<=cap:=by
 obtain⟨rfl,rfl⟩|⟨g,cap,cur,rfl,_,_,O,_⟩:=h.2
 exact⟨x?,0,q?,hW _⟩;exact⟨_,cap,q?,O⟩
variable {cap s:Nat} {a:Option Addr}
def iu(w:w?)(s:Nat)(v:v?)(n:Nat)(xs:List v?):Prop:=
 ∃a cap,v=.slice a n cap/\n<=cap/\cap<=gd/\l? xs=n*s/\∀j u,xs[j]?=y? u->∃b off,a=y? ⟨b,off,x?⟩/\w.cell? ⟨b,off+j,x?⟩=y? u
def iu.eL{base e:Nat}(h:w.ownsRow base e s v n xs):iu w s v n xs:=by
 have W:=h;obtain⟨U,h⟩:=h;obtain⟨rfl,rfl⟩|⟨g,cap,cur,rfl,_,hg,Y,O,aa,ab⟩:=h
 have:=c7 (u! U);subst this;exact⟨x?,0,q?,hW _,o!,i!,i!⟩;refine⟨y? _,cap,q?,Y,O,U,λj u hj=>⟨g,0,q?,?_⟩⟩;have:=W.cells (g:=g) q? j u hj;rwa [nv]at this
def iu.nil(w)(s):iu w s (.slice x? 0 0) 0 []:=⟨x?,0,q?,hW _,o!,i!,i!⟩
def iu.later(h:iu w s v n xs)(U:∀a u,w.cell? a=y? u->w'.cell? a=y? u):iu w' s v n xs:=by obtain⟨a,cap,W,Y,h2,hl,hr⟩:=h;refine⟨a,cap,W,Y,h2,hl,λj u hj=>?_⟩;obtain⟨b,off,e,O⟩:=hr j u hj;exact⟨b,off,e,U _ _ O⟩
def iu.below(h:iu w s v n xs)(hb:B? w w'):iu w' s v n xs:=h.later λ_ _ O=>ge hb O
def iu.take(h:iu w s (.slice a n cap) n xs)(k)(W:k<=n):iu w s (.slice a k cap) k (xs.take (k*s)):=by obtain⟨a',U,Y,h1,h2,hl,hr⟩:=h;obtain⟨rfl,_,rfl⟩:=Y;have aa:k*s<=n*s:=hY _ W;refine⟨a,cap,q?,o!,h2,j!,λj u O=>hr j u ?_⟩;rw[cG]at O;split at O;exact O;simp at O
def iu.QR{b off}(h:iu w s (.slice (y? ⟨b,off,x?⟩) n cap) n xs)(k)(hk:k<=n):iu w s (.slice (y? ⟨b,off+k*s,x?⟩) (n-k) (cap-k)) (n-k) (xs.drop (k*s)):=by obtain⟨a',O,Y,h1,h2,hl,hr⟩:=h;obtain⟨rfl,_,rfl⟩:=Y;refine⟨_,cap-k,q?,o!,o!,by rw[dr,hl,Nat.sub_mul],λj u U=>⟨b,off+k*s,q?,?_⟩⟩;rw[dh]at U;obtain⟨b',W,e,hc⟩:=hr _ u U;obtain⟨rfl,rfl,_⟩:=e;rw[i3];exact hc
def iu.empty{c}(O:n=0)(U:c<=gd):iu w s (.slice a n c) n []:=by subst O;exact⟨a,c,q?,hV _,U,i!,i!⟩
def rI{P}(w)(base)(t ty e)(i)(z)(size bytes)(ht:P.underlying t=y? (.slice e))(hi:P.info? e=y? i)(hz:i.zero=y? z)
  (U:i.size=size) (ae:i.bytes=bytes) (an:z.cells.size=size) (aj:0<size)
  (v) (n) (xs) (O:w.ownsRow base e size v n xs)
  (x) (m) (news) (hx:iu w size x m news) (h1:∀u∈news,u.oneCell'=t?)
  (W:(n+m)*bytes<=140737488355328) (af:n+m<=gd) (ag:base<=w.1.size) :
  ∃v' w',(mp #[t,t] ty #[v,x]).run P w=.ok v' w'/\w'.ownsRow base e size v' (n+m) (xs++news)/\w.grownBy w' v.ownBlock/\(v'.ownBlock=v.ownBlock\/(v'.ownBlock=y? w.1.size/\Below w.1.size w w')):=by
 obtain⟨a,cap,rfl,hc,hm,hl,ak⟩:=hx;by_cases ao:m=0;subst ao;have hn:news=[]:=c7 (u! hl);subst hn;obtain⟨b,c,rfl,ah⟩:=dL O
 have hr:(mp #[t,t] ty #[.slice b n c,.slice a 0 cap]).run P w=.ok (.slice b n c) w:=by
  cases a with
  |none=>exact jY (P:=P) w t ty e i ht hi b n c cap ah|some ad=>cases b<;>simp[mp,hO ht,sizeOf,typeInfo,hi,mv,mr,ah,hQ,loadCells,loadCellsFrom]
 exact⟨_,w,hr,u! O,World.grownBy.refl _ _,Or.inl q?⟩;have al:0<l? news:=by rw[hl];exact Nat.mul_pos o! aj
 obtain⟨b,off,ha,_⟩:=ak 0 news[0] (cj al);subst ha
 have Y:∀j u,news[j]?=y? u->w.cell? ((⟨b,off,x?⟩:Addr).add j)=y? u:=by intro j u hj;obtain⟨b',ar,he,ai⟩:=ak j u hj;simp only[kc,Addr.mk.injEq]at he;obtain⟨rfl,rfl,_⟩:=he;rw[nv];exact ai
 obtain⟨v',w',hr,h2,h3,_⟩:=go (P:=P) w base t ty e i z size bytes ht hi hz U ae an aj v n xs O ⟨b,off,x?⟩ m cap news hl Y h1 af W ag;refine⟨v',w',hr,h2,h3,?_⟩;have ac:l? news=m*i.size:=by rw[U];exact hl
 obtain⟨rfl,rfl⟩|⟨g,c,cur,rfl,au,hg,ah,av,ap,aq⟩:=O.2
 have aa:=g7 (P:=P) w t ty e i z ht hi hz ⟨b,off,x?⟩ m cap news ac Y o! (by simp only[gd]at af;omega) (by rw[ae];simp only[hX]at W;omega);rw[aa]at hr;simp only[lE]at hr;exact Or.inr ⟨by rw[<-hr.1];rfl,by rw[<-hr.2];exact((kd _ _).drew).alloc (hW _) _⟩;by_cases ab:n+m<=c;have am:n*i.size+l? news<=cur.size:=by rw[ac,ap,U,<-i7];exact hY _ ab
 have aa:=g5 (P:=P) w t ty e i ht hi g n c cur hg ⟨b,off,x?⟩ m cap news ac Y h1 ab am;rw[aa]at hr;simp only[lE]at hr;exact Or.inl (by rw[<-hr.1];rfl);have holds:∀j u,xs[j]?=y? u->w.cell? ((⟨g,0,x?⟩:Addr).add j)=y? u:=O.cells (g:=g) rfl;have aa:=g6 (P:=P) w t ty e i z ht hi hz ⟨g,0,x?⟩ n c xs (by rw[U];exact O.1) holds ⟨b,off,x?⟩ m cap news ac Y o! (by simp only[gd]at af;omega) (by rw[ae];exact g8 o! W);rw[aa]at hr;simp only[lE]at hr;exact Or.inr ⟨by rw[<-hr.1];rfl,by rw[<-hr.2];exact((kd _ _).drew).alloc (hW _) _⟩
def gQ{P}(w){ops rest o a Q}(ab:o.guard=x?)(s x)(t)
  (ho:o.op=.call {callee:=.builtin .append,args:=#[s,x],argTypes:=#[t,t]})
  (base) (e) (i) (z) (size bytes) (ht:P.underlying t=y? (.slice e)) (hi:P.info? e=y? i) (hz:i.zero=y? z)
  (U:i.size=size) (ac:i.bytes=bytes) (ad:z.cells.size=size) (ae:0<size)
  (v) (n) (xs) (hs:a.eval s=v) (aa:w.ownsRow base e size v n xs)
  (y) (m) (news) (hx:a.eval x=y) (hy:iu w size y m news) (h1:∀u∈news,u.oneCell'=t?)
  (O:(n+m)*bytes<=140737488355328) (af:n+m<=gd) (W:base<=w.1.size)
  (h:∀Y w',w'.ownsRow base e size Y (n+m) (xs++news)->w.grownBy w' v.ownBlock->(Y.ownBlock=v.ownBlock\/(Y.ownBlock=y? w.1.size/\Below w.1.size w w'))->gi P ops Q rest (a.put o.dst Y) w'):gi P ops Q (o::rest) a w:=by
 refine gj ab λ_ hK=>?_;obtain⟨Y,w',hr,h2,h3,h4⟩:=rI (P:=P) w base t o.type e i z size bytes ht hi hz U ac ad ae v n xs aa y m news hy h1 O af W;unfold oj g9;simp only[ho,hI,invoke,builtin,n7,n6,m4,cM,ck,cD,hs,hx,hr];exact hK _ _ (h Y w' h2 h3 h4)
open Go.Maps
def PW.stay{w w':w?}{F b vB vS ts n vK kn}(h:PW w F b vB vS ts B n vK kn)(hb:∀k,F k->w'.1[k]?=w.1[k]?):PW w' F b vB vS ts B n vK kn where
 blk:=by rw[hb b h.fb];exact h.blk
 fb:=h.fb;fB:=h.fB;cnt:=h.cnt.stay (hb B h.fB);room:=h.room;row:=dK h.row (λk O=>hb k (h.qc k O));qc:=h.qc;perm:=h.perm;ok:=h.ok;yW:=h.yW
def O2(w):gg prog 64 #[] w λe w'=>∃B:Nat,e=e? (.agg #[.map (y? B),.slice x? 0 0])/\w.1.size<=B/\mu w' B 0 (λ_=>0)/\B? w w':=by have O:=@run_makeMap prog;go_enter func64,ntmps64;go_wp2;refine bodyPost_ret (v:=.agg #[.map (y? (w.1.size+1)),.slice x? 0 0]) (by simp[results,results64,go_sem]) q? ⟨_,q?,o!,?_,((kd ..).alloc (hW _) _).alloc i! _⟩;have h:=mu.made (w.alloc (c? #[.map (y? (w.1.size+1)),.slice x? 0 0] 88));have e:(w.alloc (c? #[.map (y? (w.1.size+1)),.slice x? 0 0] 88)).1.size=w.1.size+1:=i!;rw[e]at h;exact h
end
section
open Go.RowKit
def Hs(O W N M K:Int)(S T:ByteArray)(L:v?)(made:Bool):Array v?:=
 #[n? i? O,n? i? W,n? i? N,n? i? M,n? i? K,s? S,s? T,L,.bool made]
def rD:v?:=.slice x? 0 0
section
variable {pe:w?->(Nat->Prop)->Nat->List (List Wd)->Prop}
def JE{w:w?}{x y t b}(hb:b=w.1.size):∀j u,[x,y][j]?=y? u->(w.alloc (c? #[x,y] t)).cell? ((⟨b,0,x?⟩:Addr).add j)=y? u:=by
 intro j u O;rw[nv,ko _ _ _ _ hb];match j,O with
 |0,O=>simpa using O|1,O=>simpa using O|j+2,O=>simp at O
def Qc:(prog.info? 122).map (λi=>(i.zero,i.size,i.bytes))=y? (y? (.agg #[p? x?,p? x?]),2,16):=by kernel_rfl
end
open Go.Maps
def E3(most)(w):gg prog 47 #[n? i? most] w λe w'=>e=e? (.bool (decide (1<=most/\most<=20)))/\w=w':=by
 by_cases O:1<=most
 .by_cases U:most<=20
  .rw[decide_eq_true ⟨O,U⟩];go_wp2;go_ret;exact⟨dT i!,q?⟩
  rw[decide_eq_false _];go_wp2;go_ret;exact⟨dT i!,q?⟩
 rw[decide_eq_false (λh=>O h.1)];go_wp2;go_ret;exact⟨dT i!,q?⟩
variable {D:DataW v?} {m:List (Wd×v?)} {r:Nat} {row:Option Nat} {e t:hJ} {w':w?}
def my(v:v?):Option (DataW v?×List MemPlace):=y? (.held v,[])
structure NW(D:DataW v?)(l:List (Wd×v?)):Prop where
 nodup:(l.map ot).Nodup
 short:∀p∈l,l? p.1<=gd
 size:nU D=l? l
 has:∀x:Wd,oa D (.string x)=l.any λp=>p.1==x
 at_:∀p∈l,∀z,D.atKey (.string p.1) z=.held p.2
def dU(P:P?)(k:hJ)(w:w?)(B:Nat)(l:List (Wd×v?)):Prop:=∃D:DataW v?,w.ownsMap P k my B l.length D/\NW D l
def sD(l:List (Wd×v?))(x:Wd)(v:v?):List (Wd×v?):=(l.filter λp=>p.1 != x)++[(x,v)]
def GW{α:Type}{l m:List α}(h:l.Perm m)(f):l.any f=m.any f:=by rw[jt];simp only[cv];exact⟨λ⟨x,O,U⟩=>⟨x,h.mem_iff.1 O,U⟩,λ⟨x,O,U⟩=>⟨x,h.mem_iff.2 O,U⟩⟩
def NW.perm{l}(h:NW D l)(O:l.Perm m):NW D m where
 nodup:=(O.map ot).nodup_iff.1 h.nodup
 short:=λp hm=>h.short p (O.mem_iff.2 hm);size:=by rw[h.size,O.length_eq]
 has:=λx=>by rw[h.has x,GW O]
 at_:=λp hm=>h.at_ p (O.mem_iff.2 hm)
def Ao{P k}{w:w?}{B n R}(h:w.ownsMap P k R B n D):w.ownsMap P k R B (nU D) D:=by obtain⟨es,clock,hb,F,_,rfl⟩:=h;exact⟨es,clock,hb,F,by simp[nU,length_sorted],q?⟩
section
variable {P:P?} {k:hJ} {w:w?} {B:Nat} {l:List (Wd×v?)}
def dU.perm(h:dU P k w B l)(O:l.Perm m):dU P k w B m:=by obtain⟨D,U,W⟩:=h;exact⟨D,by rw[<-O.length_eq];exact U,W.perm O⟩
def dU.lt(h:dU P k w B l):B<w.1.size:=by obtain⟨D,O,_⟩:=h;exact O.lt
def dU.nodup(h:dU P k w B l):(l.map ot).Nodup:=by obtain⟨D,_,O⟩:=h;exact O.nodup
def dU.stay(h:dU P k w B l)(hb:w'.1[B]?=w.1[B]?):dU P k w' B l:=by obtain⟨D,⟨es,clock,O,U⟩,W⟩:=h;exact⟨D,⟨es,clock,hb.trans O,U⟩,W⟩
def dU.below(h:dU P k w B l)(hb:B? w w'):dU P k w' B l:=h.stay (hb.block B h.lt)
def dU.kept(h:dU P k w B l)(U:w.grownBy w' row)(O:y? B≠row):dU P k w' B l:=h.stay (U.block B h.lt O)
def dU.made(w:w?):dU P k (w.alloc (.map #[] 0)) w.1.size []:=
 ⟨.map [],kv ..,⟨List.Pairwise.nil,nofun,q?,λ_=>rfl,nofun⟩⟩
def K1(O:P.underlying k=y? .string)(x:Wd)(U:l? x<=gd):hP P k (.string ⟨a? x⟩)=y? (.string x):=by have:=WideMaps.keyOf_string_mk (P:=P) (k:=k) O (s:=⟨a? x⟩) (by show x.toArray.size<=gd;simpa using U);simpa using this
def nS(l:List (Wd×v?))(x:Wd)(z:v?):v?:=match l.find? λp=>p.1==x with
 |some p=>p.2|none=>z
def dU.look{z}(h:dU P k w B l)(hk:P.underlying k=y? .string)(ht:P.underlying t=y? (.map k e))(hz:(zeroValue e).run P w=.ok z w)(x:Wd)(hx:x.length<=gd) :
  (Instr.lookup t (.map (y? B)) (.string ⟨a? x⟩) f?).run P w=.ok (nS l x z) w/\(Instr.lookup t (.map (y? B)) (.string ⟨a? x⟩) t?).run P w=.ok (.tuple #[nS l x z,.bool (l.any λp=>p.1==x)]) w:=by
 obtain⟨D,h1,O⟩:=h;have K:=nL hk;have jN:=K1 hk x hx;obtain⟨v1,p1,r1,U⟩:=h1.lookup K ht hz (zd:=.held z) (zp:=[]) q? jN;obtain⟨v2,p2,r2,W⟩:=h1.look_ok K ht hz (zd:=.held z) (zp:=[]) q? jN
 have Y:D.atKey (.string x) (.held z)=.held (nS l x z):=by
  unfold nS
  cases hf:l.find? _ with
  |none=>
   have:oa D (.string x)=f?:=by rw[O.has x,dj];intro p hp;simpa using List.find?_eq_none.1 hf p hp
   exact atKey_of_not_has this _
  |some p=>
   have hp:=List.mem_of_find?_eq_some hf;have he:=by simpa using List.find?_some hf
   have:=O.at_ p hp (.held z);rw[he]at this;exact this
 rw[Y]at U W;simp only[my,kc,ny,DataW.held.injEq]at U W;rw[r1,r2,U.1,W.1,O.has x];exact⟨q?,q?⟩
def dU.len(h:dU P k w B l)(O:P.underlying t=y? (.map k e))(ty):(mx #[t] ty #[.map (y? B)]).run P w=.ok (n? i? (l? l)) w:=by obtain⟨D,U,W⟩:=h;rw[U.len O ty,W.size]
def EF(l:List (Wd×v?))(x y)(U:y≠x):(l.filter λp=>p.1 != x).any (λp=>p.1==y)=l.any λp=>p.1==y:=by rw[jt];simp only[cv,bx,beq_iff_eq,bne_iff_ne];constructor;rintro⟨p,⟨W,_⟩,O⟩;exact⟨p,W,O⟩;rintro⟨p,W,O⟩;exact⟨p,⟨W,by rw[O];exact U⟩,O⟩
def P6(x):∀(l:List (Wd×v?)),(l.map ot).Nodup->(l.filter λp=>p.1 != x).length+(if l.any (λp=>p.1==x)then 1 else 0)=l? l:=by
 intro l;induction l with
 |nil=>intro _;rfl|cons p l W=>
  intro O;rw[ck,cN]at O;have h:=W O.2;by_cases e:p.1=x
  have U:l.any (λp=>p.1==x)=f?:=by rw[dj];intro q Y;simp only[beq_iff_eq];intro e2;exact O.1 (bY.2 ⟨q,Y,by rw[e2,e]⟩)
  rw[U]at h;simp[e]at h⊢;exact h;rw[cX,ft];simp only[bne_iff_ne,ne_eq,e,not_false_eq_true,if_true,ct];have:(p.1==x)=f?:=by simpa using e
  rw[this,Bool.false_or];omega
def dU.put(h:dU P k w B l)(hk:P.underlying k=y? .string)(ht:P.underlying t=y? (.map k e))(hn:l.length<gd)(x:Wd)(hx:x.length<=gd)(v) :
  ∃w',(Instr.mapUpdate t (.map (y? B)) (.string ⟨a? x⟩) v).run P w=.ok () w'/\dU P k w' B (sD l x v)/\w.grownBy w' (y? B)/\w'.1.size=w.1.size:=by
 obtain⟨D,h1,O⟩:=h;have K:=nL hk;have jN:=K1 hk x hx;obtain⟨w',hr,ho,U⟩:=h1.store K ht hn jN (d:=.held v) (ps:=[]) (val:=v) rfl;have hT:=h1.tidy K
 have W:nU (D.put (.string x) (.held v))=(sD l x v).length:=by rw[size_put hT,O.has x,O.size];have:=P6 x l O.nodup;unfold sD;rw[cf,en];split at this<;>rename_i hh;rw[if_pos hh];omega;rw[if_neg hh];omega
 refine⟨w',hr,⟨_,by rw[<-W];exact Ao ho,⟨?_,?_,W,?_,?_⟩⟩,U.grown,?_⟩;unfold sD;rw[da,ck,cD,cV];refine⟨O.nodup.sublist ((dg).map _),i!,?_⟩;intro a ha b hb;simp only[c9]at hb;subst hb;obtain⟨p,Y,rfl⟩:=bY.1 ha;have:=(bx.1 Y).2;simpa using this;intro p Y;obtain h|h:=cg.1 Y
 exact O.short p (bx.1 h).1;simp only[c9]at h;subst h;exact hx;intro y;unfold sD;rw[List.any_append];by_cases e:y=x;subst e;rw[has_put_same h1.isMap (show WideAt.IsKeyLit (.string y)from trivial)];simp;rw[has_put_other (by simpa using e),O.has y,EF l x y e];have:(x==y)=f?:=by simpa using λh=>e h.symm
 simp[this];intro p Y z;obtain h|h:=cg.1 Y
 have hm:=bx.1 h;have ab:=by simpa using hm.2
 rw[atKey_put_other (by simpa using ab)];exact O.at_ p hm.1 z;simp only[c9]at h;subst h;rw[atKey_put_same h1.isMap (show WideAt.IsKeyLit (.string x)from trivial)];obtain⟨es,clock,ac,aa,_,rfl⟩:=U;simp[ChangeMaps.setBlock]
def eS(P:P?)(k:hJ)(w:w?)(B r:Nat)(l rest:List (Wd×v?)):Prop:=
 (rest.map ot).Nodup/\(∀p∈rest,p∈l)/\∃D left cnt,w.ranges P k my B r l.length D left cnt/\NW D l/\∀x:Wd,left (.string x)=rest.any λp=>p.1==x
def eS.owns{rest}(h:eS P k w B r l rest):dU P k w B l:=by obtain⟨_,_,D,left,cnt,O,U,_⟩:=h;exact⟨D,O.owns,U⟩
def eS.lt{rest}(h:eS P k w B r l rest):r<w.1.size:=by obtain⟨_,_,D,left,cnt,O,U,_⟩:=h;exact O.lt
def eS.kept{rest}(h:eS P k w B r l rest)(O:w.grownBy w' row)(U:y? B≠row)(W:y? r≠row):eS P k w' B r l rest:=by obtain⟨a,b,D,left,cnt,Y,h2,h3⟩:=h;exact⟨a,b,D,left,cnt,Y.kept O U W,h2,h3⟩
def eS.lj(O:w'.1[B]?=w.1[B]?)(U:w'.1[r]?=w.1[r]?):w'.rangeLeft B r=w.rangeLeft B r:=by unfold World.rangeLeft;rw[O,U]
def dU.range(h:dU P k w B l)(U:P.underlying k=y? .string)(W:P.underlying t=y? (.map k e)) :
  ∃w',(Instr.range t (.map (y? B))).run P w=.ok (p? (y? ⟨w.1.size,0,x?⟩)) w'/\eS P k w' B w.1.size l l/\w.grownBy w' x?/\w'.1.size=w.1.size+1:=by
 obtain⟨D,Y,O⟩:=h;obtain⟨w',hr,r1,r2,r3⟩:=Y.range (nL U) W;exact⟨w',hr,⟨O.nodup,λ_ h=>h,D,_,_,r1,O,O.has⟩,r2,r3⟩
def KG(O:P.underlying k=y? .string){key kl}(h:hP P k key=y? kl):∃x:Wd,key=.string ⟨a? x⟩/\kl=.string x:=by cases key<;>simp[hP,O,mapKey]at h;rename_i s;refine⟨s.1.1,?_,h.2.symm⟩;simp
def SH:∀{l:List (Wd×v?)},(l.map ot).Nodup->∀{a b},a∈l->b∈l->a.1=b.1->a=b:=by
 intro l;induction l with
 |nil=>intro _ a b h;simp at h|cons c l ih=>
  intro O a b U hb e;rw[ck,cN]at O;obtain Y|U:=ce.1 U
  obtain W|hb:=ce.1 hb
  rw[Y,W];exact absurd (bY.2 ⟨b,hb,by rw[<-e,Y]⟩) O.1;obtain W|hb:=ce.1 hb
  exact absurd (bY.2 ⟨a,U,by rw[e,W]⟩) O.1;exact ih O.2 U hb e
def eS.next{rest}(h:eS P k w B r l rest)(hk:P.underlying k=y? .string)(ty) :
  (rest=[]/\(Instr.next (.pointer (y? ⟨r,0,x?⟩)) f? ty).run P w=.ok (.tuple #[.bool f?]) w)\/
  ∃p O w',rest.Perm (p::O)/\(Instr.next (.pointer (y? ⟨r,0,x?⟩)) f? ty).run P w=.ok (.tuple #[.bool t?,.string ⟨a? p.1⟩,p.2]) w'/\eS P k w' B r l O/\w'.rangeLeft B r<w.rangeLeft B r/\
   w.grownBy w' (y? r)/\w'.1.size=w.1.size/\(Instr.entry (.pointer (y? ⟨r,0,x?⟩))).run P w'=.ok (.tuple #[.string ⟨a? p.1⟩,p.2]) w':=by
 obtain⟨hn,U,D,left,cnt,h1,h2,h3⟩:=h;obtain⟨_,hl,hr⟩|⟨key,v,kl,y,w',aa,jN,ad,hv,ae,hr,ab,af,hg,hs,ag⟩:=h1.next (nL hk) ty
 left;refine⟨?_,hr⟩
 cases rest with
 |nil=>rfl|cons p rest=>have:=hl (.string p.1);rw[h3]at this;simp at this
 right;obtain⟨x,rfl,rfl⟩:=KG hk jN;have hx:=ad;rw[h3,cv]at hx;obtain⟨p,hp,Y⟩:=hx;have Y:=by simpa using Y
 subst Y
 have ah:=by have e1:=h2.at_ p (U p hp) (.held v);rw[ae]at e1;simp only[my,kc]at hv;rw[<-hv]at e1;simpa using e1
 subst ah;refine⟨p,rest.filter λq=>q.1 != p.1,w',?_,hr,⟨?_,?_,D,_,aa,ab,h2,λx=>?_⟩,?_,hg,hs,ag⟩;have ac:rest.Nodup:=List.Pairwise.of_map _ (λa b ai e=>ai (by rw[e])) hn;rw[cT ac];intro q;simp only[ce,bx,bne_iff_ne];constructor;intro W;by_cases e:q.1=p.1;left;exact SH hn W hp e;right;exact⟨W,e⟩;rintro(rfl|⟨W,_⟩);exact hp;exact W;rw[cN];refine⟨λh=>?_,ac.sublist dg⟩;have:=(bx.1 h).2;simp at this;exact hn.sublist (dg.map _);exact λq W=>U q (bx.1 W).1;rw[h3];by_cases e:x=p.1;subst e;have:(Lit.string p.1).sameKey (.string p.1)=t?:=by simp[Lit.sameKey]
 rw[this];simp only[Bool.not_true,Bool.and_false];symm;rw[dj];intro q W;have:=(bx.1 W).2;simpa using this;have:(Lit.string x).sameKey (.string p.1)=f?:=by simp[Lit.sameKey,e]
 rw[this,EF rest _ x e];simp;rw[ab.left_eq,h1.left_eq];exact af
end
section
variable {P:P?} {k:hJ} {B:Nat} {l:List (Wd×v?)} (w:w?) {ops:Array Oper} {rest:List Oper} {o:Oper} {a:Act} {Q:Exit->Act->w?->Prop}
def BG(Y:o.guard=x?)(m)(t)(U:o.op=Op.range t m)(e)(hk:P.underlying k=y? .string)(ht:P.underlying t=y? (.map k e))
  (hm:a.eval m=.map (y? B)) (h:dU P k w B l)
  (hK:∀w',eS P k w' B w.1.size l l->w.grownBy w' x?->w'.1.size=w.1.size+1->gi P ops Q rest (a.put o.dst (p? (y? ⟨w.1.size,0,x?⟩))) w') :
  gi P ops Q (o::rest) a w:=by
 refine gj Y λK' W=>?_;obtain⟨w',O,r1,r2,r3⟩:=h.range hk ht;unfold oj;simp[g9,U,hm,O,m5];exact W _ _ (hK w' r1 r2 r3)
def Ek(hg:o.guard=x?)(it)(Y:o.op=Op.next it f?)(hk:P.underlying k=y? .string)(r)(left)
  (aa:a.eval it=p? (y? ⟨r,0,x?⟩)) (h:eS P k w B r l left)
  (W:left=[]->gi P ops Q rest (a.put o.dst (.tuple #[.bool f?])) w)
  (hMore:∀p O w',left.Perm (p::O)->eS P k w' B r l O->w'.rangeLeft B r<w.rangeLeft B r->w.grownBy w' (y? r)->w'.1.size=w.1.size->(Instr.entry (p? (y? ⟨r,0,x?⟩))).run P w'=.ok (.tuple #[s? ⟨a? p.1⟩,p.2]) w'->
    gi P ops Q rest (a.put o.dst (.tuple #[.bool t?,s? ⟨a? p.1⟩,p.2])) w') :
  gi P ops Q (o::rest) a w:=by
 refine gj hg λK' ab=>?_;unfold oj;obtain⟨h0,U⟩|⟨p,O,w',hp,U,ac,ad,ae,af,ag⟩:=h.next hk o.type
 simp[g9,Y,aa,U,m5];exact ab _ _ (W h0);simp[g9,Y,aa,U,m5];exact ab _ _ (hMore p O w' hp ac ad ae af ag)
def kS(Y:o.guard=x?)(m x v)(t)(U:o.op=Op.mapUpdate t m x v)(e)(hk:P.underlying k=y? .string)(ht:P.underlying t=y? (.map k e))
  (hm:a.eval m=.map (y? B)) (h:dU P k w B l) (hn:l? l<gd) (y:Wd) (hy:l? y<=gd) (hx:a.eval x=s? ⟨a? y⟩) (u) (hv:a.eval v=u)
  (hK:∀w',dU P k w' B (sD l y u)->w.grownBy w' (y? B)->w'.1.size=w.1.size->gi P ops Q rest (a.put o.dst undef) w') :
  gi P ops Q (o::rest) a w:=by
 refine gj Y λK' W=>?_;obtain⟨w',O,r1,r2,r3⟩:=h.put hk ht hn y hy u;unfold oj;simp[g9,U,hm,hx,hv,O,m5];exact W _ _ (hK w' r1 r2 r3)
end
end
section
open Go.RowKit
structure dD where
 name:Wd
 gone:Bool
 text:Wd
 dn:Int
 dE:Int
def eo(e:dD):List v?:=[s? ⟨a? e.name⟩,.bool e.gone,s? ⟨a? e.text⟩,n? i? e.dn,n? i? e.dE]
def dv(es:List dD):List v?:=es.flatMap eo
def ji(e):(eo e).length=5:=rfl
def sC(es):(dv es).length=l? es*5:=by
 induction es with
 |nil=>rfl|cons e es O=>simp only[dv,cn,cf,ji,ct]at O⊢;omega
def vv(es)(e):dv (es++[e])=dv es++eo e:=by simp[dv]
def Af(es fs):dv (es++fs)=dv es++dv fs:=by simp[dv]
def sB(es):∀(i)(h)(f),f<5->(dv es)[i*5+f]?=(eo es[i])[f]?:=by
 induction es with
 |nil=>intro i h;simp at h|cons a es O=>
  intro i h f U;have e:dv (a::es)=eo a++dv es:=by simp[dv]
  rw[e]
  cases i with
  |zero=>rw[ci (by rw[ji];omega)];simp|succ i=>rw[cU (by rw[ji];omega),ji,(o!:(i+1)*5+f-5=i*5+f)];have:=O i (u! h) f U;simpa using this
def DI(es)(k):dv (es.take k)=(dv es).take (k*5):=by
 induction es generalizing k with
 |nil=>simp[dv]|cons a es O=>
  cases k with
  |zero=>simp[dv]|succ k=>
   have e:dv (a::es)=eo a++dv es:=by simp[dv]
   have U:dv ((a::es).take (k+1))=eo a++dv (es.take k):=by simp[dv]
   rw[e,U,O,List.take_append,ji,c8 (l:=eo a) (by rw[ji];omega),(o!:(k+1)*5-5=k*5)]
def DJ(es)(k):dv (es.drop k)=(dv es).drop (k*5):=by
 induction es generalizing k with
 |nil=>simp[dv]|cons a es O=>
  cases k with
  |zero=>simp[dv]|succ k=>
   have e:dv (a::es)=eo a++dv es:=by simp[dv]
   rw[List.drop_succ_cons,O,e,List.drop_append,ji,eg (l:=eo a) (by rw[ji];omega),(o!:(k+1)*5-5=k*5)];rfl
def lO{es}:∀u∈dv es,u.oneCell'=t?:=by intro u O;simp only[dv,cq]at O;obtain⟨e,_,O⟩:=O;simp only[eo,ce,ff,or_false]at O;obtain rfl|rfl|rfl|rfl|rfl:=O<;>rfl
def jc{w n a m cap es}(h:iu w 5 (.slice a m cap) n (dv es))(i)(hi):∃b off,a=y? ⟨b,off,x?⟩/\
  w.cell? ⟨b,off+i*5,x?⟩=y? (s? ⟨es[i].name.toArray⟩)/\w.cell? ⟨b,off+i*5+1,x?⟩=y? (.bool es[i].gone)/\w.cell? ⟨b,off+i*5+2,x?⟩=y? (s? ⟨es[i].text.toArray⟩)/\
  w.cell? ⟨b,off+i*5+3,x?⟩=y? (n? i? es[i].dn)/\w.cell? ⟨b,off+i*5+4,x?⟩=y? (n? i? es[i].dE):=by
 obtain⟨a',W,Y,_,_,_,hr⟩:=h;obtain⟨rfl,_,rfl⟩:=Y;have g:=λf hf u hu=>hr _ u (by rw[sB es i hi f hf];exact hu);obtain⟨b,off,ha,c0⟩:=g 0 o! _ rfl;subst ha;refine⟨b,off,q?,c0,?_,?_,?_,?_⟩;obtain⟨U,O,e,c⟩:=g 1 o! _ rfl;obtain⟨rfl,rfl,_⟩:=e;exact c;obtain⟨U,O,e,c⟩:=g 2 o! _ rfl;obtain⟨rfl,rfl,_⟩:=e;exact c;obtain⟨U,O,e,c⟩:=g 3 o! _ rfl;obtain⟨rfl,rfl,_⟩:=e;exact c;obtain⟨U,O,e,c⟩:=g 4 o! _ rfl;obtain⟨rfl,rfl,_⟩:=e;exact c
def iu.th{w:w?}{b e t}(hb:b=w.1.size):iu (w.alloc (c? #[s? ⟨a? e.name⟩,.bool e.gone,s? ⟨a? e.text⟩,n? i? e.dn,n? i? e.dE] t)) 5 (.slice (y? ⟨b,0,x?⟩) 1 1) 1 (eo e):=by
 refine⟨y? _,1,q?,hW _,by unfold gd;omega,q?,λj u O=>⟨b,0,q?,?_⟩⟩;rw[ko _ _ _ _ hb];match j,O with
 |0,O=>simpa[eo]using O|1,O=>simpa[eo]using O|2,O=>simpa[eo]using O|3,O=>simpa[eo]using O|4,O=>simpa[eo]using O|j+5,O=>simp[eo]at O
def uZ:(prog.info? 202).map (λi=>(i.zero,i.size,i.bytes))=y? (y? (.agg #[s? ⟨#[]⟩,.bool f?,s? ⟨#[]⟩,n? i? 0,n? i? 0]),5,56):=by kernel_rfl
def iY(l:List dD)(x:Wd):Option Nat:=l.findIdx? λe=>e.name==x
def uX:Option Nat->Int
 |none=>-1|some i=>(i:Int)
def JJ(l)(x)(h:∀j(O:j<l? l),(l[j].name==x)=f?):iY l x=x?:=by unfold iY;rw[List.findIdx?_eq_none_iff];intro e U;obtain⟨j,O,rfl⟩:=List.getElem_of_mem U;exact h j O
def I0(l:List dD)(x)(k)(U:k<l? l)(h:∀j(O:j<k),(l[j].name==x)=f?)(W:(l[k].name==x)=t?):iY l x=y? k:=by unfold iY;rw[List.findIdx?_eq_some_iff_getElem];exact⟨U,W,λj O=>by simpa using h j O⟩
def wi(v)(l)(x:Wd)(w)(U:iu w 5 v l.length (dv l)) :
  gg prog 144 #[v,s? ⟨a? x⟩] w λe w'=>e=e? (n? i? (uX (iY l x)))/\w=w':=by
 obtain⟨a,cap,rfl,hc,hm,_,_⟩:=id U;have HV:mi _:=U;clear U;unfold gd at hm;go_enter func144,ntmps144;go_wp2;go_loop [5] (λi=>∃k:Nat,k<=l? l/\i=n? i? k/\∀j(hj:j<k)(hj':j<l? l),(l[j].name==x)=f?) (λi=>l? l-(intOf i).toNat)
 case atStart=>exact⟨0,hV _,q?,λ_ h=>o!⟩
 case round=>
  obtain⟨k,hk,rfl,fl⟩:=hrel;have W:mi _:=fl;clear fl;by_cases O:k<l? l
  .obtain⟨b,off,rfl,c0,_,_,_,_⟩:=jc HV k O
   cases hx:l[k].name==x with
   |true=>have Y:mi (iY l x=y? k):=I0 l x k O (λj hj=>W.out j hj o!) hx;go_wp2;go_ret;exact⟨dQ (by rw[Y.out];rfl),q?⟩
   |false=>
    have HX:mi _:=hx;go_wp2;go_round
    case rel=>exact⟨k+1,o!,by go_num,λj hj hj'=>by
     by_cases e:j=k;subst e;exact HX
     exact W j o! hj'⟩
    case measure=>simp[intOf];omega
  have Y:mi _:=JJ l x (λj hj=>W.out j o! hj);go_wp2;go_ret;exact⟨dQ (by rw[Y.out];rfl),q?⟩
def ic(later:List dD)(e:dD):Bool:=(iY later e.name).isNone
def dM(old later:List dD):List dD:=old.filter (ic later)++later
def du(l:List dD):List dD:=l.filter λe=>!e.gone
def kF(old later:List dD)(k:Nat):List dD:=(old.take k).filter (ic later)
def mM(l:List dD)(k:Nat):List dD:=(l.take k).filter λe=>!e.gone
def zE(old later)(k)(h)(O:ic later old[k]=t?):kF old later (k+1)=kF old later k++[old[k]]:=by unfold kF;rw[bz h,cd];simp[O]
def LI(old later)(k)(h)(O:ic later old[k]=f?):kF old later (k+1)=kF old later k:=by unfold kF;rw[bz h,cd];simp[O]
def JC(old later)(k):(kF old later k).length<=k:=by have:=cw (ic later) (old.take k);unfold kF;simp at this⊢;omega
def BL(l)(k)(h)(O:l[k].gone=f?):mM l (k+1)=mM l k++[l[k]]:=by unfold mM;rw[bz h,cd];simp[O]
def Oe(l)(k)(h)(O:l[k].gone=t?):mM l (k+1)=mM l k:=by unfold mM;rw[bz h,cd];simp[O]
def L0(l)(k):(mM l k).length<=k:=by have:=cw (λe=>!e.gone) (l.take k);unfold mM;simp at this⊢;omega
def oZ(v)(l)(w)(hv:iu w 5 v l.length (dv l))(hl:l? l<=1073741824) :
  gg prog 147 #[v] w λe w'=>∃u,e=e? u/\w'.ownsRow w.1.size 202 5 u (du l).length (dv (du l))/\B? w w':=by
 obtain⟨i5,ab,ac,ad,ae⟩:=gt uZ;obtain⟨a,cap,rfl,hc,hm,_,_⟩:=id hv;have HV:mi (iu w 5 (.slice a l.length cap) l.length (dv l)):=hv;clear hv;unfold gd at hm;go_enter func147,ntmps147;go_wp2;go_loopw [3,4] (λv i wr=>∃k:Nat,k<=l? l/\i=n? i? k/\wr.ownsRow w.1.size 202 5 v (mM l k).length (dv (mM l k))/\B? w wr) (λ_ i _=>l? l-(intOf i).toNat)
 case atStart=>exact⟨0,hV _,q?,kk _ _ _ _,kd _ _⟩
 case round=>
  obtain⟨k,hk,rfl,U,O⟩:=hrel;have HS:=O.size;have ag:=L0 l k;by_cases W:k<l? l
  .obtain⟨b,off,rfl,c0,c1,c2,c3,c4⟩:=jc (HV.below O) k W
   cases Y:l[k].gone with
   |false=>
    have HE:mi (dv (mM l (k+1))=dv (mM l k)++eo l[k]):=by show _=_;rw[BL l k W Y,vv]
    have HN:mi ((mM l k).length+1=(mM l (k+1)).length):=by show _=_;rw[BL l k W Y];simp
    rw[Y]at c1;have af:mi (l[k].gone=f?):=Y;clear Y;go_wp2_with (at_builtin;go_must (refine gQ _ q? _ _ 75 q? w.1.size 202 i5 _ 5 56 k' ab ac ad ae q? d! _ _ _ q? (U.alloc _) _ 1 (eo l[k]) q? ?c0 ?c1 ?c2 ?c3 ?c4 ?_))
    case c0=>go_light;have:=iu.th (w:=wr) (b:=wr.1.size) (e:=l[k]) (t:=202) rfl;rw[af.out]at this;exact this
    case c1=>intro u hu;exact lO (es:=[l[k]]) u (by simpa[dv]using hu)
    case c2=>omega
    case c3=>unfold gd;omega
    case c4=>simp;omega
    intro v' w1 hown' aa _;rw[<-HE.out,HN.out]at hown';have hb':=(O.alloc HS _).grown aa j! (λb hb=>(U.lt b hb).1);go_wp2;go_roundw
    case rel=>exact⟨k+1,o!,by go_num,hown',hb'⟩
    case measure=>simp[intOf];omega
   |true=>
    have HE:mi (mM l (k+1)=mM l k):=Oe l k W Y;rw[Y]at c1;clear Y;go_wp2;go_roundw
    case rel=>exact⟨k+1,o!,by go_num,by rw[HE.out];exact U,O⟩
    case measure=>simp[intOf];omega
  have ek:k=l? l:=o!;subst ek;go_wp2;go_ret;refine⟨_,q?,?_,O⟩;have e:du l=mM l l.length:=by unfold du mM;rw[cW]
  rw[e];exact U
def GS(v)(l)(w)(O:iu w 5 v l.length (dv l))(U:l? l<=1073741824) :
  gg prog 146 #[v] w λe w'=>e=e? (n? i? ((l? l-(du l).length:Nat)))/\B? w w':=by
 obtain⟨a,cap,rfl,hc,hm,_,_⟩:=id O;have W:mi _:=O;have Y:(du l).length<=l? l:=cw ..;go_enter func146,ntmps146;go_wp2_with fail;refine(oZ _ l w W U).mono ?_;rintro e w1 ⟨u,rfl,ho,hb⟩;obtain⟨a1,c1,rfl,aa⟩:=dL ho;go_wp2;go_ret;refine⟨dQ ?_,hb⟩;omega
def qu(vo vl)(old later)(w)(ho:iu w 5 vo old.length (dv old))(hl:iu w 5 vl later.length (dv later))(h1:l? old<=1073741824)(h2:l? later<=1073741824) :
  gg prog 145 #[vo,vl] w λe w'=>∃u,e=e? u/\w'.ownsRow w.1.size 202 5 u (dM old later).length (dv (dM old later))/\B? w w':=by
 obtain⟨i5,aa,ab,ac,ad⟩:=gt uZ;obtain⟨a,cap,rfl,hc,hm,_,_⟩:=id ho;obtain⟨al,ae,rfl,lg,hml,_,_⟩:=id hl;have HO:mi (iu w 5 (.slice a old.length cap) old.length (dv old)):=ho;have HL:mi (iu w 5 (.slice al later.length ae) later.length (dv later)):=hl;clear ho hl;unfold gd at hm hml;go_enter func145,ntmps145;go_wp2;go_loopw [5,6] (λv i wr=>∃k:Nat,k<=l? old/\i=n? i? k/\wr.ownsRow w.1.size 202 5 v (kF old later k).length (dv (kF old later k))/\B? w wr) (λ_ i _=>l? old-(intOf i).toNat)
 case atStart=>exact⟨0,hV _,q?,kk _ _ _ _,kd _ _⟩
 case round=>
  obtain⟨k,hk,rfl,O,hbel⟩:=hrel;have HS:=hbel.size;have af:=JC old later k;by_cases Y:k<l? old
  .obtain⟨b,off,rfl,c0,c1,c2,c3,c4⟩:=jc (HO.below hbel) k Y;go_wp2_with fail;refine(wi _ later old[k].name wr (HL.below hbel)).mono ?_;rintro e w' ⟨rfl,rfl⟩
   cases hg:iY later old[k].name with
   |none=>
    have W:ic later old[k]=t?:=by unfold ic;rw[hg];rfl
    have HE:mi (dv (kF old later (k+1))=dv (kF old later k)++eo old[k]):=by show _=_;rw[zE old later k Y W,vv]
    have HN:mi ((kF old later k).length+1=(kF old later (k+1)).length):=by show _=_;rw[zE old later k Y W];simp
    rw[show uX x? = -1 from rfl];clear W hg;go_wp2_with (at_builtin;go_must (refine gQ _ q? _ _ 75 q? w.1.size 202 i5 _ 5 56 k' aa ab ac ad q? d! _ _ _ q? (O.alloc _) _ 1 (eo old[k]) q? ?c0 ?c1 ?c2 ?c3 ?c4 ?_))
    case c0=>go_light;exact iu.th rfl
    case c1=>intro u hu;exact lO (es:=[old[k]]) u (by simpa[dv]using hu)
    case c2=>omega
    case c3=>unfold gd;omega
    case c4=>simp;omega
    intro v' w1 hown' U _;rw[<-HE.out,HN.out]at hown';have hb':=(hbel.alloc HS _).grown U j! (λb hb=>(O.lt b hb).1);go_wp2;go_roundw
    case rel=>exact⟨k+1,o!,by go_num,hown',hb'⟩
    case measure=>simp[intOf];omega
   |some j=>
    have W:ic later old[k]=f?:=by unfold ic;rw[hg];rfl
    have HE:mi (kF old later (k+1)=kF old later k):=LI old later k Y W;rw[show uX (y? j)=(j:Int)from rfl];clear W hg;go_wp2;go_roundw
    case rel=>exact⟨k+1,o!,by go_num,by rw[HE.out];exact O,hbel⟩
    case measure=>simp[intOf];omega
  have ek:k=l? old:=o!;subst ek;have HF:mi (dM old later=kF old later old.length++later):=by show _=_;unfold dM kF;rw[cW]
  go_wp2_with (at_builtin;go_must (refine gQ _ q? _ _ 75 q? w.1.size 202 i5 _ 5 56 k' aa ab ac ad q? d! _ _ _ q? O _ later.length (dv later) q? ?d0 lO ?d2 ?d3 ?d4 ?_))
  case d0=>exact HL.below hbel
  case d2=>omega
  case d3=>unfold gd;omega
  case d4=>exact HS
  intro v' w1 hown' U _;have hb':=hbel.grown U HS (λb hb=>(O.lt b hb).1);go_wp2;go_ret;refine⟨_,q?,?_,hb'⟩;rw[HF.out,Af,cf];exact hown'
variable {F G:Nat->Prop} {v:v?} {w w':w?}
def fU(l:List UInt8):Bool:=l.all jz&&decide (0<l? l)&&decide (l? l<=8)
def jE(w:w?)(F:Nat->Prop)(v:v?)(es:List dD):Prop:=w.ownsRow 0 202 5 v es.length (dv es)/\∀k,v.ownBlock=y? k->F k
def Ay(w:w?)(F:Nat->Prop)(v:v?)(ss:List (List dD)):Prop:=
 ∃vs:List v?,l? vs=l? ss/\w.ownsRow 0 75 1 v ss.length vs/\(∀k,v.ownBlock=y? k->F k)/\∀i(h:i<l? ss),∃u,vs[i]?=y? u/\jE w F u ss[i]
def jE.stay{es}(h:jE w F v es)(hb:∀k,F k->w'.1[k]?=w.1[k]?)(U:∀k,F k->G k):jE w' G v es:=
 ⟨dG h.1 (λk O=>hb k (h.2 k O)),λk O=>U k (h.2 k O)⟩
def Ay.stay{ss}(h:Ay w F v ss)(hb:∀k,F k->w'.1[k]?=w.1[k]?)(U:∀k,F k->G k):Ay w' G v ss:=by obtain⟨vs,Y,h2,W,h4⟩:=h;refine⟨vs,Y,dK h2 (λk O=>hb k (W k O)),λk O=>U k (W k O),λi hi=>?_⟩;obtain⟨u,hu,ho⟩:=h4 i hi;exact⟨u,hu,ho.stay hb U⟩
def gF(ss:List (List dD)):Nat:=(ss.map λs=>l? s+1).sum
def jo(ss:List (List dD))(k:Nat):List dD:=(ss.take k).foldl dM []
def dO(ss:List (List dD))(buf:List dD):List dD:=du (dM (jo ss ss.length) buf)
def sV(a b):(dM a b).length<=l? a+l? b:=by unfold dM;have:=cw (ic b) a;rw[cf];omega
def ww(ss)(k)(h):jo ss (k+1)=dM (jo ss k) ss[k]:=by unfold jo;rw[bz h,eC];rfl
def oE(ss)(i)(h:i<l? ss):gF (ss.take (i+1))=gF (ss.take i)+(ss[i].length+1):=by unfold gF;rw[bz h,da,fk];rfl
def qF(ss)(i):gF (ss.take i)<=gF ss:=by
 have:gF ss=gF (ss.take i)+gF (ss.drop i):=by unfold gF;rw[<-fk,<-da,ei]
 omega
def wW(ss):l? ss<=gF ss:=by
 induction ss with
 |nil=>simp|cons t ts O=>simp only[gF,ck,fr,ct]at O⊢;omega
def x9(ss)(k)(O:k<=l? ss):(jo ss k).length<=gF (ss.take k):=by
 induction k with
 |zero=>simp[jo]|succ k U=>rw[ww ss k o!,oE ss k o!];have:=sV (jo ss k) ss[k];omega
def tG(F)(b)(vB vS vT)(buf)(ss)(w)(hh:w.1[b]?=y? (c? #[vB,vS,vT] 120 (0,0)))(hb:jE w F vB buf)(hs:Ay w F vS ss)
  (h1:gF ss<=536870912) (h2:l? buf<=536870912) :
  gg prog 143 #[p? (y? ⟨b,0,x?⟩)] w λe w'=>∃u,e=e? u/\w'.ownsRow w.1.size 202 5 u (dO ss buf).length (dv (dO ss buf))/\B? w w':=by
 have ab:=dq hh;obtain⟨vs,ai,ac,_,ae⟩:=hs;obtain⟨aS,cS,rfl,ay⟩:=dH ac;have aj:mi _:=ae;have ak:mi _:=ac;have al:mi _:=hb;have am:mi (w.cell? ⟨b,0,x?⟩=y? vB):=(ab 0);have an:mi (w.cell? ⟨b,1,x?⟩=y? (.slice aS ss.length cS)):=(ab 1);have ax:=wW ss;clear ae ac hb ab ai hh;go_enter func143,ntmps143;go_wp2;go_loopw [3,4] (λv i wr=>∃k:Nat,k<=l? ss/\i=n? i? k/\wr.ownsRow w.1.size 202 5 v (jo ss k).length (dv (jo ss k))/\B? w wr) (λ_ i _=>l? ss-(intOf i).toNat)
 case atStart=>exact⟨0,hV _,q?,kk _ _ _ _,kd _ _⟩
 case round=>
  obtain⟨k,hk,rfl,aa,O⟩:=hrel;have HS:=O.size;have ao:=ge O an;have az:=x9 ss k hk;have a0:=qF ss k;by_cases ad:k<l? ss
  .obtain⟨u,hu,af⟩:=aj.out k ad;obtain⟨bS,oS,rfl,Y⟩:=fy ak k _ hu;have ap:=ge O Y;have HU:mi (jo ss (k+1)=dM (jo ss k) ss[k]):=ww ss k ad;have aq:=oE ss k ad;have ar:=qF ss (k+1);have ag:iu wr 5 u ss[k].length (dv ss[k]):=(iu.eL af.1).below O;clear hu Y af;go_wp2_with fail;refine(qu _ _ (jo ss k) ss[k] wr (iu.eL aa) ag o! o!).mono ?_;rintro e w1 ⟨u1,rfl,U,W⟩;rw[<-HU.out]at U;have hb4:B? w w1:=O.trans (W.mono HS);have ho2:=fj U HS;clear U W ag ao ap aq ar;go_wp2;go_roundw
   case rel=>exact⟨k+1,o!,by go_num,ho2,hb4⟩
   case measure=>simp[intOf];omega
  have ek:k=l? ss:=o!;subst ek;have a1:=ge O am;have au:iu wr 5 vB buf.length (dv buf):=(iu.eL al.1).below O;go_wp2_with fail;refine(qu _ _ (jo ss ss.length) buf wr (iu.eL aa) au o! o!).mono ?_;rintro e w1 ⟨u1,rfl,U,W⟩;have a2:=sV (jo ss ss.length) buf;go_wp2_with fail;refine(oZ u1 (dM (jo ss ss.length) buf) w1 (iu.eL U) o!).mono ?_;rintro e w2 ⟨u2,rfl,ho2,ah⟩;have a3:=W.size;have av:B? w w2:=(O.trans (W.mono HS)).trans (ah.mono o!);have aw:w2.ownsRow w.1.size 202 5 u2 (dO ss buf).length (dv (dO ss buf)):=fj ho2 o!;clear ho2 ah W U;go_wp2;go_ret;exact⟨_,q?,aw,av⟩
def kN(s)(w)(hs:s.size<=gd) :
  gg prog 141 #[s? s] w λe w'=>e=e? (.bool (fU s.1.1))/\w=w':=by
 unfold gd at hs;go_enter func141,ntmps141;go_wp2;go_loop [3] (λi=>∃k:Nat,k<=s.size/\i=n? i? k/\(s.1.1.take k).all jz=t?) (λi=>s.size-(intOf i).toNat)
 case atStart=>exact⟨0,hV _,q?,q?⟩
 case round=>
  obtain⟨k,hk,rfl,fl⟩:=hrel;have HA:mi _:=fl;clear fl;by_cases O:k<s.size
  .have HS:mi (s.1.1.take (k+1)=s.1.1.take k++[s[k]]):=qp s k O;go_wp2_with fail;refine(p9 _ _).mono ?_;rintro e w' ⟨rfl,rfl⟩
   cases W:jz s[k]with
   |true=>
    have Y:mi _:=W;clear W;go_wp2;go_round
    case rel=>exact⟨k+1,o!,by go_num,by rw[HS.out,dN,HA.out];simp[Y.out]⟩
    case measure=>simp[intOf];omega
   |false=>have Y:mi _:=W;clear W;go_wp2;go_ret;refine⟨dT ?_,q?⟩;symm;rw[j'];intro hq;simp only[fU,i9]at hq;have:=d'.1 hq.1.1 _ (yK s k O);rw[Y.out]at this;simp at this
  have e:s.1.1.take k=s.1.1:=c8 j!;have U:=HA.out;rw[e]at U
  have HF:mi (fU s.1.1=(decide (0<s.size)&&decide (s.size<=8))):=by show fU _=_;unfold fU;rw[U];simp
  by_cases h0:0<s.size
  .go_wp2;go_ret;rw[HF.out];simp[h0];omega
  go_wp2;go_ret;rw[HF.out];simp[h0]
variable {l m:List dD} {S T:List Wd} {α:Type} {q:Wd}
def dC(e:dD):Wd:=eA e.text
def iW(s p:Wd):Bool:=decide (p <+: s)
def fh(s p):iW s p=t?↔p <+: s:=by simp[iW]
def yL(s p):iW s p=(decide (l? p<=l? s)&&(s.take p.length==p)):=by rw[jt,fh,i9,decide_eq_true_iff,beq_iff_eq,ef];constructor;intro h;refine⟨?_,h.symm⟩;have:=congrArg er h;simp at this;omega;intro h;exact h.2.symm
def ui:Wd->Wd->Wd
 |a::u,b::bs=>if a=b then a::ui u bs else []|_,_=>[]
def sY:∀a b,ui a b <+: a
 |[],b=>by cases b<;>exact c6 _
 |a::u,[]=>c5|a::u,b::bs=>by unfold ui;split;exact cC.2 ⟨q?,sY u bs⟩;exact c5
def rk:∀a b,ui a b <+: b
 |[],b=>by cases b<;>exact c5
 |a::u,[]=>c6 _|a::u,b::bs=>by unfold ui;split;rename_i h;subst h;exact cC.2 ⟨q?,rk u bs⟩;exact c5
def tq:∀(a b r:Wd),r <+: a->r <+: b->r <+: ui a b
 |[],b,r,h,_=>by have:=fm.1 h;subst this;exact c5
 |a::u,[],r,_,h=>by have:=fm.1 h;subst this;exact c5
 |a::u,b::bs,[],_,_=>c5|a::u,b::bs,c::r,W,Y=>by have O:=cC.1 W;have U:=cC.1 Y;unfold ui;rw[if_pos (O.1.symm.trans U.1)];exact cC.2 ⟨O.1,tq u bs r O.2 U.2⟩
def Ol:List Wd->Wd
 |[]=>[]
 |a::u=>u.foldl ui a
def tV(q:Wd)(S:List Wd):Prop:=(∀s∈S,q <+: s)/\∀r:Wd,(∀s∈S,r <+: s)->r <+: q
def Kh:∀(u)(a),tV (u.foldl ui a) (a::u)
 |[],a=>⟨λs O=>by simp at O;subst O;exact c6 _,λr h=>h a i!⟩
 |b::u,a=>by
  have U:=Kh u (ui a b)
  refine⟨λs O=>?_,λr h=>?_⟩;have W:=U.1 (ui a b) i!;simp only[ce]at O;obtain rfl|rfl|O:=O
  exact W.trans (sY ..);exact W.trans (rk ..);exact U.1 s (by simp[O]);refine U.2 r (λs O=>?_);simp only[ce]at O;obtain rfl|O:=O
  exact tq _ _ _ (h a i!) (h b i!);exact h s (by simp[O])
def yS(h:S≠[]):tV (Ol S) S:=by
 cases S with
 |nil=>exact absurd q? h|cons a u=>exact Kh u a
def tV.one{p}(O:tV p S)(U:tV q S):p=q:=
 (U.2 p O.1).eq_of_length (iv (U.2 p O.1).length_le (O.2 q U.1).length_le)
def Ks(h:S≠[])(O:tV q S):Ol S=q:=(yS h).one O
def tV.congr(h:∀s,s∈S↔s∈T)(U:tV q S):tV q T:=
 ⟨λs O=>U.1 s ((h s).2 O),λr W=>U.2 r (λs O=>W s ((h s).1 O))⟩
def Iv(h:∀s,s∈S↔s∈T):Ol S=Ol T:=by
 by_cases e:S=[];subst e
 have:T=[]:=by
  cases T with
  |nil=>rfl|cons a T=>exact absurd ((h a).2 i!) i!
 rw[this]
 exact((yS e).congr h).one (yS (λO=>by
  subst O
  cases S with
  |nil=>exact e rfl|cons a S=>exact absurd ((h a).1 i!) i!))
def uS(a b:dD):Bool:=ky a.name b.name
def pA(out:List dD)(x:dD):List dD:=out.takeWhile (λy=>uS y x)++x::out.dropWhile (λy=>uS y x)
def eK(l:List dD):List dD:=l.foldl pA []
def mB(l:List dD):Prop:=l.Pairwise λa b=>uS b a=f?
def jU(l:List dD):Prop:=l.Pairwise λa b=>uS a b=t?
def Gl(q:α->Bool)(A B:List α)(O:∀a∈A,q a=t?)(U:∀b∈B,q b=f?):(A++B).takeWhile q=A/\(A++B).dropWhile q=B:=by
 induction A with
 |nil=>
  cases B with
  |nil=>simp|cons b B=>have:=U b i!;simp[this]
 |cons a A W=>have Y:=O a i!;have:=W (λx hx=>O x (by simp[hx]));simp[Y,this.1,this.2]
def OA{p}:∀(l:List α)(y),y∈l.takeWhile p->p y=t?:=by
 intro l;induction l with
 |nil=>intro y h;simp at h|cons a l O=>
  intro y h;rw[et]at h;split at h;rename_i U;obtain rfl|h:=ce.1 h
  exact U;exact O y h;simp at h
def KZ{p}:∀(l:List α)(y)(r),l.dropWhile p=y::r->p y=f?:=by
 intro l;induction l with
 |nil=>intro y r h;simp at h|cons a l O=>intro y r h;rw[List.dropWhile_cons]at h;split at h;exact O y r h;rename_i U;cases h;simpa using U
def Sj{x y z}(U:uS y x=f?)(W:uS z y=f?):uS z x=f?:=by
 unfold uS at *
 cases h:ky .. with
 |false=>rfl|true=>
  obtain O|O|O:=jZ ..
  rw[nB _ _ _ O h]at U;cases U;rw[O,h]at U;cases U;rw[O]at W;cases W
def Ch(out)(x)(h:mB out):∃A B,out=A++B/\pA out x=A++x::B/\(∀a∈A,uS a x=t?)/\∀b∈B,uS b x=f?:=by
 refine⟨out.takeWhile _,out.dropWhile _,(cK).symm,q?,λa U=>OA out a U,λb hb=>?_⟩;have W:mB (out.dropWhile (λy=>uS y x)):=List.Pairwise.sublist (List.dropWhile_sublist _) h;have Y:=KZ (p:=λy=>uS y x) out;generalize out.dropWhile _=B at *
 cases B with
 |nil=>simp at hb|cons c B=>
  have O:=Y c B rfl;simp only[ce]at hb;obtain rfl|hb:=hb
  exact O;exact Sj O (List.rel_of_pairwise_cons W hb)
def AL(out)(x)(h:mB out):mB (pA out x):=by
 obtain⟨A,B,rfl,U,W,Y⟩:=Ch out x h;rw[U];unfold mB at *;rw[de]at h⊢;refine⟨h.1,cp.2 ⟨λb hb=>Y b hb,h.2.1⟩,λa O b hb=>?_⟩;simp only[ce]at hb;obtain rfl|hb:=hb
 exact ta (W a O);exact h.2.2 a O b hb
def DZ(l:List dD):∀out,mB out->mB (l.foldl pA out):=by
 induction l with
 |nil=>intro out h;exact h|cons x l O=>intro out h;exact O _ (AL out x h)
def D3(l):mB (eK l):=DZ l [] List.Pairwise.nil
def Qr(out)(x):(pA out x).Perm (x::out):=by refine fd.trans (List.Perm.cons x ?_);rw[cK]
def JA(l:List dD):∀out,(l.foldl pA out).Perm (l++out):=by
 induction l with
 |nil=>intro out;exact nr _|cons x l O=>intro out;refine(O _).trans ?_;refine(nn l (Qr out x)).trans ?_;exact fd
def gX(l):(eK l).Perm l:=by have:=JA l [];rw[cA]at this;exact this
def j9{e}:e∈eK l↔e∈l:=(gX l).mem_iff
def tH(l):(eK l).length=l? l:=(gX l).length_eq
def IU(p)(out)(x)(h:mB out):(pA out x).filter p=if p x=t? then pA (out.filter p) x else out.filter p:=by obtain⟨A,B,rfl,W,Y,h4⟩:=Ch out x h;rw[W];have hA:∀a∈A.filter p,(λy=>uS y x) a=t?:=λa O=>Y a (bx.1 O).1;have hB:∀a∈B.filter p,(λy=>uS y x) a=f?:=λa O=>h4 a (bx.1 O).1;have U:=Gl _ _ _ hA hB;rw[cd,cd,cX];split;unfold pA;rw[U.1,U.2];rfl
def DV(p)(l:List dD):∀out,mB out->(l.foldl pA out).filter p=(l.filter p).foldl pA (out.filter p):=by
 induction l with
 |nil=>intro out _;rfl|cons x l O=>intro out h;rw[cQ,O _ (AL out x h),IU p out x h,cX];split;rfl;rfl
def ma(p)(l):(eK l).filter p=eK (l.filter p):=DV p l [] List.Pairwise.nil
def Rf(out)(x)(h:∀a∈out,uS a x=t?):pA out x=out++[x]:=by have:=Gl _ out [] h i!;rw[cA]at this;unfold pA;rw[this.1,this.2]
def DO(l):∀out,jU (out++l)->l.foldl pA out=out++l:=by
 induction l with
 |nil=>simp|cons x l O=>intro out h;have U:=(de.1 h).2.2;rw[cQ,Rf out x (λa W=>U a W x i!),O];simp;simpa using h
def vZ(l)(h:jU l):eK l=l:=by simpa[eK]using DO l [] (u! h)
def Lo(h:mB l)(U:(l.map dD.name).Nodup):jU l:=by
 rw[fv,di]at U;refine(h.and U).imp ?_;rintro a b ⟨W,Y⟩;unfold uS at *;obtain O|O|O:=jZ ..
 exact O;exact absurd O Y;rw[O]at W;cases W
def oq(l)(O:(l.map dD.name).Nodup):jU (eK l):=
 Lo (D3 l) (((gX l).map _).nodup_iff.2 O)
def jU.nodup(h:jU l):(l.map dD.name).Nodup:=by rw[fv,di];exact h.imp (λh=>FN h)
def I1(O:jU l)(hm:jU m)(h:l.Perm m):l=m:=by refine no (le:=λa b=>uS a b=t?) ?_ O hm h;intro a b _ _ U h2;have:=ta U;unfold uS at h2;rw[h2]at this;cases this
def FA(O:(l.map dD.name).Nodup)(h:l.Perm m):eK l=eK m:=
 I1 (oq l O) (oq m ((h.map _).nodup_iff.1 O)) (((gX l).trans h).trans (gX m).symm)
def u8(n:Int):UInt8:=m6 (n % 256).toNat
def dI(s:Wd):Wd:=u8 s.length::s
def gh(n:Int):Wd:=[u8 (n.tdiv 65536),u8 ((n.tdiv 256).tmod 256),u8 (n.tmod 256)]
def kC(e:dD):Wd:=dI e.name++(dI e.text++(gh e.dn++[u8 e.dE]))
def fI(l:List dD):Int:=l.foldl (λg e=>if g<e.dn then e.dn else g) 0
def lr(l:List dD)(p:Wd):List dD:=l.filter λe=>iW (dC e) p
def fT(l:List dD)(p:Wd):List dD:=l.filter λe=>dC e==p
def gM(l:List dD)(p:Wd):Bool:=p.isEmpty || l.any (λe=>dC e==p) || l.any λe=>l.any λf=>iW (dC e) p&&iW (dC f) p&&(dC e).getD p.length 0 != (dC f).getD p.length 0
def xI(l:List dD)(s:Wd)(n:Nat):Nat:=n+((cZ (l? s-n)).takeWhile λi=>!gM l (s.take (n+i))).length
def rT(l:List dD)(p:Wd)(ch:List Wd)(e:dD):List Wd:=
 if iW (dC e) p=t?/\dC e≠p then ch.set ((dC e).getD p.length 0).toNat ((dC e).take (xI l (dC e) (l? p+1)))else ch
def ep(l:List dD)(p:Wd)(k:Nat):List Wd:=(l.take k).foldl (rT l p) (bZ 256 [])
def mG(l:List dD)(p:Wd):List Wd:=(ep l p l.length).filter λq=>!q.isEmpty
def jO:Nat->List dD->Wd->Wd->Wd
 |0,_,p,a=>dI (p.drop a.length)|f+1,l,p,a=>dI (p.drop a.length)++(gh (fI (lr l p))++(u8 (fT l p).length::((fT l p).flatMap kC++(u8 (mG l p).length::(mG l p).flatMap λq=>jO f l q p))))
def jR(G:List dD)(p:Wd)(c:UInt8):List dD:=G.filter λe=>iW (dC e) (p++[c])
def iB:List UInt8:=(cZ 256).map m6
def jw(G:List dD)(p:Wd):List UInt8:=iB.filter λc=>!(jR G p c).isEmpty
def kK(H:List dD):Wd:=Ol (H.map dC)
def j8:Nat->Wd->List dD->Wd
 |0,_,_=>[]
 |f+1,p,G=>gh (fI G)++(u8 (fT G p).length::((fT G p).flatMap kC++(u8 (jw G p).length::(jw G p).flatMap λc=>dI ((kK (jR G p c)).drop p.length)++j8 f (kK (jR G p c)) (jR G p c))))
def ig(p s:Wd)(c:UInt8):p++[c] <+: s↔p <+: s/\l? p<l? s/\s.getD p.length 0=c:=by
 constructor;rintro⟨t,rfl⟩;simp[cc];rintro⟨⟨t,rfl⟩,O,U⟩
 cases t with
 |nil=>simp at O|cons d t=>subst U;exact⟨t,i!⟩
def nJ{p s:Wd}(h:p <+: s)(U:s≠p):l? p<l? s:=by
 obtain O|O:=i6 ..
 exact O;exact absurd (h.eq_of_length (iv h.length_le O)).symm U
def FM{p s:Wd}(h:p <+: s):s.take p.length=p:=(ef.1 h).symm
def qy{p s:Wd}(h:p <+: s)(i)(O:i<l? p):s.getD i 0=p.getD i 0:=by obtain⟨t,rfl⟩:=h;rw[cc,cc,ci O]
def oh{l p e}:e∈lr l p↔e∈l/\p <+: dC e:=by simp[lr,fh]
def Ry{l}{p q:Wd}(h:p <+: q):lr (lr l p) q=lr l q:=by unfold lr;rw[e8];refine cI λe _=>?_;rw[jt,i9,fh,fh];exact⟨λh=>h.1,λO=>⟨O,h.trans O⟩⟩
def mU(l)(p)(c):jR l p c=lr l (p++[c]):=rfl
def nZ{H}(h:H≠[]):tV (kK H) (H.map dC):=yS (u! h)
def sk{l p}(h:lr l p≠[]):p <+: kK (lr l p):=
 (nZ h).2 p (λs O=>by
  obtain⟨e,U,rfl⟩:=bY.1 O
  exact(oh.1 U).2)
def Qf{l p}(h:lr l p≠[]):lr l (kK (lr l p))=lr l p:=by refine cI λe U=>?_;rw[jt,fh,fh];refine⟨λO=>(sk h).trans O,λO=>?_⟩;exact(nZ h).1 _ (bY.2 ⟨e,oh.2 ⟨U,O⟩,q?⟩)
def S3{l e}{p:Wd}(he:e∈l)(hp:p <+: dC e)(hn:dC e≠p) :
  (dC e).take (xI l (dC e) (l? p+1))=kK (lr l (p++[(dC e).getD p.length 0])):=by
 have ae:=nJ hp hn;have Y:p++[(dC e).getD p.length 0] <+: dC e:=(ig _ _ _).2 ⟨hp,ae,q?⟩;generalize hc:(dC e).getD p.length 0=c at *;have hH:lr l (p++[c])≠[]:=e6 (oh.2 ⟨he,Y⟩);have hq:=nZ hH;have af:=sk hH;generalize hS:kK (lr l (p++[c]))=q at *;have O:q <+: dC e:=hq.1 _ (bY.2 ⟨e,oh.2 ⟨he,Y⟩,q?⟩);have ag:=af.length_le;have am:=O.length_le;simp only[cf,en]at ag
 have ac:gM l q=t?:=by
  unfold gM;simp only[i',cv,beq_iff_eq,i9,bne_iff_ne,fh];by_cases hk:∃x∈l,dC x=q;exact Or.inl (Or.inr hk);refine Or.inr ⟨e,he,?_⟩;have ah:dC e≠q:=λh=>hk ⟨e,he,h⟩;have an:=nJ O ah;refine n8 λaa=>?_
  have fl:∀f∈l,q <+: dC f->(dC f).getD q.length 0=(dC e).getD q.length 0:=by intro f W U;refine n8 λhd=>aa ⟨f,W,⟨O,U⟩,λh=>hd h.symm⟩
  have:=hq.2 (q++[(dC e).getD q.length 0]) (λs hs=>by
   obtain⟨f,W,rfl⟩:=bY.1 hs;have U:=hq.1 _ hs;have ad:=(oh.1 W).1
   exact(ig _ _ _).2 ⟨U,nJ U (λh=>hk ⟨f,ad,h⟩),fl f ad U⟩)
  have:=this.length_le;simp at this;omega
 have aa:∀n,l? p+1<=n->n<l? q->gM l ((dC e).take n)=f?:=by
  intro n h1 h2
  have hr:(dC e).take n <+: q:=by have:(dC e).take n <+: dC e:=fa ..;exact cL this O j!
  have ai:((dC e).take n).length=n:=j!;have aj:p++[c] <+: (dC e).take n:=cL Y (fa ..) j!;generalize (dC e).take n=r at *;have ab:=λf W h=>hq.1 _ (bY.2 ⟨f,oh.2 ⟨W,aj.trans h⟩,q?⟩);rw[j'];intro hy;unfold gM at hy;simp only[i',cv,beq_iff_eq,i9,bne_iff_ne,fh]at hy;rcases hy with(h|⟨f,W,h⟩)|⟨f,W,g,hg,⟨ak,al⟩,hd⟩
  simp at h;subst h;simp at ai;omega;have:=(ab f W (by rw[h];exact c6 _)).length_le;rw[h]at this;omega;have e1:=qy (ab f W ak) r.length o!;have e2:=qy (ab g hg al) r.length o!;exact hd (by rw[e1,e2])
 have hN:xI l (dC e) (l? p+1)=l? q:=by unfold xI;rw[ng _ _ (l? q-(l? p+1)) j! (λj hj=>?_) (λhj=>?_)];omega;simp only[e7,Bool.not_eq_true'];exact aa _ o! o!;simp only[e7,Bool.not_eq_false'];rw[(o!:l? p+1+(l? q-(l? p+1))=l? q),FM O];exact ac
 rw[hN,FM O]
def qV(i)(h:i<l? iB):iB[i]=m6 i:=by simp[iB]
def qX:l? iB=256:=by simp[iB]
def UB(c):m6 c.toNat=c:=by simp
def R6{c}{i:Nat}(O:i<256)(h:i≠c.toNat):m6 i≠c:=by intro e;have:=congrArg UInt8.toNat e;simp at this;omega
def wD(l O:List dD)(p:Wd)(c:UInt8):Wd:=if(O.any λe=>iW (dC e) (p++[c]))=t? then kK (lr l (p++[c]))else []
def H'(l pre)(p)(e)(he:e∈l):rT l p (iB.map (wD l pre p)) e=iB.map (wD l (pre++[e]) p):=by
 unfold rT;by_cases h:iW (dC e) p=t?/\dC e≠p;rw[if_pos h];have O:=(fh ..).1 h.1;rw[S3 he O h.2];have hc:=(ig ..).2 ⟨O,nJ O h.2,q?⟩;generalize U:(dC e).getD _ 0=c at *;apply dw;simp;intro i Y h2;simp only[List.length_set,cF,qX]at Y;rw[List.getElem_set,dt,dt,qV];split;rename_i W;subst W;unfold wD;simp[fh,hc];rename_i W;unfold wD
 have:iW (dC e) (p++[m6 i])=f?:=by rw[j'];intro hb;have:=((ig ..).1 ((fh ..).1 hb)).2.2;rw[U]at this;exact R6 Y (λh=>W h.symm) this.symm
 simp[this];rw[if_neg h];refine ev λc _=>?_;unfold wD
 have:iW (dC e) (p++[c])=f?:=by rw[j'];intro hb;have:=(ig ..).1 ((fh ..).1 hb);exact h ⟨(fh ..).2 this.1,λe=>by rw[e]at this;omega⟩
 simp[this]
def ID(l)(p):∀(m O),(∀e∈m,e∈l)->m.foldl (rT l p) (iB.map (wD l O p))=iB.map (wD l (O++m) p):=by
 intro m;induction m with
 |nil=>simp|cons e m U=>intro O h;rw[cQ,H' l O p e (h e i!),U _ (λx W=>h x (by simp[W]))];simp
def Qm(l)(p):ep l p l.length=iB.map (wD l l p):=by
 have O:bZ 256 ([])=iB.map (wD l [] p):=by apply dw;rw[dc,cF,qX];intro i U W;rw[List.getElem_replicate,dt];rfl
 unfold ep;rw[cW,O,ID l p l [] (λ_ h=>h)];simp
def RH(l)(p):(l.any λe=>iW (dC e) p) = !(lr l p).isEmpty:=by
 unfold lr;induction l with
 |nil=>rfl|cons e l O=>rw[ft,cX,O];cases iW _ p<;>simp
def SS{l p}{c:UInt8}(h:lr l (p++[c])≠[]):kK (lr l (p++[c]))≠[]:=by intro e;have:=(sk h).length_le;rw[e]at this;simp at this
def K0(l)(p)(c):wD l l p c=if(jR l p c).isEmpty=t? then []else kK (jR l p c):=by unfold wD;rw[RH,mU];cases(lr l _).isEmpty<;>simp
def RM(l)(p):mG l p=(jw l p).map λc=>kK (jR l p c):=by
 unfold mG jw;rw[Qm,List.filter_map]
 have O:∀c∈iB,((λq=>!q.isEmpty) ∘ wD l l p) c = !(jR l p c).isEmpty:=by
  intro c _;show(!(wD l l p c).isEmpty)=_;rw[K0]
  cases h:(jR l p c).isEmpty with
  |true=>simp|false=>have:=SS (l:=l) (p:=p) (c:=c) (by rw[<-mU];intro e;rw[e]at h;simp at h);rw[<-mU]at this;simp[this]
 rw[cI O];refine ev λc U=>?_;have:=(bx.1 U).2;rw[K0,if_neg];simpa using this
def TN(l)(p):fT (lr l p) p=fT l p:=by unfold fT lr;rw[e8];refine cI λe _=>?_;rw[jt,i9,fh,beq_iff_eq];exact⟨λh=>h.1,λh=>⟨h,by rw[h];exact c6 _⟩⟩
def PP(l)(p)(c):jR (lr l p) p c=lr l (p++[c]):=by rw[mU,Ry (e5 ..)]
def Qy(l)(p):jw (lr l p) p=jw l p:=by refine cI λc _=>?_;rw[PP,mU]
def qm{l p c}(h:c∈jw l p):lr l (p++[c])≠[]:=by have:=(bx.1 h).2;rw[mU]at this;intro e;rw[e]at this;simp at this
def mo{O:Type}{f g:α->List O}:∀{l:List α},(∀a∈l,f a=g a)->l.flatMap f=l.flatMap g
 |[],_=>rfl|a::l,h=>by rw[cn,cn,h a i!,mo (λx U=>h x (by simp[U]))]
def BS(l):∀(f)(p a),jO f l p a=dI (p.drop a.length)++j8 f p (lr l p):=by
 intro f;induction f with
 |zero=>simp[jO,j8]|succ f U=>
  intro p a
  have W:((jw l p).map λc=>kK (jR l p c)).flatMap (λq=>jO f l q p)=(jw l p).flatMap λc=>dI ((kK (jR (lr l p) p c)).drop p.length)++j8 f (kK (jR (lr l p) p c)) (jR (lr l p) p c):=by rw[fi];refine mo λc Y=>?_;have O:=qm Y;rw[U,PP,mU,Qf O]
  rw[jO,j8,TN,Qy,RM,cF,W]
variable {n:Nat} {bs nm r:Wd}
def pT(n:Nat)(bs:Wd):Option (Wd×Wd):=if n<=bs.length then y? (bs.take n,bs.drop n)else x?
def rdNum:Wd->Option (Nat×Wd)
 |[]=>x?|b::r=>y? (b.toNat,r)
def gC(bs:Wd):Option (Wd×Wd):=(rdNum bs).bind λx=>pT x.1 x.2
def fe:Wd->Option (Nat×Wd)
 |a::b::c::r=>y? (a.toNat*65536+b.toNat*256+c.toNat,r)|_=>x?
def ml(O:List Wd)(last bs:Wd):Option (Wd×Wd):=
 (gC bs).bind λx=>if fU x.1=t?/\ky last x.1=t?/\x.1 ∉ O then y? x else x?
def j0(nm bs:Wd):Option (dD×Wd):=
 (gC bs).bind λx=>if eR x.1=t?/\x.1≠[]then(fe x.2).bind λy=>if y.1<=1000000 then(rdNum y.2).bind λz=>y? (⟨nm,f?,x.1,y.1,z.1⟩,z.2)else x? else x?
def oO:Nat->Wd->List Wd->Wd->Wd->Option (List dD×Wd)
 |0,_,_,_,bs=>y? ([],bs)|n+1,path,O,last,bs=>(ml O last bs).bind λx=>(j0 x.1 x.2).bind λy=>if dC y.1=path then(oO n path (O++[x.1]) x.1 y.2).bind λz=>y? (y.1::z.1,z.2)else x?
def oI(node:Wd->List Wd->Wd->Option (Nat×List dD×Wd)):Nat->Wd->List Wd->Int->Wd->Option (Nat×List dD×Wd)
 |0,_,_,_,bs=>y? (0,[],bs)|n+1,path,O,last,bs=>(gC bs).bind λx=>if x.1≠[]/\last<((x.1.getD 0 0).toNat:Int)then
   (node (path++x.1) O x.2).bind λy=>(oI node n path (O++y.2.1.map dD.name) ((x.1.getD 0 0).toNat:Int) y.2.2).bind λz=>y? (max y.1 z.1,y.2.1++z.2.1,z.2.2)else x?
def kG:Nat->Wd->List Wd->Wd->Option (Nat×List dD×Wd)
 |0,_,_,_=>x?|f+1,path,O,bs=>if path.length<=24 then
   (fe bs).bind λa=>(rdNum a.2).bind λb=>(oO b.1 path O [] b.2).bind λc=>(rdNum c.2).bind λd=>(oI (kG f) d.1 path (O++c.1.map dD.name) (-1) d.2).bind λe=>if(a.1:Int)=max (fI c.1) e.1/\(path=[]\/0<b.1\/1<d.1)then y? (a.1,c.1++e.2.1,e.2.2)else x?
  else x?
def pa:Nat->List Wd->Wd->Wd->Option (List dD×Wd)
 |0,_,_,bs=>y? ([],bs)|n+1,O,last,bs=>(ml O last bs).bind λx=>(pa n (O++[x.1]) x.1 x.2).bind λz=>y? (⟨x.1,t?,[],0,0⟩::z.1,z.2)
def nR(bs:Wd):Option (List dD×List dD):=
 (rdNum bs).bind λa=>(pa a.1 [] [] a.2).bind λb=>(gC b.2).bind λc=>if c.1=[]then(kG 26 [] (b.1.map dD.name) c.2).bind λd=>if d.2.2=[]/\0<l? b.1+l? d.2.1/\a.1<=100/\l? d.2.1<=30 then y? (b.1,d.2.1)else x? else x?
def K4(b):u8 b.toNat=b:=by have h:=b.toNat_lt;unfold u8;rw[(o!:((b.toNat:Int) % 256).toNat=b.toNat)];simp
def uk(n:Nat)(h:n<256):(u8 n).toNat=n:=by unfold u8;simp;omega
def fK(h:rdNum bs=y? (n,r)):bs=u8 n::r/\n<256:=by
 cases bs with
 |nil=>simp[rdNum]at h|cons b t=>obtain⟨rfl,rfl⟩:=h;exact⟨by rw[K4],b.toNat_lt⟩
def sx(n:Nat)(h:n<256)(r:Wd):rdNum (u8 n::r)=y? (n,r):=by simp[rdNum,uk n h]
def fZ{t}(h:gC bs=y? (t,r)):bs=dI t++r/\l? t<256:=by
 unfold gC at h
 cases O:rdNum bs with
 |none=>rw[O]at h;simp at h|some x=>obtain⟨n,b⟩:=x;obtain⟨rfl,U⟩:=fK O;rw[O]at h;simp only[ga,pT]at h;split at h;obtain⟨rfl,rfl⟩:=h;have W:(b.take n).length=n:=j!;refine⟨?_,o!⟩;unfold dI;rw[W,cY,ei];simp at h
def mf(t r:Wd)(h:l? t<256):gC (dI t++r)=y? (t,r):=by unfold gC dI;rw[cY,sx _ h];simp[pT]
def xm(n:Nat)(h:n<16777216):gh n=[u8 ((n / 65536:Nat)),u8 ((n / 256 % 256:Nat)),u8 ((n % 256:Nat))]:=by rfl
def ju(h:fe bs=y? (n,r)):bs=gh n++r/\n<16777216:=by
 match bs,h with
 |a::b::c::t,h=>obtain⟨rfl,rfl⟩:=h;have O:=a.toNat_lt;have hb:=b.toNat_lt;have U:=c.toNat_lt;refine⟨?_,o!⟩;rw[xm _ o!];rw[(o!:(a.toNat*65536+b.toNat*256+c.toNat) / 65536=a.toNat),(o!:(a.toNat*65536+b.toNat*256+c.toNat) / 256 % 256=b.toNat),(o!:(a.toNat*65536+b.toNat*256+c.toNat) % 256=c.toNat),K4,K4,K4];rfl
 |[],h=>simp[fe]at h|[_],h=>simp[fe]at h|[_,_],h=>simp[fe]at h
def sj(n:Nat)(h:n<16777216)(r):fe (gh n++r)=y? (n,r):=by rw[xm n h];simp only[cY,cO,fe];rw[uk _ o!,uk _ o!,uk _ o!];congr 2;omega
def ya(l):∀g,0<=g->l.foldl (λg e=>if g<e.dn then e.dn else g) g=max g (fI l)/\0<=fI l:=by
 induction l with
 |nil=>simp[fI];omega|cons e l O=>intro g hg;have U:=O (if g<e.dn then e.dn else g) (by split<;>omega);have W:=O (if 0<e.dn then e.dn else 0) (by split<;>omega);have Y:fI (e::l)=l.foldl .. := rfl;rw[Y,cQ,U.1,W.1];constructor;split<;>split<;>omega;split<;>omega
def me(l):0<=fI l:=(ya l 0 o!).2
def lM(e)(l):fI (e::l)=max (max 0 e.dn) (fI l):=by have:=(ya l (if 0<e.dn then e.dn else 0) (by split<;>omega)).1;rw[show fI (e::l)=l.foldl .. from rfl,this];split<;>omega
def kT(l m):fI (l++m)=max (fI l) (fI m):=by
 induction l with
 |nil=>have:=me m;simp only[cO];rw[show fI []=0 from rfl];omega|cons e l O=>rw[cY,lM,lM];omega
def Cq{l m}(h:l.Perm m):fI l=fI m:=by
 induction h with
 |nil=>rfl|cons e _ O=>rw[lM,lM,O]|swap a b l=>simp only[lM];omega|trans _ _ U W=>rw[U,W]
def Ai(e:dD):Prop:=e.gone=f?/\fU e.name=t?/\eR e.text=t?/\e.text≠[]/\0<=e.dn/\e.dn<=1000000/\0<=e.dE/\e.dE<=255
def lQ{ks last}(h:ml ks last bs=y? (nm,r)):bs=dI nm++r/\fU nm=t?/\ky last nm=t?/\nm ∉ ks:=by obtain⟨x,O,h⟩:=f'.1 h;split at h;rename_i U;simp only[kc]at h;subst h;exact⟨(fZ O).1,U⟩;simp at h
def Eb{e}(h:j0 nm bs=y? (e,r)):e.name=nm/\bs=dI e.text++(gh e.dn++(u8 e.dE::r))/\(fU nm=t?->Ai e):=by obtain⟨x,U,h⟩:=f'.1 h;split at h;rename_i O;obtain⟨y,W,h⟩:=f'.1 h;split at h;obtain⟨z,Y,h⟩:=f'.1 h;obtain⟨rfl,rfl⟩:=h;have h1:=fZ U;have h2:=ju W;have h3:=fK Y;refine⟨q?,?_,λhn=>⟨q?,hn,O.1,O.2,i!,j!,i!,j!⟩⟩;rw[h1.1,h2.1,h3.1];simp at h;simp at h
def Hi:∀(n)(path)(W)(last bs)(es)(rest),oO n path W last bs=y? (es,rest)->
  es.length=n/\bs=es.flatMap kC++rest/\(∀e∈es,Ai e/\dC e=path/\e.name ∉ W/\ky last e.name=t?)/\jU es:=by
 intro n;induction n with
 |zero=>intro path W last bs es rest h;simp only[oO,kc,ny]at h;obtain⟨rfl,rfl⟩:=h;exact⟨q?,q?,nofun,List.Pairwise.nil⟩
 |succ n ih=>
  intro path W last bs es rest h;obtain⟨x,hx,h⟩:=f'.1 h;obtain⟨y,hy,h⟩:=f'.1 h;split at h;rename_i hk;obtain⟨z,hz,h⟩:=f'.1 h;obtain⟨rfl,rfl⟩:=h;obtain⟨h1,h2,Y,h4⟩:=ih _ _ _ _ _ _ hz;have O:=lQ hx;have U:=Eb hy;refine⟨by simp[h1],?_,?_,?_⟩;rw[O.1,U.2.1,h2,<-U.1];simp[kC];intro e hm;simp only[ce]at hm;obtain rfl|hm:=hm
  rw[U.1];exact⟨U.2.2 O.2.1,hk,O.2.2.2,O.2.2.1⟩;obtain⟨g1,g2,g3,g4⟩:=Y e hm;exact⟨g1,g2,λhc=>g3 (by simp[hc]),nB _ _ _ O.2.2.1 g4⟩;refine cp.2 ⟨λe hm=>?_,h4⟩;unfold uS;rw[U.1];exact(Y e hm).2.2.2;simp at h
variable {ss:List (List dD)} {ts:List (List Wd)} {buf:List dD}
def bytes_eta(s:ByteArray):s=⟨a? s.1.1⟩:=by simp
def j6(w:w?)(F:Nat->Prop)(b:Nat)(buf:List dD)(ss:List (List dD))(ts:List (List Wd)):Prop:=
 ∃O U W,w.1[b]?=y? (c? #[O,U,W] 120 (0,0))/\F b/\jE w F O buf/\Ay w F U ss/\pV w F W ts
def j6.stay{w b}(h:j6 w F b buf ss ts)(hb:∀k,F k->w'.1[k]?=w.1[k]?):j6 w' F b buf ss ts:=by obtain⟨W,Y,vT,h1,U,h3,h4,h5⟩:=h;exact⟨W,Y,vT,by rw[hb b U];exact h1,U,h3.stay hb (λ_ O=>O),h4.stay hb (λ_ O=>O),h5.stay hb (λ_ O=>O)⟩
def uK{w w1:w?}{b vB vS vT u buf'}(hF:∀k,F k->k<w.1.size)
  (hh:w.1[b]?=y? (c? #[vB,vS,vT] 120 (0,0))) (W:F b) (hs:Ay w F vS ss) (hT:pV w F vT ts) (hb:B? w w1)
  (ho:w1.ownsRow w.1.size 202 5 u buf'.length (dv buf')) :
  j6 (w1.setCell ⟨b,0,x?⟩ u) (kJ F w (w1.setCell ⟨b,0,x?⟩ u)) b buf' ss ts/\dp F w (w1.setCell ⟨b,0,x?⟩ u):=by
 have hz:=hb.size;have ab:=hF b W;have aa:(w1.setCell ⟨b,0,x?⟩ u).1.size=w1.1.size:=by simp[kj]
 have ac:w1.1[b]?=y? (c? #[vB,vS,vT] 120 (0,0)):=by rw[hb.block b ab];exact hh
 have U:∀k,k≠b->(w1.setCell ⟨b,0,x?⟩ u).1[k]?=w1.1[k]?:=λk O=>ke _ _ _ _ O;have hold:∀k,F k->k≠b->(w1.setCell _ u).1[k]?=w.1[k]?:=λk O ad=>by rw[U k ad,hb.block k (hF k O)]
 refine⟨⟨u,vS,vT,?_,Or.inl W,⟨?_,?_⟩,?_,?_⟩,?_⟩;rw[heap_set ac];rfl;refine dG (fj ho (hV _)) (λk O=>U k (λe=>?_));have:=(ho.lt k O).1;omega;intro k O;have:=ho.lt k O;exact Or.inr ⟨this.1,by rw[aa];exact this.2⟩;obtain⟨vs,h1,h2,h3,h4⟩:=hs;refine⟨vs,h1,dK h2 (λk O=>hold k (h3 k O) (λe=>by subst e;exact gD hh h2 d! O)),λk O=>Or.inl (h3 k O),λi hi=>?_⟩;obtain⟨v,hv,Y⟩:=h4 i hi;exact⟨v,hv,dG Y.1 (λk O=>hold k (Y.2 k O) (λe=>by subst e;exact fc hh Y.1 d! O)),λk O=>Or.inl (Y.2 k O)⟩;obtain⟨vs,h1,h2,h3,h4⟩:=hT;refine⟨vs,h1,dK h2 (λk O=>hold k (h3 k O) (λe=>by subst e;exact gD hh h2 d! O)),λk O=>Or.inl (h3 k O),λi hi=>?_⟩;obtain⟨v,hv,Y,hf⟩:=h4 i hi;exact⟨v,hv,dK Y (λk O=>hold k (hf k O) (λe=>by subst e;exact gD hh Y d! O)),λk O=>Or.inl (hf k O)⟩;refine⟨hb.os,hb.tape,hb.output,by rw[aa];exact hz,λk O hn=>?_⟩;rw[U k (λe=>hn (by rw[e];exact W)),hb.block k O]
def iG(buf:List dD)(ss:List (List dD))(name text:Wd)(dn dE:Int):Nat×List dD:=
 if fU name=t? then
  if eR text=t?/\text≠[]then
   if dn<0\/1000000<dn\/dE<0\/255<dE then(3,buf)
   else if 30<=(dO ss buf).length/\iY (dO ss buf) name=x? then(4,buf)
   else(0,dM buf [⟨name,f?,text,dn,dE⟩])
  else(2,buf)
 else(1,buf)
def kJ.ow{w b}(h:j6 w F b buf ss ts):j6 w (kJ F w w) b buf ss ts:=by obtain⟨U,W,Y,h1,h2,h3,h4,h5⟩:=h;exact⟨U,W,Y,h1,Or.inl h2,h3.stay (λ_ _=>rfl) (λ_ O=>Or.inl O),h4.stay (λ_ _=>rfl) (λ_ O=>Or.inl O),h5.stay (λ_ _=>rfl) (λ_ O=>Or.inl O)⟩
def kA{w b}(h:j6 w F b buf ss ts)(hF:∀k,F k->k<w.1.size)(hb:B? w w'):j6 w' (kJ F w w') b buf ss ts:=by obtain⟨W,Y,vT,h1,U,h3,h4,h5⟩:=h;have O:=λk O=>hb.block k (hF k O);exact⟨W,Y,vT,by rw[O b U];exact h1,Or.inl U,h3.stay O (λ_ O=>Or.inl O),h4.stay O (λ_ O=>Or.inl O),h5.stay O (λ_ O=>Or.inl O)⟩
def Mw(F:Nat->Prop)(b)(buf)(ss)(ts)(name text)(dn dE)(w:w?)(hF:∀k,F k->k<w.1.size)(hR:j6 w F b buf ss ts)(hn:name.size<=gd)(ht:text.size<=gd)
  (h1:gF ss<=536870912) (h2:l? buf<=536870912) :
  gg prog 103 #[p? (y? ⟨b,0,x?⟩),s? name,s? text,n? i? dn,n? i? dE] w λe w'=>e=e? (n? i? (iG buf ss name.1.1 text.1.1 dn dE).1)/\
   j6 w' (kJ F w w') b (iG buf ss name.1.1 text.1.1 dn dE).2 ss ts/\dp F w w':=by
 have HR:mi _:=hR;clear hR;by_cases O:fU name.1.1=t?
 .by_cases ag:eR text.1.1=t?/\text.1.1≠[]
  .obtain⟨U,ak⟩:=ag
   have aq:text.toList.isEmpty=f?:=by
    rw[mb]
    cases h:text.1.1 with
    |nil=>exact absurd h ak|cons a l=>rfl
   by_cases af:dn<0\/1000000<dn\/dE<0\/255<dE
   .have HU:mi (iG buf ss name.1.1 text.1.1 dn dE=(3,buf)):=by show iG _ _ _ _ _ _=_;unfold iG;rw[if_pos O,if_pos ⟨U,ak⟩,if_pos af]
    have a9:dn<0\/(0<=dn/\1000000<dn)\/(0<=dn/\dn<=1000000/\dE<0)\/(0<=dn/\dn<=1000000/\0<=dE/\255<dE):=o!;clear af;obtain c1|⟨c1,c2⟩|⟨c1,c2,c3⟩|⟨c1,c2,c3,c4⟩:=a9
    all_goals
     go_enter lo,lk;go_wp2_with fail;refine(kN name _ hn).mono ?_;rintro e w' ⟨rfl,rfl⟩;rw[O];go_wp2_with fail;refine(kP text _ ht).mono ?_;rintro e w' ⟨rfl,rfl⟩;rw[U];go_wp2;go_ret;refine⟨dQ (by rw[HU.out];rfl),?_,dp.refl _ _⟩;rw[HU.out];exact kJ.ow HR
   have aB:0<=dn:=o!;have aC:dn<=1000000:=o!;have aD:0<=dE:=o!;have aE:dE<=255:=o!;obtain⟨vB,vS,vT,hh,am,ar,av,aw⟩:=id HR;have ax:=hF b am
   have HU:mi (iG buf ss name.1.1 text.1.1 dn dE=if 30<=(dO ss buf).length/\iY (dO ss buf) name.1.1=x? then(4,buf)else(0,dM buf [⟨name.1.1,f?,text.1.1,dn,dE⟩])):=by show iG _ _ _ _ _ _=_;unfold iG;rw[if_pos O,if_pos ⟨U,ak⟩,if_neg af]
   clear af ak;go_enter lo,lk;go_wp2_with fail;refine(kN name _ hn).mono ?_;rintro e w' ⟨rfl,rfl⟩;rw[O];go_wp2_with fail;refine(kP text _ ht).mono ?_;rintro e w' ⟨rfl,rfl⟩;rw[U];have HH:mi _:=hh;have ay:mi _:=ar;have an:mi _:=av;have az:mi _:=aw;clear hh ar av aw O U;go_wp2_with fail;refine(tG F b vB vS vT buf ss w HH ay an h1 h2).mono ?_;rintro e w1 ⟨u,rfl,a0,ac⟩;obtain⟨au,cu,rfl,aF⟩:=dL a0;have a1:=ac.size;have aG:w1.cell? ⟨b,0,x?⟩=y? vB:=ge ac (by rw[dq HH.out];rfl);have a2:iu w1 5 vB buf.length (dv buf):=(iu.eL ay.1).below ac;by_cases a4:30<=(dO ss buf).length
   .go_wp2_with fail;have ao:=wi (.slice au (dO ss buf).length cu) (dO ss buf) name.1.1 w1 (iu.eL a0);rw[<-bytes_eta name]at ao;refine ao.mono ?_;clear ao;rintro e w' ⟨rfl,rfl⟩
    cases al:iY (dO ss buf) name.1.1 with
    |none=>
     have Y:mi (iG buf ss name.1.1 text.1.1 dn dE=(4,buf)):=by show iG _ _ _ _ _ _=_;rw[HU.out,if_pos ⟨a4,al⟩]
     rw[show uX x? = -1 from rfl];clear al;go_wp2;go_ret;refine⟨dQ (by rw[Y.out];rfl),?_,dp.eB ac⟩;rw[Y.out];exact kA HR hF ac
    |some j=>
     have Y:mi (iG buf ss name.1.1 text.1.1 dn dE=(0,dM buf [⟨name.1.1,f?,text.1.1,dn,dE⟩])):=by show iG _ _ _ _ _ _=_;rw[HU.out,if_neg (λh=>by rw[al]at h;simp at h)]
     rw[show uX (y? j)=(j:Int)from rfl];clear al
     have aa:iu (w1.alloc (c? #[s? name,.bool f?,s? text,n? i? dn,n? i? dE] 202)) 5 (.slice (y? ⟨w1.1.size,0,x?⟩) 1 1) 1 (dv [⟨name.1.1,f?,text.1.1,dn,dE⟩]):=by have:=iu.th (w:=w1) (b:=w1.1.size) (e:=⟨name.1.1,f?,text.1.1,dn,dE⟩) (t:=202) rfl;simp only[<-bytes_eta]at this;simpa[dv]using this
     have ad:B? w (w1.alloc (c? #[s? name,.bool f?,s? text,n? i? dn,n? i? dE] 202)):=ac.alloc a1 _;have ab:=a2.below ((kd _ _).alloc (hW _) (c? #[s? name,.bool f?,s? text,n? i? dn,n? i? dE] 202));have a':b<w1.1.size:=o!;go_wp2_with fail;refine(qu _ _ buf [⟨name.1.1,f?,text.1.1,dn,dE⟩] _ ab aa o! i!).mono ?_;rintro e w3 ⟨u3,rfl,ae,ah⟩;obtain⟨a3,c3,rfl,aA⟩:=dL ae;have ai:=ad.size;have W:B? w w3:=ad.trans (ah.mono ai);have aj:=uK hF HH am an az W (fj ae ai);have a5:w3.cell? ⟨b,0,x?⟩=y? vB:=ge W (by rw[dq HH.out];rfl);have a6:w3.frozen? ⟨b,0,x?⟩=f?:=by rw[W.frozen (p:=⟨b,0,x?⟩) ax];exact dP HH 0
     have ap:mi _:=aj;clear aj ae ah W aa ab ad;generalize dM buf [⟨name.1.1,f?,text.1.1,dn,dE⟩]=nb at *;go_wp2;go_ret;refine⟨dQ (by rw[Y.out];rfl),?_⟩;rw[Y.out];exact ap
   have Y:mi (iG buf ss name.1.1 text.1.1 dn dE=(0,dM buf [⟨name.1.1,f?,text.1.1,dn,dE⟩])):=by show iG _ _ _ _ _ _=_;rw[HU.out,if_neg (λh=>a4 h.1)]
   have aa:iu (w1.alloc (c? #[s? name,.bool f?,s? text,n? i? dn,n? i? dE] 202)) 5 (.slice (y? ⟨w1.1.size,0,x?⟩) 1 1) 1 (dv [⟨name.1.1,f?,text.1.1,dn,dE⟩]):=by have:=iu.th (w:=w1) (b:=w1.1.size) (e:=⟨name.1.1,f?,text.1.1,dn,dE⟩) (t:=202) rfl;simp only[<-bytes_eta]at this;simpa[dv]using this
   have ad:B? w (w1.alloc (c? #[s? name,.bool f?,s? text,n? i? dn,n? i? dE] 202)):=ac.alloc a1 _;have ab:=a2.below ((kd _ _).alloc (hW _) (c? #[s? name,.bool f?,s? text,n? i? dn,n? i? dE] 202));have a':b<w1.1.size:=o!;go_wp2_with fail;refine(qu _ _ buf [⟨name.1.1,f?,text.1.1,dn,dE⟩] _ ab aa o! i!).mono ?_;rintro e w3 ⟨u3,rfl,ae,ah⟩;obtain⟨a3,c3,rfl,aA⟩:=dL ae;have ai:=ad.size;have W:B? w w3:=ad.trans (ah.mono ai);have aj:=uK hF HH am an az W (fj ae ai);have a5:w3.cell? ⟨b,0,x?⟩=y? vB:=ge W (by rw[dq HH.out];rfl);have a6:w3.frozen? ⟨b,0,x?⟩=f?:=by rw[W.frozen (p:=⟨b,0,x?⟩) ax];exact dP HH 0
   have ap:mi _:=aj;clear aj ae ah W aa ab ad;generalize dM buf [⟨name.1.1,f?,text.1.1,dn,dE⟩]=nb at *;go_wp2;go_ret;refine⟨dQ (by rw[Y.out];rfl),?_⟩;rw[Y.out];exact ap
  have HU:mi (iG buf ss name.1.1 text.1.1 dn dE=(2,buf)):=by show iG _ _ _ _ _ _=_;unfold iG;rw[if_pos O,if_neg ag]
  by_cases U:eR text.1.1=t?
  .have h0:text.1.1=[]:=by
    by_cases h0:text.1.1=[];exact h0;exact absurd ⟨U,h0⟩ ag
   have aq:text.toList.isEmpty=t?:=by rw[mb,h0];rfl
   clear h0 ag;go_enter lo,lk;go_wp2_with fail;refine(kN name _ hn).mono ?_;rintro e w' ⟨rfl,rfl⟩;rw[O];go_wp2_with fail;refine(kP text _ ht).mono ?_;rintro e w' ⟨rfl,rfl⟩;rw[U];go_wp2;go_ret;refine⟨dQ (by rw[HU.out];rfl),?_,dp.refl _ _⟩;rw[HU.out];exact kJ.ow HR
  have a7:eR text.1.1=f?:=by simpa using U
  clear U ag;go_enter lo,lk;go_wp2_with fail;refine(kN name _ hn).mono ?_;rintro e w' ⟨rfl,rfl⟩;rw[O];go_wp2_with fail;refine(kP text _ ht).mono ?_;rintro e w' ⟨rfl,rfl⟩;rw[a7];go_wp2;go_ret;refine⟨dQ (by rw[HU.out];rfl),?_,dp.refl _ _⟩;rw[HU.out];exact kJ.ow HR
 have HU:mi (iG buf ss name.1.1 text.1.1 dn dE=(1,buf)):=by show iG _ _ _ _ _ _=_;unfold iG;rw[if_neg O]
 have a8:fU name.1.1=f?:=by simpa using O
 clear O;go_enter lo,lk;go_wp2_with fail;refine(kN name _ hn).mono ?_;rintro e w' ⟨rfl,rfl⟩;rw[a8];go_wp2;go_ret;refine⟨dQ (by rw[HU.out];rfl),?_,dp.refl _ _⟩;rw[HU.out];exact kJ.ow HR
variable {es:List dD} {c:UInt8} {path:Wd}
def Part(f:Nat)(path:Wd)(x:UInt8×List dD):Wd:=dI ((kK x.2).drop path.length)++j8 f (kK x.2) (eK x.2)
def Ti(node:Wd->List Wd->Wd->Option (Nat×List dD×Wd))(f:Nat):Prop:=
 ∀(path:Wd)(O:List Wd)(bs:Wd)(g:Nat)(es:List dD)(rest:Wd),node path O bs=y? (g,es,rest)->
  (∀e∈es,Ai e/\path <+: dC e/\e.name ∉ O)/\(es.map dD.name).Nodup/\(g:Int)=fI es/\(path≠[]->es≠[]/\kK es=path)/\bs=j8 f path (eK es)++rest
def Ld(O:List (UInt8×List dD)):Prop:=O.Pairwise λa b=>a.1.toNat<b.1.toNat
def Bf(path:Wd)(O:List (UInt8×List dD)):Prop:=∀x∈O,x.2≠[]/\∀e∈x.2,path++[x.1] <+: dC e
def lW(O:List (UInt8×List dD)):List dD:=O.flatMap λx=>x.2
def nodup_append{m:List dD}(O:(l.map dD.name).Nodup)(U:(m.map dD.name).Nodup)(W:∀e∈m,e.name ∉ l.map dD.name):((l++m).map dD.name).Nodup:=by rw[da,cV];refine⟨O,U,λa Y b hb=>?_⟩;obtain⟨e,he,rfl⟩:=bY.1 hb;intro h;subst h;exact W e he Y
def Fx{node f}(hN:Ti node f):∀(n)(path)(ks)(last)(bs)(g)(es)(rest),
  oI node n path ks last bs=y? (g,es,rest)->∃Y,l? Y=n/\es=lW Y/\Ld Y/\Bf path Y/\(∀x∈Y,last<(x.1.toNat))/\bs=Y.flatMap (Part f path)++rest/\
   (∀e∈es,Ai e/\e.name ∉ ks)/\(es.map dD.name).Nodup/\g=fI es:=by
 intro n;induction n with
 |zero=>intro path ks last bs g es rest h;simp only[oI,kc,ny]at h;obtain⟨rfl,rfl,rfl⟩:=h;exact⟨[],q?,q?,List.Pairwise.nil,nofun,nofun,q?,nofun,i!,q?⟩
 |succ n ih=>
  intro path ks last bs g es rest h;obtain⟨⟨t,r⟩,O,h⟩:=f'.1 h;split at h;rename_i hc;obtain⟨⟨gy,ey,ry⟩,hy,h⟩:=f'.1 h;obtain⟨⟨gz,ez,rz⟩,hz,h⟩:=f'.1 h;simp only[kc,ny]at h hc;obtain⟨rfl,rfl,rfl⟩:=h;obtain⟨a1,a2,a3,a4,a5⟩:=hN _ _ _ _ _ _ hy;obtain⟨Y,b1,b2,b3,b4,b5,b6,b7,b8,b9⟩:=ih _ _ _ _ _ _ _ hz;obtain⟨ht,W⟩:=hc
  cases t with
  |nil=>exact absurd q? ht|cons c t=>
   simp only[e4]at W b5;have aa:path++c::t≠[]:=i!;obtain⟨a6,a7⟩:=a4 aa;refine⟨(c,ey)::Y,by simp[b1],by rw[b2];rfl,?_,?_,?_,?_,?_,?_,?_⟩;exact cp.2 ⟨λx O=>by have:=b5 x O;show c.toNat<x.1.toNat;omega,b3⟩;intro x O;simp only[ce]at O;obtain rfl|O:=O
   exact⟨a6,λe U=>List.IsPrefix.trans (⟨t,i!⟩) (a1 e U).2.1⟩;exact b4 x O;intro x O;simp only[ce]at O;obtain rfl|O:=O
   exact W;have:=b5 x O;omega;have ab:r=j8 f _ _++ry:=a5;have ac:ry=Y.flatMap _++rz:=b6;rw[(fZ O).1,ab,ac,cn];unfold Part;rw[a7];simp;intro e U;rw[cg]at U;obtain U|U:=U
   exact⟨(a1 e U).1,(a1 e U).2.2⟩;exact⟨(b7 e U).1,λhk=>(b7 e U).2 (by simp[hk])⟩;exact nodup_append a2 b8 (λe U hm=>(b7 e U).2 (db _ hm));rw[kT];omega
  simp at h
def zF(h:∀e∈l,¬path++[c] <+: dC e):jR l path c=[]:=by unfold jR;rw[cH];intro e O hb;exact h e O ((fh ..).1 hb)
def RD(h:∀e∈l,path++[c] <+: dC e):jR l path c=l:=by unfold jR;rw[cR];intro e O;exact(fh ..).2 (h e O)
def Jl(l m)(path)(c):jR (l++m) path c=jR l path c++jR m path c:=by unfold jR;rw[cd]
def sG{s:Wd}{d:UInt8}(O:path++[c] <+: s)(U:path++[d] <+: s):c=d:=by rw[<-((ig ..).1 O).2.2,((ig ..).1 U).2.2]
def OP(path):∀(O),Bf path O->∀c,(∀x∈O,x.1≠c)->jR (lW O) path c=[]:=by intro O W c Y;refine zF λe he hp=>?_;obtain⟨x,U,hm⟩:=cq.1 he;exact Y x U (sG ((W x U).2 e hm) hp)
def OC(path):∀(O),Ld O->Bf path O->∀x∈O,jR (lW O) path x.1=x.2:=by
 intro O;induction O with
 |nil=>intro _ _ x U;simp at U|cons y O ih=>
  intro hH hU x U;have W:=cp.1 hH;have Y:Bf path O:=λz hz=>hU z (by simp[hz]);rw[show lW _=y.2++lW O from rfl,Jl];simp only[ce]at U;obtain rfl|U:=U
  rw[RD (hU x i!).2,OP path O Y _ (λz hz e=>by have:=W.1 z hz;rw[e]at this;omega),cA];rw[zF _,ih W.2 Y x U,cO];intro e he hp;have:=sG ((hU y i!).2 e he) hp;have h2:=W.1 x U;rw[this]at h2;omega
def vp:iB.Pairwise λa b=>a.toNat<b.toNat:=by rw[List.pairwise_iff_getElem];intro i j O U W;rw[qV,qV];rw[qX]at O U;simp;omega
def Cu(c):c∈iB:=by exact bY.2 ⟨c.toNat,List.mem_range.2 c.toNat_lt,i!⟩
def nW{cs:List UInt8}(h:cs.Pairwise λa b=>a.toNat<b.toNat):cs.Nodup:=h.imp (λh e=>by rw[e]at h;omega)
def DF(p)(cs)(h:cs.Pairwise λa b=>a.toNat<b.toNat)(U:∀c,p c=t?↔c∈cs):iB.filter p=cs:=by have O:=vp.filter p;refine no (le:=λa b=>a.toNat<b.toNat) (λa b _ _ O W=>o!) O h ?_;rw[cT (nW O) (nW h)];intro c;rw[bx,<-U c];exact⟨λh=>h.2,λh=>⟨Cu c,h⟩⟩
def Q6(h:∀e∈l,dC e≠path):fT l path=[]:=by unfold fT;rw[cH];intro e O hb;exact h e O (beq_iff_eq.1 hb)
def Rh(h:∀e∈l,dC e=path):fT l path=l:=by unfold fT;rw[cR];intro e O;exact beq_iff_eq.2 (h e O)
def Oq{hs}(h:Bf path hs):∀e∈lW hs,dC e≠path:=by intro e O U;obtain⟨x,W,hm⟩:=cq.1 O;have:=((ig ..).1 ((h x W).2 e hm)).2.1;rw[U]at this;omega
def SA(h:∀e∈l,dC e=path)(c):jR l path c=[]:=
 zF λe O U=>by have:=((ig ..).1 U).2.1;rw[h e O]at this;omega
def zY(f)(path)(own)(hs)(h1:jU own)(h2:∀e∈own,dC e=path)(W:Ld hs)(U:Bf path hs) :
  j8 (f+1) path (eK (own++lW hs))=gh (fI (own++lW hs))++(u8 own.length::(own.flatMap kC++(u8 hs.length::hs.flatMap (Part f path)))):=by
 have e1:fT (eK (own++lW hs)) path=own:=by rw[fT,ma,cd];have a:=Rh h2;have b:=Q6 (Oq U);unfold fT at a b;rw[a,b,cA,vZ own h1]
 have e2:∀c,jR (eK (own++lW hs)) path c=eK (jR (lW hs) path c):=by intro c;unfold jR;rw[ma,cd];have a:=SA h2 c;unfold jR at a;rw[a,cO]
 have e3:jw (eK (own++lW hs)) path=hs.map (·.1):=by
  refine DF _ _ (di.2 W) (λc=>?_);rw[e2,bY];constructor;intro h;refine n8 λY=>?_;rw[OP path hs U c (λx O e=>Y ⟨x,O,e⟩)]at h;simp[eK]at h;rintro⟨x,O,rfl⟩;rw[OC path hs W U x O];have:=(U x O).1;have hl:=tH x.2
  cases hq:eK _ with
  |nil=>rw[hq]at hl;cases h:x.2 with
   |nil=>exact absurd h this|cons a b=>rw[h]at hl;simp at hl
  |cons a b=>rfl
 rw[j8,e1,e3,Cq (gX _),cF,fi];congr 4;refine mo λx O=>?_;rw[e2,OC path hs W U x O];unfold Part
 have:kK (eK _)=kK x.2:=Iv λs=>by rw[bY,bY];exact⟨λ⟨e,h,k⟩=>⟨e,j9.1 h,k⟩,λ⟨e,h,k⟩=>⟨e,j9.2 h,k⟩⟩
 rw[this]
def N3(h0:∀e∈es,path <+: dC e)(h:(∃e∈es,dC e=path)\/∃a∈es,∃b∈es,∃c d:UInt8,c≠d/\path++[c] <+: dC a/\path++[d] <+: dC b):es≠[]/\kK es=path:=by
 have W:es≠[]:=by obtain⟨e,U,_⟩|⟨e,U,_⟩:=h<;>exact e6 U
 refine⟨W,Ks (u! W) ⟨λs hs=>?_,λr hr=>?_⟩⟩;obtain⟨e,U,rfl⟩:=bY.1 hs;exact h0 e U;have O:=λe U=>hr _ (bY.2 ⟨e,U,q?⟩);obtain⟨e,U,hk⟩|⟨a,ha,b,hb,c,d,aa,h1,h2⟩:=h
 rw[<-hk];exact O e U;obtain Y|Y:=i6 ..
 have g1:=((ig ..).1 h1).2.2;have g2:=((ig ..).1 h2).2.2;rw[qy (O a ha) _ Y]at g1;rw[qy (O b hb) _ Y]at g2;exact absurd (g1.symm.trans g2) aa;exact cL (O a ha) (h0 a ha) Y
def Fg:∀f,Ti (kG f) f:=by
 intro f;induction f with
 |zero=>intro path ks bs g es rest h;simp[kG]at h|succ f ih=>
  intro path ks bs g es rest h;unfold kG at h;split at h;obtain⟨⟨a,ra⟩,ha,h⟩:=f'.1 h;obtain⟨⟨b,rb⟩,hb,h⟩:=f'.1 h;obtain⟨⟨own,rc⟩,hc,h⟩:=f'.1 h;obtain⟨⟨d,rd⟩,hd,h⟩:=f'.1 h;obtain⟨⟨gk,ek,re⟩,W,h⟩:=f'.1 h;split at h;rename_i O;simp only[kc,ny]at h O hb hc hd W;obtain⟨rfl,rfl,rfl⟩:=h;obtain⟨o1,o2,Y,o4⟩:=Hi _ _ _ _ _ _ _ hc;obtain⟨hs,k1,k2,k3,k4,_,k5,k6,k7,k8⟩:=Fx ih _ _ _ _ _ _ _ _ W
  have U:∀e∈own++ek,path <+: dC e:=by
   intro e hm;rw[cg]at hm;obtain hm|hm:=hm
   rw[(Y e hm).2.1];exact c6 _;rw[k2]at hm;obtain⟨x,hx,hm⟩:=cq.1 hm;exact List.IsPrefix.trans (e5 _ _) ((k4 x hx).2 e hm)
  refine⟨λe hm=>⟨?_,U e hm,?_⟩,?_,?_,?_,?_⟩;rw[cg]at hm;obtain hm|hm:=hm
  exact(Y e hm).1;exact(k6 e hm).1;rw[cg]at hm;obtain hm|hm:=hm
  exact(Y e hm).2.2.1;exact λhk=>(k6 e hm).2 (by simp[hk]);exact nodup_append o4.nodup k7 (λe W hm=>(k6 e W).2 (db _ hm));rw[kT,O.1,k8];intro hp;refine N3 U ?_;obtain h|h|h:=O.2
  exact absurd h hp
  cases own with
  |nil=>simp at o1;omega|cons e own=>exact Or.inl ⟨e,i!,(Y e i!).2.1⟩
  match hs,k1 with
  |[],k1=>simp at k1;omega|[_],k1=>simp at k1;omega|x::y::ad,k1=>have hx:=k4 x i!;have hy:=k4 y i!;have ac:=(cp.1 k3).1 y i!;obtain⟨e1,aa⟩:=cr _ hx.1;obtain⟨e2,ab⟩:=cr _ hy.1;refine Or.inr ⟨e1,?_,e2,?_,x.1,y.1,λh=>by rw[h]at ac;omega,hx.2 e1 aa,hy.2 e2 ab⟩;rw[k2];simp[lW,aa];rw[k2];simp[lW,ab]
  have b1:=(ju ha).1;have b2:=(fK hb).1;have b3:=o2;have b4:=(fK hd).1;have b5:=k5;have b6:a=fI (own++lW hs):=by rw[kT,O.1,k8,k2]
  rw[k2,zY f path own hs o4 (λe W=>(Y e W).2.1) k3 k4,b1,b2,b3,b4,b5,<-b6,o1,k1];simp;simp at h;simp at h
def se:∀(n)(U)(last bs)(es)(rest),pa n U last bs=y? (es,rest)->
  es.length=n/\bs=es.flatMap (λe=>dI e.name)++rest/\(∀e∈es,e=⟨e.name,t?,[],0,0⟩/\fU e.name=t?/\e.name ∉ U/\ky last e.name=t?)/\jU es:=by
 intro n;induction n with
 |zero=>intro U last bs es rest h;simp only[pa,kc,ny]at h;obtain⟨rfl,rfl⟩:=h;exact⟨q?,q?,nofun,List.Pairwise.nil⟩
 |succ n Y=>
  intro U last bs es rest h;obtain⟨x,hx,h⟩:=f'.1 h;obtain⟨z,hz,h⟩:=f'.1 h;obtain⟨rfl,rfl⟩:=h;obtain⟨h1,h2,W,h4⟩:=Y _ _ _ _ _ hz;have O:=lQ hx;refine⟨by simp[h1],?_,?_,?_⟩;rw[O.1,h2];simp;intro e hm;simp only[ce]at hm;obtain rfl|hm:=hm
  exact⟨q?,O.2.1,O.2.2.2,O.2.2.1⟩;obtain⟨g1,g2,g3,g4⟩:=W e hm;exact⟨g1,g2,λhc=>g3 (by simp[hc]),nB _ _ _ O.2.2.1 g4⟩;exact cp.2 ⟨λe hm=>(W e hm).2.2.2,h4⟩
def eh(l:List dD):Wd:=u8 ((eK l).filter λe=>e.gone).length::(((eK l).filter λe=>e.gone).flatMap (λe=>dI e.name)++(dI []++j8 26 [] ((eK l).filter λe=>!e.gone)))
def NI(e:dD):Prop:=Ai e\/(e=⟨e.name,t?,[],0,0⟩/\fU e.name=t?)
structure lm(l:List dD):Prop where
 each:∀e∈l,NI e
 nodup:(l.map dD.name).Nodup
 some:l≠[]
 gone:(l.filter λe=>e.gone).length<=100
 there:(l.filter λe=>!e.gone).length<=30
def AF{gs}(h:nR bs=y? (gs,es)):lm (gs++es)/\bs=eh (gs++es)/\(∀e∈gs,e.gone=t?)/\∀e∈es,e.gone=f?:=by
 obtain⟨⟨n,ra⟩,ha,h⟩:=f'.1 h;obtain⟨⟨gs',rb⟩,hb,h⟩:=f'.1 h;obtain⟨⟨t,rc⟩,hc,h⟩:=f'.1 h;split at h;rename_i ht;obtain⟨⟨g,W,rd⟩,hd,h⟩:=f'.1 h;split at h
 rename_i O;simp only[kc,ny]at h O ht hb hc hd;obtain⟨rfl,rfl⟩:=h;subst ht;obtain⟨g1,g2,Y,g4⟩:=se _ _ _ _ _ _ hb;obtain⟨n1,n2,n3,n4,n5⟩:=Fg 26 _ _ _ _ _ _ hd;have hg:∀e∈gs',e.gone=t?:=λe U=>by rw[(Y e U).1]
 have U:=λe U=>(n1 e U).1.1;have f1:=cR.2 hg;have f2:W.filter (λe=>e.gone)=[]:=cH.2 (λe h=>by rw[U e h];simp);have f3:gs'.filter (λe=>!e.gone)=[]:=cH.2 (λe h=>by rw[hg e h];simp);have f4:W.filter (λe=>!e.gone)=W:=cR.2 (λe h=>by rw[U e h];rfl);refine⟨⟨?_,?_,?_,?_,?_⟩,?_,hg,U⟩;intro e hm;rw[cg]at hm;obtain hm|hm:=hm
 exact Or.inr ⟨(Y e hm).1,(Y e hm).2.1⟩;exact Or.inl (n1 e hm).1;exact nodup_append g4.nodup n2 (λe U=>(n1 e U).2.2);intro e;have:=congrArg er e;rw[cf,cP]at this;omega;rw[cd,f1,f2,cA,g1];exact O.2.2.1;rw[cd,f3,f4];exact O.2.2.2;have b1:=(fK ha).1;have b2:=g2;have b3:=(fZ hc).1;have b4:=n5;have b5:=O.1;unfold eh;rw[ma,ma,cd,cd,f1,f2,f3,f4,cA,vZ gs' g4,g1,b1,b2,b3,b4,b5];simp;simp at h;simp at h
def gf(bs:Wd):Option (List dD):=if 4000<bs.length then x? else(nR bs).map λx=>x.1++x.2
def wM(bs):gf bs=if 4000<bs.length then x? else(nR bs).map λx=>x.1++x.2:=rfl
variable {e:dD} {ps:List (Nat×dD)} {N a b c f:Nat}
abbrev sn(l:List (Nat×dD)):List dD:=l.map Prod.snd
def iV(N:Nat):Nat->Wd->List Wd->Wd->Wd->Option (List (Nat×dD)×Wd)
 |0,_,_,_,bs=>y? ([],bs)|n+1,path,O,last,bs=>(ml O last bs).bind λx=>(j0 x.1 x.2).bind λy=>if dC y.1=path then(iV N n path (O++[x.1]) x.1 y.2).bind λz=>y? ((N-l? bs,y.1)::z.1,z.2)else x?
def jl(node:Wd->List Wd->Wd->Option (Nat×List (Nat×dD)×Wd)):Nat->Wd->List Wd->Int->Wd->Option (Nat×List (Nat×dD)×Wd)
 |0,_,_,_,bs=>y? (0,[],bs)|n+1,path,O,last,bs=>(gC bs).bind λx=>if x.1≠[]/\last<((x.1.getD 0 0).toNat:Int)then
   (node (path++x.1) O x.2).bind λy=>(jl node n path (O++(sn y.2.1).map dD.name) ((x.1.getD 0 0).toNat:Int) y.2.2).bind λz=>y? (max y.1 z.1,y.2.1++z.2.1,z.2.2)else x?
def fJ(N:Nat):Nat->Wd->List Wd->Wd->Option (Nat×List (Nat×dD)×Wd)
 |0,_,_,_=>x?|f+1,path,O,bs=>if path.length<=24 then
   (fe bs).bind λa=>(rdNum a.2).bind λb=>(iV N b.1 path O [] b.2).bind λc=>(rdNum c.2).bind λd=>(jl (fJ N f) d.1 path (O++(sn c.1).map dD.name) (-1) d.2).bind λe=>if(a.1:Int)=max (fI (sn c.1)) e.1/\(path=[]\/0<b.1\/1<d.1)then y? (a.1,c.1++e.2.1,e.2.2)else x?
  else x?
def iU(N:Nat):Nat->List Wd->Wd->Wd->Option (List (Nat×dD)×Wd)
 |0,_,_,bs=>y? ([],bs)|n+1,O,last,bs=>(ml O last bs).bind λx=>(iU N n (O++[x.1]) x.1 x.2).bind λz=>y? ((N-l? bs,⟨x.1,t?,[],0,0⟩)::z.1,z.2)
def iM(N:Nat)(bs:Wd):Option (List (Nat×dD)×List (Nat×dD)):=
 (rdNum bs).bind λa=>(iU N a.1 [] [] a.2).bind λb=>(gC b.2).bind λc=>if c.1=[]then(fJ N 26 [] ((sn b.1).map dD.name) c.2).bind λd=>if d.2.2=[]/\0<l? b.1+l? d.2.1/\a.1<=100/\l? d.2.1<=30 then y? (b.1,d.2.1)else x? else x?
def wK(N):∀(n)(O)(U r),pa n O U r=(iU N n O U r).map λz=>(sn z.1,z.2)
 |0,_,_,_=>rfl|n+1,O,U,r=>by
  rw[pa,iU]
  cases ml O U r with
  |none=>rfl|some x=>simp only[ga,wK N n];cases iU N n .. <;> rfl
def CR(N):∀(n)(path)(O)(U r),oO n path O U r=(iV N n path O U r).map λz=>(sn z.1,z.2)
 |0,_,_,_,_=>rfl|n+1,path,O,U,r=>by
  rw[oO,iV]
  cases ml O U r with
  |none=>rfl|some x=>
   simp only[ga]
   cases j0 .. with
   |none=>rfl|some y=>
    simp only[ga,CR N n];split
    cases iV N n path .. <;> rfl;rfl
def CN(W:∀path O r,kG f path O r=(fJ N f path O r).map λz=>(z.1,sn z.2.1,z.2.2)):∀(n)(path)(O)(U)(r),oI (kG f) n path O U r=(jl (fJ N f) n path O U r).map λz=>(z.1,sn z.2.1,z.2.2)
 |0,_,_,_,_=>rfl|n+1,path,O,U,r=>by
  rw[oI,jl]
  cases gC r with
  |none=>rfl|some x=>
   simp only[ga,W,CN W n];split
   cases fJ N f _ O _ with
   |none=>rfl|some y=>simp only[gc,ga];cases jl _ n path .. <;> simp[sn]
   rfl
def BX(N):∀(f)(path)(O)(r),kG f path O r=(fJ N f path O r).map λz=>(z.1,sn z.2.1,z.2.2)
 |0,_,_,_=>rfl|f+1,path,O,r=>by
  rw[kG,fJ];split
  cases fe r with
  |none=>rfl|some a=>
   simp only[ga]
   cases rdNum _ with
   |none=>rfl|some b=>
    simp only[ga,CR N]
    cases iV N _ path O [] _ with
    |none=>rfl|some c=>
     simp only[gc,ga]
     cases rdNum _ with
     |none=>rfl|some d=>
      simp only[ga,CN (BX N f)]
      cases jl _ _ path .. with
      |none=>rfl|some e=>simp only[gc,ga];split<;>simp[sn]
  rfl
def NQ(N)(bs):nR bs=(iM N bs).map λz=>(sn z.1,sn z.2):=by
 unfold nR iM
 cases rdNum bs with
 |none=>rfl|some a=>
  simp only[ga,wK N]
  cases iU N _ [] [] _ with
  |none=>rfl|some b=>
   simp only[gc,ga]
   cases gC _ with
   |none=>rfl|some c=>
    simp only[ga,BX N];split
    cases fJ N 26 [] .. with
    |none=>rfl|some d=>simp only[gc,ga,cF];split<;>rfl
    rfl
def GG{n ks ls rf gs}(h:iU N n ks ls r=y? (gs,rf)):l? gs=n:=by have e:=wK N n ks ls r;rw[h]at e;have:=(se _ _ _ _ _ _ e).1;rw[cF]at this;omega
def rC(a b:Nat)(ps:List (Nat×dD)):Prop:=a<=b/\(∀p∈ps,a<=p.1/\p.1<b)/\ps.Pairwise λx y=>x.1<y.1
def rC.nil(h:a<=b):rC a b []:=⟨h,i!,.nil⟩
def rC.append{qs}(h:rC a b ps)(W:rC b c qs):rC a c (ps++qs):=by
 obtain⟨h1,O,Y⟩:=h;obtain⟨k1,U,k3⟩:=W;refine⟨o!,λp hp=>?_,de.2 ⟨Y,k3,λx hx y hy=>?_⟩⟩;obtain h|h:=cg.1 hp
 have:=O p h;omega;have:=U p h;omega;have:=O x hx;have:=U y hy;omega
def rC.one(h:a<b):rC a b [(a,e)]:=⟨o!,j!,i!⟩
def rC.from(h:rC b c ps)(U:a<=b):rC a c ps:=⟨by have:=h.1;omega,λp O=>by have:=h.2.1 p O;omega,h.2.2⟩
def Bd(N):∀{n U W r O Y},pa n U W r=y? (Y,O)->l? r<=N->∃ps,iU N n U W r=y? (ps,O)/\sn ps=Y/\l? O<=l? r/\rC (N-l? r) (N-l? O) ps
 |0,_,_,_,_,_,h,_=>by cases h;exact⟨[],q?,q?,hW _,.nil (hW _)⟩
 |n+1,U,W,r,O,Y,h,hN=>by
  rw[pa]at h
  simp only[f']at h
  obtain⟨⟨nm,r1⟩,h1,⟨gs',r2⟩,h2,h3⟩:=h
  cases h3
  try dsimp only at *
  have hl:l? r1+1<=l? r:=by rw[(lQ h1).1];simp[dI]
  obtain⟨ps,k1,k2,k3,k4⟩:=Bd N h2 o!;refine⟨(N-l? r,⟨nm,t?,[],0,0⟩)::ps,?_,by simp[sn,<-k2],o!,(rC.one o!).append k4⟩;rw[iU,h1,ga,k1];rfl
def FL{nm r2}(h:j0 nm r=y? (e,r2)):l? r2<=l? r:=by
 unfold j0 at h;simp only[f']at h;obtain⟨⟨tx,r'⟩,O,h⟩:=h;split at h;simp only[f']at h;obtain⟨⟨wt,r3⟩,U,h⟩:=h;split at h;simp only[f']at h;obtain⟨⟨tg,r4⟩,W,h⟩:=h;cases h;have Y:=(fZ O).1;have e2:=(ju U).1;have e3:=(fK W).1;rw[Y,e2,e3];simp;omega
 cases h
 cases h
def zw(N):∀{n path W Y r O es},oO n path W Y r=y? (es,O)->l? r<=N->∃ps,iV N n path W Y r=y? (ps,O)/\sn ps=es/\l? O<=l? r/\rC (N-l? r) (N-l? O) ps
 |0,_,_,_,_,_,_,h,_=>by cases h;exact⟨[],q?,q?,hW _,.nil (hW _)⟩
 |n+1,path,W,Y,r,O,es,h,hN=>by
  rw[oO]at h
  simp only[f']at h
  obtain⟨⟨nm,r1⟩,h1,⟨e,r2⟩,h2,U⟩:=h
  split at U
  .rename_i hk;simp only[f']at U;obtain⟨⟨aa,r4⟩,h4,h5⟩:=U;cases h5
   try dsimp only at *
   have hl:l? r1+1<=l? r:=by rw[(lQ h1).1];simp[dI]
   have ab:=FL h2;obtain⟨ps,k1,k2,k3,k4⟩:=zw N h4 o!;refine⟨(N-l? r,e)::ps,?_,by simp[sn,<-k2],o!,(rC.one o!).append k4⟩;rw[iV,h1,ga,h2,ga,if_pos hk,k1];rfl
  cases U
def OL(N:Nat)(f:Nat):Prop:=∀(path:Wd)(U:List Wd)(r O:Wd)(g:Nat)(es:List dD),kG f path U r=y? (g,es,O)->l? r<=N->∃ps,fJ N f path U r=y? (g,ps,O)/\sn ps=es/\l? O<=l? r/\rC (N-l? r) (N-l? O) ps
def AU(Y:OL N f):∀{n path U W r O g es},oI (kG f) n path U W r=y? (g,es,O)->l? r<=N->∃ps,jl (fJ N f) n path U W r=y? (g,ps,O)/\sn ps=es/\l? O<=l? r/\rC (N-l? r) (N-l? O) ps
 |0,_,_,_,_,_,_,_,h,_=>by cases h;exact⟨[],q?,q?,hW _,.nil (hW _)⟩
 |n+1,path,U,W,r,O,g,es,h,hN=>by
  rw[oI]at h
  simp only[f']at h
  obtain⟨⟨lb,r1⟩,h1,h⟩:=h
  split at h
  .rename_i hc;simp only[f']at h;obtain⟨⟨g1,aa,r2⟩,h2,⟨g2,ab,r3⟩,h3,h4⟩:=h;cases h4
   try dsimp only at *
   have hl:l? r1<=l? r:=by rw[(fZ h1).1];simp
   obtain⟨ps,k1,k2,k3,k4⟩:=Y _ _ _ _ _ _ h2 o!;obtain⟨qs,j1,j2,j3,j4⟩:=AU Y h3 o!;refine⟨ps++qs,?_,by simp[sn]at *;rw[k2,j2],o!,(k4.append j4).from o!⟩;rw[jl,h1,ga,if_pos hc,k1];simp only[k2,j1,ga]
  cases h
def zq(N):∀f,OL N f
 |0=>nofun
 |f+1=>λpath ks r rf g es h hN=>by
  rw[kG]at h
  split at h
  .rename_i hp
   simp only[f']at h
   obtain⟨⟨wg,r0⟩,U,⟨nb,r1⟩,W,⟨own,r2⟩,h3,⟨nc,r3⟩,Y,⟨gb,below,r4⟩,h5,O⟩:=h
   split at O
   .rename_i hc;cases O
    try dsimp only at *
    have l1:l? r0<=l? r:=by rw[(ju U).1];simp
    have l2:l? r1<=l? r0:=by have:=(fK W).1;rw[this];simp
    obtain⟨ps,k1,k2,k3,k4⟩:=zw N h3 o!;have l3:l? r3<=l? r2:=by have:=(fK Y).1;rw[this];simp
    obtain⟨qs,j1,j2,j3,j4⟩:=AU (zq N f) h5 o!;refine⟨ps++qs,?_,by simp[sn]at *;rw[k2,j2],o!,(k4.append (j4.from o!)).from o!⟩;rw[fJ,if_pos hp,U,ga,W,ga,k1,ga,Y];simp only[k2,j1,ga];rw[if_pos hc]
   cases O
  cases h
def LU{gs es}(h:nR bs=y? (gs,es)):∃ps qs,iM bs.length bs=y? (ps,qs)/\sn ps=gs/\sn qs=es/\rC 0 bs.length (ps++qs):=by
 unfold nR at h;simp only[f']at h;obtain⟨⟨n,r⟩,W,⟨gs',r0⟩,h2,⟨lb,r1⟩,Y,h⟩:=h;split at h
 .rename_i hc;simp only[f']at h;obtain⟨⟨g,O,r2⟩,h4,h⟩:=h;split at h
  .rename_i hd;cases h
   try dsimp only at *
   have l1:l? r<=l? bs:=by have:=(fK W).1;rw[this];simp
   obtain⟨ps,k1,U,k3,k4⟩:=Bd _ h2 o!;have l3:l? r1<=l? r0:=by rw[(fZ Y).1];simp
   obtain⟨qs,j1,j2,j3,j4⟩:=zq bs.length 26 _ _ _ _ _ _ h4 o!;refine⟨ps,qs,?_,U,j2,?_⟩;have a1:l? ps=l? gs:=by rw[<-U];simp
   have a2:l? qs=l? O:=by rw[<-j2];simp
   unfold iM;rw[W,ga,k1,ga,Y,ga,if_pos hc];simp only[U,j1,ga];rw[if_pos (by rw[a1,a2];exact hd)];have:=(k4.append (j4.from o!)).from (hV _);rw[hd.1]at this;exact this
  cases h
 cases h
variable {G:List dD} {c:UInt8} {s:Wd}
def il(h:fU s=t?):0<l? s/\l? s<=8:=by unfold fU at h;simp only[i9,decide_eq_true_eq]at h;exact⟨h.1.2,h.2⟩
def kZ(h:eR s=t?):l? s<=24:=by unfold eR at h;simp only[i9,decide_eq_true_eq]at h;exact h.1
def xF(h:fU s=t?):ky [] s=t?:=by
 have:=(il h).1
 cases s with
 |nil=>simp at this|cons a s=>rfl
def rE(h:Ai e):(dC e).length<=24/\0<(dC e).length:=by
 have O:=kZ h.2.2.1;have U:=h.2.2.2.1;unfold dC;rw[fO];refine⟨O,?_⟩
 cases W:e.text with
 |nil=>exact absurd W U|cons a b=>simp
def uW{ks}{last nm:Wd}(r)(O:fU nm=t?)(U:ky last nm=t?)(W:nm ∉ ks):ml ks last (dI nm++r)=y? (nm,r):=by unfold ml;rw[mf nm r (v! ((il O).2))];simp[O,U,W]
def FK(e)(h:Ai e)(r:Wd):j0 e.name (dI e.text++(gh e.dn++(u8 e.dE::r)))=y? (e,r):=by obtain⟨U,h2,O,W,Y,h6,h7,h8⟩:=h;obtain⟨nm,gn,tx,wt,tg⟩:=e;simp only at U h2 O W Y h6 h7 h8;subst U;obtain⟨n,rfl⟩:=on Y;obtain⟨m,rfl⟩:=on h7;have hw:n<=1000000:=o!;unfold j0;rw[mf tx _ (v! (kZ O))];simp only[ga,O,W,ne_eq,not_false_eq_true,and_self,if_true];rw[sj n o!];simp only[ga,hw,if_true];rw[sx m o!];rfl
def Gw(path):∀(es)(U)(last rest:Wd),(∀e∈es,Ai e/\dC e=path/\e.name ∉ U/\ky last e.name=t?)->jU es->oO es.length path U last (es.flatMap kC++rest)=y? (es,rest):=by
 intro es;induction es with
 |nil=>intro U last rest _ _;rfl|cons e es ih=>
  intro U last rest h hr;obtain⟨Y,a2,a3,a4⟩:=h e i!;have O:=cp.1 hr
  have e1:(e::es).flatMap kC++rest=dI e.name++(dI e.text++(gh e.dn++(u8 e.dE::(es.flatMap kC++rest)))):=by simp[kC]
  rw[e1,ct,oO,uW _ Y.2.1 a4 a3];simp only[ga];rw[FK e Y];simp only[ga,a2,if_true];rw[ih _ _ _ (λx W=>?_) O.2];rfl;obtain⟨b1,b2,b3,b4⟩:=h x (by simp[W]);refine⟨b1,b2,?_,O.1 x W⟩;intro hm;simp only[cg,c9]at hm;obtain hm|hm:=hm
  exact b3 hm;exact FN (O.1 x W) hm.symm
def ET:∀(es)(U)(last rest:Wd),(∀e∈es,e=⟨e.name,t?,[],0,0⟩/\fU e.name=t?/\e.name ∉ U/\ky last e.name=t?)->jU es->pa es.length U last (es.flatMap (λe=>dI e.name)++rest)=y? (es,rest):=by
 intro es;induction es with
 |nil=>intro U last rest _ _;rfl|cons e es Y=>
  intro U last rest h hr;obtain⟨a1,a2,a3,a4⟩:=h e i!;have O:=cp.1 hr;rw[cn,cJ,ct,pa,uW _ a2 a4 a3];simp only[ga];rw[Y _ _ _ (λx W=>?_) O.2];simp only[ga];rw[<-a1];obtain⟨b1,b2,b3,b4⟩:=h x (by simp[W]);refine⟨b1,b2,?_,O.1 x W⟩;intro hm;simp only[cg,c9]at hm;obtain hm|hm:=hm
  exact b3 hm;exact FN (O.1 x W) hm.symm
def LD(h:(G.map dD.name).Nodup):G.Nodup:=List.Pairwise.of_map _ (λa b O e=>O (by rw[e])) h
def j5{p}:e∈jR G p c↔e∈G/\p++[c] <+: dC e:=oh
def rG(G)(p):(jw G p).Pairwise λa b=>a.toNat<b.toNat:=vp.filter _
def tz{p}:c∈jw G p↔∃e∈G,p++[c] <+: dC e:=by
 unfold jw;rw[bx];constructor;rintro⟨_,h⟩
 cases O:jR G p c with
 |nil=>rw[O]at h;simp at h|cons e t=>have:=j5.1 (show e∈jR G p c by rw[O];simp);exact⟨e,this⟩
 rintro⟨e,U,W⟩;refine⟨Cu c,?_⟩;have:=j5.2 ⟨U,W⟩
 cases O:jR G p c with
 |nil=>rw[O]at this;simp at this|cons e t=>rfl
def Hx{p}(h:G.Nodup):∀(cs:List UInt8),cs.Nodup->(cs.flatMap (jR G p)).Nodup:=by
 intro cs;induction cs with
 |nil=>simp|cons c cs U=>intro W;have O:=cN.1 W;rw[cn,cV];refine⟨h.filter _,U O.2,λa Y b hb e=>?_⟩;subst e;obtain⟨d,hd,hb⟩:=cq.1 hb;have:=sG (j5.1 Y).2 (j5.1 hb).2;subst this;exact O.1 hd
def I7{p:Wd}(h:G.Nodup)(U:∀e∈G,p <+: dC e):(fT G p++(jw G p).flatMap (jR G p)).Perm G:=by rw[cT _ h];intro e;rw[cg];constructor;rintro(h|h);exact(bx.1 h).1;obtain⟨c,_,h⟩:=cq.1 h;exact(j5.1 h).1;intro O;by_cases W:dC e=p;exact Or.inl (bx.2 ⟨O,beq_iff_eq.2 W⟩);have:=(ig ..).2 ⟨U e O,nJ (U e O) W,q?⟩;exact Or.inr (cq.2 ⟨_,tz.2 ⟨e,O,this⟩,j5.2 ⟨O,this⟩⟩);rw[cV];refine⟨h.filter _,Hx h _ (nW (rG G p)),λa Y b hb e=>?_⟩;subst e;obtain⟨c,_,hb⟩:=cq.1 hb;have h1:=beq_iff_eq.1 (bx.1 Y).2;have h2:=((ig ..).1 (j5.1 hb).2).2.1;rw[h1]at h2;omega
def zh(h:(G.map dD.name).Nodup){a b}(O:a∈G)(hb:b∈G)(U:a.name=b.name):a=b:=by
 induction G with
 |nil=>simp at O|cons x G W=>
  rw[ck,cN]at h;simp only[ce]at O hb;obtain rfl|O:=O<;>obtain rfl|hb:=hb
  rfl;exact absurd (bY.2 ⟨b,hb,U.symm⟩) h.1;exact absurd (bY.2 ⟨a,O,U⟩) h.1;exact W h.2 O hb
def Ky{l:List dD}(h:∀e∈l,e.dn<=1000000):fI l<=1000000:=by
 induction l with
 |nil=>simp[fI]|cons e l O=>have W:=h e i!;have Y:=O (λx U=>h x (by simp[U]));rw[lM];omega
def Th(node:Wd->List Wd->Wd->Option (Nat×List dD×Wd))(f:Nat):Prop:=
 ∀(path:Wd)(O:List Wd)(G:List dD)(rest:Wd),jU G->(∀e∈G,Ai e/\path <+: dC e/\e.name ∉ O)->l? G<=255->(path=[]\/(G≠[]/\kK G=path))->26<=f+l? path->
  ∃es,node path O (j8 f path G++rest)=y? ((fI G).toNat,es,rest)/\es.Perm G
def GP{node f}(hN:Th node f)(path:Wd)(G)(hG:jU G)(ag:∀e∈G,Ai e)(hl:l? G<=255)(hf:25<=f+l? path) :
  ∀(cs:List UInt8)(ks)(last)(rest),(cs.Pairwise λa b=>a.toNat<b.toNat)->(∀c∈cs,c∈jw G path/\last<(c.toNat:Int))->(∀e∈cs.flatMap (jR G path),e.name ∉ ks)->
   ∃es,oI node cs.length path ks last (cs.flatMap (λc=>dI ((kK (jR G path c)).drop path.length)++j8 f (kK (jR G path c)) (jR G path c))++rest)=y? ((fI (cs.flatMap (jR G path))).toNat,es,rest)/\es.Perm (cs.flatMap (jR G path)):=by
 intro cs;induction cs with
 |nil=>intro ks last rest _ _ _;exact⟨[],q?,nr _⟩|cons c cs ih=>
  intro ks last rest hr hc hk;have aa:=cp.1 hr;obtain⟨ah,ai⟩:=hc c i!;have U:=qm ah;rw[<-mU]at U;have Y:=sk (l:=G) (p:=path++[c]) (by rw[<-mU];exact U);rw[<-mU]at Y;have aj:=nZ U;have ak:jU (jR G path c):=hG.filter _;have ab:∀e∈jR G path c,Ai e/\kK (jR G path c) <+: dC e/\e.name ∉ ks:=λe O=>⟨ag e (j5.1 O).1,aj.1 _ (bY.2 ⟨e,O,q?⟩),hk e (by rw[cn];exact List.mem_append_left _ O)⟩;have al:(jR G path c).length<=255:=hZ (cw _ _) hl;obtain⟨t,ht⟩:=Y;obtain⟨e0,ad⟩:=cr _ U;have ap:(kK (jR G path c)).length<=24:=hZ (ab e0 ad).2.1.length_le (rE (ab e0 ad).1).1
  have ae:∀e∈cs.flatMap (jR G path),e.name ∉ (jR G path c).map dD.name:=by intro e O hm;obtain⟨d,hd,O⟩:=cq.1 O;obtain⟨x,hx,am⟩:=bY.1 hm;have:=zh hG.nodup (j5.1 hx).1 (j5.1 O).1 am;subst this;have:=sG (j5.1 hx).2 (j5.1 O).2;have h3:=aa.1 d hd;rw[this]at h3;omega
  have an:∀e∈cs.flatMap (jR G path),e.name ∉ ks:=λe O=>hk e (by rw[cn];exact db _ O);have ac:(kK (jR G path c)).drop path.length=c::t:=by rw[<-ht];simp
  have W:path++c::t=kK (jR G path c):=by rw[<-ht];simp
  have aq:l? path+1<=(kK (jR G path c)).length:=by rw[<-W];simp
  obtain⟨e1,h1,af⟩:=hN _ ks _ _ ak ab al (Or.inr ⟨U,q?⟩) o!
  obtain⟨e2,h2,ao⟩:=ih _ c.toNat rest aa.2 (λd hd=>⟨(hc d (by simp[hd])).1,by have:=aa.1 d hd;omega⟩) (λe O hm=>by
   rw[cg]at hm;obtain hm|hm:=hm
   exact an e O hm
   exact ae e O ((af.map _).mem_iff.1 hm))
  refine⟨e1++e2,?_,?_⟩;rw[cn,cn,ct,oI,ac,cJ,cJ,mf _ _ (by have:=congrArg er W;simp at this;simp;omega)];simp only[ga,e4,ne_eq,reduceCtorEq,not_false_eq_true,ai,and_self,if_true,W];rw[h1];simp only[ga];rw[h2];simp only[ga,kc,ny,and_true];rw[kT];omega;exact af.append ao
def Fe:∀f,Th (kG f) f:=by
 intro f;induction f with
 |zero=>
  intro path ks G rest hr hm hl hp hf;obtain rfl|⟨U,hs⟩:=hp
  simp at hf;obtain⟨e,O⟩:=cr _ U;have:=(hm e O).2.1.length_le;have:=(rE (hm e O).1).1;omega
 |succ f ih=>
  intro path ks G rest hr hm hl hp hf
  have ai:l? path<=24:=by
   obtain rfl|⟨U,hs⟩:=hp
   simp;obtain⟨e,O⟩:=cr _ U;exact hZ (hm e O).2.1.length_le (rE (hm e O).1).1
  have fA:=I7 (LD hr.nodup) (λe O=>(hm e O).2.1);have ac:=fA.length_eq;rw[cf]at ac
  have ad:∀e∈fT G path,Ai e/\dC e=path/\e.name ∉ ks/\ky [] e.name=t?:=λe O=>by have h:=bx.1 O;exact⟨(hm e h.1).1,beq_iff_eq.1 h.2,(hm e h.1).2.2,xF (hm e h.1).1.2.1⟩
  have ao:fI G<=1000000:=Ky (λe O=>(hm e O).1.2.2.2.2.2.1);have ap:=me G
  have aq:(jw G path).length<=((jw G path).flatMap (jR G path)).length:=by
   rw[List.length_flatMap]
   have:∀cs:List UInt8,(∀c∈cs,c∈jw G path)->l? cs<=(cs.map λc=>(jR G path c).length).sum:=by
    intro cs;induction cs with
    |nil=>intro _;simp|cons c cs aj=>intro h;have h1:=aj (λd hd=>h d (by simp[hd]));have h2:=qm (h c i!);rw[<-mU]at h2;have h3:=ex.2 h2;simp only[ct,ck,fr];omega
   exact this _ (λ_ h=>h)
  obtain⟨es,hk,ak⟩:=GP ih path G hr (λe O=>(hm e O).1) hl o! (jw G path) (ks++(fT G path).map dD.name) (-1) rest (rG G path) (λc hc=>⟨hc,o!⟩) (λe O W=>by
   obtain⟨c,hc,O⟩:=cq.1 O;have aa:=j5.1 O;rw[cg]at W;obtain W|W:=W
   exact(hm e aa.1).2.2 W;obtain⟨x,Y,al⟩:=bY.1 W;have ae:=bx.1 Y;have:=zh hr.nodup ae.1 aa.1 al;subst this;have h1:=beq_iff_eq.1 ae.2;have h2:=((ig _ _ _).1 aa.2).2.1
   rw[h1]at h2;omega)
  refine⟨fT G path++es,?_,(nn _ ak).trans fA⟩;have hG:((fI G).toNat:Int)=fI G:=o!
  have e1:j8 (f+1) path G++rest=gh (((fI G).toNat:Nat):Int)++(u8 ((fT G path).length:Int)::((fT G path).flatMap kC++(u8 ((jw G path).length:Int)::((jw G path).flatMap (λc=>dI ((kK (jR G path c)).drop path.length)++j8 f (kK (jR G path c)) (jR G path c))++rest)))):=by rw[hG,j8];simp
  have an:fI G=max (fI (fT G path)) (fI ((jw G path).flatMap (jR G path))):=by rw[<-kT,Cq fA]
  have ar:=me (fT G path);have au:=me ((jw G path).flatMap (jR G path))
  have af:path=[]\/0<(fT G path).length\/1<(jw G path).length:=by
   obtain h|⟨U,hs⟩:=hp
   exact Or.inl h;refine Or.inr (n8 λag=>?_);have ho:fT G path=[]:=List.length_eq_zero_iff.1 o!;have ah:=nZ U;rw[hs]at ah;obtain⟨e,O⟩:=cr _ U
   have am:∀x∈G,dC x≠path:=λx Y hk=>by have:x∈fT G path:=bx.2 ⟨Y,beq_iff_eq.2 hk⟩;rw[ho]at this;simp at this
   have hb:∀x∈G,path++[(dC x).getD path.length 0] <+: dC x:=λx Y=>(ig _ _ _).2 ⟨(hm x Y).2.1,nJ (hm x Y).2.1 (am x Y),q?⟩
   have ab:∀x∈G,(dC x).getD path.length 0=(dC e).getD path.length 0:=by
    intro x Y;have i1:=tz.2 ⟨x,Y,hb x Y⟩;have i2:=tz.2 ⟨e,O,hb e O⟩;match hh:jw G path with
    |[]=>rw[hh]at i1;simp at i1|[d]=>rw[hh]at i1 i2;simp only[c9]at i1 i2;rw[i1,i2]|d::d2::ds=>rw[hh]at ag;simp at ag
   have:=ah.2 (path++[(dC e).getD _ 0]) (λs hs=>by
    obtain⟨x,Y,rfl⟩:=bY.1 hs
    rw[<-ab x Y];exact hb x Y)
   have:=this.length_le;simp at this;omega
  rw[e1,kG,if_pos ai,sj _ o!];simp only[ga];rw[sx _ o!];simp only[ga];rw[Gw path _ ks [] _ ad (hr.filter _)];simp only[ga];rw[sx _ o!];simp only[ga];rw[hk];simp only[ga];rw[if_pos ⟨o!,af⟩]
def uy{l}(h:lm l):∃W es,nR (eh l)=y? (W,es)/\(W++es).Perm l:=by
 obtain⟨h1,h2,h3,h4,h5⟩:=h;have hR:=oq l h2;have hp:=gX l;have ab:=hp.filter (λe=>e.gone);have ac:=hp.filter (λe=>!e.gone);have O:((eK l).filter (λe=>e.gone)++(eK l).filter _).Perm l:=(List.filter_append_perm ..).trans hp;have aj:=ab.length_eq;have ak:=ac.length_eq;have ad:jU ((eK l).filter λe=>e.gone):=hR.filter _;have ae:jU ((eK l).filter λe=>!e.gone):=hR.filter _
 have af:∀e∈(eK l).filter (λe=>e.gone),e=⟨e.name,t?,[],0,0⟩/\fU _=t?/\e.name ∉ ([])/\ky [] _=t?:=λe he=>by
  have hm:=bx.1 he;obtain U|U:=h1 e (j9.1 hm.1)
  rw[U.1]at hm;simp at hm;exact⟨U.1,U.2,i!,xF U.2⟩
 have ag:∀e∈(eK l).filter (λe=>!e.gone),Ai e/\([]) <+: dC e/\e.name ∉ ((eK l).filter λe=>e.gone).map _:=λe he=>by
  have hm:=bx.1 he;obtain U|U:=h1 e (j9.1 hm.1)
  refine⟨U,c5,λhx=>?_⟩;obtain⟨x,hx,hn⟩:=bY.1 hx;have Y:=bx.1 hx;have:=zh hR.nodup Y.1 hm.1 hn;subst this;have a:=Y.2;have b:=hm.2;simp[a]at b;rw[U.1]at hm;simp at hm
 unfold eh;generalize (eK l).filter _=W at *;generalize (eK l).filter _=es at *;obtain⟨ah,hn,aa⟩:=Fe 26 [] _ es [] ae ag o! (Or.inl q?) i!;refine⟨W,ah,?_,(nn _ aa).trans O⟩;have al:=aa.length_eq;have ai:=O.length_eq;rw[cf]at ai;have am:=ex.2 h3;rw[cA]at hn;unfold nR;rw[sx _ o!];simp only[ga];rw[ET W [] [] _ af ad];simp only[ga];rw[mf [] _ i!];simp only[ga,if_true];rw[hn];simp only[ga];rw[if_pos ⟨t!,o!,o!,o!⟩]
def jG(buf:List dD)(ss:List (List dD))(name:Wd):Nat×List dD:=
 if fU name=t? then
  if iY (dO ss buf) name=x? then(5,buf)
  else if 100<=l? buf-(du buf).length then(4,buf)
  else(0,dM buf [⟨name,t?,[],0,0⟩])
 else(1,buf)
def Me(F:Nat->Prop)(b)(buf)(ss)(ts)(name)(w:w?)(hF:∀k,F k->k<w.1.size)(hR:j6 w F b buf ss ts)(hn:name.size<=gd)
  (h1:gF ss<=536870912) (h2:l? buf<=536870912) :
  gg prog 105 #[p? (y? ⟨b,0,x?⟩),s? name] w λe w'=>e=e? (n? i? (jG buf ss name.1.1).1)/\
   j6 w' (kJ F w w') b (jG buf ss name.1.1).2 ss ts/\dp F w w':=by
 have HR:mi _:=hR;clear hR;by_cases Y:fU name.1.1=t?
 .obtain⟨vB,vS,vT,hh,ak,al,am,an⟩:=id HR;have a1:=hF b ak
  have HU:mi (jG buf ss name.1.1=if iY (dO ss buf) name.1.1=x? then(5,buf)else if 100<=l? buf-(du buf).length then(4,buf)else(0,dM buf [⟨name.1.1,t?,[],0,0⟩])):=by show jG _ _ _=_;unfold jG;rw[if_pos Y]
  go_enter func105,ntmps105;go_wp2_with fail;refine(kN name _ hn).mono ?_;rintro e w' ⟨rfl,rfl⟩;rw[Y];have HH:mi _:=hh;have ao:mi _:=al;have ap:mi _:=am;have a2:mi _:=an;clear hh al am an Y;go_wp2_with fail;refine(tG F b vB vS vT buf ss w HH ao ap h1 h2).mono ?_;rintro e w1 ⟨u,rfl,aq,U⟩;have a4:=U.size;have ar:w1.cell? ⟨b,0,x?⟩=y? vB:=ge U (by rw[dq HH.out];rfl);have ag:iu w1 5 vB buf.length (dv buf):=(iu.eL ao.1).below U;go_wp2_with fail;have ah:=wi u (dO ss buf) name.1.1 w1 (iu.eL aq);rw[<-bytes_eta name]at ah;refine ah.mono ?_;clear ah;rintro e w' ⟨rfl,rfl⟩
  cases ab:iY (dO ss buf) name.1.1 with
  |none=>
   have O:mi (jG buf ss name.1.1=(5,buf)):=by show jG _ _ _=_;rw[HU.out,if_pos ab]
   rw[show uX x? = -1 from rfl];clear ab;go_wp2;go_ret;refine⟨dQ (by rw[O.out];rfl),?_,dp.eB U⟩;rw[O.out];exact kA HR hF U
  |some j=>
   have au:mi (jG buf ss name.1.1=if 100<=l? buf-(du buf).length then(4,buf)else(0,dM buf [⟨name.1.1,t?,[],0,0⟩])):=by show jG _ _ _=_;rw[HU.out,if_neg (λh=>by rw[ab]at h;simp at h)]
   rw[show uX (y? j)=(j:Int)from rfl];clear ab aq;go_wp2_with fail;refine(GS vB buf w1 ag o!).mono ?_;rintro e w2 ⟨rfl,aa⟩;have a9:=aa.size;have W:B? w w2:=U.trans (aa.mono a4);have a6:=ge aa ar;have av:=ag.below aa;clear ar ag U aa;by_cases ad:100<=l? buf-(du buf).length
   .have O:mi (jG buf ss name.1.1=(4,buf)):=by show jG _ _ _=_;rw[au.out,if_pos ad]
    go_wp2;go_ret;refine⟨dQ (by rw[O.out];rfl),?_,dp.eB W⟩;rw[O.out];exact kA HR hF W
   have O:mi (jG buf ss name.1.1=(0,dM buf [⟨name.1.1,t?,[],0,0⟩])):=by show jG _ _ _=_;rw[au.out,if_neg ad]
   have aw:=W.size
   have ae:iu (w2.alloc (c? #[s? name,.bool t?,s? ⟨#[]⟩,n? i? 0,n? i? 0] 202)) 5 (.slice (y? ⟨w2.1.size,0,x?⟩) 1 1) 1 (dv [⟨name.1.1,t?,[],0,0⟩]):=by have:=iu.th (w:=w2) (b:=w2.1.size) (e:=⟨name.1.1,t?,[],0,0⟩) (t:=202) rfl;simp only[<-bytes_eta]at this;simpa[dv]using this
   have ai:B? w (w2.alloc (c? #[s? name,.bool t?,s? ⟨#[]⟩,n? i? 0,n? i? 0] 202)):=W.alloc aw _;have af:=av.below ((kd _ _).alloc (hW _) (c? #[s? name,.bool t?,s? ⟨#[]⟩,n? i? 0,n? i? 0] 202));have a':b<w2.1.size:=o!;go_wp2_with fail;refine(qu _ _ buf [⟨name.1.1,t?,[],0,0⟩] _ af ae o! i!).mono ?_;rintro e w3 ⟨u3,rfl,aj,ax⟩;obtain⟨a3,c3,rfl,aA⟩:=dL aj;have ay:=ai.size;have ac:B? w w3:=ai.trans (ax.mono ay);have az:=uK hF HH ak ap a2 ac (fj aj ay);have a7:w3.cell? ⟨b,0,x?⟩=y? vB:=ge ac (by rw[dq HH.out];rfl);have a8:w3.frozen? ⟨b,0,x?⟩=f?:=by rw[ac.frozen (p:=⟨b,0,x?⟩) a1];exact dP HH 0
   have a5:mi _:=az;clear az aj ax ac ae af ai;generalize dM buf [⟨name.1.1,t?,[],0,0⟩]=nb at *;go_wp2;go_ret;refine⟨dQ (by rw[O.out];rfl),?_⟩;rw[O.out];exact a5
 have HU:mi (jG buf ss name.1.1=(1,buf)):=by show jG _ _ _=_;unfold jG;rw[if_neg Y]
 have a0:fU name.1.1=f?:=by simpa using Y
 clear Y;go_enter func105,ntmps105;go_wp2_with fail;refine(kN name _ hn).mono ?_;rintro e w' ⟨rfl,rfl⟩;rw[a0];go_wp2;go_ret;refine⟨dQ (by rw[HU.out];rfl),?_,dp.refl _ _⟩;rw[HU.out];exact kJ.ow HR
def fQ(buf:List dD)(ss:List (List dD)):List dD:=if ss.length=0 then du buf else buf
def eQ(buf:List dD)(ss:List (List dD)):Nat×List dD×List (List dD):=
 if buf.length=0 then(5,buf,ss)else if 6<=ss.length then(4,buf,ss)
 else(0,[],if 0<(fQ buf ss).length then ss++[fQ buf ss]else ss)
def LV(h:j6 w F b buf ss ts):j6 (w.setCell ⟨b,0,x?⟩ (.slice x? 0 0)) F b [] ss ts:=by obtain⟨vB,vS,vT,Y,aa,_,hs,hT⟩:=h;have O:∀k,k≠b->(w.setCell ⟨b,0,x?⟩ (.slice x? 0 0)).1[k]?=w.1[k]?:=λk U=>ke _ _ _ _ U;refine⟨.slice x? 0 0,vS,vT,by rw[heap_set Y];rfl,aa,⟨kk ..,nofun⟩,?_,?_⟩;obtain⟨vs,h1,h2,h3,h4⟩:=hs;refine⟨vs,h1,dK h2 (λk U=>O k (λe=>by subst e;exact gD Y h2 d! U)),h3,λi hi=>?_⟩;obtain⟨v,hv,W⟩:=h4 i hi;exact⟨v,hv,dG W.1 (λk U=>O k (λe=>by subst e;exact fc Y W.1 d! U)),W.2⟩;obtain⟨vs,h1,h2,h3,h4⟩:=hT;refine⟨vs,h1,dK h2 (λk U=>O k (λe=>by subst e;exact gD Y h2 d! U)),h3,λi hi=>?_⟩;obtain⟨v,hv,W,hf⟩:=h4 i hi;exact⟨v,hv,dK W (λk U=>O k (λe=>by subst e;exact gD Y W d! U)),hf⟩
def xX{w1 w2 N vB Y vS' vT u l vs o}(hF:∀k,F k->k<w.1.size)
  (hh:w.1[b]?=y? (c? #[vB,Y,vT] 120 (0,0))) (ae:F b) (an:jE w F vB buf) (ag:l? vs=l? ss) (ab:w.ownsRow 0 75 1 Y ss.length vs) (ah:∀k,Y.ownBlock=y? k->F k)
  (ao:∀i(h:i<l? ss),∃u,vs[i]?=y? u/\jE w F u ss[i]) (hT:pV w F vT ts) (U:B? w w1)
  (hu:w1.ownsRow 0 202 5 u l.length (dv l)) (ap:∀k,u.ownBlock=y? k->F k\/w.1.size<=k)
  (ho:w2.ownsRow 0 75 1 vS' (l? ss+1) (vs++[u])) (hg:(w1.alloc o).grownBy w2 Y.ownBlock) (W:vS'.ownBlock=Y.ownBlock\/vS'.ownBlock=y? N) (hN:N=w1.1.size+1) :
  w2.1[b]?=y? (c? #[vB,Y,vT] 120 (0,0))/\j6 (w2.setCell ⟨b,1,x?⟩ vS') (kJ F w (w2.setCell ⟨b,1,x?⟩ vS')) b buf (ss++[l]) ts/\dp F w (w2.setCell ⟨b,1,x?⟩ vS'):=by
 have aw:=U.size;have ax:w1.1.size+1<=w2.1.size:=by have:=hg.size;simpa using this
 have ai:=hF b ae;have aq:(w2.setCell ⟨b,1,x?⟩ vS').1.size=w2.1.size:=by simp[kj]
 have ar:Y.ownBlock≠y? b:=gD hh ab d!
 have hold:∀k,k<w.1.size->Y.ownBlock≠y? k->w2.1[k]?=w.1[k]?:=λk W ac=>by rw[hg.block k j! (λe=>ac e.symm),kf _ _ _ o!,U.block k W]
 have aj:∀k,k<w1.1.size->Y.ownBlock≠y? k->w2.1[k]?=w1.1[k]?:=λk W ac=>by rw[hg.block k j! (λe=>ac e.symm),kf _ _ _ W]
 have af:w2.1[b]?=y? (c? #[vB,Y,vT] 120 (0,0)):=by rw[hold b ai ar];exact hh
 have aa:∀k,k≠b->(w2.setCell ⟨b,1,x?⟩ vS').1[k]?=w2.1[k]?:=λk W=>ke _ _ _ _ W;have fl:∀k,F k->Y.ownBlock≠y? k->k≠b->(w2.setCell ⟨b,1,x?⟩ vS').1[k]?=w.1[k]?:=λk W h1 h2=>by rw[aa k h2,hold k (hF k W) h1]
 have ad:∀(v:v?)(es:List dD),jE w F v es->jE (w2.setCell ⟨b,1,x?⟩ vS') (kJ F w (w2.setCell ⟨b,1,x?⟩ vS')) v es:=λv es hE=>⟨dG hE.1 (λk W=>fl k (hE.2 k W) (λe=>fP hE.1 ab d! k W e) (λe=>by subst e;exact fc hh hE.1 d! W)),λk W=>Or.inl (hE.2 k W)⟩
 refine⟨af,⟨vB,vS',vT,?_,Or.inl ae,ad _ _ an,⟨vs++[u],by simp[ag],?_,?_,?_⟩,?_⟩,?_⟩;rw[heap_set af];rfl;have e:(ss++[l]).length=l? ss+1:=i!;rw[e];refine dK ho (λk O=>aa k (λe=>?_));subst e;exact gD af ho d! O;intro k O;obtain h1|h1:=W
 exact Or.inl (ah k (by rw[<-h1];exact O));rw[h1]at O;simp only[kc]at O;have:=(ho.lt k (by rw[h1,O])).2;exact Or.inr ⟨o!,by rw[aq];exact this⟩;intro i hi;by_cases ak:i<l? ss;obtain⟨v,hv,hE⟩:=ao i ak;refine⟨v,by rw[ci o!];exact hv,?_⟩;rw[ee ak];exact ad v _ hE;have au:i=l? ss:=by simp at hi;omega
 subst au;refine⟨u,by rw[<-ag];simp,?_⟩;have e:(ss++[l])[l? ss]=l:=i!;rw[e];have al:∀k,u.ownBlock=y? k->k<w1.1.size:=λk O=>(hu.lt k O).2
 have ac:∀k,u.ownBlock=y? k->Y.ownBlock≠y? k:=λk O e=>by have am:w1.ownsRow 0 75 1 Y ss.length vs:=A6 ab U;exact fP hu am d! k O e
 have av:w1.1[b]?=y? (c? #[vB,Y,vT] 120 (0,0)):=by rw[U.block b ai];exact hh
 refine⟨dG hu (λk O=>?_),λk O=>?_⟩;rw[aa k (λe=>by subst e;exact fc av hu d! O),aj k (al k O) (ac k O)];obtain h1|h1:=ap k O
 exact Or.inl h1;exact Or.inr ⟨h1,by have:=al k O;omega⟩;obtain⟨vs',h1,h2,h3,h4⟩:=hT;refine⟨vs',h1,dK h2 (λk O=>fl k (h3 k O) (λe=>fP h2 ab d! k O e) (λe=>by subst e;exact gD hh h2 d! O)),λk O=>Or.inl (h3 k O),λi hi=>?_⟩;obtain⟨v,hv,hE,hf⟩:=h4 i hi;exact⟨v,hv,dK hE (λk O=>fl k (hf k O) (λe=>fP hE ab d! k O e) (λe=>by subst e;exact gD hh hE d! O)),λk O=>Or.inl (hf k O)⟩;refine⟨hg.os.trans U.os,hg.tape.trans U.tape,hg.output.trans U.output,o!,λk O hn=>?_⟩;rw[aa k (λe=>hn (by rw[e];exact ae)),hold k O (λe=>hn (ah k e))]
def Hu:(prog.info? 75).map (λi=>(i.zero,i.size,i.bytes))=y? (y? (.slice x? 0 0),1,24):=by kernel_rfl
def j6.mono{G:Nat->Prop}(h:j6 w F b buf ss ts)(O:∀k,F k->G k):j6 w G b buf ss ts:=by obtain⟨U,W,Y,h1,h2,h3,h4,h5⟩:=h;exact⟨U,W,Y,h1,O b h2,h3.stay (λ_ _=>rfl) O,h4.stay (λ_ _=>rfl) O,h5.stay (λ_ _=>rfl) O⟩
def xd{X}(Y:F b)(h:j6 X (kJ F w X) b buf ss ts)(U:dp F w X) :
  j6 (X.setCell ⟨b,0,x?⟩ (.slice x? 0 0)) (kJ F w (X.setCell ⟨b,0,x?⟩ (.slice x? 0 0))) b [] ss ts/\dp F w (X.setCell ⟨b,0,x?⟩ (.slice x? 0 0)):=by
 have W:(X.setCell ⟨b,0,x?⟩ (.slice x? 0 0)).1.size=X.1.size:=by simp[kj]
 refine⟨(LV h).mono (λk O=>?_),?_⟩;obtain O|O:=O
 exact Or.inl O;exact Or.inr ⟨O.1,by rw[W];exact O.2⟩;refine⟨U.os,U.tape,U.output,by rw[W];exact U.size,λk O hn=>?_⟩;rw[ke _ _ _ _ (λe=>hn (by have e':k=b:=e;rw[e'];exact Y))];exact U.block k O hn
def Qe(F:Nat->Prop)(b)(buf)(ss)(ts)(w:w?)(hF:∀k,F k->k<w.1.size)(hR:j6 w F b buf ss ts)(h2:l? buf<=536870912) :
  gg prog 106 #[p? (y? ⟨b,0,x?⟩)] w λe w'=>e=e? (n? i? (eQ buf ss).1)/\j6 w' (kJ F w w') b (eQ buf ss).2.1 (eQ buf ss).2.2 ts/\dp F w w':=by
 obtain⟨i8,ap,aq,ar,av⟩:=gt Hu;obtain⟨vB,vS,vT,hh,ae,ak,aA,aw⟩:=id hR;have HR:mi (j6 w F b buf ss ts):=hR;obtain⟨vs,ax,al,ay,az⟩:=aA;obtain⟨aB,cB,rfl,aJ⟩:=dL ak.1;obtain⟨aS,cS,rfl,aK⟩:=dH al;have a0:=dq hh;have aC:=dP hh 0;have aD:=hF b ae;have HH:mi (w.1[b]?=y? (c? #[.slice aB buf.length cB,.slice aS ss.length cS,vT] 120 (0,0))):=hh;have af:mi (jE w F (.slice aB buf.length cB) buf):=ak;have ai:mi (w.ownsRow 0 75 1 (.slice aS ss.length cS) ss.length vs):=al;have a1:mi (∀i(h:i<l? ss),∃u,vs[i]?=y? u/\jE w F u ss[i]):=az;have a2:mi (∀k,(Value.slice aS ss.length cS).ownBlock=y? k->F k):=ay;have a3:mi (pV w F vT ts):=aw;have a4:mi (l? vs=l? ss):=ax;clear hh ak al az ay aw ax hR;by_cases am:l? buf=0
 .have HU:mi (eQ buf ss=(5,buf,ss)):=by show eQ _ _=_;unfold eQ;rw[if_pos am]
  have hz:((l? buf:Int)==0)=t?:=beq_iff_eq.2 o!;go_enter lv,lp;go_wp2;go_ret;refine⟨dQ (by rw[HU.out];rfl),?_,dp.refl _ _⟩;rw[HU.out];exact kJ.ow HR
 have hz:((l? buf:Int)==0)=f?:=beq_eq_false_iff_ne.2 o!;by_cases h6:6<=l? ss
 .have HU:mi (eQ buf ss=(4,buf,ss)):=by show eQ _ _=_;unfold eQ;rw[if_neg am,if_pos h6]
  go_enter lv,lp;go_wp2;go_ret;refine⟨dQ (by rw[HU.out];rfl),?_,dp.refl _ _⟩;rw[HU.out];exact kJ.ow HR
 have HU:mi (eQ buf ss=(0,[],if 0<(fQ buf ss).length then ss++[fQ buf ss]else ss)):=by show eQ _ _=_;unfold eQ;rw[if_neg am,if_neg h6]
 by_cases an:l? ss=0
 .have aE:((l? ss:Int)==0)=t?:=beq_iff_eq.2 o!;have aj:mi (fQ buf ss=du buf):=by show fQ _ _=_;unfold fQ;rw[if_pos an]
  clear an;go_enter lv,lp;go_wp2_with fail;refine(oZ _ buf w (iu.eL af.1) o!).mono ?_;rintro e w1 ⟨u,rfl,ao,W⟩;obtain⟨au,cu,rfl,aL⟩:=dL ao;have aM:=W.size;have aG:=ge W (a0 0);have aH:=ge W (a0 1);have aI:w1.frozen? ⟨b,0,x?⟩=f?:=by rw[W.frozen (p:=⟨b,0,x?⟩) aD];exact aC
  have aN:(du buf).length<=l? buf:=cw _ _;by_cases a5:0<(du buf).length
  .have Y:mi (eQ buf ss=(0,[],ss++[du buf])):=by show eQ _ _=_;rw[HU.out,aj.out,if_pos a5]
   go_wp2_with (at_builtin;go_must (refine dW _ q? _ _ 118 q? 0 75 i8 (.slice x? 0 0) 24 ly ap aq ar av q? _ _ _ q? ((A6 ai W).alloc _) _ [.slice au (du buf).length cu] q? ?k0 ?k9 ?k1 ?k2 ?k3 ?_))
   case k0=>go_light;exact Rd.one (km q?)
   case k9=>intro u hu;simp at hu;subst hu;rfl
   case k1=>simp;omega
   case k2=>simp[gd];omega
   case k3=>exact hV _
   intro aF w2 ab ag ah;obtain⟨ac,ad,rfl,a6⟩:=dH ab;have O:=xX (l:=du buf) hF HH ae af a4 ai a2 a1 a3 W (fj ao (hV _)) (λk hk=>Or.inr (ao.lt k hk).1) ab ag ah rfl;have a7:=dq O.1 1;have a8:=dP O.1 1;have a9:=dq O.1 0;have a':=dP O.1 0;have U:=xd ae O.2.1 O.2.2;have aa:mi (j6 ((w2.setCell ⟨b,1,x?⟩ (.slice ac (l? ss+1) ad)).setCell ⟨b,0,x?⟩ (.slice x? 0 0)) (kJ F w ((w2.setCell ⟨b,1,x?⟩ (.slice ac (l? ss+1) ad)).setCell ⟨b,0,x?⟩ (.slice x? 0 0))) b [] (ss++[du buf]) ts/\dp F w ((w2.setCell ⟨b,1,x?⟩ (.slice ac (l? ss+1) ad)).setCell ⟨b,0,x?⟩ (.slice x? 0 0))):=U;clear U O ab ag ah;go_wp2;go_ret;refine⟨dQ (by rw[Y.out];rfl),?_⟩;rw[Y.out];exact aa
  have Y:mi (eQ buf ss=(0,[],ss)):=by show eQ _ _=_;rw[HU.out,aj.out,if_neg a5]
  have U:=xd ae (kA HR hF W) (dp.eB W);have aa:mi (j6 (w1.setCell ⟨b,0,x?⟩ (.slice x? 0 0)) (kJ F w (w1.setCell ⟨b,0,x?⟩ (.slice x? 0 0))) b [] ss ts/\dp F w (w1.setCell ⟨b,0,x?⟩ (.slice x? 0 0))):=U;clear U;go_wp2;go_ret;refine⟨dQ (by rw[Y.out];rfl),?_⟩;rw[Y.out];exact aa
 have aE:((l? ss:Int)==0)=f?:=beq_eq_false_iff_ne.2 o!;have aj:mi (fQ buf ss=buf):=by show fQ _ _=_;unfold fQ;rw[if_neg an]
 have Y:mi (eQ buf ss=(0,[],ss++[buf])):=by show eQ _ _=_;rw[HU.out,aj.out,if_pos o!]
 go_enter lv,lp;go_wp2_with (at_builtin;go_must (refine dW _ q? _ _ 118 q? 0 75 i8 (.slice x? 0 0) 24 ly ap aq ar av q? _ _ _ q? (ai.alloc _) _ [.slice aB buf.length cB] q? ?m0 ?m9 ?m1 ?m2 ?m3 ?_))
 case m0=>go_light;exact Rd.one (km q?)
 case m9=>intro u hu;simp at hu;subst hu;rfl
 case m1=>simp;omega
 case m2=>simp[gd];omega
 case m3=>exact hV _
 intro aF w2 ab ag ah;obtain⟨ac,ad,rfl,a6⟩:=dH ab;have O:=xX (l:=buf) hF HH ae af a4 ai a2 a1 a3 (kd _ _) af.1 (λk hk=>Or.inl (af.2 k hk)) ab ag ah rfl;have a7:=dq O.1 1;have a8:=dP O.1 1;have a9:=dq O.1 0;have a':=dP O.1 0;have U:=xd ae O.2.1 O.2.2;have aa:mi (j6 ((w2.setCell ⟨b,1,x?⟩ (.slice ac (l? ss+1) ad)).setCell ⟨b,0,x?⟩ (.slice x? 0 0)) (kJ F w ((w2.setCell ⟨b,1,x?⟩ (.slice ac (l? ss+1) ad)).setCell ⟨b,0,x?⟩ (.slice x? 0 0))) b [] (ss++[buf]) ts/\dp F w ((w2.setCell ⟨b,1,x?⟩ (.slice ac (l? ss+1) ad)).setCell ⟨b,0,x?⟩ (.slice x? 0 0))):=U;clear U O ab ag ah;go_wp2;go_ret;refine⟨dQ (by rw[Y.out];rfl),?_⟩;rw[Y.out];exact aa
def wk(s:ByteArray)(n):s.extract 0 n=⟨(s.1.1.take n).toArray⟩:=by apply od;apply nl.1;simp
def Qw(n):((u8 n).toNat)=n % 256:=by unfold u8;have:(m6 (n % 256).toNat).toNat=(n % 256).toNat % 256:=i!;omega
def Lp(a)(s):(⟨a? a⟩:ByteArray)++s=⟨(a++s.1.1).toArray⟩:=by apply od;simp
def kQ(n):eO [u8 n]=[n? .u8 (n % 256)]:=by simp only[eO,ck,cD,Qw]
def G4{w:w?}{l}(cs)(n)(h:cs.toList=eO l)(U:cs.size=n)(hm:n<=gd) :
  (convert 60 9 (.slice (y? ⟨w.1.size,0,x?⟩) n n)).run prog (w.alloc (c? cs 5))=.ok (s? ⟨a? l⟩) (w.alloc (c? cs 5)):=by
 have O:=World.ownsRow_lit (base:=w.1.size) (size:=1) (e:=5) w cs n (hW _) hm o!;rw[h]at O;exact uB O la lf ld
def rh(s p)(w) :
  gg prog 201 #[s? s,s? p] w λe w'=>e=e? (.bool (iW s.1.1 p.1.1))/\w=w':=by
 by_cases h:p.size<=s.size
 .go_wp2;go_ret;rw[yL,mb,mb];simp[h]
 go_wp2;go_ret;rw[yL];simp[h]
def Cy(s)(w)(O:s.size<=1099511627776) :
  gg prog 149 #[s? s] w λe w'=>e=e? (s? ⟨(dI s.1.1).toArray⟩)/\B? w w':=by
 have U:=G4 (w:=w) (l:=[u8 s.size]) _ 1 (by rw[kQ]) q? (by unfold gd;omega);have hb:=(kd _ w).alloc (hW _) (c? #[n? .u8 (s.size % 256)] 5);go_wp2;go_ret;refine⟨wB ?_,hb⟩;exact Lp _ s
def Mi(n)(w)(O : -9223372036854775808<=n)(U:n<=9223372036854775807) :
  gg prog 202 #[n? i? n] w λe w'=>e=e? (s? ⟨(gh n).toArray⟩)/\B? w w':=by
 have W:=G4 (w:=w) (l:=gh n) #[n? .u8 (n.tdiv 65536 % 256),n? .u8 ((n.tdiv 256).tmod 256 % 256),n? .u8 (n.tmod 256 % 256)] 3 (by simp only[gh,eO,ck,cD,Qw]) q? (by unfold gd;omega);have hb:=(kd _ w).alloc (hW _) (c? #[n? .u8 (n.tdiv 65536 % 256),n? .u8 ((n.tdiv 256).tmod 256 % 256),n? .u8 (n.tmod 256 % 256)] 5);go_wp2;go_ret;exact⟨q?,hb⟩
def jn{B a w}(h:Below B a w)(q):Below B a (w.drewN q):=⟨h.os,h.tape,h.output,h.size,h.block⟩
def mh(l:List dD)(k:Nat):List dD:=eK (l.take k)
def EV(l)(k)(h):mh l (k+1)=pA (mh l k) l[k]:=by unfold mh eK;rw[bz h,eC];rfl
def JQ(l)(k)(h:k<=l? l):(mh l k).length=k:=by unfold mh;rw[tH];simp;omega
def KB(out:List dD)(x)(p)(W:p<=l? out)(Y:∀j(h:j<p),uS (out[j]'o!) x=t?)(h2:∀h:p<l? out,uS out[p] x=f?):pA out x=out.take p++([x]++out.drop p):=by
 have O:=ng (λy=>uS y x) out p W Y h2;have U:=cK (p:=λy=>uS y x) (l:=out)
 have e1:out.take p=out.takeWhile λy=>uS y x:=by
  conv=>lhs;rw[<-U,<-O]
  rw[List.take_left]
 have e2:out.drop p=out.dropWhile λy=>uS y x:=by
  conv=>lhs;rw[<-U,<-O]
  rw[List.drop_left]
 rw[e1,e2];rfl
def E7(v)(l)(w)(hv:iu w 5 v l.length (dv l))(hl:l? l<=1073741824) :
  gg prog 148 #[v] w λe w'=>∃u,e=e? u/\w'.ownsRow w.1.size 202 5 u (eK l).length (dv (eK l))/\B? w w':=by
 obtain⟨i5,ac,ad,ae,af⟩:=gt uZ;obtain⟨a,cap,rfl,hc,hm,_,_⟩:=id hv;have HV:mi (iu w 5 (.slice a l.length cap) l.length (dv l)):=hv;clear hv;unfold gd at hm;go_enter func148,ntmps148;go_wp2;go_loopw [3,4] (λv i wr=>∃k:Nat,k<=l? l/\i=n? i? k/\wr.ownsRow w.1.size 202 5 v (mh l k).length (dv (mh l k))/\B? w wr) (λ_ i _=>l? l-(intOf i).toNat)
 case atStart=>exact⟨0,hV _,q?,kk _ _ _ _,kd _ _⟩
 case round=>
  obtain⟨k,hk,rfl,ab,hbel⟩:=hrel;have HS:=hbel.size;have aw:=Nat.le_of_eq (JQ l k hk);by_cases aj:k<l? l
  .obtain⟨bl,ol,rfl,c0,c1,c2,c3,c4⟩:=jc (HV.below hbel) k aj;have HU:mi (mh l (k+1)=pA (mh l k) l[k]):=EV l k aj;generalize mh l k=out at *;generalize l[k]=x at *;obtain⟨a3,ag,rfl,ay,hm3,_,_⟩:=iu.eL ab;have HRd:mi (iu wr 5 (.slice a3 out.length ag) out.length (dv out)):=iu.eL ab;unfold gd at hm3;go_wp2_with fail;generalize wr=wo at *;go_loopw [5] (λi w9=>∃p:Nat,i=n? i? p/\p<=l? out/\(∀j(h:j<p)(h':j<l? out),uS out[j] x=t?)/\B? wo w9) (λi _=>l? out-(intOf i).toNat)
   case atStart=>exact⟨0,q?,hV _,λ_ h=>o!,kd _ _⟩
   case round=>
    obtain⟨p,rfl,hp,fl,aa⟩:=hrel;have az:=aa.size;have HA:mi (∀j(h:j<p)(h':j<l? out),uS out[j] x=t?):=fl;clear fl;by_cases ap:p<l? out
    case' neg=>
     have g0:=ge aa c0;have HI:mi (pA out x=out.take p++([x]++out.drop p)):=KB out x p hp (λj h=>HA.out j h o!) (λh=>o!);obtain ah|ah:=Decidable.em (p=ag)
     case' inl=>subst ah
     case' inr=>have ax:¬ag=p:=λh=>ah h.symm
    case' pos=>
     obtain⟨b3,o3,rfl,d0,_,_,_,_⟩:=jc (HRd.below aa) p ap;have g0:=ge aa c0;have a0:(p:Int)<(l? out:Int):=o!;have a1:(k:Int)<(l? l:Int):=o!;by_cases O:uS out[p] x=t?
     case pos=>
      have ao:ky out[p].name x.name=t?:=O;go_wp2;go_quiet (fail);go_wp2;go_roundw
      case rel=>exact⟨p+1,by go_num,o!,λj h h'=>by
       by_cases e:j=p;subst e;exact O
       exact HA j o! h',jn aa _⟩
      case measure=>simp[intOf];omega
     have aq:ky out[p].name x.name=f?:=by simpa[uS]using O
     have HI:mi (pA out x=out.take p++([x]++out.drop p)):=KB out x p hp (λj h=>HA.out j h o!) (λ_=>aq);clear O
    all_goals
     go_wp2;go_quiet (fail);have hBX:=jn aa nq;go_wp2_with (at_builtin;go_must (refine gQ _ q? _ _ 75 q? wo.1.size 202 i5 _ 5 56 k' ac ad ae af q? d! _ _ _ q? (kk _ _ _ _) _ p (dv (out.take p)) q? ?ac0 lO ?ac1 ?ac2 ?ac3 ?_))
     case ac0=>have:=(HRd.below hBX).take p hp;rw[<-DI]at this;exact this
     case ac1=>omega
     case ac2=>simp only[gd];omega
     case ac3=>exact hBX.size
     intro v1 w1 U ar _
     try simp only[hX,cO]at U
     have W:B? wo w1:=hBX.grown ar hBX.size (by simp[md]);have ak:=W.size;obtain⟨a2,a4,rfl,_⟩:=dL U;have q0:=ge W c0;have q1:=ge W c1;have q2:=ge W c2;have q3:=ge W c3;have q4:=ge W c4;go_wp2_with (at_builtin;go_must (refine gQ _ q? _ _ 75 q? wo.1.size 202 i5 _ 5 56 k' ac ad ae af q? d! _ _ _ q? (U.alloc _) _ 1 (eo x) q? ?ad0 ?ad9 ?ad1 ?ad2 ?ad3 ?_))
     case ad0=>go_light;exact iu.th (w:=w1) (b:=w1.1.size) (e:=x) (t:=202) rfl
     case ad9=>intro u hu;exact lO (es:=[x]) u (by simpa[dv]using hu)
     case ad1=>omega
     case ad2=>simp only[gd];omega
     case ad3=>simp;omega
     intro v2 w2 Y au _;have ai:B? wo w2:=(W.alloc ak _).grown au j! (λb hb=>(U.lt b hb).1);have al:=ai.size;obtain⟨a5,a6,rfl,_⟩:=dL Y;go_wp2_with (at_builtin;go_must (refine gQ _ q? _ _ 75 q? wo.1.size 202 i5 _ 5 56 k' ac ad ae af q? d! _ _ _ q? Y _ (l? out-p) (dv (out.drop p)) q? ?ae0 lO ?ae1 ?ae2 ?ae3 ?_))
     case ae0=>go_light;simp only[Act.eval,Array.getD_eq_getD_getElem?];first|(have:=(HRd.below ai).QR p hp;rw[<-DJ]at this;exact this)|(rw[eg o!];first|exact iu.empty o! (by unfold gd;omega)|(rw[(o!:l? out-p=0)];exact iu.empty o! (by unfold gd;omega)))
     case ae1=>omega
     case ae2=>simp only[gd];omega
     case ae3=>omega
     intro v3 w3 hown3 av _;have am:p+1+(l? out-p)=(pA out x).length:=by rw[HI.out];simp;omega
     have an:dv (out.take p)++(eo x++dv (out.drop p))=dv (pA out x):=by rw[HI.out];simp[dv]
     have hown3:w3.ownsRow wo.1.size 202 5 v3 (mh l (k+1)).length (dv (mh l (k+1))):=by
      rw[HU.out,<-an]
      first|(rw[<-am];exact hown3)|(rw[(o!:(pA out x).length=p+1)];exact hown3)
     have hB3:B? wo w3:=ai.grown av al (λb hb=>(Y.lt b hb).1);clear am an;go_wp2;go_roundw
     case rel=>exact⟨k+1,o!,by go_num,fj hown3 HS,hbel.trans (hB3.mono HS)⟩
     case measure=>simp[intOf];omega
  have ek:k=l? l:=o!;subst ek;go_wp2;go_ret;refine⟨_,q?,?_,hbel⟩;have e:eK l=mh l l.length:=by unfold mh;rw[cW]
  rw[e];exact ab
variable {vs:List v?} {E:v?->List dD->Prop}
def Zip(E:v?->List dD->Prop)(vs:List v?)(ss:List (List dD)):Prop:=l? vs=l? ss/\∀i(h:i<l? ss),∃u,vs[i]?=y? u/\E u ss[i]
def Zip.nil(E):Zip E [] []:=⟨q?,λi h=>by simp at h⟩
def Zip.one{u l}(h:E u l):Zip E [u] [l]:=⟨q?,λi O=>by
 have:i=0:=by simp at O;omega
 subst this
 exact⟨u,q?,h⟩⟩
def Zip.append{vt st}(U:Zip E vs ss)(h2:Zip E vt st):Zip E (vs++vt) (ss++st):=by
 refine⟨by rw[cf,cf,U.1,h2.1],λi hi=>?_⟩;by_cases O:i<l? ss;obtain⟨u,W,Y⟩:=U.2 i O;exact⟨u,by rw[ci (by rw[U.1];exact O)];exact W,by rw[ee O];exact Y⟩;have Ey:i-l? ss<l? st:=by rw[cf]at hi;omega
 obtain⟨u,W,Y⟩:=h2.2 (i-l? ss) Ey;refine⟨u,?_,?_⟩;rw[cU (by rw[U.1];omega),U.1];exact W;rw[List.getElem_append_right o!];exact Y
def Zip.take(h:Zip E vs ss)(k):Zip E (vs.take k) (ss.take k):=by refine⟨by simp[h.1],λi O=>?_⟩;rw[List.length_take]at O;obtain⟨u,U,W⟩:=h.2 i o!;exact⟨u,by rw[cG,if_pos o!];exact U,by rw[List.getElem_take];exact W⟩
def Zip.drop(h:Zip E vs ss)(k):Zip E (vs.drop k) (ss.drop k):=by refine⟨by simp[h.1],λi O=>?_⟩;rw[dr]at O;obtain⟨u,U,W⟩:=h.2 (k+i) o!;exact⟨u,by rw[dh];exact U,by rw[List.getElem_drop];exact W⟩
def Zip.mono{E':v?->List dD->Prop}(h:Zip E vs ss)(O:∀u l,E u l->E' u l):Zip E' vs ss:=⟨h.1,λi U=>by
 obtain⟨u,W,Y⟩:=h.2 i U
 exact⟨u,W,O u _ Y⟩⟩
def ja(ss:List (List dD))(n:Nat):List dD:=if n=0 then du (dM (ss.getD n []) (ss.getD (n+1) []))else dM (ss.getD n []) (ss.getD (n+1) [])
def fD(ss:List (List dD))(n:Int):Nat×List (List dD):=
 if n<0\/(l? ss:Int)-1<=n then(6,ss)
 else if 100<(ja ss n.toNat).length-(du (ja ss n.toNat)).length then(4,ss)
 else(0,ss.take n.toNat++((if 0<(ja ss n.toNat).length then [ja ss n.toNat]else [])++ss.drop (n.toNat+2)))
variable {nx:Int} {k:Nat} {p:Wd}
def Seen(l:List dD)(p:Wd)(k:Nat)(nx:Int):Prop:=
 (∀j(h:j<k)(O:j<l? l),iW (dC l[j]) p=t?->dC l[j]≠p/\nx=(((dC l[j]).getD p.length 0).toNat:Int))/\
  (nx = -1\/(0<=nx/\∃j,j<k/\∃O:j<l? l,iW (dC l[j]) p=t?/\nx=(((dC l[j]).getD p.length 0).toNat:Int)))
def Nz(l)(p):Seen l p 0 (-1):=⟨λ_ h=>o!,Or.inl q?⟩
def Ro(h:Seen l p k nx)(hk)(hb:iW (dC l[k]) p=f?):Seen l p (k+1) nx:=by
 refine⟨λj U W O=>?_,?_⟩;by_cases e:j=k;subst e;rw[hb]at O;cases O;exact h.1 j o! W O;obtain h|⟨Y,j,U,h⟩:=h.2
 exact Or.inl h;exact Or.inr ⟨Y,j,o!,h⟩
def G1(h:Seen l p k nx)(hk)(hb:iW (dC l[k]) p=t?)(U:dC l[k]≠p)(O:nx = -1\/nx=(((dC l[k]).getD p.length 0).toNat)) :
  Seen l p (k+1) (((dC l[k]).getD p.length 0).toNat):=by
 refine⟨λj hj Y W=>?_,Or.inr ⟨o!,k,o!,hk,hb,q?⟩⟩;by_cases e:j=k;subst e;exact⟨U,q?⟩;have:=h.1 j o! Y W;refine⟨this.1,?_⟩;obtain O|O:=O
 omega;rw[<-O];exact this.2
def QA(l):gM l []=t?:=by simp[gM]
def Fl(hk)(h:dC l[k]=p):gM l p=t?:=by unfold gM;simp only[i',cv,beq_iff_eq];exact Or.inl (Or.inr ⟨l[k],cE hk,h⟩)
def MD(h:Seen l p k nx)(hk)(hb:iW (dC l[k]) p=t?)(h0:0<=nx)(O:(((dC l[k]).getD p.length 0).toNat)≠nx):gM l p=t?:=by
 unfold gM;obtain h|⟨_,j,hj,W,U,Y⟩:=h.2
 omega;simp only[i',cv,i9,bne_iff_ne];refine Or.inr ⟨l[k],cE hk,l[j],cE W,⟨hb,U⟩,λe=>O ?_⟩;rw[e,Y]
def LR(hp:p≠[])(h:Seen l p l.length nx):gM l p=f?:=by
 rw[j'];intro hy;unfold gM at hy;simp only[i',cv,beq_iff_eq,i9,bne_iff_ne]at hy;rcases hy with(O|⟨e,W,O⟩)|⟨e,W,f,hf,⟨h1,h2⟩,hd⟩
 simp at O;exact hp O;obtain⟨j,U,rfl⟩:=df.1 W;exact(h.1 j U U ((fh _ _).2 (by rw[O];exact c6 _))).1 O;obtain⟨j,U,rfl⟩:=df.1 W;obtain⟨i,Y,rfl⟩:=df.1 hf;have a:=(h.1 j U U h1).2;have b:=(h.1 i Y Y h2).2;apply hd;apply m8.1;omega
def IE(v)(l)(p)(w)(hv:iu w 5 v l.length (dv l))(ht:∀e∈l,l? e.text<=1073741824) :
  gg prog 203 #[v,s? p] w λe w'=>e=e? (.bool (gM l p.1.1))/\B? w w':=by
 obtain⟨a,cap,rfl,hc,hm,_,_⟩:=id hv;have HV:mi (iu w 5 (.slice a l.length cap) l.length (dv l)):=hv;have HT:mi (∀e∈l,l? e.text<=1073741824):=ht;clear hv ht;unfold gd at hm;by_cases W:p.1.1=[]
 .have ae:p.toList.isEmpty=t?:=by rw[mb,W];rfl
  have HN:mi (gM l p.1.1=t?):=by show _=_;rw[W];exact QA l
  clear W;go_enter func203,ntmps203;go_wp2;go_ret;exact⟨dT HN.symm,kd _ _⟩
 have ae:p.toList.isEmpty=f?:=by
  rw[mb]
  cases h:p.1.1 with
  |nil=>exact absurd h W|cons a l=>rfl
 have ak:mi (p.1.1≠[]):=W;clear W;go_enter func203,ntmps203;go_wp2;go_loopw [5,6] (λx i wr=>∃(k:Nat)(nx:Int),k<=l? l/\i=n? i? k/\x=n? i? nx/\Seen l p.1.1 k nx/\-1<=nx/\nx<=255/\B? w wr) (λ_ i _=>l? l-(intOf i).toNat)
 case atStart=>exact⟨0,-1,hV _,q?,q?,Nz _ _,o!,o!,kd _ _⟩
 case round=>
  obtain⟨k,nx,hk,rfl,rfl,ab,hx0,hx1,U⟩:=hrel;have HSe:mi (Seen l p.1.1 k nx):=ab;clear ab;have HS:=U.size;by_cases hlt:k<l? l
  .obtain⟨b,off,rfl,c0,c1,c2,c3,c4⟩:=jc (HV.below U) k hlt
   have af:(⟨l[k].text.toArray⟩:ByteArray).size<=1099511627776:=by have:=HT.out l[k] (cE hlt);show l[k].text.toArray.size<=_;simp;omega
   go_wp2_with fail;refine(qi _ _ af).mono ?_;rintro e w1 ⟨rfl,ag⟩;obtain⟨kb,ad⟩:∃kb:ByteArray,kb=⟨(dC l[k]).toArray⟩:=⟨_,q?⟩;have ac:(⟨(eA (⟨l[k].text.toArray⟩:ByteArray).1.1).toArray⟩:ByteArray)=kb:=by rw[ad];rfl
   have HK:mi (kb.1.1=dC l[k]):=by show _=_;rw[ad]
   rw[ac];clear ad ac af;have hb2:B? w w1:=U.trans (ag.mono HS);clear c0 c1 c2 c3 c4 ag;go_wp2_with fail;refine(rh kb p w1).mono ?_;rintro e w2 ⟨rfl,rfl⟩
   cases Y:iW kb.1.1 p.1.1 with
   |false=>
    have HB:mi (iW (dC l[k]) p.1.1=f?):=by show _=_;rw[<-HK.out];exact Y
    clear Y;go_wp2;go_roundw
    case rel=>exact⟨k+1,nx,o!,by go_num,q?,Ro HSe hlt HB,hx0,hx1,hb2⟩
    case measure=>simp[intOf];omega
   |true=>
    have HB:mi (iW (dC l[k]) p.1.1=t?):=by show _=_;rw[<-HK.out];exact Y
    by_cases O:kb.1.1=p.1.1
    .have al:(kb.toList==p.toList)=t?:=by rw[mb,mb,O];simp
     have HN:mi (gM l p.1.1=t?):=Fl hlt (by rw[<-HK.out];exact O);clear Y O;go_wp2;go_ret;exact⟨dT HN.symm,hb2⟩
    have al:(kb.toList==p.toList)=f?:=by rw[mb,mb,beq_eq_false_iff_ne];exact O
    have am:p.size<kb.size:=by have:=nJ ((fh _ _).1 Y) O;simpa using this
    have ah:(dC l[k]).getD p.1.1.length 0=kb[p.size]:=by rw[<-HK.out];have:=jr kb p.size am;simpa using this
    have HGd:mi ((((dC l[k]).getD p.1.1.length 0).toNat:Int)=(kb[p.size].toNat:Int)):=by show _=_;rw[ah]
    have ai:mi (dC l[k]≠p.1.1):=by show _≠_;rw[<-HK.out];exact O
    have ao:=kb[p.size].toNat_lt;clear Y O ah;by_cases ap:nx<0
    .go_wp2;go_roundw
     case rel=>exact⟨k+1,(kb[p.size].toNat:Int),o!,by go_num,q?,by rw[<-HGd.out];exact G1 HSe hlt HB ai (Or.inl o!),o!,o!,hb2⟩
     case measure=>simp[intOf];omega
    by_cases aa:(kb[p.size].toNat:Int)=nx
    .have aj:((kb[p.size].toNat:Int)==nx)=t?:=by rw[aa];simp
     have an:mi (nx=(kb[p.size].toNat:Int)):=aa.symm;clear aa;go_wp2;go_roundw
     case rel=>exact⟨k+1,(kb[p.size].toNat:Int),o!,by go_num,q?,by rw[<-HGd.out];exact G1 HSe hlt HB ai (Or.inr (by rw[HGd.out];exact an)),o!,o!,hb2⟩
     case measure=>simp[intOf];omega
    have aj:((kb[p.size].toNat:Int)==nx)=f?:=by rw[beq_eq_false_iff_ne];exact aa
    have HN:mi (gM l p.1.1=t?):=MD HSe hlt HB o! (by rw[HGd.out];exact aa);clear aa;go_wp2;go_ret;exact⟨dT HN.symm,hb2⟩
  have ek:k=l? l:=o!;subst ek;have HN:mi (gM l p.1.1=f?):=LR ak HSe;go_wp2;go_ret;exact⟨dT HN.symm,U⟩
def gp(a:Wd)(c:UInt8)(row:List Nat)(z:Nat):Nat->List Nat
 |0=>[z]
 |i+1=>gp a c row z i++[min (min (row.getD i 0+(if a.getD i 0=c then 0 else 1)) (row.getD (i+1) 0+1)) ((gp a c row z i).getD i 0+1)]
def iT(a s:Wd):Nat->List Nat
 |0=>cZ (l? a+1)|k+1=>gp a (s.getD k 0) (iT a s k) (k+1) a.length
def pw(a s:Wd)(k:Nat):Nat:=(iT a s k).getD a.length 0
def jX(a)(c)(row)(z):∀i,(gp a c row z i).length=i+1:=by
 intro i;induction i with
 |zero=>rfl|succ i O=>rw[gp,cf,O];rfl
def qI(a s)(k):(iT a s k).length=l? a+1:=by
 cases k with
 |zero=>simp[iT]|succ k=>rw[iT,jX]
def Kg(a s)(n):∀k,k<=n->iT a (s.take n) k=iT a s k:=by
 intro k;induction k with
 |zero=>intro _;rfl|succ k O=>intro h;rw[iT,iT,O o!];rw[cc,cc,cG,if_pos o!]
def qW(a)(c)(row)(z m)(hz:z<=m)(W:∀x∈row,x+1<=m):∀i,i<l? row->∀x∈gp a c row z i,x<=m:=by
 intro i;induction i with
 |zero=>intro _ x O;simp[gp]at O;omega|succ i Y=>
  intro U x O;obtain h|h:=cg.1 O
  exact Y o! x h;simp only[ce,ff,or_false]at h;have h1:=W (row.getD _ 0) (by rw[cc,cj U];exact cE U);omega
def xC(a s):∀k,∀x∈iT a s k,x<=l? a+k:=by
 intro k;induction k with
 |zero=>intro x O;simp[iT]at O;omega|succ k U=>intro x O;exact qW a _ _ _ _ o! (λy W=>by have:=U y W;omega) _ (by rw[qI];omega) x O
def ik(mode:Nat)(q s:Wd):Bool:=
 if mode=0 then iW s q
 else if mode=1 then(cZ s.length).any λi=>io s i&&iW (s.drop i) q
 else(cZ (l? s+1)).any λk=>decide (pw q s k<mode)
end
