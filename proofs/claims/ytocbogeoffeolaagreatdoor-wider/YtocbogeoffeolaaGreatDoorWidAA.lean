import Derived.Below
import Derived.WalkKit
import Derived.WalkSpells
import Derived.Test.YtocbogeoffeolaaGreatDoorProg
import Derived.WalkLawsBesides
import Derived.Deep.Draws
import Derived.WalkSmall
import Derived.Deep.QuietTactic
import Derived.BigQuiet
import Derived.Deep.Light
import Derived.Deep.RegionWith
import Derived.Deep.RegionHeld
import Derived.Deep.CutRange
import Derived.Lib.FieldsP
import Derived.Laws.RangeString
import Derived.Lib.Bytealg
import Derived.Sort.Statements
import Derived.Shelf.SlSortCmp.Insertion
import Derived.Lib.ConvBytes
import Derived.Laws.IdiomStrings
import Derived.Deep.RegionLaw
import Derived.Maps.OwnSet
import Derived.Maps.RangeWalk
set_option linter.all false
set_option maxHeartbeats 8000000
set_option maxRecDepth 1000000
open List renaming getD_eq_getElem?_getD->ay,mem_filter->az,mem_cons->a0,getElem?_eq_getElem->a5,pairwise_cons->a6,length_append->a7,take_succ_eq_append_getElem->a8,mem_map->a9,map_cons->aA,mem_append->aB,length_cons->aC,mem_singleton->aD,range->aE,filter_append->aF,getElem_mem->aG,flatMap_cons->aH,length_filter_le->aI,cons_prefix_cons->aJ,filter_filter->aK,append_assoc->aL,drop_eq_getElem_cons->aM,nil_prefix->aN,map_append->aO,foldl_cons->aP,sum_cons->aQ,take_length->aR,mem_flatMap->aS,pairwise_iff_getElem->aT,exists_mem_of_ne_nil->aU,nodup_cons->aV,nil_append->aW,filter_congr->aX,takeWhile_append_dropWhile->aY,takeWhile_cons->aZ,filter_sublist->ba,length_eq_zero_iff->bc,cons_append->bd,map_nil->be,take_append_drop->bf,nodup_append->bg,pairwise_append->bh,mem_range->bi,filter_cons->bj,range_succ->bk,append_nil->bl,take_of_length_le->bm,filter_eq_nil_iff->bn,mem_of_mem_take->bo,mem_of_mem_drop->bp,eq_nil_of_length_eq_zero->bq,length_nil->br,take_succ_cons->bu,perm_ext_iff_of_nodup->bv,foldl_append->bw,any_eq_false->bx,pairwise_singleton->bz,any_eq_true->b0,takeWhile_sublist->b5,dropWhile_sublist->b6,length_pos_iff->b7,filter_eq_self->b8,dropWhile_cons->b9,pairwise_map->bA,count_append->bB,prefix_refl->bC,map_toArray->bD,length_drop->bE,take_append_of_le_length->bF,sum_append->bG,replicate->bH,getElem?_append_left->bI,findIdx?_eq_none_iff->bJ,length_pos_of_mem->bK,mem_append_left->bL,getElem_of_mem->bM,getElem?_drop->bN,perm_middle->bO,length_take->bP,flatMap_map->bQ,ext_getElem->bR,prefix_nil->bS,length_map->bT,any_append->bU,all_append->bV,take_take->bW,length->bX,Nodup->bY
open Option renaming bind_some->bZ,bind_eq_some_iff->cc
open Nat renaming le_refl->cd,mul_right_comm->ce,mul_left_comm->cf,zero_le->cg,mul_le_mul_right->ch,le_trans->ci,eq_zero_or_pos->cj,mul_assoc->ck,lt_or_ge->cl,zero_add->cm,add_mul->cn,mul_lt_mul_of_pos_right->cp,mul_pos->cq,min_eq_left->cr,le_antisymm->ct,mul_add->cu
open Go.Op renaming bytesLess->cv
open Bool renaming and_eq_true->cw,eq_iff_iff->cx,or_eq_true->cy,or_eq_false_iff->cz,not_eq_true'->c0,eq_false_iff->c4,and_comm->c5,and_eq_false_imp->c6,false_eq_true->c7,false_or->c8
open Go renaming maxLen->c9,TypeId->cA,wpList->cB,wpList_plain->cC,cell_later->cD,Calls->cE,run_append_own->cF,run_append_room->cG,run_append_grow->cH,run_append_nil->cI,growslice_fits->cJ,execOp->cK,run_convert_bytes_string->cL,madeCells->cM,run_underlying->cN,resolve->cO,storeCells->cP
open Option.some renaming injEq->cQ
open UInt8 renaming ofNat->cR,lt_iff_toNat_lt->cS,toNat_inj->cT
open Int renaming tmod_eq_emod_of_nonneg->cU,tdiv_eq_ediv_of_nonneg->cV,eq_ofNat_of_zero_le->cW,emod_nonneg->cX
open Go.Builtin renaming append_->cY,firstCells->cZ,zeroCells->da,lenOf->db,len_->dc
open Go.Lib renaming compareBytes->dd,spansFromP->de,closeSpans->df,bytesWorld_size->dg
open List.Pairwise renaming sublist->di,of_map->dj,imp_of_mem->dk
open Go.Result.ok renaming injEq->dl
open ByteArray renaming size->dm,ext->dr
open List.Perm renaming append_left->dt,eq_of_pairwise->ee,refl->ef,eq_nil->eg,append->ei
open Go.Value renaming ownBlock->ej
open Go.World renaming setCell->en,frozen?->eq,ownsRow->er,cell?->et
open Go.IntKind renaming wrap_i64->ev
open Go.Addr renaming add_lit->ew,add->ex
open Go.Result renaming andThen->ez,andThen_ok->e5
open Array renaming getElem?_modify->e6,toList_inj->e7
open Classical renaming byContradiction->e8
open Go.Maps renaming string_keyed->eC,size->fa,has->fb
open Go.RowKit.Below renaming refl->fd,setCell->ff
open Go.ByteArray renaming toList_eq->fk
open Go.Sem renaming run_pure->fm,run_bind->fr
open Go.RowKit renaming Hid->fs
open Prod renaming fst->fB
namespace Go.Proofs.YtocbogeoffeolaaGreatDoor
open Go.Proofs.Tryz
section
open Go.RowKit
def fe(c:UInt8):Bool:=decide ((97<=c.toNat/\c.toNat<=122)\/(48<=c.toNat/\c.toNat<=57))
def ow(c:UInt8):Bool:=decide (32<=c.toNat/\c.toNat<=126)
def dU(l:List UInt8):Bool:=decide (l.length<=24)&&l.all ow
def yi(c:UInt8):UInt8:=if 65<=c.toNat/\c.toNat<=90 then c+32 else c
def ed(l:List UInt8):List UInt8:=l.map yi
theorem Bw(s:ByteArray)(k:Nat)(h:k<s.size):s.data.toList.take (k+1)=s.data.toList.take k++[s[k]]:=by
 rw[a8 _]; rfl
theorem gf(l:List UInt8):(ed l).length=l.length:=by simp[ed]
theorem GU(l:List UInt8)(c:UInt8):ed (l++[c])=ed l++[yi c]:=by simp[ed]
def fH(l:List UInt8):List Value:=l.map λc=>Value.int .u8 c.toNat
theorem qu(l:List UInt8):(fH l).length=l.length:=by simp[fH]
theorem PG(c:UInt8)(h:65<=c.toNat/\c.toNat<=90):((yi c).toNat:Int)=(c.toNat:Int)+32:=by
 unfold yi; rw[if_pos h,UInt8.toNat_add];have:(32:UInt8).toNat=32:=rfl;omega
theorem QX(c:UInt8)(h:¬(65<=c.toNat/\c.toNat<=90)):yi c=c:=by
 unfold yi; rw[if_neg h]
def fL(l:List UInt8)(i:Nat):Bool:=fe (l.getD i 0)&&(decide (i=0) || !fe (l.getD (i-1) 0))
def vh(l:List UInt8)(i:Nat):List UInt8:=(l.drop i).takeWhile fe
def jF(l:List UInt8)(k:Nat):List (List UInt8):=((aE k).filter (fL l)).map (vh l)
def iB(l:List UInt8):List (List UInt8):=jF l l.length
def dp(ws:List (List UInt8)):List Value:=ws.map λb=>Value.string ⟨b.toArray⟩
theorem dE(ws:List (List UInt8)):(dp ws).length=ws.length:=by simp[dp]
theorem mH(ws:List (List UInt8))(b:List UInt8):dp (ws++[b])=dp ws++[Value.string ⟨b.toArray⟩]:=by simp[dp]
theorem uY(l:List UInt8)(k:Nat)(h:fL l k=true):jF l (k+1)=jF l k++[vh l k]:=by
 simp[jF,bk,h]
theorem mA(l:List UInt8)(k:Nat)(h:fL l k=false):jF l (k+1)=jF l k:=by
 simp[jF,bk,h]
theorem Ia(l:List UInt8)(k:Nat):(jF l k).length<=k:=by
 unfold jF;have:=aI (fL l) (aE k);simpa using this
theorem lq(s:ByteArray)(k:Nat)(h:k<s.size):s.data.toList.getD k 0=s[k]:=by
 rw[ay,a5 _]; rfl
def yy(l:List UInt8)(i too:Nat):Prop:=i<=too/\too<=l.length/\∀j,i<=j->j<too->fe (l.getD j 0)=true
theorem As(p:UInt8->Bool):∀(l:List UInt8)(n:Nat),n<=l.length->(∀j,j<n->p (l.getD j 0)=true)->(n=l.length\/p (l.getD n 0)=false)->l.takeWhile p=l.take n:=by
 intro l
 induction l with
 |nil=>simp
 |cons c l Y=>
  intro n h fv O
  cases n with
  |zero=>
   rcases O with U|U
   .simp at U
   .simp at U; simp[U]
  |succ n=>
   have U:=fv 0 (by omega);simp at U;rw[aZ,U,bu];simp only[if_true];rw[Y n (by simpa using h) (λj hj=>by have:=fv (j+1) (by omega); simpa using this) ?_];rcases O with W|W
   .left; simpa using W
   .right; simpa using W
theorem H'(l:List UInt8)(i too:Nat)(h:yy l i too)(O:too=l.length\/fe (l.getD too 0)=false):vh l i=(l.drop i).take (too-i):=by
 obtain⟨Y,h2,W⟩:=h;have U:∀j,(l.drop i).getD j 0=l.getD (i+j) 0:=by simp[ay,bN]
 refine As fe _ _ (by simp; omega) (λj hj=>?_) ?_
 .rw[U]; exact W _ (by omega) (by omega)
 .rcases O with h|h
  .simp; omega
  .right; rw[U,show i+(too-i)=too by omega]; exact h
theorem G4(l:List UInt8)(k:Nat)(O:k<=l.length):yy l k k:=⟨cd _,O,λ_ _ _=>by omega⟩
theorem yM(l:List UInt8)(k t:Nat)(h:yy l k t)(W:t<l.length)(O:fe (l.getD t 0)=true):yy l k (t+1):=
 ⟨by have:=h.1; omega,by omega,λj U Y=>by
   by_cases e:j=t
   .rw[e]; exact O
   .exact h.2.2 j U (by omega)⟩
theorem tT(f:ByteArray)(k t:Nat)(h:yy f.data.toList k t)(O:t=f.size\/fe (f.data.toList.getD t 0)=false) :
  f.extract k t=⟨(vh f.data.toList k).toArray⟩:=by
 rw[H' _ k t h (by simpa using O)];apply dr;apply e7.1;simp
theorem CZ(s:ByteArray)(k:Nat)(h:k<s.size):s[k]∈s.data.toList:=by
 exact aG _
theorem eH{a b:Bool}(h:a=b):Ending.returned (.bool a)=.returned (.bool b):=by rw[h]
theorem eS{k:IntKind}{a b:Int}(h:a=b):Ending.returned (.int k a)=.returned (.int k b):=by rw[h]
end
section
open Go.RowKit
variable {v:Value} {w:World}
theorem fp{P:Program}(w:World){ops:Array Oper}{rest:List Oper}{o:Oper}{a:Act}{Q:Exit->Act->World->Prop}(ab:o.guard=none)(s x:Operand)(t:cA)
  (ho:o.op=.call {callee:=.builtin .append,args:=#[s,x],argTypes:=#[t,t]})
  (base:Nat) (e:cA) (i:TypeInfo) (z:Value) (bytes:Nat) (ht:P.underlying t=some (.slice e)) (hi:P.info? e=some i) (hz:i.zero=some z)
  (U:i.size=1) (ac:i.bytes=bytes) (ae:z.cells.size=1)
  (v:Value) (n:Nat) (xs:List Value) (hs:a.eval s=v) (aa:w.ownsRow base e 1 v n xs)
  (ad:Addr) (y:Value) (hx:a.eval x=.slice (some ad) 1 1) (W:w.cell? ad=some y) (h1:y.oneCell'=true)
  (O:(n+1)*bytes<=140737488355328) (af:n+1<=c9) (Y:base<=w.heap.size)
  (h:∀v' w',w'.ownsRow base e 1 v' (n+1) (xs++[y])->w.grownBy w' v.ownBlock->v'≠.slice none 0 0->cB P ops Q rest (a.put o.dst v') w'):cB P ops Q (o::rest) a w:=by
 refine wpList_append_own w ab s x t ho base e i z 1 bytes ht hi hz U ac ae (by decide) v n xs hs aa ad 1 1 [y] hx rfl ?_ ?_ af O Y ?_
 .intro j u hj
  match j,hj with
  |0,hj=>simp at hj; subst hj; simpa[ex]using W
  |j+1,hj=>simp at hj
 .intro u hu; simp at hu; subst hu; exact h1
 .intro v' w' h2 h3 h4;refine h v' w' h2 h3 ?_;intro he;have:=h4.1 he;simp at this
theorem iH{t:cA}:(w.alloc (.cells #[v] t)).cell? ⟨w.heap.size,0,none⟩=some v:=by
 rw[World.cell?_alloc_at _ _ _ _ rfl]; rfl
theorem G':∀(l:List UInt8)(s:ByteArray),(l.map λc=>(c.toNat:Int)).foldl (λr n=>r.push (cR n.toNat)) s=⟨s.data++l.toArray⟩:=by
 intro l
 induction l with
 |nil=>simp
 |cons c l O=>
  intro s;rw[aA,aP,O];simp
theorem IV{P:Program}{base u8 src O n:Nat}{l:List UInt8}(h:w.ownsRow base u8 1 v n (fH l))
  (Y:P.underlying src=some (.slice u8)) (he:P.underlying u8=some (.int .u8)) (hd:P.underlying O=some .string) :
  (convert src O v).run P w=.ok (.string ⟨l.toArray⟩) w:=by
 have h0:=h;obtain⟨U,h⟩:=h;rcases h with⟨rfl,rfl⟩|⟨g,cap,aa,rfl,_,hg,_,_,ab,ac⟩
 .have:=by simpa[fH]using U
  subst this;rw[cL w src O u8 _ _ _ Y he hd];rfl
 .rw[cL w src O u8 _ _ _ Y he hd];have hn:n=l.length:=by rw[qu]at U; omega
  have W:=run_loadCells_list (P:=P) w _ _ (h0.cells rfl);rw[qu,<-hn]at W;have e:fH l=(l.map λc=>c.toNat).map (Value.int .u8):=by simp[fH]
  rw[e]at W;rw[run_bytesToString w _ _ _ _ W,G'];simp
end
section
open Go.RowKit
theorem FL:(prog.info? 5).map (λi=>(i.zero,i.size,i.bytes))=some (some (.int .u8 0),1,1):=by kernel_rfl
end
section
open Go.RowKit
theorem vY:(prog.info? 9).map (λi=>(i.zero,i.size,i.bytes))=some (some (.string ⟨#[]⟩),1,16):=by kernel_rfl
end
section
open Go.RowKit
abbrev Wd:=List UInt8
def zI(t ws:List Wd)(k j:Nat):Bool:=decide ((t.drop k).take j=ws.take j)
def oX(t ws:List Wd)(k:Nat):Bool:=zI t ws k ws.length
def iA(t ws:List Wd)(k:Nat):Nat:=((aE k).filter (oX t ws)).length
def r9(t ws:List Wd):Nat:=iA t ws (t.length+1-ws.length)
def gZ(O:List (List Wd))(ws:List Wd):Nat:=(O.map λt=>r9 t ws).sum
def gu(O:List (List Wd)):Nat:=(O.map λt=>t.length+1).sum
theorem Aj(t ws:List Wd)(k:Nat)(h:oX t ws k=true):iA t ws (k+1)=iA t ws k+1:=by
 simp[iA,bk,h]
theorem Cp(t ws:List Wd)(k:Nat)(h:oX t ws k=false):iA t ws (k+1)=iA t ws k:=by
 simp[iA,bk,h]
theorem CJ(t ws:List Wd)(k:Nat):iA t ws k<=k:=by
 have:=aI (oX t ws) (aE k);simpa[iA]using this
theorem I3(t ws:List Wd):r9 t ws<=t.length+1:=by
 have:=CJ t ws (t.length+1-ws.length);unfold r9; omega
theorem GN(O:List (List Wd))(i:Nat)(h:i<O.length):gu (O.take (i+1))=gu (O.take i)+(O[i].length+1):=by
 unfold gu;rw[a8 h,aO,bG]; rfl
theorem Mq(O:List (List Wd))(ws:List Wd):gZ O ws<=gu O:=by
 induction O with
 |nil=>simp[gZ,gu]
 |cons t O U=>
  have h:=I3 t ws;simp only[gZ,gu,aA,aQ]at U⊢;omega
end
section
open Go.RowKit
def Rd(w:World)(v:Value)(xs:List Value):Prop:=
 ∃a cap,v=.slice a xs.length cap/\xs.length<=cap/\cap<=c9/\∀j u,xs[j]?=some u->∃b off,a=some ⟨b,off,none⟩/\w.cell? ⟨b,off+j,none⟩=some u
theorem Rd.jl{w:World}{base e n:Nat}{v:Value}{xs:List Value}(h:w.ownsRow base e 1 v n xs):Rd w v xs:=by
 have U:=h;obtain⟨W,h⟩:=h;rcases h with⟨rfl,rfl⟩|⟨g,cap,Y,rfl,_,hg,hn,O,aa,ab⟩
 .have:=by simpa using W
  subst this;exact⟨none,0,rfl,cd _,by omega,by simp⟩
 .have e:n=xs.length:=by omega
  refine⟨some _,cap,by rw[e],by omega,O,λj u hj=>⟨g,0,rfl,?_⟩⟩;have:=U.cells (g:=g) rfl j u hj
  have e2:(⟨g,0,none⟩:Addr).add j=⟨g,0+j,none⟩:=by
   unfold ex;split
   .rename_i h; rw[h]
   .rfl
  rw[e2]at this;exact this
theorem gO(ws:List Wd)(j:Nat)(h:j<ws.length):(dp ws)[j]?=some (.string ⟨ws[j].toArray⟩):=by
 simp[dp,h]
end
section
open Go.RowKit
def zK(out:List Wd)(x:Wd):Nat:=(out.takeWhile λy=>cv y x).length
def uJ(out:List Wd)(x:Wd):List Wd:=if out[zK out x]?=some x then out else out.take (zK out x)++([x]++out.drop (zK out x))
def xk(out:List Wd)(t:List Wd)(k:Nat):List Wd:=(t.take k).foldl uJ out
def eN(O:List (List Wd)):List Wd:=O.foldl (λout t=>t.foldl uJ out) []
theorem Ua(out:List Wd)(x:Wd):zK out x<=out.length:=(b5 _).length_le
theorem Ai{α:Type}(p:α->Bool):∀(l:List α)(n:Nat)(O:n<=l.length),(∀j(h:j<n),p (l[j]'(by omega))=true)->(∀h:n<l.length,p l[n]=false)->(l.takeWhile p).length=n:=by
 intro l
 induction l with
 |nil=>intro n O _ _; simp at O; simp[O]
 |cons c l ih=>
  intro n O U W
  cases n with
  |zero=>have:=W (by simp); simp at this; simp[this]
  |succ n=>
   have Y:=U 0 (by omega);simp at Y;rw[aZ,Y];simp only[if_true,aC];rw[ih n (by simpa using O) (λj hj=>by have:=U (j+1) (by omega); simpa using this) (λhh=>by have:=W (by simpa using hh); simpa using this)]
theorem MF(out:List Wd)(x:Wd):(uJ out x).length<=out.length+1:=by
 unfold uJ;split
 .omega
 .simp; omega
theorem Gd(O:List (List Wd))(i:Nat)(h:i<O.length):eN (O.take (i+1))=xk (eN (O.take i)) O[i] O[i].length:=by
 unfold eN xk;rw[a8 h,bw,aR]; rfl
theorem Aq(t:List Wd):∀out,(t.foldl uJ out).length<=out.length+t.length:=by
 induction t with
 |nil=>simp
 |cons x t O=>intro out; have:=O (uJ out x); have:=MF out x; simp only[aP,aC]; omega
theorem Es(out t:List Wd)(k:Nat):(xk out t k).length<=out.length+k:=by
 have:=Aq (t.take k) out;unfold xk;simp at this⊢; omega
theorem Ip(O:List (List Wd))(i:Nat)(hi:i<=O.length):(eN (O.take i)).length<=gu (O.take i):=by
 induction i with
 |zero=>simp[eN]
 |succ i U=>
  rw[Gd O i (by omega),GN O i (by omega)];have:=Es (eN (O.take i)) O[i] O[i].length;omega
end
section
open Go.RowKit
variable {xs:List Value} {ws:List Wd} {b base cap e n:Nat} {a:Option Addr} {v:Value} {w w':World}
theorem kg{P:Program}(w:World)(t O e:cA)(i:TypeInfo)(U:P.underlying t=some (.slice e))(hi:P.info? e=some i)(b:Option Addr)(n cap c:Nat)(h:n<=cap) :
  (cY #[t,t] O #[.slice b n cap,.slice none 0 c]).run P w=.ok (.slice b n cap) w:=by
 cases b<;>simp[cY,cN U,sizeOf,typeInfo,hi,db,cZ,h,cP]
theorem dN(h:w.ownsRow base e 1 v n xs):∃a cap,v=.slice a n cap/\n<=cap:=by
 rcases h.2 with⟨rfl,rfl⟩|⟨g,cap,O,rfl,_,_,U,_⟩
 .exact⟨none,0,rfl,cd _⟩
 .exact⟨_,cap,rfl,U⟩
theorem Ay{P:Program}(w:World)(base:Nat)(t ty e:cA)(i:TypeInfo)(z:Value)(bytes:Nat)(ht:P.underlying t=some (.slice e))(hi:P.info? e=some i)(hz:i.zero=some z)
  (W:i.size=1) (ab:i.bytes=bytes) (ac:z.cells.size=1)
  (v:Value) (n:Nat) (xs:List Value) (O:w.ownsRow base e 1 v n xs)
  (x:Value) (news:List Value) (hx:Rd w x news) (h1:∀u∈news,u.oneCell'=true)
  (U:(n+news.length)*bytes<=140737488355328) (ae:n+news.length<=c9) (Y:base<=w.heap.size) :
  ∃v' w',(cY #[t,t] ty #[v,x]).run P w=.ok v' w'/\w'.ownsRow base e 1 v' (n+news.length) (xs++news)/\w.grownBy w' v.ownBlock:=by
 obtain⟨a,cap,rfl,hc,hm,hr⟩:=hx
 cases a with
 |none=>
  have hn:news=[]:=by
   cases news with
   |nil=>rfl
   |cons u us=>obtain⟨b,off,he,_⟩:=hr 0 u rfl; simp at he
  subst hn;obtain⟨b,c,rfl,af⟩:=dN O;refine⟨_,w,kg w t ty e i ht hi b n c cap af,by simpa using O,World.grownBy.refl ..⟩
 |some ad=>
  by_cases hn:news=[]
  .subst hn;obtain⟨v',w',h1,h2,h3,_⟩:=cF (P:=P) w base t ty e i z 1 bytes ht hi hz W ab ac (by decide) v n xs O ad 0 cap [] rfl (by simp) (by simp) (by simpa using ae) (by simpa using U) Y;exact⟨v',w',h1,h2,h3⟩
  .obtain⟨b,off,he,_⟩:∃b off,some ad=some ⟨b,off,none⟩/\True:=by
    cases news with
    |nil=>exact absurd rfl hn
    |cons u us=>obtain⟨b,off,he,_⟩:=hr 0 u rfl; exact⟨b,off,he,trivial⟩
   simp only[cQ]at he;subst he
   obtain⟨v',w',h1,h2,h3,_⟩:=cF (P:=P) w base t ty e i z 1 bytes ht hi hz W ab ac (by decide) v n xs O _ _ cap news (by simp) (λj u hj=>by
    obtain⟨b',ag,he,aa⟩:=hr j u hj;obtain⟨rfl,rfl,_⟩:=he
    rw[ew]; exact aa) h1 ae U Y
   exact⟨v',w',h1,h2,h3⟩
theorem qh{P:Program}(w:World)(base:Nat)(t ty e:cA)(i:TypeInfo)(z:Value)(bytes:Nat)(ht:P.underlying t=some (.slice e))(hi:P.info? e=some i)(hz:i.zero=some z)
  (O:i.size=1) (ac:i.bytes=bytes) (ah:z.cells.size=1)
  (v:Value) (n:Nat) (xs:List Value) (U:w.ownsRow base e 1 v n xs)
  (x:Value) (news:List Value) (hx:Rd w x news) (h1:∀u∈news,u.oneCell'=true)
  (W:(n+news.length)*bytes<=140737488355328) (ae:n+news.length<=c9) (ab:base<=w.heap.size) :
  ∃v' w',(cY #[t,t] ty #[v,x]).run P w=.ok v' w'/\w'.ownsRow base e 1 v' (n+news.length) (xs++news)/\w.grownBy w' v.ownBlock/\(v'.ownBlock=v.ownBlock\/v'.ownBlock=some w.heap.size):=by
 obtain⟨v',w',hr,h2,h3⟩:=Ay (P:=P) w base t ty e i z bytes ht hi hz O ac ah v n xs U x news hx h1 W ae ab;refine⟨v',w',hr,h2,h3,?_⟩;obtain⟨a,cap,rfl,hc,hm,ai⟩:=hx
 cases a with
 |none=>
  have hn:news=[]:=by
   cases news with
   |nil=>rfl
   |cons u us=>obtain⟨b,off,he,_⟩:=ai 0 u rfl; simp at he
  subst hn;obtain⟨b,c,rfl,aj⟩:=dN U;have:=kg (P:=P) w t ty e i ht hi b n c cap aj;simp only[br]at hr;rw[this]at hr;simp only[dl]at hr;exact Or.inl (by rw[<-hr.1])
 |some ad=>
  have aa:∀j u,news[j]?=some u->w.cell? (ad.add j)=some u:=by
   intro j u hj;obtain⟨b,off,he,af⟩:=ai j u hj;simp only[cQ]at he;subst he;rw[ew]; exact af
  have hl:news.length=news.length*i.size:=by rw[O]; omega
  rcases U.2 with⟨rfl,rfl⟩|⟨g,c,ak,rfl,ao,hg,aj,ap,aq,al⟩
  .by_cases am:news.length=0
   .have hn:=bq am;subst hn;rcases h2.2 with⟨rfl,_⟩|⟨g',c',an,rfl,_,ar,_⟩
    .exact Or.inl rfl
    .have:=cF (P:=P) w base t ty e i z 1 bytes ht hi hz O ac ah (by decide) _ 0 xs U ad 0 cap [] rfl (by simp) (by simp) (by simp) (by simp) ab;obtain⟨v2,w2,Y,_,_,h4⟩:=this;simp only[br]at hr;rw[hr]at Y;simp only[dl]at Y;have:=h4.2 ⟨rfl,rfl⟩;rw[<-Y.1]at this;simp at this
   .have Y:=cI (P:=P) w t ty e i z ht hi hz ad _ cap news hl aa (by omega) (by simp only[c9]at ae; omega) (by rw[ac]; simp only[cm]at W; omega);rw[Y]at hr;simp only[dl]at hr;exact Or.inr (by rw[<-hr.1]; rfl)
  .by_cases ag:n+news.length<=c
   .have Y:=cG (P:=P) w t ty e i ht hi g n c ak hg ad _ cap news hl aa h1 ag (by rw[O]; omega);rw[Y]at hr;simp only[dl]at hr;exact Or.inl (by rw[<-hr.1]; rfl)
   .have holds:=U.cells (g:=g) rfl;have Y:=cH (P:=P) w t ty e i z ht hi hz _ n c xs (by rw[O]; exact U.1) holds ad _ cap news hl aa (by omega) (by simp only[c9]at ae; omega) (by rw[ac]; exact cJ (by omega) W);rw[Y]at hr;simp only[dl]at hr;exact Or.inr (by rw[<-hr.1]; rfl)
theorem fy{P:Program}(w:World){ops:Array Oper}{rest:List Oper}{o:Oper}{a:Act}{Q:Exit->Act->World->Prop}(ab:o.guard=none)(s x:Operand)(t:cA)
  (ho:o.op=.call {callee:=.builtin .append,args:=#[s,x],argTypes:=#[t,t]})
  (base:Nat) (e:cA) (i:TypeInfo) (z:Value) (bytes:Nat) (ht:P.underlying t=some (.slice e)) (hi:P.info? e=some i) (hz:i.zero=some z)
  (U:i.size=1) (ac:i.bytes=bytes) (ad:z.cells.size=1)
  (v:Value) (n:Nat) (xs:List Value) (hs:a.eval s=v) (aa:w.ownsRow base e 1 v n xs)
  (y:Value) (news:List Value) (hx:a.eval x=y) (hy:Rd w y news) (h1:∀u∈news,u.oneCell'=true)
  (O:(n+news.length)*bytes<=140737488355328) (ae:n+news.length<=c9) (W:base<=w.heap.size)
  (h:∀Y w',w'.ownsRow base e 1 Y (n+news.length) (xs++news)->w.grownBy w' v.ownBlock->(Y.ownBlock=v.ownBlock\/Y.ownBlock=some w.heap.size)->cB P ops Q rest (a.put o.dst Y) w'):cB P ops Q (o::rest) a w:=by
 refine cC ab λ_ hK=>?_;obtain⟨Y,w',hr,h2,h3,h4⟩:=qh (P:=P) w base t o.type e i z bytes ht hi hz U ac ad v n xs aa y news hy h1 O ae W;unfold Oper.wp cK;simp only[ho,cO,invoke,builtin,fr,fm,e5,bD,aA,be,hs,hx,hr];exact hK _ _ (h Y w' h2 h3 h4)
theorem Rd.one{y:Value}(h:w.cell? ⟨b,0,none⟩=some y):Rd w (.slice (some ⟨b,0,none⟩) 1 1) [y]:=by
 refine⟨some _,1,rfl,cd _,by unfold c9; omega,λj u O=>⟨b,0,rfl,?_⟩⟩
 match j,O with
 |0,O=>simp at O; subst O; exact h
 |j+1,O=>simp at O
theorem kF:∀u∈dp ws,u.oneCell'=true:=by
 intro u O;simp only[dp,a9]at O;obtain⟨b,_,rfl⟩:=O;rfl
theorem Rd.take(h:Rd w (.slice a n cap) xs)(k:Nat)(hk:k<=xs.length):Rd w (.slice a k cap) (xs.take k):=by
 obtain⟨a',U,W,hc,hm,Y⟩:=h;obtain⟨rfl,rfl,rfl⟩:=W;have hl:(xs.take k).length=k:=by simp; omega
 refine⟨a,cap,by rw[hl],by omega,hm,λj u O=>Y j u ?_⟩;rw[List.getElem?_take]at O;split at O
 .exact O
 .simp at O
theorem Rd.Ns(h:Rd w (.slice a n cap) (dp ws))(k:Nat)(O:k<=ws.length):Rd w (.slice a k cap) (dp (ws.take k)):=by
 have:=h.take k (by rw[dE]; exact O);simpa[dp]using this
theorem Rd.drop(h:Rd w (.slice a n cap) xs)(k:Nat)(hk:k<=xs.length) :
  Rd w (.slice (if cap=k then a else a.map λx=>x.add k) (n-k) (cap-k)) (xs.drop k):=by
 obtain⟨a',W,Y,hc,hm,hr⟩:=h;obtain⟨rfl,rfl,rfl⟩:=Y;refine⟨if cap=k then a else a.map _,cap-k,by rw[bE],by simp; omega,by omega,λj u U=>?_⟩;rw[bN]at U;obtain⟨b,off,rfl,O⟩:=hr _ u U
 have aa:k+j<xs.length:=by
  by_cases h:k+j<xs.length
  .exact h
  .rw[List.getElem?_eq_none (by omega)]at U; simp at U
 refine⟨b,off+k,?_,by rw[Nat.add_assoc]; exact O⟩;rw[if_neg (by omega)];simp[ew]
theorem Rd.zJ(h:Rd w (.slice a n cap) (dp ws))(k:Nat)(O:k<=ws.length) :
  Rd w (.slice (if cap=k then a else a.map λx=>x.add k) (n-k) (cap-k)) (dp (ws.drop k)):=by
 have:=h.drop k (by rw[dE]; exact O);simpa[dp]using this
theorem Rd.EH{off:Nat}(h:Rd w (.slice (some ⟨b,off,none⟩) n cap) (dp ws))(k:Nat)(O:k<ws.length)(U:n<=cap)(W:n=ws.length) :
  Rd w (.slice (some ⟨b,off+k,none⟩) (n-k) (cap-k)) (dp (ws.drop k)):=by
 have:=h.zJ k (by omega);rw[if_neg (by omega)]at this;simpa[ew]using this
theorem Rd.Ht{c:Nat}(O:n=0)(U:c<=c9):Rd w (.slice a n c) []:=by
 subst O;exact⟨a,c,rfl,cg _,U,by simp⟩
theorem Rd.later(h:Rd w v xs)(U:∀a u,w.cell? a=some u->w'.cell? a=some u):Rd w' v xs:=by
 obtain⟨a,cap,W,Y,h2,hr⟩:=h;refine⟨a,cap,W,Y,h2,λj u hj=>?_⟩;obtain⟨b,off,e,O⟩:=hr j u hj;exact⟨b,off,e,U _ _ O⟩
theorem Ql{a:Addr}{u:Value}(h:w.cell? a=some u):a.block<w.heap.size:=by
 by_cases O:a.block<w.heap.size
 .exact O
 .unfold et at h;rw[Array.getElem?_eq_none (by omega)]at h;simp at h
theorem Rd.below(h:Rd w v xs)(hb:Below w.heap.size w w'):Rd w' v xs:=
 h.later λ_ _ O=>cD hb O
theorem jE{O size:Nat}(h:w.ownsRow base e size v n xs)(hb:O<=base):w.ownsRow O e size v n xs:=by
 obtain⟨Y,U⟩:=h;refine⟨Y,?_⟩;rcases U with U|⟨g,cap,W,hv,hg,r⟩
 .exact Or.inl U
 .exact Or.inr ⟨g,cap,W,hv,by omega,r⟩
end
section
open Go.RowKit
def ou(O:List (List Wd)):Nat:=(O.map λt=>t.length).sum
def Ud(O:List (List Wd))(l:List Wd)(x:Wd):Nat:=gZ O [l.getD (l.length-2) [],l.getD (l.length-1) [],x]
def TT(O:List (List Wd))(l:List Wd)(x:Wd):Nat:=gZ O [l.getD (l.length-1) [],x]
def qV(O:List (List Wd))(l:List Wd)(x:Wd):Nat×Nat:=
 if 1<l.length/\0<Ud O l x then(Ud O l x,gZ O [l.getD (l.length-2) [],l.getD (l.length-1) []])
 else if 0<l.length/\0<TT O l x then(4*TT O l x,10*gZ O [l.getD (l.length-1) []])
 else(16*gZ O [x],100*ou O)
theorem Mw(O:List (List Wd)):ou O<=gu O:=by
 induction O with
 |nil=>simp[ou,gu]
 |cons t O U=>simp only[ou,gu,aA,aQ]at U⊢; omega
end
section
open Go.RowKit
theorem Cb(ws:List Wd)(j:Nat)(h:j<ws.length):(dp ws)[j]?=some (.string ⟨(ws.getD j []).toArray⟩):=by
 rw[gO ws j h,ay,a5 h]; rfl
theorem JS(n k:Int)(h:n=k)(O:0<=n)(U:n<=4611686018427387904):IntKind.i64.wrap n=k:=by
 rw[IntWalk.i64_in n (by omega),h]
end
section
open Go.RowKit
abbrev Fr:=Nat×Nat
def uQ(O:List Fr)(i j:Nat):Bool:=decide ((O.getD j (0,0)).1*(O.getD i (0,0)).2<(O.getD i (0,0)).1*(O.getD j (0,0)).2)
def gN(O:List Fr)(told:List Bool):Nat->Option Nat
 |0=>none
 |i+1=>if told.getD i false=true then gN O told i else
  match gN O told i with
  |none=>some i
  |some j=>if uQ O i j=true then some i else some j
def zv(O:List Fr):List Bool->Nat->List Nat
 |_,0=>[]
 |told,n+1=>match gN O told O.length with
  |none=>[]
  |some b=>b::zv O (told.set b true) n
def UD(O:List (List Wd))(l:List Wd):List Fr:=(eN O).map (qV O l)
def iI(O:List (List Wd))(l:List Wd)(most:Nat):List Wd:=
 (zv (UD O l) (bH (eN O).length false) (min most (eN O).length)).map λi=>(eN O).getD i []
theorem Bh(Y:List Fr)(told:List Bool):∀(i j:Nat),gN Y told i=some j->j<i/\told.getD j false=false:=by
 intro i
 induction i with
 |zero=>intro j h; simp[gN]at h
 |succ i U=>
  intro j h;unfold gN at h;split at h
  .have:=U j h; exact⟨by omega,this.2⟩
  .rename_i W;split at h
   .simp at h; subst h; exact⟨by omega,by simpa using W⟩
   .rename_i j' O;split at h
    .simp at h; subst h; exact⟨by omega,by simpa using W⟩
    .simp at h; subst h; have:=U j' O; exact⟨by omega,this.2⟩
theorem vn(O:List Fr)(told:List Bool):∀(i:Nat),gN O told i=none->∀j,j<i->told.getD j false=true:=by
 intro i
 induction i with
 |zero=>omega
 |succ i U=>
  intro h j Y;unfold gN at h;split at h
  .rename_i W;by_cases e:j=i
   .subst e; exact W
   .exact U h j (by omega)
  .split at h
   .simp at h
   .split at h<;>simp at h
theorem DL(O:List Fr)(told:List Bool)(i:Nat)(h:told.getD i false=true):gN O told (i+1)=gN O told i:=by simp only[gN]; rw[if_pos h]
theorem Di(O:List Fr)(told:List Bool)(i:Nat)(h:told.getD i false=false)(U:gN O told i=none):gN O told (i+1)=some i:=by simp only[gN]; rw[if_neg (by rw[h]; simp),U]
theorem A7(O:List Fr)(told:List Bool)(i j:Nat)(h:told.getD i false=false)(U:gN O told i=some j)(hb:uQ O i j=true):gN O told (i+1)=some i:=by simp only[gN]; rw[if_neg (by rw[h]; simp),U]; simp[hb]
theorem Ck(O:List Fr)(told:List Bool)(i j:Nat)(h:told.getD i false=false)(U:gN O told i=some j)(hb:uQ O i j=false):gN O told (i+1)=some j:=by simp only[gN]; rw[U]; simp[hb]
end
section
open Go.RowKit
variable {xs:List Value} {base c e g m n:Nat} {v:Value} {w:World}
def dY(l:List Nat):List Value:=l.map λ(n:Nat)=>Value.int .i64 (n:Int)
theorem yN(l:List Nat):(dY l).length=l.length:=by simp[dY]
theorem iN(l:List Nat)(j:Nat)(h:j<l.length):(dY l)[j]?=some (.int .i64 (l.getD j 0)):=by
 simp[dY,ay,h]
theorem Rx:(prog.info? 3).map (λi=>(i.zero,i.size,i.bytes))=some (some (.int .i64 0),1,8):=by kernel_rfl
theorem Iv{w':World}(h:w.ownsRow base e 1 v n xs)(hb:Below w.heap.size w w'):w'.ownsRow base e 1 v n xs:=
 h.kept (row:=none) ⟨hb.os,hb.tape,hb.output,hb.size,λk O _=>hb.block k O⟩ (by cases v.ownBlock<;>simp)
theorem iZ{a:Option Addr}(h:w.ownsRow base e 1 (.slice a m c) n xs)(k:Nat)(u:Value)(U:xs[k]?=some u):∃b off,a=some ⟨b,off,none⟩/\w.cell? ⟨b,off+k,none⟩=some u:=by
 obtain⟨Y,c',O,_,_,W⟩:=Rd.jl h;simp only[Value.slice.injEq]at O;rw[O.1];exact W k u U
theorem qC(h:w.ownsRow base e 1 (.slice (some ⟨g,0,none⟩) m c) n xs)(o:Nat):w.frozen? ⟨g,o,none⟩=false:=by
 rcases h.2 with⟨h,_⟩|⟨g',cap,O,U,_,W,_⟩
 .simp at h
 .obtain⟨⟨rfl,_⟩,_⟩:=U;simp[eq,W]
theorem xD(h:w.ownsRow base e 1 (.slice (some ⟨g,0,none⟩) m c) n xs)(k:Nat)(v:Value)(hk:k<n) :
  (w.setCell ⟨g,k,none⟩ v).ownsRow base e 1 (.slice (some ⟨g,0,none⟩) m c) n (xs.set k v):=by
 obtain⟨W,Y⟩:=h;refine⟨by simpa using W,?_⟩;rcases Y with⟨h,_⟩|⟨g',cap,O,he,hb,hg,h3,h4,h5,h6⟩
 .simp at h
 .have U:=he;obtain⟨⟨rfl,_⟩,rfl,rfl⟩:=U;refine Or.inr ⟨g,c,O.setIfInBounds k v,rfl,hb,?_,h3,h4,by simpa using h5,?_⟩
  .simp only[en,e6,hg];simp
  .rw[Array.toList_setIfInBounds,List.take_set,h6]
theorem KZ{b:Nat}{t:cA}(hb:b=w.heap.size):(w.alloc (.cells #[v] t)).cell? ⟨b,0,none⟩=some v:=by
 subst hb; exact iH
end
section
open Go.RowKit
variable {cs:Array Value} {xs:List Value} {b base e n:Nat} {fz:Nat×Nat} {F G:Nat->Prop} {t:cA} {v:Value} {w w':World}
structure dv(F:Nat->Prop)(w w':World):Prop where
 os:w'.os=w.os
 tape:w'.tape=w.tape
 output:w'.output=w.output
 size:w.heap.size<=w'.heap.size
 block:∀k,k<w.heap.size->¬F k->w'.heap[k]?=w.heap[k]?
def PM(F:Nat->Prop)(w w':World):Nat->Prop:=λk=>F k\/(w.heap.size<=k/\k<w'.heap.size)
theorem dv.refl(F:Nat->Prop)(w:World):dv F w w:=⟨rfl,rfl,rfl,cd _,λ_ _ _=>rfl⟩
theorem dv.fC(h:Below w.heap.size w w'):dv F w w':=⟨h.os,h.tape,h.output,h.size,λk O _=>h.block k O⟩
theorem dv.trans{a b c:World}(h:dv F a b)(k:dv G b c)(O:∀i,i<a.heap.size->G i->F i):dv F a c:=
 ⟨k.os.trans h.os,k.tape.trans h.tape,k.output.trans h.output,ci h.size k.size,λi hi hF=>by
   rw[k.block i (Nat.lt_of_lt_of_le hi h.size) (λU=>hF (O i hi U)),h.block i hi hF]⟩
theorem dv.mono(h:dv F w w')(hF:∀k,F k->G k):dv G w w':=⟨h.os,h.tape,h.output,h.size,λk O U=>h.block k O (λW=>U (hF k W))⟩
theorem eF(h:w.ownsRow base e 1 v n xs)(hb:∀k,v.ownBlock=some k->w'.heap[k]?=w.heap[k]?):w'.ownsRow base e 1 v n xs:=by
 obtain⟨Y,O⟩:=h;refine⟨Y,?_⟩;rcases O with O|⟨g,cap,U,rfl,W,hg,r⟩
 .exact Or.inl O
 .exact Or.inr ⟨g,cap,U,rfl,W,by rw[hb g rfl]; exact hg,r⟩
theorem dh(h:w.heap[b]?=some (.cells cs t fz))(o:Nat):w.cell? ⟨b,o,none⟩=cs[o]?:=by
 simp[et,h]
theorem dK(h:w.heap[b]?=some (.cells cs t (0,0)))(o:Nat):w.frozen? ⟨b,o,none⟩=false:=by
 simp[eq,h]
theorem heap_set(h:w.heap[b]?=some (.cells cs t fz))(o:Nat)(v:Value):(w.setCell ⟨b,o,none⟩ v).heap[b]?=some (.cells (cs.setIfInBounds o v) t fz):=by
 simp[en,e6,h]
theorem pE(h:w.heap[b]?=some (.cells cs t fz))(Y:w.ownsRow base e 1 v n xs)(O:t≠e):v.ownBlock≠some b:=by
 rcases Y.2 with⟨rfl,_⟩|⟨g,cap,aa,rfl,_,U,_⟩
 .simp[ej]
 .intro W;simp only[ej,cQ]at W;rw[W,h]at U;simp only[cQ,Obj.cells.injEq]at U;exact O U.2.1
end
section
open Go.RowKit
def pk(c:Int)(n:Nat):Nat:=((if c<0 then -(c+1)else c) % (n:Int)).toNat
theorem lC(c:Int)(n:Nat)(O:0<n):pk c n<n:=by
 unfold pk;have U:=Int.emod_lt_of_pos (if c<0 then -(c+1)else c) (show(0:Int)<n by omega);omega
theorem fQ(c:Int)(n:Nat)(w:World)(h0 : -9223372036854775808<=c)(h1:c<=9223372036854775807)(hn:0<n)(U:n<=1000000):cE prog 15 #[.int .i64 c,.int .i64 (n:Int)] w λe w'=>e=.returned (.int .i64 (pk c n:Nat))/\w=w':=by
 have W:¬((n:Int)=0):=by omega
 have Y:¬((n:Int) = -1):=by omega
 by_cases O:c<0
 .have e:((pk c n):Int)=(-(c+1)).tmod n:=by
   unfold pk;rw[if_pos O,cU (by omega)];have:=cX (-(c+1)) (show(n:Int)≠0 by omega);omega
  rw[e];go_wp2;go_ret;refine⟨?_,rfl⟩;show Ending.returned (.int _ _)=_;rw[Int.neg_tmod]
 .have e:((pk c n):Int)=c.tmod n:=by
   unfold pk;rw[if_neg O,cU (by omega)];have:=cX c (show(n:Int)≠0 by omega);omega
  go_wp2;go_ret;refine⟨?_,rfl⟩;show Ending.returned (.int _ _)=_;rw[cU (by omega)]
end
section
open Go.RowKit
variable {xs:List Value} {base e n size:Nat} {v:Value} {w:World}
theorem gY{w':World}(h:w.ownsRow base e size v n xs)(hb:∀k,v.ownBlock=some k->w'.heap[k]?=w.heap[k]?):w'.ownsRow base e size v n xs:=by
 obtain⟨Y,O⟩:=h;refine⟨Y,?_⟩;rcases O with O|⟨g,cap,U,rfl,W,hg,r⟩
 .exact Or.inl O
 .exact Or.inr ⟨g,cap,U,rfl,W,by rw[hb g rfl]; exact hg,r⟩
theorem tJ{b1 b2 e1 e2 s1 s2 n1 n2:Nat}{v1 v2:Value}{x1 x2:List Value}(h1:w.ownsRow b1 e1 s1 v1 n1 x1)(h2:w.ownsRow b2 e2 s2 v2 n2 x2)(Y:e1≠e2)(k:Nat)(O:v1.ownBlock=some k)(U:v2.ownBlock=some k):False:=by
 rcases h1.2 with⟨rfl,_⟩|⟨g,cap,ac,rfl,_,hg,_⟩
 .simp[ej]at O
 .rcases h2.2 with⟨rfl,_⟩|⟨g2,aa,ab,rfl,_,W,_⟩
  .simp[ej]at U
  .simp only[ej,cQ]at O U;rw[O]at hg;rw[U,hg]at W;simp only[cQ,Obj.cells.injEq]at W;exact Y W.2.1
theorem iX(h:w.ownsRow base e size v n xs):∃a cap,v=.slice a n cap/\n<=cap:=by
 rcases h.2 with⟨rfl,rfl⟩|⟨g,cap,O,rfl,_,_,U,_⟩
 .exact⟨none,0,rfl,cd _⟩
 .exact⟨_,cap,rfl,U⟩
end
section
open Go.RowKit
variable {xs:List Value} {n s:Nat} {v:Value} {w:World}
def ql(w:World)(s:Nat)(v:Value)(n:Nat)(xs:List Value):Prop:=
 ∃a cap,v=.slice a n cap/\n<=cap/\cap<=c9/\xs.length=n*s/\∀j u,xs[j]?=some u->∃b off,a=some ⟨b,off,none⟩/\w.cell? ⟨b,off+j,none⟩=some u
theorem ql.jl{base e:Nat}(h:w.ownsRow base e s v n xs):ql w s v n xs:=by
 have W:=h;obtain⟨U,h⟩:=h;rcases h with⟨rfl,rfl⟩|⟨g,cap,Y,rfl,_,hg,hn,O,aa,ab⟩
 .have:=bq (by simpa using U);subst this;exact⟨none,0,rfl,cd _,by omega,by simp,by simp⟩
 .refine⟨some _,cap,rfl,hn,O,U,λj u hj=>⟨g,0,rfl,?_⟩⟩;have:=W.cells (g:=g) rfl j u hj;rwa [ew]at this
theorem ql.nil(w:World)(s:Nat):ql w s (.slice none 0 0) 0 []:=⟨none,0,rfl,cd _,by omega,by simp,by simp⟩
theorem ql.later{w':World}(h:ql w s v n xs)(U:∀a u,w.cell? a=some u->w'.cell? a=some u):ql w' s v n xs:=by
 obtain⟨a,cap,W,Y,h2,hl,hr⟩:=h;refine⟨a,cap,W,Y,h2,hl,λj u hj=>?_⟩;obtain⟨b,off,e,O⟩:=hr j u hj;exact⟨b,off,e,U _ _ O⟩
theorem qc{P:Program}(w:World)(base:Nat)(t ty e:cA)(i:TypeInfo)(z:Value)(size bytes:Nat)(ht:P.underlying t=some (.slice e))(hi:P.info? e=some i)(hz:i.zero=some z)
  (U:i.size=size) (ae:i.bytes=bytes) (ao:z.cells.size=size) (aj:0<size)
  (v:Value) (n:Nat) (xs:List Value) (O:w.ownsRow base e size v n xs)
  (x:Value) (m:Nat) (news:List Value) (hx:ql w size x m news) (h1:∀u∈news,u.oneCell'=true)
  (W:(n+m)*bytes<=140737488355328) (af:n+m<=c9) (ag:base<=w.heap.size) :
  ∃v' w',(cY #[t,t] ty #[v,x]).run P w=.ok v' w'/\w'.ownsRow base e size v' (n+m) (xs++news)/\w.grownBy w' v.ownBlock/\(v'.ownBlock=v.ownBlock\/(v'.ownBlock=some w.heap.size/\Below w.heap.size w w')):=by
 obtain⟨a,cap,rfl,hc,hm,hl,ak⟩:=hx;by_cases ap:m=0
 .subst ap;have hn:news=[]:=bq (by simpa using hl);subst hn;obtain⟨b,c,rfl,ah⟩:=iX O
  have hr:(cY #[t,t] ty #[.slice b n c,.slice a 0 cap]).run P w=.ok (.slice b n c) w:=by
   cases a with
   |none=>exact kg (P:=P) w t ty e i ht hi b n c cap ah
   |some ad=>
    cases b<;>simp[cY,cN ht,sizeOf,typeInfo,hi,db,cZ,ah,cP,loadCells,loadCellsFrom]
  exact⟨_,w,hr,by simpa using O,World.grownBy.refl _ _,Or.inl rfl⟩
 .have al:0<news.length:=by rw[hl]; exact cq (by omega) aj
  obtain⟨b,off,ha,_⟩:=ak 0 news[0] (a5 al);subst ha
  have Y:∀j u,news[j]?=some u->w.cell? ((⟨b,off,none⟩:Addr).add j)=some u:=by
   intro j u hj;obtain⟨b',au,he,ai⟩:=ak j u hj;simp only[cQ,Addr.mk.injEq]at he;obtain⟨rfl,rfl,_⟩:=he;rw[ew]; exact ai
  obtain⟨v',w',hr,h2,h3,_⟩:=cF (P:=P) w base t ty e i z size bytes ht hi hz U ae ao aj v n xs O ⟨b,off,none⟩ m cap news hl Y h1 af W ag;refine⟨v',w',hr,h2,h3,?_⟩;have ac:news.length=m*i.size:=by rw[U]; exact hl
  rcases O.2 with⟨rfl,rfl⟩|⟨g,c,am,rfl,av,hg,ah,aw,aq,ar⟩
  .have aa:=cI (P:=P) w t ty e i z ht hi hz ⟨b,off,none⟩ m cap news ac Y (by omega) (by simp only[c9]at af; omega) (by rw[ae]; simp only[cm]at W; omega);rw[aa]at hr;simp only[dl]at hr;exact Or.inr ⟨by rw[<-hr.1]; rfl,by rw[<-hr.2]; exact((fd _ _).drew).alloc (cd _) _⟩
  .by_cases ab:n+m<=c
   .have an:n*i.size+news.length<=am.size:=by rw[ac,aq,U,<-cn]; exact ch _ ab
    have aa:=cG (P:=P) w t ty e i ht hi g n c am hg ⟨b,off,none⟩ m cap news ac Y h1 ab an;rw[aa]at hr;simp only[dl]at hr;exact Or.inl (by rw[<-hr.1]; rfl)
   .have holds:∀j u,xs[j]?=some u->w.cell? ((⟨g,0,none⟩:Addr).add j)=some u:=O.cells (g:=g) rfl;have aa:=cH (P:=P) w t ty e i z ht hi hz ⟨g,0,none⟩ n c xs (by rw[U]; exact O.1) holds ⟨b,off,none⟩ m cap news ac Y (by omega) (by simp only[c9]at af; omega) (by rw[ae]; exact cJ (by omega) W);rw[aa]at hr;simp only[dl]at hr;exact Or.inr ⟨by rw[<-hr.1]; rfl,by rw[<-hr.2]; exact((fd _ _).drew).alloc (cd _) _⟩
theorem wV{P:Program}(w:World){ops:Array Oper}{rest:List Oper}{o:Oper}{a:Act}{Q:Exit->Act->World->Prop}(ab:o.guard=none)(s x:Operand)(t:cA)
  (ho:o.op=.call {callee:=.builtin .append,args:=#[s,x],argTypes:=#[t,t]})
  (base:Nat) (e:cA) (i:TypeInfo) (z:Value) (size bytes:Nat) (ht:P.underlying t=some (.slice e)) (hi:P.info? e=some i) (hz:i.zero=some z)
  (U:i.size=size) (ac:i.bytes=bytes) (ad:z.cells.size=size) (ae:0<size)
  (v:Value) (n:Nat) (xs:List Value) (hs:a.eval s=v) (aa:w.ownsRow base e size v n xs)
  (y:Value) (m:Nat) (news:List Value) (hx:a.eval x=y) (hy:ql w size y m news) (h1:∀u∈news,u.oneCell'=true)
  (O:(n+m)*bytes<=140737488355328) (af:n+m<=c9) (W:base<=w.heap.size)
  (h:∀Y w',w'.ownsRow base e size Y (n+m) (xs++news)->w.grownBy w' v.ownBlock->(Y.ownBlock=v.ownBlock\/(Y.ownBlock=some w.heap.size/\Below w.heap.size w w'))->cB P ops Q rest (a.put o.dst Y) w'):cB P ops Q (o::rest) a w:=by
 refine cC ab λ_ hK=>?_;obtain⟨Y,w',hr,h2,h3,h4⟩:=qc (P:=P) w base t o.type e i z size bytes ht hi hz U ac ad ae v n xs aa y m news hy h1 O af W;unfold Oper.wp cK;simp only[ho,cO,invoke,builtin,fr,fm,e5,bD,aA,be,hs,hx,hr];exact hK _ _ (h Y w' h2 h3 h4)
end
section
open Go.RowKit
structure dq where
 name:Wd
 gone:Bool
 text:Wd
 du:Int
 dD:Int
def qo(l:List dq)(x:Wd):Option Nat:=l.findIdx? λe=>e.name==x
end
section
open Go.RowKit
def jg(later:List dq)(e:dq):Bool:=(qo later e.name).isNone
def dJ(old later:List dq):List dq:=old.filter (jg later)++later
def dx(l:List dq):List dq:=l.filter λe=>!e.gone
end
section
open Go.RowKit
def iL(l:List UInt8):Bool:=l.all fe&&decide (0<l.length)&&decide (l.length<=8)
def iy(ss:List (List dq)):Nat:=(ss.map λs=>s.length+1).sum
def lR(ss:List (List dq))(k:Nat):List dq:=(ss.take k).foldl dJ []
def eO(ss:List (List dq))(O:List dq):List dq:=dx (dJ (lR ss ss.length) O)
theorem AU(a b:List dq):(dJ a b).length<=a.length+b.length:=by
 unfold dJ;have:=aI (jg b) a;rw[a7]; omega
theorem De(ss:List (List dq))(k:Nat)(h:k<ss.length):lR ss (k+1)=dJ (lR ss k) ss[k]:=by
 unfold lR;rw[a8 h,bw]; rfl
theorem xS(ss:List (List dq))(i:Nat)(h:i<ss.length):iy (ss.take (i+1))=iy (ss.take i)+(ss[i].length+1):=by
 unfold iy;rw[a8 h,aO,bG]; rfl
theorem DW(ss:List (List dq))(i:Nat):iy (ss.take i)<=iy ss:=by
 have:iy ss=iy (ss.take i)+iy (ss.drop i):=by
  unfold iy; rw[<-bG,<-aO,bf]
 omega
theorem Mj(ss:List (List dq)):ss.length<=iy ss:=by
 induction ss with
 |nil=>simp
 |cons t U O=>simp only[iy,aA,aQ,aC]at O⊢; omega
theorem FB(ss:List (List dq))(k:Nat)(O:k<=ss.length):(lR ss k).length<=iy (ss.take k):=by
 induction k with
 |zero=>simp[lR]
 |succ k U=>
  rw[De ss k (by omega),xS ss k (by omega)];have:=AU (lR ss k) ss[k];omega
end
section
open Go.RowKit
def ol(r:Nat):Bool:=decide (128<=r) || !fe (cR r)
theorem FV(c:UInt8)(h:c.toNat<128):ol c.toNat = !fe c:=by
 unfold ol;rw[decide_eq_false (by omega)];simp
def SB(b:Wd):ByteArray:=⟨b.toArray⟩
structure Uj(f:ByteArray)(pos:Nat)(st:Option Nat)(acc:List (Nat×Nat)):Prop where
 none:st=none->(acc.map λx=>f.extract x.1 x.2)=(jF f.data.toList pos).map SB/\(pos=0\/fe (f.data.toList.getD (pos-1) 0)=false)
 some:∀a,st=some a->(acc.map λx=>f.extract x.1 x.2)++[SB (vh f.data.toList a)]=(jF f.data.toList pos).map SB/\a<pos/\yy f.data.toList a pos
theorem BE(l:List UInt8)(k:Nat)(h:fe (l.getD k 0)=false):fL l k=false:=by unfold fL; rw[h]; rfl
theorem Ik(l:List UInt8)(k:Nat)(h:fe (l.getD k 0)=true)(O:k=0\/fe (l.getD (k-1) 0)=false):fL l k=true:=by
 unfold fL;rw[h];rcases O with O|O
 .simp[O]
 .rw[O]; simp
theorem KF(l:List UInt8)(k a:Nat)(O:a<k)(h:yy l a k):fL l k=false:=by
 unfold fL;rw[h.2.2 (k-1) (by omega) (by omega),decide_eq_false (by omega)];simp
theorem Gf(f:ByteArray)(hf:∀k(h:k<f.size),(f[k]'h).toNat<128):∀(g pos:Nat)(st:Option Nat)(acc:List (Nat×Nat)),Uj f pos st acc->pos<=f.size->f.size<=pos+g->
  ((df f (de ol f g pos st acc)).map λx=>f.extract x.1 x.2)=(iB f.data.toList).map SB:=by
 intro g
 induction g with
 |zero=>
  intro pos st acc h h1 h2;obtain rfl:pos=f.size:=by omega
  have hw:iB f.data.toList=jF f.data.toList f.size:=by unfold iB; simp
  rw[hw]
  cases st with
  |none=>simpa[de,df]using(h.none rfl).1
  |some a=>
   obtain⟨e,W,Y⟩:=h.some a rfl;simp only[de,df,aO,aA,be];rw[tT f a _ Y (Or.inl rfl)];exact e
 |succ g ih=>
  intro pos st acc h h1 h2;unfold de;by_cases O:pos<f.size
  .rw[if_pos O,decode_ascii f pos O (hf pos O),FV _ (hf pos O)];have hg:=lq f pos O;by_cases hl:fe (f[pos]'O)=true
   .rw[hl];have U:fe (f.data.toList.getD pos 0)=true:=by rw[hg]; exact hl
    cases st with
    |none=>
     obtain⟨e,hp⟩:=h.none rfl;refine ih _ _ _ ⟨λh=>(by cases h),λa W=>?_⟩ (by omega) (by omega);obtain rfl:=by simpa using W
     have hs:=Ik _ _ U hp;rw[uY _ _ hs,aO,e];exact⟨rfl,by omega,yM _ _ _ (G4 _ _ (by simp; omega)) (by simpa using O) U⟩
    |some a=>
     obtain⟨e,W,Y⟩:=h.some a rfl;refine ih _ _ _ ⟨λh=>(by cases h),λb hb=>?_⟩ (by omega) (by omega);obtain rfl:=by simpa using hb
     rw[mA _ _ (KF _ _ _ W Y)];exact⟨e,by omega,yM _ _ _ Y (by simpa using O) U⟩
   .have aa:=by simpa using hl
    rw[aa];have U:fe (f.data.toList.getD pos 0)=false:=by rw[hg]; exact aa
    cases st with
    |none=>
     obtain⟨e,hp⟩:=h.none rfl;refine ih _ _ _ ⟨λ_=>?_,λa W=>(by cases W)⟩ (by omega) (by omega);rw[mA _ _ (BE _ _ U)];exact⟨e,Or.inr (by simpa using U)⟩
    |some a=>
     obtain⟨e,W,Y⟩:=h.some a rfl;refine ih _ _ _ ⟨λ_=>?_,λa W=>(by cases W)⟩ (by omega) (by omega);rw[mA _ _ (BE _ _ U),<-e,aO];refine⟨?_,Or.inr (by simpa using U)⟩;simp only[aA,be];rw[tT f a pos Y (Or.inr U)];rfl
  .rw[if_neg O];have:=ih pos st acc h h1 (by omega);rw[Lib.spansFromP_end _ _ _ _ _ _ O]at this;exact this
theorem C7(f:ByteArray)(O:∀k(h:k<f.size),(f[k]'h).toNat<128):Lib.goFieldsP ol f=(iB f.data.toList).map SB:=by
 refine Gf f O _ 0 none [] ⟨λ_=>⟨by simp[jF],Or.inl rfl⟩,λa U=>(by cases U)⟩ (by omega) (by omega)
theorem Fb(ws:List Wd):(ws.map SB).map Value.string=dp ws:=by simp[dp,SB]
end
section
open Go.RowKit
variable {l:List Wd} {x y:Wd}
theorem ij:∀x:Wd,cv x x=false:=by
 intro x
 induction x with
 |nil=>rfl
 |cons a x O=>simp[cv,O]
theorem Fu{a b c:UInt8}(h:a<b)(k:b<c):a<c:=by
 rw[cS]at *; omega
theorem lZ:∀x y z:Wd,cv x y=true->cv y z=true->cv x z=true:=by
 intro x
 induction x with
 |nil=>intro y z U O; cases z with
  |nil=>cases y<;>simp[cv]at O
  |cons=>rfl
 |cons a x W=>
  intro y z U O
  cases y with
  |nil=>simp[cv]at U
  |cons b y=>
   cases z with
   |nil=>simp[cv]at O
   |cons c z=>
    simp only[cv,cy,cw,decide_eq_true_eq,beq_iff_eq]at *;rcases U with U|⟨rfl,U⟩
    .rcases O with O|⟨rfl,O⟩
     .exact Or.inl (Fu U O)
     .exact Or.inl U
    .rcases O with O|⟨rfl,O⟩
     .exact Or.inl O
     .exact Or.inr ⟨rfl,W y z U O⟩
theorem il:∀x y:Wd,cv x y=true\/x=y\/cv y x=true:=by
 intro x
 induction x with
 |nil=>intro y; cases y with
  |nil=>exact Or.inr (Or.inl rfl)
  |cons=>exact Or.inl rfl
 |cons a x W=>
  intro y
  cases y with
  |nil=>exact Or.inr (Or.inr rfl)
  |cons b y=>
   simp only[cv,cy,cw,decide_eq_true_eq,beq_iff_eq];by_cases O:a<b
   .exact Or.inl (Or.inl O)
   .by_cases U:b<a
    .exact Or.inr (Or.inr (Or.inl U))
    .obtain rfl:a=b:=by
      apply cT.1;rw[cS]at O U;omega
     rcases W y with h|h|h
     .exact Or.inl (Or.inr ⟨rfl,h⟩)
     .exact Or.inr (Or.inl (by rw[h]))
     .exact Or.inr (Or.inr (Or.inr ⟨rfl,h⟩))
theorem Bt(h:cv x y=true):x≠y:=by
 intro e; subst e; rw[ij]at h; cases h
theorem pZ(h:cv x y=true):cv y x=false:=by
 cases O:cv y x with
 |false=>rfl
 |true=>have:=lZ _ _ _ h O; rw[ij]at this; cases this
abbrev mu(l:List Wd):Prop:=l.Pairwise λx y=>cv x y=true
theorem mu.nodup(h:mu l):l.Nodup:=h.imp λO=>Bt O
theorem QV(out:List Wd)(x:Wd):out.take (zK out x)=out.takeWhile λy=>cv y x:=by
 unfold zK
 induction out with
 |nil=>simp
 |cons a l O=>
  rw[aZ];split
  .simp only[aC,bu,O]
  .simp
theorem Jz(out:List Wd)(x:Wd):out.drop (zK out x)=out.dropWhile λy=>cv y x:=by
 unfold zK
 induction out with
 |nil=>simp
 |cons a l O=>
  rw[aZ,b9];split
  .simp only[aC,List.drop_succ_cons,O]
  .simp
theorem Ag{p:Wd->Bool}:∀(l:List Wd),∀y∈l.takeWhile p,p y=true:=by
 intro l
 induction l with
 |nil=>intro y h; simp at h
 |cons a l O=>
  intro y h;rw[aZ]at h;split at h
  .rename_i U;rcases a0.1 h with rfl|h
   .exact U
   .exact O y h
  .simp at h
theorem yZ{p:Wd->Bool}:∀(l:List Wd)(y:Wd)(r:List Wd),l.dropWhile p=y::r->p y=false:=by
 intro l
 induction l with
 |nil=>intro y r h; simp at h
 |cons a l O=>
  intro y r h;rw[b9]at h;split at h
  .exact O y r h
  .rename_i U;cases h;simpa using U
theorem QI(out:List Wd)(x:Wd)(h:mu out):mu (uJ out x)/\∀y,y∈uJ out x↔(y=x\/y∈out):=by
 unfold uJ;split
 .rename_i W;refine⟨h,λy=>⟨Or.inr,λO=>?_⟩⟩;rcases O with rfl|O
  .exact List.mem_of_getElem? W
  .exact O
 .rename_i W;have U:=bf (zK out x) out;have aa:out[zK out x]?=(out.drop (zK out x))[0]?:=by simp
  rw[aa]at W;rw[QV,Jz]at U⊢;rw[Jz]at W;have hA:=Ag (p:=λy=>cv y x) out;have hH:=yZ (p:=λy=>cv y x) out;generalize out.takeWhile _=A at *;generalize out.dropWhile _=B at *;subst U;obtain⟨sA,sB,ab⟩:=bh.1 h
  have hB:∀y∈B,cv x y=true:=by
   cases B with
   |nil=>intro y O; simp at O
   |cons b B=>
    have h1:=hH b B rfl
    have Y:cv x b=true:=by
     rcases il x b with h|h|h
     .exact h
     .subst h; simp at W
     .rw[h1]at h; cases h
    intro y O;rcases a0.1 O with rfl|O
    .exact Y
    .exact lZ _ _ _ Y ((a6.1 sB).1 y O)
  refine⟨?_,λy=>?_⟩
  .refine bh.2 ⟨sA,?_,?_⟩
   .exact a6.2 ⟨hB,sB⟩
   .intro a ha b hb;rcases a0.1 hb with rfl|hb
    .exact hA a ha
    .exact ab a ha b hb
  .simp only[aB,a0,bd,aW];constructor
   .rintro(h|h|h)
    .exact Or.inr (Or.inl h)
    .exact Or.inl h
    .exact Or.inr (Or.inr h)
   .rintro(h|h|h)
    .exact Or.inr (Or.inl h)
    .exact Or.inl h
    .exact Or.inr (Or.inr h)
theorem Dz(t:List Wd):∀out,mu out->mu (t.foldl uJ out)/\∀y,y∈t.foldl uJ out↔(y∈t\/y∈out):=by
 induction t with
 |nil=>intro out h; exact⟨h,by simp⟩
 |cons x t O=>
  intro out h;obtain⟨U,W⟩:=QI out x h;obtain⟨Y,h4⟩:=O _ U;refine⟨Y,λy=>?_⟩;rw[aP,h4,W,a0];constructor
  .rintro(h|h|h)
   .exact Or.inl (Or.inr h)
   .exact Or.inl (Or.inl h)
   .exact Or.inr h
  .rintro((h|h)|h)
   .exact Or.inr (Or.inl h)
   .exact Or.inl h
   .exact Or.inr (Or.inr h)
theorem BG(O:List (List Wd)):∀out,mu out->mu (O.foldl (λout t=>t.foldl uJ out) out)/\∀y,y∈O.foldl (λout t=>t.foldl uJ out) out↔((∃t∈O,y∈t)\/y∈out):=by
 induction O with
 |nil=>intro out h; exact⟨h,by simp⟩
 |cons t O U=>
  intro out h;obtain⟨W,Y⟩:=Dz t out h;obtain⟨h3,h4⟩:=U _ W;refine⟨h3,λy=>?_⟩;rw[aP,h4,Y];simp only[a0,exists_eq_or_imp];constructor
  .rintro(h|h|h)
   .exact Or.inl (Or.inr h)
   .exact Or.inl (Or.inl h)
   .exact Or.inr h
  .rintro((h|h)|h)
   .exact Or.inr (Or.inl h)
   .exact Or.inl h
   .exact Or.inr (Or.inr h)
theorem jN(O:List (List Wd)):mu (eN O):=(BG O [] List.Pairwise.nil).1
theorem kp(O:List (List Wd))(y:Wd):y∈eN O↔∃t∈O,y∈t:=by
 have:=(BG O [] List.Pairwise.nil).2 y;simpa[eN]using this
theorem vI(h:l.Nodup)(a:Wd):l.count a=if a∈l then 1 else 0:=by
 induction l with
 |nil=>simp
 |cons b l O=>
  obtain⟨U,W⟩:=aV.1 h;rw[List.count_cons,O W];by_cases e:b=a
  .subst e; simp[U]
  .have Y:¬a=b:=λx=>e x.symm;simp[e,Y]
theorem CM{U:List Wd}(h:l.Nodup)(W:U.Nodup)(hm:∀a,a∈l↔a∈U):l.Perm U:=by
 rw[List.perm_iff_count];intro a;rw[vI h,vI W];by_cases O:a∈l
 .rw[if_pos O,if_pos ((hm a).1 O)]
 .rw[if_neg O,if_neg (λx=>O ((hm a).2 x))]
def fY(kn:List Wd)(t:List Wd)(k:Nat):List Wd:=(t.take k).foldl (λu x=>if x∈kn\/x∈u then u else u++[x]) []
theorem yT(kn t:List Wd)(k:Nat)(h:k<t.length):fY kn t (k+1)=if t[k]∈kn\/t[k]∈fY kn t k then fY kn t k else fY kn t k++[t[k]]:=by
 unfold fY;rw[a8 h,bw]; rfl
theorem zf(kn t:List Wd):∀k,k<=t.length->(fY kn t k).Nodup/\(∀y,y∈fY kn t k↔(y∈t.take k/\y ∉ kn))/\(fY kn t k).length<=k:=by
 intro k
 induction k with
 |zero=>simp[fY]
 |succ k Y=>
  intro hk;obtain⟨W,U,h3⟩:=Y (by omega);rw[yT kn t k (by omega),a8 (by omega)];split
  .rename_i O;refine⟨W,λy=>?_,by omega⟩;rw[U y,aB,aD];constructor
   .rintro⟨a,b⟩; exact⟨Or.inl a,b⟩
   .rintro⟨a|a,b⟩
    .exact⟨a,b⟩
    .subst a;rcases O with O|O
     .exact absurd O b
     .exact(U _).1 O
  .rename_i O;refine⟨?_,λy=>?_,by simp; omega⟩
   .rw[bg];refine⟨W,by simp,?_⟩;intro a ha b hb;simp at hb;subst hb;intro e;subst e;exact O (Or.inr ha)
   .rw[aB,U y,aB,aD];constructor
    .rintro(⟨a,b⟩|a)
     .exact⟨Or.inl a,b⟩
     .subst a; exact⟨Or.inr rfl,λx=>O (Or.inl x)⟩
    .rintro⟨a|a,b⟩
     .exact Or.inl ⟨a,b⟩
     .exact Or.inr a
theorem zw(kn:List Wd)(W:List (List Wd))(t:List Wd)(h:kn.Perm (eN W)):(kn++fY kn t t.length).Perm (eN (W++[t])):=by
 obtain⟨h1,h2,_⟩:=zf kn t _ (cd _);have Y:=h.nodup_iff.2 (jN W).nodup;refine CM ?_ (jN _).nodup ?_
 .rw[bg];refine⟨Y,h1,λa U b hb e=>?_⟩;subst e;exact((h2 _).1 hb).2 U
 .intro a;rw[aB,h2,kp,h.mem_iff,kp,aR];constructor
  .rintro(⟨t',O,U⟩|⟨U,_⟩)
   .exact⟨t',by simp[O],U⟩
   .exact⟨t,by simp,U⟩
  .rintro⟨t',O,U⟩;rw[aB,aD]at O;rcases O with O|rfl
   .exact Or.inl ⟨t',O,U⟩
   .by_cases hk:a∈kn
    .exact Or.inl ((kp W a).1 (h.mem_iff.1 hk))
    .exact Or.inr ⟨U,λe=>hk (h.mem_iff.2 ((kp W a).2 e))⟩
end
section
open Go.RowKit
variable {x y z:Fr} {K:List Wd} {sc:Wd->Fr}
def wU(x y:Fr):Bool:=decide (y.1*x.2<x.1*y.2)
theorem KV(Y:0<z.2)(O:wU x y=true)(h2:wU y z=true):wU x z=true:=by
 unfold wU at *;simp only[decide_eq_true_eq]at *;have a1:=cp O Y;by_cases hx:0<x.2
 .have a2:=cp h2 hx;refine Nat.lt_of_mul_lt_mul_right (a:=y.2) ?_;have e1:z.1*x.2*y.2=z.1*y.2*x.2:=by rw[ce]
  have e2:y.1*z.2*x.2=y.1*x.2*z.2:=by rw[ce]
  have e3:x.1*z.2*y.2=x.1*y.2*z.2:=by rw[ce]
  omega
 .have U:x.2=0:=by omega
  have W:0<x.1:=by
   rcases cj x.1 with h|h
   .rw[h]at O; simp at O
   .exact h
  rw[U];simpa using cq W Y
theorem uV(Y:0<x.2)(O:0<y.2)(hz:0<z.2)(U:wU y x=false)(W:wU z y=false):wU z x=false:=by
 unfold wU at *;simp only[decide_eq_false_iff_not,Nat.not_lt]at *;have a1:y.1*x.2*z.2<=x.1*y.2*z.2:=ch _ U;have a2:z.1*y.2*x.2<=y.1*z.2*x.2:=ch _ W;refine Nat.le_of_mul_le_mul_right (c:=y.2) ?_ O;have e1:z.1*x.2*y.2=z.1*y.2*x.2:=by rw[ce]
 have e2:y.1*z.2*x.2=y.1*x.2*z.2:=by rw[ce]
 have e3:x.1*z.2*y.2=x.1*y.2*z.2:=by rw[ce]
 omega
theorem Np(h:wU x y=true):wU y x=false:=by
 unfold wU at *;simp only[decide_eq_true_eq,decide_eq_false_iff_not]at *;omega
def mO(sc:Wd->Fr)(x y:Wd):Bool:=wU (sc x) (sc y) || (!wU (sc y) (sc x)&&cv x y)
theorem vj(sc:Wd->Fr)(x:Wd):mO sc x x=false:=by
 unfold mO;rw[ij];have:wU (sc x) (sc x)=false:=by unfold wU; simp
 rw[this]; rfl
theorem sP(sc:Wd->Fr){x y z:Wd}(hx:0<(sc x).2)(hy:0<(sc y).2)(Y:0<(sc z).2)(U:mO sc x y=true)(O:mO sc y z=true):mO sc x z=true:=by
 unfold mO at *;simp only[cy,cw,c0]at *;rcases U with U|⟨U,aa⟩
 .rcases O with O|⟨O,W⟩
  .exact Or.inl (KV Y U O)
  .cases hh:wU .. with
   |true=>exact Or.inl rfl
   |false=>
    have:=uV hy Y hx O hh;rw[this]at U; cases U
 .rcases O with O|⟨O,W⟩
  .cases hh:wU .. with
   |true=>exact Or.inl rfl
   |false=>
    have:=uV Y hx hy hh U;rw[this]at O; cases O
  .exact Or.inr ⟨uV hx hy Y U O,lZ _ _ _ aa W⟩
theorem zY(sc:Wd->Fr)(x y:Wd):mO sc x y=true\/x=y\/mO sc y x=true:=by
 unfold mO;simp only[cy,cw,c0]
 cases O:wU .. with
 |true=>exact Or.inl (Or.inl rfl)
 |false=>
  cases U:wU .. with
  |true=>exact Or.inr (Or.inr (Or.inl rfl))
  |false=>
   rcases il x y with h|h|h
   .exact Or.inl (Or.inr ⟨rfl,h⟩)
   .exact Or.inr (Or.inl h)
   .exact Or.inr (Or.inr (Or.inr ⟨rfl,h⟩))
theorem K7(sc:Wd->Fr){x y:Wd}(h:mO sc x y=true):mO sc y x=false:=by
 unfold mO at *;simp only[cy,cw,c0,cz,Bool.and_eq_false_iff,Bool.not_eq_false']at *;rcases h with h|⟨h,O⟩
 .exact⟨Np h,Or.inl h⟩
 .exact⟨h,Or.inr (pZ O)⟩
theorem GQ(O:mu K){i j:Nat}(h:i<j)(U:j<K.length):cv (K[i]'(by omega)) K[j]=true:=aT.1 O i j _ U h
theorem AO(i j:Nat)(hi:i<K.length)(O:j<K.length):uQ (K.map sc) i j=wU (sc K[i]) (sc K[j]):=by
 unfold uQ wU;simp[ay,hi,O]
theorem Jb(hK:mu K)(hp:∀x∈K,0<(sc x).2)(told:List Bool):∀(m:Nat),m<=K.length->∀b,gN (K.map sc) told m=some b->∃hb:b<K.length,∀i(hi:i<K.length),i<m->told.getD i false=false->i≠b->mO sc K[b] K[i]=true:=by
 intro m
 induction m with
 |zero=>intro _ b h; simp[gN]at h
 |succ m ih=>
  intro hm b h
  cases ht:told.getD m false with
  |true=>
   rw[DL _ _ _ ht]at h;obtain⟨hb,hh⟩:=ih (by omega) b h;refine⟨hb,λi hi aa U Y=>?_⟩;by_cases e:i=m
   .subst e; rw[ht]at U; cases U
   .exact hh i hi (by omega) U Y
  |false=>
   cases O:gN _ told m with
   |none=>
    rw[Di _ _ _ ht O]at h;obtain rfl:=by simpa using h
    refine⟨by omega,λi hi aa U Y=>?_⟩;have:=vn _ _ _ O i (by omega);rw[U]at this; cases this
   |some j=>
    obtain⟨hj,hh⟩:=ih (by omega) j O;have ab:=(Bh _ _ _ _ O).1
    cases W:uQ _ m j with
    |true=>
     rw[A7 _ _ _ _ ht O W]at h;obtain rfl:=by simpa using h
     refine⟨by omega,λi hi aa U Y=>?_⟩
     have h1:mO sc K[m] K[j]=true:=by
      rw[AO m j (by omega) hj]at W;unfold mO; rw[W]; rfl
     by_cases e:i=j
     .subst e; exact h1
     .exact sP sc (hp _ (aG _)) (hp _ (aG _)) (hp _ (aG _)) h1 (hh i hi (by omega) U e)
    |false=>
     rw[Ck _ _ _ _ ht O W]at h;obtain rfl:=by simpa using h
     refine⟨hj,λi hi aa U Y=>?_⟩;by_cases e:i=m
     .subst e;rw[AO i j hi hj]at W;unfold mO;rw[W,GQ hK ab hi];simp
     .exact hh i hi (by omega) U Y
theorem D8(hK:mu K)(hp:∀x∈K,0<(sc x).2):∀(k:Nat)(told:List Bool)(S:List Wd),told.length=K.length->S.Nodup->(S.Pairwise λx y=>mO sc x y=true)->
  (∀x,x∈S↔∃i,∃hi:i<K.length,told.getD i false=false/\K[i]=x)->(zv (K.map sc) told k).map (λi=>K.getD i [])=S.take k:=by
 intro k
 induction k with
 |zero=>simp[zv]
 |succ k ih=>
  intro told S hl ag hs hm
  cases hb:gN (K.map sc) told (K.map sc).length with
  |none=>
   have fv:=vn _ _ _ hb
   have:S=[]:=by
    cases S with
    |nil=>rfl
    |cons x S=>
     obtain⟨i,hi,O,_⟩:=(hm x).1 (by simp);have:=fv i (by simpa using hi);rw[O]at this; cases this
   subst this;simp only[zv,hb,be,List.take_nil]
  |some b=>
   obtain⟨ac,U⟩:=Jb hK hp told _ (by simp) b hb;have ah:=(Bh _ _ _ _ hb).2;have ad:=(hm _).2 ⟨b,ac,ah,rfl⟩
   cases S with
   |nil=>simp at ad
   |cons x S=>
    obtain⟨ai,aj⟩:=a6.1 hs;obtain⟨ak,al⟩:=aV.1 ag;obtain⟨i0,ae,af,W⟩:=(hm x).1 (by simp)
    have ab:K[b]=x:=by
     rcases a0.1 ad with h|h
     .exact h
     .by_cases e:i0=b
      .subst e; exact W
      .have O:=U i0 ae (by simpa using ae) af e;have Y:=ai _ h;rw[W]at O;rw[K7 sc Y]at O;cases O
    simp only[zv,hb,aA,bu];rw[ih _ S (by simpa using hl) al aj ?_]
    .rw[<-ab,ay,a5 ac];rfl
    .intro y
     have aa:∀i,(told.set b true).getD i false=if b=i then true else told.getD i false:=by
      intro i;by_cases e:b=i
      .subst e; simp[show b<told.length by omega]
      .simp[e]
     constructor
     .intro hy;obtain⟨i,hi,O,Y⟩:=(hm y).1 (List.mem_cons_of_mem _ hy);refine⟨i,hi,?_,Y⟩;rw[aa];by_cases e:b=i
      .subst e;rw[ab]at Y;subst Y;exact absurd hy ak
      .rw[if_neg e]; exact O
     .rintro⟨i,hi,O,Y⟩;rw[aa]at O;by_cases e:b=i
      .rw[if_pos e]at O; cases O
      .rw[if_neg e]at O;have am:=(hm y).2 ⟨i,hi,O,Y⟩;rcases a0.1 am with h|h
       .have an:i≠b:=λx=>e x.symm;have:=U i hi (by simpa using hi) O an;rw[Y,h,ab,vj]at this;cases this
       .exact h
theorem xE(O:List (List Wd))(l:List Wd)(most:Nat)(S:List Wd)(W:∀x∈eN O,0<(qV O l x).2)(U:S.Perm (eN O))(Y:S.Pairwise λx y=>mO (qV O l) x y=true) :
  iI O l most=S.take (min most (eN O).length):=by
 refine D8 (jN O) W _ _ S (by simp) (U.nodup_iff.2 (jN O).nodup) Y ?_;intro x;rw[U.mem_iff];constructor
 .intro h;obtain⟨i,hi,e⟩:=bM h;exact⟨i,hi,by simp[ay,hi],e⟩
 .rintro⟨i,hi,_,e⟩;subst e;exact aG _
end
section
open Go.RowKit
def iT(t:List Wd)(e:Nat):List (List Wd):=(aE (min e 3+1)).map λj=>(t.take e).drop (e-min e 3+j)
def jk(t:List Wd):Nat->List (List Wd)
 |0=>[]
 |e+1=>jk t e++iT t (e+1)
def eX(O:List (List Wd))(ws:List Wd):Nat:=if ws=[]then ou O else gZ O ws
def Q6(t ws:List Wd):Nat:=if ws=[]then t.length else r9 t ws
theorem Lx(O:List (List Wd))(t ws:List Wd):eX (O++[t]) ws=eX O ws+Q6 t ws:=by
 unfold eX Q6;split
 .simp[ou]
 .simp[gZ]
theorem Ol(ws:List Wd):eX [] ws=0:=by unfold eX; split<;>simp[ou,gZ]
theorem wW(n:Nat)(f:Nat->List Wd)(ws:List Wd)(k:Nat)(W:k<n)(h:∀j,j<n->f j=ws->j=k):((aE n).map f).count ws=if f k=ws then 1 else 0:=by
 have key:∀m,m<=n->((aE m).map f).count ws=if k<m/\f k=ws then 1 else 0:=by
  intro m
  induction m with
  |zero=>simp
  |succ m Y=>
   intro hm;rw[bk,aO,bB,Y (by omega)];simp only[aA,be,List.count_singleton];by_cases e:m=k
   .subst e;simp
   .have O:f m≠ws:=λhh=>e (h m (by omega) hh);simp only[beq_iff_eq,O,if_false];by_cases U:k<m
    .simp[U,show k<m+1 by omega]
    .simp[U,show ¬k<m+1 by omega]
 rw[key n (cd _)];simp[W]
theorem Ic(l:List (List Wd))(ws:List Wd)(h:∀x∈l,x≠ws):l.count ws=0:=by
 rw[List.count_eq_zero];intro hm;exact h ws hm rfl
theorem sf(t ws:List Wd)(e:Nat)(he:e<=t.length)(hw:ws.length<=3):(iT t e).count ws=if ws.length<=e/\(t.take e).drop (e-ws.length)=ws then 1 else 0:=by
 have O:∀j,((t.take e).drop (e-min e 3+j)).length=e-(e-min e 3+j):=by simp; omega
 by_cases U:ws.length<=e
 .unfold iT;rw[wW _ _ ws (min e 3-ws.length) (by omega)]
  .rw[show e-min e 3+(min e 3-ws.length)=e-ws.length by omega];simp[U]
  .intro j Y W;have:=O j;rw[W]at this;omega
 .rw[if_neg (by simp[U])];refine Ic _ _ (λx hx=>?_);obtain⟨j,Y,rfl⟩:=a9.1 hx;intro W;have:=O j;rw[W]at this;omega
theorem ID(t ws:List Wd)(hw:ws.length<=3)(h1:ws≠[]):∀n,n<=t.length->(jk t n).count ws=iA t ws (n+1-ws.length):=by
 have W:1<=ws.length:=by cases ws with|nil=>exact absurd rfl h1|cons a b=>simp
 intro n
 induction n with
 |zero=>rw[show 0+1-ws.length=0 by omega]; simp[jk,iA]
 |succ n ih=>
  intro hn;simp only[jk];rw[bB,ih (by omega),sf t ws _ hn hw];by_cases O:ws.length<=n+1
  .rw[show n+1+1-ws.length=(n+1-ws.length)+1 by omega]
   have Y:oX t ws (n+1-ws.length)=decide ((t.take (n+1)).drop (n+1-ws.length)=ws):=by
    unfold oX zI;rw[aR,List.drop_take,show n+1-(n+1-ws.length)=ws.length by omega]
   by_cases U:(t.take (n+1)).drop (n+1-ws.length)=ws
   .rw[if_pos ⟨O,U⟩,Aj _ _ _ (by rw[Y]; exact decide_eq_true U)]
   .rw[if_neg (λx=>U x.2),Cp _ _ _ (by rw[Y]; exact decide_eq_false U)];omega
  .rw[if_neg (λx=>O x.1),show n+1+1-ws.length=0 by omega,show n+1-ws.length=0 by omega,Nat.add_zero]
theorem xB(t:List Wd):∀n,n<=t.length->(jk t n).count []=n:=by
 intro n
 induction n with
 |zero=>intro _; rfl
 |succ n O=>
  intro U;simp only[jk];rw[bB,O (by omega),sf t [] _ U (by simp),if_pos ⟨by simp,by simp⟩]
theorem OL(t ws:List Wd)(O:ws.length<=3):(jk t t.length).count ws=Q6 t ws:=by
 unfold Q6;split
 .rename_i h; rw[h]; exact xB t _ (cd _)
 .rename_i h; exact ID t ws O h _ (cd _)
theorem r8(O:List (List Wd))(ws:List Wd):eX O ws<=gu O:=by
 unfold eX;split
 .exact Mw O
 .exact Mq O ws
theorem nQ(t:List Wd)(e:Nat):(iT t e).length=min e 3+1:=by simp[iT]
theorem Gt(t:List Wd)(e j:Nat)(h:j<(iT t e).length):(iT t e)[j]=(t.take e).drop (e-min e 3+j):=by simp[iT]
theorem yQ(t:List Wd):∀n,(jk t n).length<=4*n:=by
 intro n
 induction n with
 |zero=>simp[jk]
 |succ n O=>simp only[jk,a7,nQ]; omega
end
section
open Go.RowKit
variable {a p:Fr} {t ws:List Wd}
def qj(O:List (List Wd))(x:Wd):List Wd->Fr
 |[]=>(eX O [x]*4,eX O [])
 |[v]=>if eX O [v,x]=0 then(eX O [x]*4,eX O [])else(eX O [v,x]*10,eX O [v])
 |u::v::_=>if eX O [u,v,x]=0 then(if eX O [v,x]=0 then(eX O [x]*4,eX O [])else(eX O [v,x]*10,eX O [v]))else(eX O [u,v,x]*25,eX O [u,v])
def mD(l:List Wd):List Wd:=l.drop (l.length-2)
theorem Mi(l:List Wd):(mD l).length<=2:=by simp[mD]; omega
theorem MN(l:List Wd):(l=[]/\mD l=[])\/(l.length=1/\mD l=[l.getD (l.length-1) []])\/(1<l.length/\mD l=[l.getD (l.length-2) [],l.getD (l.length-1) []]):=by
 unfold mD
 match l with
 |[]=>exact Or.inl ⟨rfl,rfl⟩
 |[a]=>exact Or.inr (Or.inl ⟨rfl,rfl⟩)
 |a::b::r=>
  refine Or.inr (Or.inr ⟨by simp,?_⟩);have O:(a::b::r).length=r.length+2:=rfl;rw[O,show r.length+2-2=r.length by omega];have U:(a::b::r).drop _=(a::b::r)[r.length]'(by omega)::(a::b::r).drop _:=aM _;have W:(a::b::r).drop _=(a::b::r)[r.length+1]'(by simp)::(a::b::r).drop _:=aM _;have Y:(a::b::r).drop (r.length+2)=[]:=by simp
  rw[U,W,Y];simp only[ay];rw[a5 _,a5 _];rfl
def G5(a p:Fr):Prop:=∃c d:Nat,(a=(c,d)/\p=(c*25,d))\/(a=(4*c,10*d)/\p=(c*10,d))\/(a=(16*c,100*d)/\p=(c*4,d))
theorem G5.three(c d:Nat):G5 (c,d) (c*25,d):=⟨c,d,Or.inl ⟨rfl,rfl⟩⟩
theorem G5.two(c d:Nat):G5 (4*c,10*d) (c*10,d):=⟨c,d,Or.inr (Or.inl ⟨rfl,rfl⟩)⟩
theorem G5.one(c d:Nat):G5 (16*c,100*d) (c*4,d):=⟨c,d,Or.inr (Or.inr ⟨rfl,rfl⟩)⟩
theorem pf(O:List (List Wd))(l:List Wd)(x:Wd):G5 (qV O l x) (qj O x (mD l)):=by
 have Y:∀u v,eX O [u,v,x]=gZ O [u,v,x]:=λu v=>by simp[eX]
 have n2:∀u v,eX O [u,v]=gZ O [u,v]:=λu v=>by simp[eX]
 have n1:∀u,eX O [u]=gZ O [u]:=λu=>by simp[eX]
 have n0:eX O []=ou O:=by simp[eX]
 unfold qV;rcases MN l with⟨rfl,e⟩|⟨h1,e⟩|⟨h2,e⟩
 .exact G5.one ..
 .rw[e,if_neg (by omega)];simp only[qj,n1,n2,n0];unfold TT;by_cases U:gZ O [l.getD (l.length-1) [],x]=0
  .rw[if_neg (by omega),if_pos U]; exact G5.one ..
  .rw[if_pos (by omega),if_neg U]; exact G5.two ..
 .rw[e];simp only[qj,n1,n2,Y,n0];unfold Ud TT;by_cases U:gZ O [l.getD (l.length-2) [],l.getD (l.length-1) [],x]=0
  .rw[if_neg (by omega),if_pos U];by_cases W:gZ O [l.getD (l.length-1) [],x]=0
   .rw[if_neg (by omega),if_pos W]; exact G5.one ..
   .rw[if_pos (by omega),if_neg W]; exact G5.two ..
  .rw[if_pos (by omega),if_neg U]; exact G5.three ..
theorem me(c g d:Nat):c*g*d=g*(c*d):=by rw[Nat.mul_comm c g,ck]
theorem vE(a b c d:Nat):a*c*(b*d)=a*b*(c*d):=Nat.mul_mul_mul_comm a c b d
theorem Of{b q:Fr}(W:G5 a p)(U:G5 b q):wU p q=wU a b:=by
 unfold wU;rw[decide_eq_decide];obtain⟨c,d,⟨rfl,rfl⟩|⟨rfl,rfl⟩|⟨rfl,rfl⟩⟩:=W
 .obtain⟨O,d',⟨rfl,rfl⟩|⟨rfl,rfl⟩|⟨rfl,rfl⟩⟩:=U
  .simp only[me]; omega
  .simp only; rw[me O 10,me c 25,ck 4,cf c 10]; omega
  .simp only; rw[me O 4,me c 25,ck 16,cf c _]; omega
 .obtain⟨O,d',⟨rfl,rfl⟩|⟨rfl,rfl⟩|⟨rfl,rfl⟩⟩:=U
  .simp only; rw[me O 25,me c 10,ck 4,cf O 10]; omega
  .simp only; rw[me O 10,me c 10,vE 4 10,vE 4 10]; omega
  .simp only; rw[me O 4,me c 10,vE 16 10,vE 4 _]; omega
 .obtain⟨O,d',⟨rfl,rfl⟩|⟨rfl,rfl⟩|⟨rfl,rfl⟩⟩:=U
  .simp only; rw[me O 25,me c 4,ck 16,cf O _]; omega
  .simp only; rw[me O 10,me c 4,vE 4 _,vE 16 10]; omega
  .simp only; rw[me O 4,me c 4,vE 16 _,vE 16 100]; omega
theorem PX(h:G5 a p):0<p.2↔0<a.2:=by
 obtain⟨c,d,⟨rfl,rfl⟩|⟨rfl,rfl⟩|⟨rfl,rfl⟩⟩:=h<;>simp
theorem OG(t ws:List Wd)(x:Wd)(k:Nat)(h:oX t (ws++[x]) k=true):oX t ws k=true:=by
 unfold oX zI at *;simp only[decide_eq_true_eq,aR]at *;have:=congrArg (List.take ws.length) h;rw[bW]at this;simpa using this
theorem vz(h:0<r9 t ws):∃k,k+ws.length<=t.length/\oX t ws k=true:=by
 obtain⟨k,O⟩:=List.exists_mem_of_length_pos h;obtain⟨U,W⟩:=az.1 O;have:=bi.1 U;exact⟨k,by omega,W⟩
theorem vv{k:Nat}(O:k+ws.length<=t.length)(h:oX t ws k=true):0<r9 t ws:=by
 exact bK (az.2 ⟨bi.2 (by omega),h⟩)
theorem sS{α:Type}(f:α->Nat):∀(l:List α),0<(l.map f).sum↔∃x∈l,0<f x:=by
 intro l
 induction l with
 |nil=>simp
 |cons a l O=>
  simp only[aA,aQ,a0,exists_eq_or_imp];constructor
  .intro h;by_cases U:0<f a
   .exact Or.inl U
   .exact Or.inr (O.1 (by omega))
  .rintro(h|h)
   .omega
   .have:=O.2 h; omega
theorem zT(O:List (List Wd))(ws:List Wd)(x:Wd)(h:0<gZ O (ws++[x])):0<gZ O ws:=by
 unfold gZ at *;rw[sS]at *;obtain⟨t,U,W⟩:=h;obtain⟨k,Y,h2⟩:=vz W;simp at Y;exact⟨t,U,vv (by omega) (OG _ _ _ _ h2)⟩
theorem Mn(U:List (List Wd))(x:Wd):0<gZ U [x]↔∃t∈U,x∈t:=by
 unfold gZ;rw[sS];constructor
 .rintro⟨t,O,W⟩;obtain⟨k,h1,h2⟩:=vz W;refine⟨t,O,?_⟩;unfold oX zI at h2;simp only[aC,br,decide_eq_true_eq]at h2;have:x∈(t.drop k).take (0+1):=by rw[h2]; simp
  exact bp (bo this)
 .rintro⟨t,O,Y⟩;obtain⟨k,hk,e⟩:=bM Y;refine⟨t,O,vv (k:=k) (by simp; omega) ?_⟩;unfold oX zI;simp only[aC,br,decide_eq_true_eq];rw[aM hk,e];rfl
theorem AN(O:List (List Wd))(l:List Wd)(x:Wd)(W:x∈eN O):0<(qV O l x).2:=by
 unfold qV;split
 .rename_i h; exact zT O _ x h.2
 .split
  .rename_i h;have:=zT O [_] x h.2;omega
  .obtain⟨t,Y,U⟩:=(kp O x).1 W
   have:0<ou O:=by
    unfold ou;rw[sS];exact⟨t,Y,bK U⟩
   omega
theorem QJ(O:List (List Wd))(l:List Wd)(x:Wd)(U:x∈eN O):0<(qj O x (mD l)).2:=(PX (pf O l x)).2 (AN O l x U)
theorem Ms(O:List (List Wd))(x:Wd):eX O [x]=0↔x ∉ eN O:=by
 have h:=Mn O x;rw[kp];have e:eX O [x]=gZ O [x]:=by simp[eX]
 constructor
 .intro U W; have:=h.2 W; omega
 .intro W;rcases cj _ with U|U
  .exact U
  .exact absurd (h.1 U) W
theorem Sx(O:List (List Wd))(x:Wd)(l:List Wd):(qj O x l).1<=25*gu O/\(qj O x l).2<=gu O:=by
 have h:=r8 O
 match l with
 |[]=>have:=h [x]; have:=h []; simp only[qj]; omega
 |[v]=>
  have:=h [x]; have:=h []; have:=h [v,x]; have:=h [v];simp only[qj];split<;>simp only<;>omega
 |u::v::_=>
  have:=h [x]; have:=h []; have:=h [v,x]; have:=h [v]; have:=h [u,v,x]; have:=h [u,v];simp only[qj];split
  .split<;>simp only<;>omega
  .omega
end
section
open Go.RowKit Go.Sort Go.Shelf
def Ab(O:List (List Wd))(l:List Wd)(x:Wd):Fr:=if x∈eN O then qj O x (mD l)else(0,1)
theorem IC(O:List (List Wd))(l:List Wd)(x:Wd)(h:x∈eN O):Ab O l x=qj O x (mD l):=by unfold Ab; rw[if_pos h]
theorem rG(O:List (List Wd))(l:List Wd)(x:Wd):0<(Ab O l x).2:=by
 unfold Ab;split
 .rename_i h; exact QJ O l x h
 .exact Nat.one_pos
theorem OH(O:List (List Wd))(l:List Wd)(x:Wd):(Ab O l x).1<=25*gu O/\(Ab O l x).2<=gu O+1:=by
 unfold Ab;split
 .have:=Sx O x (mD l); omega
 .omega
def xY(a b:Nat):Int:=if a<b then -1 else if b<a then 1 else 0
def TP(sc:Wd->Fr)(x y:Wd):Int:=if xY ((sc y).1*(sc x).2) ((sc x).1*(sc y).2)≠0 then xY ((sc y).1*(sc x).2) ((sc x).1*(sc y).2)else dd x y
theorem PZ:∀x y:Wd,(dd x y<0)↔cv x y=true:=by
 intro x
 induction x with
 |nil=>intro y; cases y<;>simp[dd,cv]
 |cons a x Y=>
  intro y
  cases y with
  |nil=>simp[dd,cv]
  |cons b y=>
   unfold dd cv;by_cases O:a<b
   .simp[O]
   .by_cases U:b<a
    .have W:a≠b:=by
      intro e; subst e;exact O U
     simp[O,U,W]
    .have he:a=b:=by
      apply cT.1;rw[cS]at O U;omega
     subst he;simp[O,Y]
theorem Ch(sc:Wd->Fr)(x y:Wd):ltOf (TP sc) x y=mO sc x y:=by
 unfold ltOf TP mO wU xY;by_cases O:(sc y).1*(sc x).2<(sc x).1*(sc y).2
 .simp[O]
 .by_cases U:(sc x).1*(sc y).2<(sc y).1*(sc x).2
  .simp[O,U]
  .simp only[O,U,if_false,ne_eq,not_true_eq_false,decide_false,c8,Bool.not_false,Bool.true_and];rw[cx,decide_eq_true_eq];exact PZ x y
theorem QR(O:List (List Wd))(l:List Wd):SWO (ltOf (TP (Ab O l))) where
 irrefl x:=by rw[Ch]; exact vj _ x
 trans x y z h1 h2:=by rw[Ch]at *; exact sP _ (rG O l x) (rG O l y) (rG O l z) h1 h2
 ntrans x y z h1 h2:=by
  rw[Ch]at *
  cases U:mO (Ab O l) x z with
  |false=>rfl
  |true=>
   rcases zY (Ab O l) x y with h|h|h
   .rw[h1]at h; cases h
   .subst h; rw[h2]at U; cases U
   .have:=sP _ (rG O l y) (rG O l x) (rG O l z) h U;rw[h2]at this; cases this
theorem MC(O:List (List Wd))(l:List Wd)(x y:Wd)(U:x∈eN O)(W:y∈eN O):mO (Ab O l) x y=mO (qV O l) x y:=by
 unfold mO;rw[IC O l x U,IC O l y W,Of (pf O l x) (pf O l y),Of (pf O l y) (pf O l x)]
theorem zP(O:List (List Wd))(l kn:List Wd)(most:Nat)(d':Array Wd)(hk:kn.Perm (eN O))(hp:PermIn 0 kn.toArray.size kn.toArray d')(hs:SortedIn (ltOf (TP (Ab O l))) 0 kn.toArray.size d') :
  iI O l most=d'.toList.take (min most kn.length):=by
 obtain⟨p1,_,p3⟩:=hp
 have eE:=by
  have e1:d'.extract 0 kn.toArray.size=d':=by
   rw[<-p1]; simp
  have e2:kn.toArray.extract 0 kn.toArray.size=kn.toArray:=by simp
  rw[e1,e2]at p3;exact p3.trans hk
 rw[xE O l most _ (λx hx=>AN O l x hx) eE ?_,hk.length_eq];rw[aT];intro i j hi hj W;have aa:d'.toList.length=kn.toArray.size:=by simpa using p1
 have h:=hs i j (cg _) W (by omega);rw[Ch]at h
 have gi:d'[i]! = d'.toList[i]:=by
  rw[getElem!_pos d' i _]; rfl
 have gj:d'[j]! = d'.toList[j]:=by
  rw[getElem!_pos d' j _]; rfl
 rw[gi,gj]at h;have mi:=eE.mem_iff.1 (aG hi);have mj:=eE.mem_iff.1 (aG hj);rw[MC O l _ _ mj mi]at h;have Y:=eE.nodup_iff.2 (jN O).nodup;rcases zY .. with U|U|U
 .exact U
 .exfalso;have:=aT.1 Y i j hi hj W;exact this U
 .rw[h]at U; cases U
end
section
open Go.RowKit
variable {l m:List dq} {S T:List Wd} {α:Type} {q:Wd}
def dF(e:dq):Wd:=ed e.text
def nN(s p:Wd):Bool:=decide (p <+: s)
theorem nd(s p:Wd):nN s p=true↔p <+: s:=by simp[nN]
theorem JJ(s p:Wd):nN s p=(decide (p.length<=s.length)&&(s.take p.length==p)):=by
 rw[cx,nd,cw,decide_eq_true_iff,beq_iff_eq,List.prefix_iff_eq_take];constructor
 .intro h; refine⟨?_,h.symm⟩;have:=congrArg bX h; simp at this; omega
 .intro h; exact h.2.symm
def sI:Wd->Wd->Wd
 |a::u,b::bs=>if a=b then a::sI u bs else []
 |_,_=>[]
theorem rp:∀a b:Wd,sI a b <+: a
 |[],b=>by cases b<;>exact bC _
 |a::u,[]=>aN
 |a::u,b::bs=>by
  unfold sI;split
  .exact aJ.2 ⟨rfl,rp u bs⟩
  .exact aN
theorem p8:∀a b:Wd,sI a b <+: b
 |[],b=>by cases b<;>exact aN
 |a::u,[]=>bC _
 |a::u,b::bs=>by
  unfold sI;split
  .rename_i h; subst h; exact aJ.2 ⟨rfl,p8 u bs⟩
  .exact aN
theorem rE:∀(a b r:Wd),r <+: a->r <+: b->r <+: sI a b
 |[],b,r,h,_=>by have:=bS.1 h; subst this; exact aN
 |a::u,[],r,_,h=>by have:=bS.1 h; subst this; exact aN
 |a::u,b::bs,[],_,_=>aN
 |a::u,b::bs,c::r,U,W=>by
  have g1:=aJ.1 U;have O:=aJ.1 W;unfold sI;rw[if_pos (g1.1.symm.trans O.1)];exact aJ.2 ⟨g1.1,rE u bs r g1.2 O.2⟩
def Pm:List Wd->Wd
 |[]=>[]
 |a::u=>u.foldl sI a
def rW(q:Wd)(S:List Wd):Prop:=(∀s∈S,q <+: s)/\∀r:Wd,(∀s∈S,r <+: s)->r <+: q
theorem Jj:∀(u:List Wd)(a:Wd),rW (u.foldl sI a) (a::u)
 |[],a=>⟨λs O=>by simp at O; subst O; exact bC _,λr h=>h a (by simp)⟩
 |b::u,a=>by
  have U:=Jj u (sI a b)
  refine⟨λs O=>?_,λr h=>?_⟩
  .have W:=U.1 (sI a b) (by simp);simp only[a0]at O;rcases O with rfl|rfl|O
   .exact W.trans (rp ..)
   .exact W.trans (p8 ..)
   .exact U.1 s (by simp[O])
  .refine U.2 r (λs O=>?_);simp only[a0]at O;rcases O with rfl|O
   .exact rE _ _ _ (h a (by simp)) (h b (by simp))
   .exact h s (by simp[O])
theorem xv(h:S≠[]):rW (Pm S) S:=by
 cases S with
 |nil=>exact absurd rfl h
 |cons a u=>exact Jj u a
theorem rW.one{p:Wd}(O:rW p S)(U:rW q S):p=q:=
 (U.2 p O.1).eq_of_length (ct (U.2 p O.1).length_le (O.2 q U.1).length_le)
theorem Rh(h:S≠[])(O:rW q S):Pm S=q:=(xv h).one O
theorem rW.congr(h:∀s,s∈S↔s∈T)(U:rW q S):rW q T:=
 ⟨λs O=>U.1 s ((h s).2 O),λr W=>U.2 r (λs O=>W s ((h s).1 O))⟩
theorem Hw(h:∀s,s∈S↔s∈T):Pm S=Pm T:=by
 by_cases e:S=[]
 .subst e
  have:T=[]:=by
   cases T with
   |nil=>rfl
   |cons a T=>exact absurd ((h a).2 (by simp)) (by simp)
  rw[this]
 .exact((xv e).congr h).one (xv (λO=>by
   subst O
   cases S with
   |nil=>exact e rfl
   |cons a S=>exact absurd ((h a).1 (by simp)) (by simp)))
def Dg(a b:dq):Bool:=cv a.name b.name
def tG(out:List dq)(x:dq):List dq:=out.takeWhile (λy=>Dg y x)++x::out.dropWhile (λy=>Dg y x)
def fo(l:List dq):List dq:=l.foldl tG []
def lr(l:List dq):Prop:=l.Pairwise λa b=>Dg b a=false
def jy(l:List dq):Prop:=l.Pairwise λa b=>Dg a b=true
theorem FI(q:α->Bool)(A B:List α)(O:∀a∈A,q a=true)(U:∀b∈B,q b=false):(A++B).takeWhile q=A/\(A++B).dropWhile q=B:=by
 induction A with
 |nil=>
  cases B with
  |nil=>simp
  |cons b B=>have:=U b (by simp); simp[this]
 |cons a A W=>
  have Y:=O a (by simp);have:=W (λx hx=>O x (by simp[hx]));simp[Y,this.1,this.2]
theorem NK{p:α->Bool}:∀(l:List α)(y:α),y∈l.takeWhile p->p y=true:=by
 intro l
 induction l with
 |nil=>intro y h; simp at h
 |cons a l O=>
  intro y h;rw[aZ]at h;split at h
  .rename_i U;rcases a0.1 h with rfl|h
   .exact U
   .exact O y h
  .simp at h
theorem Jr{p:α->Bool}:∀(l:List α)(y:α)(r:List α),l.dropWhile p=y::r->p y=false:=by
 intro l
 induction l with
 |nil=>intro y r h; simp at h
 |cons a l O=>
  intro y r h;rw[b9]at h;split at h
  .exact O y r h
  .rename_i U;cases h;simpa using U
theorem QE{x y z:dq}(U:Dg y x=false)(W:Dg z y=false):Dg z x=false:=by
 unfold Dg at *
 cases h:cv .. with
 |false=>rfl
 |true=>
  rcases il .. with O|O|O
  .rw[lZ _ _ _ O h]at U; cases U
  .rw[O,h]at U; cases U
  .rw[O]at W; cases W
theorem B7(out:List dq)(x:dq)(h:lr out):∃A B,out=A++B/\tG out x=A++x::B/\(∀a∈A,Dg a x=true)/\∀b∈B,Dg b x=false:=by
 refine⟨out.takeWhile _,out.dropWhile _,(aY).symm,rfl,λa U=>NK out a U,λb hb=>?_⟩;have W:lr (out.dropWhile (λy=>Dg y x)):=di (b6 _) h;have Y:=Jr (p:=λy=>Dg y x) out;generalize out.dropWhile _=B at *
 cases B with
 |nil=>simp at hb
 |cons c B=>
  have O:=Y c B rfl;simp only[a0]at hb;rcases hb with rfl|hb
  .exact O
  .exact QE O (List.rel_of_pairwise_cons W hb)
theorem yI(out:List dq)(x:dq)(h:lr out):lr (tG out x):=by
 obtain⟨A,B,rfl,U,W,Y⟩:=B7 out x h;rw[U];unfold lr at *;rw[bh]at h⊢;refine⟨h.1,a6.2 ⟨λb hb=>Y b hb,h.2.1⟩,λa O b hb=>?_⟩;simp only[a0]at hb;rcases hb with rfl|hb
 .exact pZ (W a O)
 .exact h.2.2 a O b hb
theorem C1(l:List dq):∀out,lr out->lr (l.foldl tG out):=by
 induction l with
 |nil=>intro out h; exact h
 |cons x l O=>intro out h; exact O _ (yI out x h)
theorem D1(l:List dq):lr (fo l):=C1 l [] List.Pairwise.nil
theorem Nh(out:List dq)(x:dq):(tG out x).Perm (x::out):=by
 refine bO.trans (List.Perm.cons x ?_);rw[aY]
theorem GB(l:List dq):∀out,(l.foldl tG out).Perm (l++out):=by
 induction l with
 |nil=>intro out; exact ef _
 |cons x l O=>
  intro out;refine(O _).trans ?_;refine(dt l (Nh out x)).trans ?_;exact bO
theorem fS(l:List dq):(fo l).Perm l:=by have:=GB l []; rw[bl]at this; exact this
theorem mV{e:dq}:e∈fo l↔e∈l:=(fS l).mem_iff
theorem Kk(l:List dq):(fo l).length=l.length:=(fS l).length_eq
theorem Ie(p:dq->Bool)(out:List dq)(x:dq)(h:lr out):(tG out x).filter p=if p x=true then tG (out.filter p) x else out.filter p:=by
 obtain⟨A,B,rfl,W,Y,h4⟩:=B7 out x h;rw[W];have hA:∀a∈A.filter p,(λy=>Dg y x) a=true:=λa O=>Y a (az.1 O).1;have hB:∀a∈B.filter p,(λy=>Dg y x) a=false:=λa O=>h4 a (az.1 O).1;have U:=FI _ _ _ hA hB;rw[aF,aF,bj];split
 .unfold tG; rw[U.1,U.2]
 .rfl
theorem C8(p:dq->Bool)(l:List dq):∀out,lr out->(l.foldl tG out).filter p=(l.filter p).foldl tG (out.filter p):=by
 induction l with
 |nil=>intro out _; rfl
 |cons x l O=>
  intro out h;rw[aP,O _ (yI out x h),Ie p out x h,bj];split
  .rfl
  .rfl
theorem pW(p:dq->Bool)(l:List dq):(fo l).filter p=fo (l.filter p):=C8 p l [] List.Pairwise.nil
theorem Q4(out:List dq)(x:dq)(h:∀a∈out,Dg a x=true):tG out x=out++[x]:=by
 have:=FI _ out [] h (by simp);rw[bl]at this;unfold tG; rw[this.1,this.2]
theorem Dr(l:List dq):∀out,jy (out++l)->l.foldl tG out=out++l:=by
 induction l with
 |nil=>simp
 |cons x l O=>
  intro out h;have U:=(bh.1 h).2.2;rw[aP,Q4 out x (λa W=>U a W x (by simp)),O]
  .simp
  .simpa using h
theorem CQ(l:List dq)(h:jy l):fo l=l:=by simpa[fo]using Dr l [] (by simpa using h)
theorem LQ(h:lr l)(U:(l.map dq.name).Nodup):jy l:=by
 rw[bY,bA]at U;refine(h.and U).imp ?_;rintro a b ⟨W,Y⟩;unfold Dg at *;rcases il .. with O|O|O
 .exact O
 .exact absurd O Y
 .rw[O]at W; cases W
theorem mG(l:List dq)(O:(l.map dq.name).Nodup):jy (fo l):=
 LQ (D1 l) (((fS l).map _).nodup_iff.2 O)
theorem jy.nodup(h:jy l):(l.map dq.name).Nodup:=by
 rw[bY,bA];exact h.imp (λh=>Bt h)
theorem Il(O:jy l)(hm:jy m)(h:l.Perm m):l=m:=by
 refine ee (le:=λa b=>Dg a b=true) ?_ O hm h;intro a b _ _ U h2;have:=pZ U;unfold Dg at h2;rw[h2]at this; cases this
theorem E2(O:(l.map dq.name).Nodup)(h:l.Perm m):fo l=fo m:=
 Il (mG l O) (mG m ((h.map _).nodup_iff.1 O)) (((fS l).trans h).trans (fS m).symm)
end
section
open Go.RowKit
variable {l:List dq} {p s:Wd}
def u8(n:Int):UInt8:=cR (n % 256).toNat
def dL(s:Wd):Wd:=u8 s.length::s
def ic(n:Int):Wd:=[u8 (n.tdiv 65536),u8 ((n.tdiv 256).tmod 256),u8 (n.tmod 256)]
def mY(e:dq):Wd:=dL e.name++(dL e.text++(ic e.du++[u8 e.dD]))
def gL(l:List dq):Int:=l.foldl (λg e=>if g<e.du then e.du else g) 0
def SQ(l:List dq)(p:Wd):List dq:=l.filter λe=>nN (dF e) p
def kU(l:List dq)(p:Wd):List dq:=l.filter λe=>dF e==p
def jM(G:List dq)(p:Wd)(c:UInt8):List dq:=G.filter λe=>nN (dF e) (p++[c])
def kP:List UInt8:=(aE 256).map cR
def jP(G:List dq)(p:Wd):List UInt8:=kP.filter λc=>!(jM G p c).isEmpty
def mP(H:List dq):Wd:=Pm (H.map dF)
def nk:Nat->Wd->List dq->Wd
 |0,_,_=>[]
 |f+1,p,G=>ic (gL G)++(u8 (kU G p).length::((kU G p).flatMap mY++(u8 (jP G p).length::(jP G p).flatMap λc=>dL ((mP (jM G p c)).drop p.length)++nk f (mP (jM G p c)) (jM G p c))))
theorem jT(p s:Wd)(c:UInt8):p++[c] <+: s↔p <+: s/\p.length<s.length/\s.getD p.length 0=c:=by
 constructor
 .rintro⟨t,rfl⟩;simp[ay]
 .rintro⟨⟨t,rfl⟩,O,U⟩
  cases t with
  |nil=>simp at O
  |cons d t=>
   subst U;exact⟨t,by simp⟩
theorem yH(h:p <+: s)(U:s≠p):p.length<s.length:=by
 rcases cl .. with O|O
 .exact O
 .exact absurd (h.eq_of_length (ct h.length_le O)).symm U
theorem DY(h:p <+: s)(i:Nat)(hi:i<p.length):s.getD i 0=p.getD i 0:=by
 obtain⟨t,rfl⟩:=h;rw[ay,ay,bI hi]
theorem Jx{e:dq}:e∈SQ l p↔e∈l/\p <+: dF e:=by simp[SQ,nd]
theorem uK(l:List dq)(p:Wd)(c:UInt8):jM l p c=SQ l (p++[c]):=rfl
theorem pU{H:List dq}(h:H≠[]):rW (mP H) (H.map dF):=xv (by simpa using h)
theorem Pl(h:SQ l p≠[]):p <+: mP (SQ l p):=
 (pU h).2 p (λs O=>by
  obtain⟨e,U,rfl⟩:=a9.1 O
  exact(Jx.1 U).2)
theorem tD(i:Nat)(h:i<kP.length):kP[i]=cR i:=by simp[kP]
theorem CO:kP.length=256:=by simp[kP]
theorem uF{c:UInt8}(h:c∈jP l p):SQ l (p++[c])≠[]:=by
 have:=(az.1 h).2;rw[uK]at this;intro e; rw[e]at this; simp at this
theorem p9{α O:Type}{f g:α->List O}:∀{l:List α},(∀a∈l,f a=g a)->l.flatMap f=l.flatMap g
 |[],_=>rfl
 |a::l,h=>by rw[aH,aH,h a (by simp),p9 (λx U=>h x (by simp[U]))]
end
section
open Go.RowKit
theorem Ta(s:ByteArray)(n:Nat):s.extract 0 n=⟨(s.data.toList.take n).toArray⟩:=by
 apply dr;apply e7.1;simp
theorem RV(n:Int):((u8 n).toNat:Int)=n % 256:=by
 unfold u8;have:(cR (n % 256).toNat).toNat=(n % 256).toNat % 256:=by simp
 omega
theorem mc(n:Int):fH [u8 n]=[.int .u8 (n % 256)]:=by simp only[fH,aA,be,RV]
end
section
open Go.RowKit
theorem gV{B:Nat}{a w:World}(h:Below B a w)(q:Nat):Below B a (w.drewN q):=⟨h.os,h.tape,h.output,h.size,h.block⟩
end
section
open Go.RowKit
def xz(k:Nat):Wd:=[cR (97+k)]
theorem Bl(c:Int)(w:World)(Y : -9223372036854775808<=c)(h1:c<=9223372036854775807):cE prog 23 #[.int .i64 c] w λe w'=>e=.returned (.string ⟨(xz (pk c 12)).toArray⟩)/\w=w':=by
 have U:=fQ c 12 w Y h1 (by omega) (by omega);have O:=lC c 12 (by omega);obtain⟨k,W⟩:∃k,k=pk c 12:=⟨_,rfl⟩;rw[<-W]at U O⊢;clear W;go_enter func23,ntmps23;go_wp2_with fail;refine U.mono ?_;rintro e w1 ⟨rfl,rfl⟩;rcases(by omega:k=0\/k=1\/k=2\/k=3\/k=4\/k=5\/k=6\/k=7\/k=8\/k=9\/k=10\/k=11)with rfl|rfl|rfl|rfl|rfl|rfl|rfl|rfl|rfl|rfl|rfl|rfl
 all_goals
  go_wp2;go_ret;exact⟨rfl,rfl⟩
def w6:Nat->Wd
 |0=>[110,101,119]
 |1=>[89,111,114,107]
 |2=>[110,101,119,97,114,107]
 |3=>[110,101]
 |4=>[89,111,45,121,111]
 |_=>[107,57]
def AB(n:Nat):Wd:=
 if n<6 then w6 n else if n<42 then w6 ((n-6) / 6)++[32]++w6 ((n-6) % 6)
 else w6 ((n-42) / 36)++[45]++w6 ((n-42) / 6 % 6)++[32]++w6 ((n-42) % 6)
def vg:Array Value:=#[.string ⟨#[110,101,119]⟩,.string ⟨#[89,111,114,107]⟩,.string ⟨#[110,101,119,97,114,107]⟩,.string ⟨#[110,101]⟩,.string ⟨#[89,111,45,121,111]⟩,.string ⟨#[107,57]⟩]
theorem IX(i:Nat)(h:i<6):vg[i]?=some (.string ⟨(w6 i).toArray⟩):=by
 rcases(by omega:i=0\/i=1\/i=2\/i=3\/i=4\/i=5)with rfl|rfl|rfl|rfl|rfl|rfl<;>rfl
theorem zz(i:Nat):(w6 i).length<=6:=by unfold w6; split<;>simp
theorem rF(a b:Wd):(⟨a.toArray⟩:ByteArray)++⟨b.toArray⟩=⟨(a++b).toArray⟩:=by
 apply dr;simp
theorem Bv(c:Int)(w:World)(h0 : -9223372036854775808<=c)(h1:c<=9223372036854775807):cE prog 45 #[.int .i64 c] w λe w'=>e=.returned (.string ⟨(AB (pk c 258)).toArray⟩)/\Below w.heap.size w w':=by
 have aa:=lC c 258 (by omega);obtain⟨n,Y⟩:∃n,n=pk c 258:=⟨_,rfl⟩;have hb:Below w.heap.size w (w.alloc (.cells vg 9)):=(fd _ _).alloc (cd _) _;have HB:fs _:=hb
 have HC:fs (∀i,i<6->(w.alloc (.cells vg 9)).cell? ⟨w.heap.size,i,none⟩=some (.string ⟨(w6 i).toArray⟩)):=λi hi=>by
  rw[dh (cs:=vg) (t:=9) (fz:=(0,0)) (by simp[World.alloc,-World.alloc_eq])];exact IX i hi
 have hp:=fQ c 258 (w.alloc (.cells vg 9)) h0 h1 (by omega) (by omega);rw[<-Y]at hp aa⊢;clear Y hb;unfold vg at HB HC hp;by_cases U:n<6
 .have g1:((n:Nat):Int)<6:=by omega
  have W:AB n=w6 n:=by unfold AB; rw[if_pos U]
  have hc:=HC.out n U;rw[W];go_enter func45,ntmps45;go_wp2_with fail;refine hp.mono ?_;rintro e w1 ⟨rfl,rfl⟩;clear hp;go_wp2;go_ret;exact⟨rfl,HB.out⟩
 .have g1:¬((n:Nat):Int)<6:=by omega
  by_cases O:n<42
  .obtain⟨i,j,hi,hj,Y⟩:∃i j,i<6/\j<6/\n=6+6*i+j:=⟨(n-6) / 6,(n-6) % 6,by omega,by omega,by omega⟩
   have W:AB n=w6 i++[32]++w6 j:=by
    unfold AB;rw[if_neg U,if_pos O,show(n-6) / 6=i by omega,show(n-6) % 6=j by omega]
   have ab:=HC.out i hi;have ac:=HC.out j hj;have zi:(⟨(w6 i).toArray⟩:ByteArray).size<=6:=by have:=zz i; simpa[dm]using this
   have zj:(⟨(w6 j).toArray⟩:ByteArray).size<=6:=by have:=zz j; simpa[dm]using this
   rw[W];have g3:(⟨(w6 i++[32]++w6 j).toArray⟩:ByteArray)=⟨(w6 i).toArray⟩++⟨#[32]⟩++⟨(w6 j).toArray⟩:=by rw[<-rF,<-rF]
   rw[g3];clear g3;generalize (⟨(w6 i).toArray⟩:ByteArray)=si at *;generalize (⟨(w6 j).toArray⟩:ByteArray)=sj at *;have g4:(n:Int)-6<36:=by omega
   have g5:((n:Int)-6).tdiv 6=(i:Nat):=by rw[cV (by omega)]; omega
   have g6:((n:Int)-6).tmod 6=(j:Nat):=by rw[cU (by omega)]; omega
   have m1:(i:Int)<6:=by omega
   have m2:(j:Int)<6:=by omega
   have k1:IntKind.i64.wrap ((i:Int))=i:=by simp only[ev]; omega
   have k2:IntKind.i64.wrap ((j:Int))=j:=by simp only[ev]; omega
   clear W Y O U;go_enter func45,ntmps45;go_wp2_with fail;refine hp.mono ?_;rintro e w1 ⟨rfl,rfl⟩;clear hp;generalize w.alloc _=wa at *;go_wp2;go_quiet (fail);go_wp2;go_ret;exact⟨rfl,gV HB.out _⟩
  .obtain⟨i,j,l,hi,hj,hl,Y⟩:∃i j l,i<6/\j<6/\l<6/\n=42+36*i+6*j+l:=⟨(n-42) / 36,(n-42) / 6 % 6,(n-42) % 6,by omega,by omega,by omega,by omega⟩
   have W:AB n=w6 i++[45]++w6 j++[32]++w6 l:=by
    unfold AB;rw[if_neg U,if_neg O,show(n-42) / 36=i by omega,show(n-42) / 6 % 6=j by omega,show(n-42) % 6=l by omega]
   have ab:=HC.out i hi;have ac:=HC.out j hj;have jQ:=HC.out l hl;have zi:(⟨(w6 i).toArray⟩:ByteArray).size<=6:=by have:=zz i; simpa[dm]using this
   have zj:(⟨(w6 j).toArray⟩:ByteArray).size<=6:=by have:=zz j; simpa[dm]using this
   have zl:(⟨(w6 l).toArray⟩:ByteArray).size<=6:=by have:=zz l; simpa[dm]using this
   rw[W];have g3:(⟨(w6 i++[45]++w6 j++[32]++w6 l).toArray⟩:ByteArray)=⟨(w6 i).toArray⟩++⟨#[45]⟩++⟨(w6 j).toArray⟩++⟨#[32]⟩++⟨(w6 l).toArray⟩:=by rw[<-rF,<-rF,<-rF,<-rF]
   rw[g3];clear g3;generalize (⟨(w6 i).toArray⟩:ByteArray)=si at *;generalize (⟨(w6 j).toArray⟩:ByteArray)=sj at *;generalize (⟨(w6 l).toArray⟩:ByteArray)=sl at *;have g4:¬(n:Int)-6<36:=by omega
   have g6:((n:Int)-6-36).tdiv 36=(i:Nat):=by rw[cV (by omega)]; omega
   have g7:((n:Int)-6-36).tdiv 6=((6*i+j:Nat):Int):=by rw[cV (by omega)]; omega
   have g8:(6*(i:Int)+(j:Int)).tmod 6=(j:Nat):=by rw[cU (by omega)]; omega
   have g9:((n:Int)-6-36).tmod 6=(l:Nat):=by rw[cU (by omega)]; omega
   have m1:(i:Int)<6:=by omega
   have m2:(j:Int)<6:=by omega
   have k1:IntKind.i64.wrap ((i:Int))=i:=by simp only[ev]; omega
   have k2:IntKind.i64.wrap ((j:Int))=j:=by simp only[ev]; omega
   have m3:(l:Int)<6:=by omega
   have k3:IntKind.i64.wrap ((l:Int))=l:=by simp only[ev]; omega
   have k4:IntKind.i64.wrap (6*(i:Int)+(j:Int))=6*(i:Int)+(j:Int):=by simp only[ev]; omega
   clear W Y O U;go_enter func45,ntmps45;go_wp2_with fail;refine hp.mono ?_;rintro e w1 ⟨rfl,rfl⟩;clear hp;generalize w.alloc _=wa at *;go_wp2;go_quiet (fail);go_wp2;go_ret;exact⟨rfl,gV HB.out _⟩
end
section
open Go.RowKit
theorem mK(c:UInt8)(w:World) :
  cE prog 98 #[.int .u8 c.toNat] w λe w'=>e=.returned (.bool (fe c))/\w=w':=by
 go_wp2
 all_goals
  go_ret;refine⟨eH ?_,rfl⟩;unfold fe;rw[cx];simp only[decide_eq_true_eq,cy,true_iff,false_iff,c7];omega
theorem qy(s:ByteArray)(w:World)(hs:s.size<=c9) :
  cE prog 48 #[.string s] w λe w'=>e=.returned (.bool (dU s.data.toList))/\w=w':=by
 unfold c9 at hs;by_cases aa:s.size<=24
 .have hd:decide (24<(s.size:Int))=false:=by simp; omega
  go_enter func48,ntmps48;go_wp2;go_loop [9] (λi=>∃k:Nat,k<=s.size/\i=.int .i64 k/\(s.data.toList.take k).all ow=true) (λi=>s.size-(intOf i).toNat)
  case atStart=>exact⟨0,cg _,rfl,rfl⟩
  case round=>
   obtain⟨k,hk,rfl,fv⟩:=hrel;have HA:fs _:=fv;clear fv;by_cases U:k<s.size
   .have W:=Bw s k U;have HS:fs _:=W;clear W;by_cases O:ow s[k]=true
    .have HP:fs _:=O;have Y:32<=(s[k].toNat:Int):=by simp[ow]at O; omega
     have h2:(s[k].toNat:Int)<=126:=by simp[ow]at O; omega
     clear O;go_wp2;go_round
     case rel=>exact⟨k+1,by omega,by go_num,by rw[HS.out,bV,HA.out]; simp[HP.out]⟩
     case measure=>simp[intOf]; omega
    .have HP:fs _:=O;have Y:(s[k].toNat:Int)<32\/126<(s[k].toNat:Int):=by simp[ow]at O; omega
     clear O;rcases Y with Y|Y
     all_goals
      go_wp2;go_ret;refine⟨eH ?_,rfl⟩;symm;rw[c4];intro hq;apply HP.out;simp only[dU,cw]at hq;exact List.all_eq_true.1 hq.2 _ (CZ s k U)
   .go_wp2;go_ret;refine⟨eH ?_,rfl⟩;have e:s.data.toList.take k=s.data.toList:=bm (by simp; omega);have:=HA.out;rw[e]at this;simp[dU,this]; exact aa
 .go_enter func48,ntmps48;go_wp2;go_ret;refine⟨eH ?_,rfl⟩;simp[dU]; omega
theorem pJ(s:ByteArray)(w:World)(Y:s.size<=c9) :
  cE prog 65 #[.string s] w λe w'=>e=.returned (.bool (decide (dU s.data.toList=true/\s.data.toList≠[])))/\w=w':=by
 by_cases O:s.data.toList=[]
 .have U:s=⟨#[]⟩:=by
   apply dr;apply e7.1;exact O
  subst U;go_wp2;go_ret;exact⟨eH (by simp),rfl⟩
 .have W:s.toList.isEmpty=false:=by
   rw[fk]
   cases h:s.data.toList with
   |nil=>exact absurd h O
   |cons a l=>rfl
  have HQ:fs (decide (dU s.data.toList=true/\s.data.toList≠[])=dU s.data.toList):=by
   rw[cx,decide_eq_true_eq];exact⟨λh=>h.1,λh=>⟨h,O⟩⟩
  go_enter func65,ntmps65;go_wp2_with fail;refine(qy _ _ Y).mono ?_;rintro e w' ⟨rfl,rfl⟩;go_wp2;go_ret;exact⟨eH (by rw[HQ.out]),rfl⟩
def ru(w:World)(g:Nat)(l:List UInt8):Prop:=∀j(h:j<l.length),w.cell? ⟨g,j,none⟩=some (.int .u8 l[j].toNat)/\w.frozen? ⟨g,j,none⟩=false
theorem ru.set{w:World}{g:Nat}{l:List UInt8}(h:ru w g l)(k:Nat)(c:UInt8)(v:Value)(W:v=.int .u8 c.toNat):ru (w.setCell ⟨g,k,none⟩ v) g (l.set k c):=by
 subst W;intro j Y;have O:j<l.length:=by simpa using Y
 obtain⟨U,h2⟩:=h j O;refine⟨?_,by rw[World.frozen?_setCell]; exact h2⟩;by_cases e:k=j
 .subst e;rw[World.cell?_setCell_same _ _ _ U];simp
 .rw[World.cell?_setCell_other _ _ _ _ (by intro hh; simp at hh),U];simp[e]
def iE(l:List UInt8)(k:Nat):List UInt8:=ed (l.take k)++l.drop k
theorem sO(l:List UInt8)(k:Nat):(iE l k).length=l.length:=by simp[iE,ed]; omega
theorem yW(l:List UInt8)(k:Nat)(h:k<l.length):(iE l k)[k]'(by rw[sO]; exact h)=l[k]:=by
 unfold iE;simp[ed,cr (Nat.le_of_lt h)]
theorem Gx(l:List UInt8)(k:Nat)(h:k<l.length):iE l (k+1)=(iE l k).set k (yi l[k]):=by
 unfold iE;rw[a8 h,GU];have O:(ed (l.take k)).length=k:=by rw[gf]; simp; omega
 rw[List.set_append_right _ _ (by omega),O,Nat.sub_self,aL];rw[aM h];rfl
theorem Hj(l:List UInt8):iE l l.length=ed l:=by simp[iE]
theorem DK(l:List UInt8):iE l 0=l:=by simp[iE,ed]
theorem drawn_setCell(w:World)(a:Addr)(v:Value):(w.setCell a v).drawn=w.drawn:=by
 unfold en;split <;>(try split) <;>(try split)<;>rfl
theorem sM(s:ByteArray)(w:World)(hs:s.size<=1099511627776) :
  cE prog 50 #[.string s] w λe w'=>e=.returned (.string ⟨(ed s.data.toList).toArray⟩)/\Below w.heap.size w w'/\w.drawn<=w'.drawn:=by
 have ab:=Lib.run_convert_string_bytes (P:=prog) w 9 60 5 s underlying9 underlying60 underlying5;go_enter func50,ntmps50;obtain⟨W0,O⟩:∃W0,Lib.bytesWorld w 5 s=W0:=⟨_,rfl⟩
 have hb0:Below w.heap.size w W0:=by
  subst O;exact⟨rfl,rfl,rfl,by rw[dg]; omega,λk hk=>Lib.bytesWorld_at_old w _ s k hk⟩
 have hd0:w.drawn<=W0.drawn:=by subst O; exact Nat.le_succ _
 have hz0:w.heap.size<W0.heap.size:=by subst O; rw[dg]; omega
 have hA0:ru W0 w.heap.size (iE s.data.toList 0):=by
  rw[DK];intro j hj;have ac:j<s.size:=by simpa using hj
  subst O;refine⟨?_,?_⟩
  .rw[Lib.bytesWorld_cell w _ s j ac,ay,a5 hj]; rfl
  .simp[eq,Lib.bytesWorld_at_new];intro h;simp[Lib.bytesCells]at h;omega
 rw[O]at ab;clear O;go_wp2;go_loopw [10] (λi wr=>∃k:Nat,k<=s.size/\i=.int .i64 k/\ru wr w.heap.size (iE s.data.toList k)/\Below w.heap.size w wr/\w.heap.size<wr.heap.size/\w.drawn<=wr.drawn) (λi _=>s.size-(intOf i).toNat)
 case atStart=>exact⟨0,cg _,rfl,hA0,hb0,hz0,hd0⟩
 case round=>
  obtain⟨k,hk,rfl,hA,hb,hz,hd⟩:=hrel;have HD:fs (w.drawn<=wr.drawn):=hd;clear hd;by_cases ad:k<s.size
  .have W:k<s.data.toList.length:=by simpa using ad
   obtain⟨hc,hf⟩:=hA k (by rw[sO]; exact W);rw[yW _ _ W]at hc;have HE:fs (iE s.data.toList (k+1)=(iE s.data.toList k).set k (yi s.data.toList[k])):=Gx _ _ W;have HG:fs (s.data.toList.length=s.size):=by show _=_; simp
   have aa:fs ((iE s.data.toList k)[k]'(by rw[sO]; exact W)=s.data.toList[k]):=yW _ _ W;have HA:fs (ru wr w.heap.size (iE s.data.toList k)):=hA;generalize s.data.toList[k]=c at *;clear hA;by_cases U:65<=c.toNat/\c.toNat<=90
   .have h1:65<=(c.toNat:Int):=by omega
    have h2:(c.toNat:Int)<=90:=by omega
    have HL:fs (((yi c).toNat:Int)=(c.toNat:Int)+32):=PG _ U;clear U;go_wp2;go_roundw
    case rel=>exact⟨k+1,by omega,by go_num,by rw[HE.out]; exact HA.out.set k _ _ (by rw[HL.out]; go_num),ff hb (cd _) _,by simpa[en]using hz,by rw[drawn_setCell]; exact HD.out⟩
    case measure=>simp[intOf]; omega
   .have HL:fs (yi c=c):=QX _ U;have ae:(c.toNat:Int)<65\/90<(c.toNat:Int):=by omega
    have HS:fs (iE s.data.toList (k+1)=iE s.data.toList k):=by
     show _=_;rw[HE.out,HL.out,<-aa.out];simp
    clear U;rcases ae with h1|h1
    all_goals
     go_wp2;go_roundw
     case rel=>exact⟨k+1,by omega,by go_num,by rw[HS.out]; exact HA.out,hb,hz,HD.out⟩
     case measure=>simp[intOf]; omega
  .have ek:k=s.size:=by omega
   subst ek;have W:(ed s.data.toList).length=s.size:=by rw[gf]; simp
   have e1:iE s.data.toList s.size=ed s.data.toList:=by
    have:s.size=s.data.toList.length:=by simp
    rw[this,Hj]
   rw[e1]at hA
   have Y:=run_convert_bytes_back (P:=prog) wr 60 9 5 ⟨w.heap.size,0,none⟩ (grownCap w s.size 0 5) (ed s.data.toList) underlying60 underlying5 underlying9 (λj hj=>by
    have:=(hA j hj).1
    have e2:(⟨w.heap.size,0,none⟩:Addr).add j=⟨w.heap.size,j,none⟩:=by
     unfold ex;split
     .rename_i h; rw[h]
     .simp
    rw[e2]; exact this)
   rw[W]at Y;clear W e1;go_wp2;go_ret;exact⟨rfl,hb,HD.out⟩
theorem oU(s:ByteArray)(w:World)(O:s.size<=1099511627776) :
  cE prog 50 #[.string s] w λe w'=>e=.returned (.string ⟨(ed s.data.toList).toArray⟩)/\Below w.heap.size w w':=(sM s w O).mono λ_ _ h=>⟨h.1,h.2.1⟩
end
section
open Go.RowKit
def s7(O:List (List Wd))(s:List UInt8):Nat×List (List Wd):=
 if dU s=true/\s≠[]then
  if 60<(eN (O++[iB (ed s)])).length then(4,O)else(0,O++[iB (ed s)])
 else(2,O)
end
section
open Go.RowKit
def uq(O:List (List Wd))(s:List UInt8)(most:Int):List Wd×Nat:=
 if most<1\/20<most then([],3)else if dU s=true then(iI O (iB (ed s)) most.toNat,0)else([],2)
def M9(w:World):Prop:=w.cell? ⟨0,0,none⟩=some (.int .u64 4)/\w.cell? ⟨0,1,none⟩=some (.int .u64 10)/\w.cell? ⟨0,2,none⟩=some (.int .u64 25)
theorem M9.below{w w':World}(h:M9 w)(hb:Below w.heap.size w w'):M9 w':=⟨cD hb h.1,cD hb h.2.1,cD hb h.2.2⟩
end
section
open Go.RowKit Go.Maps
variable {D:DataW Value} {m:List (Wd×Value)} {r:Nat} {row:Option Nat} {e t:cA} {w':World}
def li(v:Value):Option (DataW Value×List MemPlace):=some (.held v,[])
structure Nn(D:DataW Value)(l:List (Wd×Value)):Prop where
 nodup:(l.map fB).Nodup
 short:∀p∈l,p.1.length<=c9
 size:fa D=l.length
 has:∀x:Wd,fb D (.string x)=l.any λp=>p.1==x
 at_:∀p∈l,∀z,D.atKey (.string p.1) z=.held p.2
def dM(P:Program)(k:cA)(w:World)(B:Nat)(l:List (Wd×Value)):Prop:=∃D:DataW Value,w.ownsMap P k li B l.length D/\Nn D l
def qU(l:List (Wd×Value))(x:Wd)(v:Value):List (Wd×Value):=(l.filter λp=>p.1 != x)++[(x,v)]
theorem Gm{α:Type}{l m:List α}(h:l.Perm m)(f:α->Bool):l.any f=m.any f:=by
 rw[cx];simp only[b0];exact⟨λ⟨x,O,U⟩=>⟨x,h.mem_iff.1 O,U⟩,λ⟨x,O,U⟩=>⟨x,h.mem_iff.2 O,U⟩⟩
theorem Nn.perm{l:List (Wd×Value)}(h:Nn D l)(O:l.Perm m):Nn D m where
 nodup:=(O.map fB).nodup_iff.1 h.nodup
 short:=λp hm=>h.short p (O.mem_iff.2 hm);size:=by rw[h.size,O.length_eq]
 has:=λx=>by rw[h.has x,Gm O]
 at_:=λp hm=>h.at_ p (O.mem_iff.2 hm)
theorem yq{P:Program}{k:cA}{w:World}{B n:Nat}{R:Value->Option (DataW Value×List MemPlace)}(h:w.ownsMap P k R B n D):w.ownsMap P k R B (fa D) D:=by
 obtain⟨es,clock,hb,F,_,rfl⟩:=h;exact⟨es,clock,hb,F,by simp[fa,length_sorted],rfl⟩
section
variable {P:Program} {k:cA} {w:World} {B:Nat} {l:List (Wd×Value)}
theorem dM.perm(h:dM P k w B l)(O:l.Perm m):dM P k w B m:=by
 obtain⟨D,U,W⟩:=h;exact⟨D,by rw[<-O.length_eq]; exact U,W.perm O⟩
theorem dM.lt(h:dM P k w B l):B<w.heap.size:=by
 obtain⟨D,O,_⟩:=h;exact O.lt
theorem dM.nodup(h:dM P k w B l):(l.map fB).Nodup:=by
 obtain⟨D,_,O⟩:=h;exact O.nodup
theorem dM.stay(h:dM P k w B l)(hb:w'.heap[B]?=w.heap[B]?):dM P k w' B l:=by
 obtain⟨D,⟨es,clock,O,U⟩,W⟩:=h;exact⟨D,⟨es,clock,hb.trans O,U⟩,W⟩
theorem dM.below(h:dM P k w B l)(hb:Below w.heap.size w w'):dM P k w' B l:=h.stay (hb.block B h.lt)
theorem dM.kept(h:dM P k w B l)(U:w.grownBy w' row)(O:some B≠row):dM P k w' B l:=h.stay (U.block B h.lt O)
theorem dM.made(w:World):dM P k (w.alloc (.map #[] 0)) w.heap.size []:=
 ⟨.map [],World.ownsMap_made ..,⟨List.Pairwise.nil,nofun,rfl,λ_=>rfl,nofun⟩⟩
theorem JU(O:P.underlying k=some .string)(x:Wd)(U:x.length<=c9):keyOf P k (.string ⟨x.toArray⟩)=some (.string x):=by
 have:=WideMaps.keyOf_string_mk (P:=P) (k:=k) O (s:=⟨x.toArray⟩) (by show x.toArray.size<=c9; simpa using U);simpa using this
def mC(l:List (Wd×Value))(x:Wd)(z:Value):Value:=match l.find? λp=>p.1==x with
 |some p=>p.2
 |none=>z
theorem dM.look{z:Value}(h:dM P k w B l)(hk:P.underlying k=some .string)(ht:P.underlying t=some (.map k e))(hz:(zeroValue e).run P w=.ok z w)(x:Wd)(hx:x.length<=c9) :
  (Instr.lookup t (.map (some B)) (.string ⟨x.toArray⟩) false).run P w=.ok (mC l x z) w/\(Instr.lookup t (.map (some B)) (.string ⟨x.toArray⟩) true).run P w=.ok (.tuple #[mC l x z,.bool (l.any λp=>p.1==x)]) w:=by
 obtain⟨D,h1,O⟩:=h;have K:=eC hk;have gJ:=JU hk x hx;obtain⟨v1,p1,r1,U⟩:=h1.lookup K ht hz (zd:=.held z) (zp:=[]) rfl gJ;obtain⟨v2,p2,r2,W⟩:=h1.look_ok K ht hz (zd:=.held z) (zp:=[]) rfl gJ
 have Y:D.atKey (.string x) (.held z)=.held (mC l x z):=by
  unfold mC
  cases hf:l.find? _ with
  |none=>
   have:fb D (.string x)=false:=by
    rw[O.has x,bx];intro p hp;simpa using List.find?_eq_none.1 hf p hp
   exact atKey_of_not_has this _
  |some p=>
   have hp:=List.mem_of_find?_eq_some hf;have he:=by simpa using List.find?_some hf
   have:=O.at_ p hp (.held z);rw[he]at this;exact this
 rw[Y]at U W;simp only[li,cQ,Prod.mk.injEq,DataW.held.injEq]at U W;rw[r1,r2,U.1,W.1,O.has x];exact⟨rfl,rfl⟩
theorem dM.len(h:dM P k w B l)(U:P.underlying t=some (.map k e))(O:cA):(dc #[t] O #[.map (some B)]).run P w=.ok (.int .i64 (l.length:Nat)) w:=by
 obtain⟨D,W,Y⟩:=h;rw[W.len U O,Y.size]
theorem Eg(l:List (Wd×Value))(x y:Wd)(U:y≠x):(l.filter λp=>p.1 != x).any (λp=>p.1==y)=l.any λp=>p.1==y:=by
 rw[cx];simp only[b0,az,beq_iff_eq,bne_iff_ne];constructor
 .rintro⟨p,⟨W,_⟩,O⟩; exact⟨p,W,O⟩
 .rintro⟨p,W,O⟩; exact⟨p,⟨W,by rw[O]; exact U⟩,O⟩
theorem Po(x:Wd):∀(l:List (Wd×Value)),(l.map fB).Nodup->(l.filter λp=>p.1 != x).length+(if l.any (λp=>p.1==x)then 1 else 0)=l.length:=by
 intro l
 induction l with
 |nil=>intro _; rfl
 |cons p l W=>
  intro O;rw[aA,aV]at O;have h:=W O.2;by_cases e:p.1=x
  .have U:l.any (λp=>p.1==x)=false:=by
    rw[bx];intro q Y;simp only[beq_iff_eq];intro e2;exact O.1 (a9.2 ⟨q,Y,by rw[e2,e]⟩)
   rw[U]at h;simp[e]at h⊢;exact h
  .rw[bj,List.any_cons];simp only[bne_iff_ne,ne_eq,e,not_false_eq_true,if_true,aC];have:(p.1==x)=false:=by simpa using e
   rw[this,c8];omega
theorem dM.put(h:dM P k w B l)(hk:P.underlying k=some .string)(ht:P.underlying t=some (.map k e))(hn:l.length<c9)(x:Wd)(hx:x.length<=c9)(v:Value) :
  ∃w',(Instr.mapUpdate t (.map (some B)) (.string ⟨x.toArray⟩) v).run P w=.ok () w'/\dM P k w' B (qU l x v)/\w.grownBy w' (some B)/\w'.heap.size=w.heap.size:=by
 obtain⟨D,h1,O⟩:=h;have K:=eC hk;have gJ:=JU hk x hx;obtain⟨w',hr,ho,U⟩:=h1.store K ht hn gJ (d:=.held v) (ps:=[]) (val:=v) rfl;have hT:=h1.tidy K
 have W:fa (D.put (.string x) (.held v))=(qU l x v).length:=by
  rw[size_put hT,O.has x,O.size];have:=Po x l O.nodup;unfold qU;rw[a7,List.length_singleton];split at this<;>rename_i hh
  .rw[if_pos hh]; omega
  .rw[if_neg hh]; omega
 refine⟨w',hr,⟨_,by rw[<-W]; exact yq ho,⟨?_,?_,W,?_,?_⟩⟩,U.grown,?_⟩
 .unfold qU;rw[aO,aA,be,bg];refine⟨O.nodup.sublist ((ba).map _),by simp,?_⟩;intro a ha b hb;simp only[aD]at hb;subst hb;obtain⟨p,Y,rfl⟩:=a9.1 ha;have:=(az.1 Y).2;simpa using this
 .intro p Y;rcases aB.1 Y with h|h
  .exact O.short p (az.1 h).1
  .simp only[aD]at h; subst h; exact hx
 .intro y;unfold qU;rw[bU];by_cases e:y=x
  .subst e;rw[has_put_same h1.isMap (show WideAt.IsKeyLit (.string y)from trivial)];simp
  .rw[has_put_other (by simpa using e),O.has y,Eg l x y e];have:(x==y)=false:=by simpa using λh=>e h.symm
   simp[this]
 .intro p Y z;rcases aB.1 Y with h|h
  .have hm:=az.1 h;have ab:=by simpa using hm.2
   rw[atKey_put_other (by simpa using ab)];exact O.at_ p hm.1 z
  .simp only[aD]at h;subst h;rw[atKey_put_same h1.isMap (show WideAt.IsKeyLit (.string x)from trivial)]
 .obtain⟨es,clock,ac,aa,_,rfl⟩:=U;simp[ChangeMaps.setBlock]
def eu(P:Program)(k:cA)(w:World)(B r:Nat)(l rest:List (Wd×Value)):Prop:=
 (rest.map fB).Nodup/\(∀p∈rest,p∈l)/\∃D left cnt,w.ranges P k li B r l.length D left cnt/\Nn D l/\∀x:Wd,left (.string x)=rest.any λp=>p.1==x
theorem eu.owns{rest:List (Wd×Value)}(h:eu P k w B r l rest):dM P k w B l:=by
 obtain⟨_,_,D,left,cnt,O,U,_⟩:=h;exact⟨D,O.owns,U⟩
theorem eu.lt{rest:List (Wd×Value)}(h:eu P k w B r l rest):r<w.heap.size:=by
 obtain⟨_,_,D,left,cnt,O,U,_⟩:=h;exact O.lt
theorem eu.kept{rest:List (Wd×Value)}(h:eu P k w B r l rest)(O:w.grownBy w' row)(U:some B≠row)(W:some r≠row):eu P k w' B r l rest:=by
 obtain⟨a,b,D,left,cnt,Y,h2,h3⟩:=h;exact⟨a,b,D,left,cnt,Y.kept O U W,h2,h3⟩
theorem eu.jG(O:w'.heap[B]?=w.heap[B]?)(U:w'.heap[r]?=w.heap[r]?):w'.rangeLeft B r=w.rangeLeft B r:=by
 unfold World.rangeLeft;rw[O,U]
theorem dM.range(h:dM P k w B l)(U:P.underlying k=some .string)(W:P.underlying t=some (.map k e)) :
  ∃w',(Instr.range t (.map (some B))).run P w=.ok (.pointer (some ⟨w.heap.size,0,none⟩)) w'/\eu P k w' B w.heap.size l l/\w.grownBy w' none/\w'.heap.size=w.heap.size+1:=by
 obtain⟨D,Y,O⟩:=h;obtain⟨w',hr,r1,r2,r3⟩:=Y.range (eC U) W;exact⟨w',hr,⟨O.nodup,λ_ h=>h,D,_,_,r1,O,O.has⟩,r2,r3⟩
theorem Jy(U:P.underlying k=some .string){key:Value}{O:Lit}(h:keyOf P k key=some O):∃x:Wd,key=.string ⟨x.toArray⟩/\O=.string x:=by
 cases key<;>simp[keyOf,U,mapKey]at h
 rename_i s;refine⟨s.data.toList,?_,h.2.symm⟩;simp
theorem Rj:∀{l:List (Wd×Value)},(l.map fB).Nodup->∀{a b:Wd×Value},a∈l->b∈l->a.1=b.1->a=b:=by
 intro l
 induction l with
 |nil=>intro _ a b h; simp at h
 |cons c l W=>
  intro O a b U hb e;rw[aA,aV]at O;rcases a0.1 U with ea|U
  .rcases a0.1 hb with eb|hb
   .rw[ea,eb]
   .exact absurd (a9.2 ⟨b,hb,by rw[<-e,ea]⟩) O.1
  .rcases a0.1 hb with eb|hb
   .exact absurd (a9.2 ⟨a,U,by rw[e,eb]⟩) O.1
   .exact W O.2 U hb e
theorem eu.next{rest:List (Wd×Value)}(h:eu P k w B r l rest)(hk:P.underlying k=some .string)(ty:cA) :
  (rest=[]/\(Instr.next (.pointer (some ⟨r,0,none⟩)) false ty).run P w=.ok (.tuple #[.bool false]) w)\/
  ∃p O w',rest.Perm (p::O)/\(Instr.next (.pointer (some ⟨r,0,none⟩)) false ty).run P w=.ok (.tuple #[.bool true,.string ⟨p.1.toArray⟩,p.2]) w'/\eu P k w' B r l O/\w'.rangeLeft B r<w.rangeLeft B r/\
   w.grownBy w' (some r)/\w'.heap.size=w.heap.size/\(Instr.entry (.pointer (some ⟨r,0,none⟩))).run P w'=.ok (.tuple #[.string ⟨p.1.toArray⟩,p.2]) w':=by
 obtain⟨hn,U,D,left,cnt,h1,h2,h3⟩:=h;rcases h1.next (eC hk) ty with⟨_,hl,hr⟩|⟨key,v,kl,y,w',aa,gJ,ad,hv,ae,hr,ab,af,hg,hs,ag⟩
 .left;refine⟨?_,hr⟩
  cases rest with
  |nil=>rfl
  |cons p rest=>
   have:=hl (.string p.1);rw[h3]at this;simp at this
 .right;obtain⟨x,rfl,rfl⟩:=Jy hk gJ;have hx:=ad;rw[h3,b0]at hx;obtain⟨p,hp,Y⟩:=hx;have Y:=by simpa using Y
  subst Y
  have ah:=by
   have e1:=h2.at_ p (U p hp) (.held v);rw[ae]at e1;simp only[li,cQ]at hv;rw[<-hv]at e1;simpa using e1
  subst ah;refine⟨p,rest.filter λq=>q.1 != p.1,w',?_,hr,⟨?_,?_,D,_,aa,ab,h2,λx=>?_⟩,?_,hg,hs,ag⟩
  .have ac:rest.Nodup:=dj _ (λa b ai e=>ai (by rw[e])) hn;rw[bv ac]
   .intro q;simp only[a0,az,bne_iff_ne];constructor
    .intro W;by_cases e:q.1=p.1
     .left;exact Rj hn W hp e
     .right; exact⟨W,e⟩
    .rintro(rfl|⟨W,_⟩)
     .exact hp
     .exact W
   .rw[aV];refine⟨λh=>?_,ac.sublist ba⟩;have:=(az.1 h).2;simp at this
  .exact hn.sublist (ba.map _)
  .exact λq W=>U q (az.1 W).1
  .rw[h3];by_cases e:x=p.1
   .subst e;have:(Lit.string p.1).sameKey (.string p.1)=true:=by simp[Lit.sameKey]
    rw[this];simp only[Bool.not_true,Bool.and_false];symm;rw[bx];intro q W;have:=(az.1 W).2;simpa using this
   .have:(Lit.string x).sameKey (.string p.1)=false:=by simp[Lit.sameKey,e]
    rw[this,Eg rest _ x e];simp
  .rw[ab.left_eq,h1.left_eq];exact af
end
section
variable {P:Program} {k:cA} {B:Nat} {l:List (Wd×Value)} (w:World) {ops:Array Oper} {rest:List Oper} {o:Oper} {a:Act} {Q:Exit->Act->World->Prop}
theorem A0(Y:o.guard=none)(m:Operand)(t:cA)(U:o.op=Op.range t m)(e:cA)(hk:P.underlying k=some .string)(ht:P.underlying t=some (.map k e))
  (hm:a.eval m=.map (some B)) (h:dM P k w B l)
  (hK:∀w',eu P k w' B w.heap.size l l->w.grownBy w' none->w'.heap.size=w.heap.size+1->cB P ops Q rest (a.put o.dst (.pointer (some ⟨w.heap.size,0,none⟩))) w') :
  cB P ops Q (o::rest) a w:=by
 refine cC Y λK' W=>?_;obtain⟨w',O,r1,r2,r3⟩:=h.range hk ht;unfold Oper.wp;simp[cK,U,hm,O,ez];exact W _ _ (hK w' r1 r2 r3)
theorem D2(hg:o.guard=none)(it:Operand)(Y:o.op=Op.next it false)(hk:P.underlying k=some .string)(r:Nat)(left:List (Wd×Value))
  (aa:a.eval it=.pointer (some ⟨r,0,none⟩)) (h:eu P k w B r l left)
  (W:left=[]->cB P ops Q rest (a.put o.dst (.tuple #[.bool false])) w)
  (hMore:∀p O w',left.Perm (p::O)->eu P k w' B r l O->w'.rangeLeft B r<w.rangeLeft B r->w.grownBy w' (some r)->w'.heap.size=w.heap.size->(Instr.entry (.pointer (some ⟨r,0,none⟩))).run P w'=.ok (.tuple #[.string ⟨p.1.toArray⟩,p.2]) w'->
    cB P ops Q rest (a.put o.dst (.tuple #[.bool true,.string ⟨p.1.toArray⟩,p.2])) w') :
  cB P ops Q (o::rest) a w:=by
 refine cC hg λK' ab=>?_;unfold Oper.wp;rcases h.next hk o.type with⟨h0,U⟩|⟨p,O,w',hp,U,ac,ad,ae,af,ag⟩
 .simp[cK,Y,aa,U,ez];exact ab _ _ (W h0)
 .simp[cK,Y,aa,U,ez];exact ab _ _ (hMore p O w' hp ac ad ae af ag)
theorem jq(Y:o.guard=none)(m x v:Operand)(t:cA)(U:o.op=Op.mapUpdate t m x v)(e:cA)(hk:P.underlying k=some .string)(ht:P.underlying t=some (.map k e))
  (hm:a.eval m=.map (some B)) (h:dM P k w B l) (hn:l.length<c9) (y:Wd) (hy:y.length<=c9) (hx:a.eval x=.string ⟨y.toArray⟩) (u:Value) (hv:a.eval v=u)
  (hK:∀w',dM P k w' B (qU l y u)->w.grownBy w' (some B)->w'.heap.size=w.heap.size->cB P ops Q rest (a.put o.dst undef) w') :
  cB P ops Q (o::rest) a w:=by
 refine cC Y λK' W=>?_;obtain⟨w',O,r1,r2,r3⟩:=h.put hk ht hn y hy u;unfold Oper.wp;simp[cK,U,hm,hx,hv,O,ez];exact W _ _ (hK w' r1 r2 r3)
end
end
section
open Go.RowKit
variable {n:Nat} {bs r:Wd}
def pX(n:Nat)(bs:Wd):Option (Wd×Wd):=if n<=bs.length then some (bs.take n,bs.drop n)else none
def rdNum:Wd->Option (Nat×Wd)
 |[]=>none
 |b::r=>some (b.toNat,r)
def ju(bs:Wd):Option (Wd×Wd):=(rdNum bs).bind λx=>pX x.1 x.2
def ir:Wd->Option (Nat×Wd)
 |a::b::c::r=>some (a.toNat*65536+b.toNat*256+c.toNat,r)
 |_=>none
def nA(ks:List Wd)(last bs:Wd):Option (Wd×Wd):=
 (ju bs).bind λx=>if iL x.1=true/\cv last x.1=true/\x.1 ∉ ks then some x else none
def ki(O bs:Wd):Option (dq×Wd):=
 (ju bs).bind λx=>if dU x.1=true/\x.1≠[]then(ir x.2).bind λy=>if y.1<=1000000 then(rdNum y.2).bind λz=>some (⟨O,false,x.1,y.1,z.1⟩,z.2)else none else none
def ve:Nat->Wd->List Wd->Wd->Wd->Option (List dq×Wd)
 |0,_,_,_,bs=>some ([],bs)
 |n+1,path,ks,last,bs=>(nA ks last bs).bind λx=>(ki x.1 x.2).bind λy=>if dF y.1=path then(ve n path (ks++[x.1]) x.1 y.2).bind λz=>some (y.1::z.1,z.2)else none
def uM(node:Wd->List Wd->Wd->Option (Nat×List dq×Wd)):Nat->Wd->List Wd->Int->Wd->Option (Nat×List dq×Wd)
 |0,_,_,_,bs=>some (0,[],bs)
 |n+1,path,ks,last,bs=>(ju bs).bind λx=>if x.1≠[]/\last<((x.1.getD 0 0).toNat:Int)then
   (node (path++x.1) ks x.2).bind λy=>(uM node n path (ks++y.2.1.map dq.name) ((x.1.getD 0 0).toNat:Int) y.2.2).bind λz=>some (max y.1 z.1,y.2.1++z.2.1,z.2.2)else none
def sT:Nat->Wd->List Wd->Wd->Option (Nat×List dq×Wd)
 |0,_,_,_=>none
 |f+1,path,ks,bs=>if path.length<=24 then
   (ir bs).bind λa=>(rdNum a.2).bind λb=>(ve b.1 path ks [] b.2).bind λc=>(rdNum c.2).bind λd=>(uM (sT f) d.1 path (ks++c.1.map dq.name) (-1) d.2).bind λe=>
    if(a.1:Int)=max (gL c.1) e.1/\(path=[]\/0<b.1\/1<d.1)then some (a.1,c.1++e.2.1,e.2.2)else none
  else none
def u9:Nat->List Wd->Wd->Wd->Option (List dq×Wd)
 |0,_,_,bs=>some ([],bs)
 |n+1,ks,last,bs=>(nA ks last bs).bind λx=>(u9 n (ks++[x.1]) x.1 x.2).bind λz=>some (⟨x.1,true,[],0,0⟩::z.1,z.2)
def JA(bs:Wd):Option (List dq×List dq):=
 (rdNum bs).bind λa=>(u9 a.1 [] [] a.2).bind λb=>(ju b.2).bind λc=>if c.1=[]then(sT 26 [] (b.1.map dq.name) c.2).bind λd=>
  if d.2.2=[]/\0<b.1.length+d.2.1.length/\a.1<=100/\d.2.1.length<=30 then some (b.1,d.2.1)else none else none
theorem JL(b:UInt8):u8 (b.toNat:Int)=b:=by
 have h:=b.toNat_lt;unfold u8;rw[show((b.toNat:Int) % 256).toNat=b.toNat by omega];simp
theorem sN(n:Nat)(h:n<256):(u8 (n:Int)).toNat=n:=by
 unfold u8;simp; omega
theorem gW(h:rdNum bs=some (n,r)):bs=u8 n::r/\n<256:=by
 cases bs with
 |nil=>simp[rdNum]at h
 |cons b t=>
  obtain⟨rfl,rfl⟩:=h;exact⟨by rw[JL],b.toNat_lt⟩
theorem rn(n:Nat)(h:n<256)(r:Wd):rdNum (u8 n::r)=some (n,r):=by simp[rdNum,sN n h]
theorem iu{t:Wd}(h:ju bs=some (t,r)):bs=dL t++r/\t.length<256:=by
 unfold ju at h
 cases O:rdNum bs with
 |none=>rw[O]at h; simp at h
 |some x=>
  obtain⟨n,b⟩:=x;obtain⟨rfl,U⟩:=gW O;rw[O]at h;simp only[bZ,pX]at h;split at h
  .obtain⟨rfl,rfl⟩:=h;have W:(b.take n).length=n:=by simp; omega
   refine⟨?_,by omega⟩;unfold dL;rw[W,bd,bf]
  .simp at h
theorem mI(t r:Wd)(h:t.length<256):ju (dL t++r)=some (t,r):=by
 unfold ju dL;rw[bd,rn _ h];simp[pX]
theorem uX(n:Nat)(h:n<16777216):ic (n:Int)=[u8 ((n / 65536:Nat):Int),u8 ((n / 256 % 256:Nat):Int),u8 ((n % 256:Nat):Int)]:=by
 rfl
theorem jR(h:ir bs=some (n,r)):bs=ic n++r/\n<16777216:=by
 match bs,h with
 |a::b::c::t,h=>
  obtain⟨rfl,rfl⟩:=h;have O:=a.toNat_lt;have hb:=b.toNat_lt;have U:=c.toNat_lt;refine⟨?_,by omega⟩;rw[uX _ (by omega)];rw[show(a.toNat*65536+b.toNat*256+c.toNat) / 65536=a.toNat by omega,show(a.toNat*65536+b.toNat*256+c.toNat) / 256 % 256=b.toNat by omega,show(a.toNat*65536+b.toNat*256+c.toNat) % 256=c.toNat by omega,JL,JL,JL];rfl
 |[],h=>simp[ir]at h
 |[_],h=>simp[ir]at h
 |[_,_],h=>simp[ir]at h
theorem qH(n:Nat)(h:n<16777216)(r:Wd):ir (ic n++r)=some (n,r):=by
 rw[uX n h];simp only[bd,aW,ir];rw[sN _ (by omega),sN _ (by omega),sN _ (by omega)];congr 2;omega
theorem wk(l:List dq):∀g:Int,0<=g->l.foldl (λg e=>if g<e.du then e.du else g) g=max g (gL l)/\0<=gL l:=by
 induction l with
 |nil=>simp[gL]; omega
 |cons e l O=>
  intro g hg;have U:=O (if g<e.du then e.du else g) (by split<;>omega);have W:=O (if 0<e.du then e.du else 0) (by split<;>omega);have Y:gL (e::l)=l.foldl .. := rfl;rw[Y,aP,U.1,W.1];constructor
  .split<;>split<;>omega
  .split<;>omega
theorem nF(l:List dq):0<=gL l:=(wk l 0 (by omega)).2
theorem kH(e:dq)(l:List dq):gL (e::l)=max (max 0 e.du) (gL l):=by
 have:=(wk l (if 0<e.du then e.du else 0) (by split<;>omega)).1;rw[show gL (e::l)=l.foldl .. from rfl,this];split<;>omega
theorem nS(l m:List dq):gL (l++m)=max (gL l) (gL m):=by
 induction l with
 |nil=>have:=nF m; simp only[aW]; rw[show gL []=0 from rfl]; omega
 |cons e l O=>rw[bd,kH,kH]; omega
theorem Bj{l m:List dq}(h:l.Perm m):gL l=gL m:=by
 induction h with
 |nil=>rfl
 |cons e _ O=>rw[kH,kH,O]
 |swap a b l=>simp only[kH]; omega
 |trans _ _ U W=>rw[U,W]
def Jt(e:dq):Prop:=e.gone=false/\iL e.name=true/\dU e.text=true/\e.text≠[]/\0<=e.du/\e.du<=1000000/\0<=e.dD/\e.dD<=255
theorem nV{ks:List Wd}{last O:Wd}(h:nA ks last bs=some (O,r)):bs=dL O++r/\iL O=true/\cv last O=true/\O ∉ ks:=by
 obtain⟨x,U,h⟩:=cc.1 h;split at h
 .rename_i W;simp only[cQ]at h;subst h;exact⟨(iu U).1,W⟩
 .simp at h
end
section
open Go.RowKit
theorem bytes_eta(s:ByteArray):s=⟨s.data.toList.toArray⟩:=by simp
def jp(O:List dq)(ss:List (List dq))(name text:Wd)(du dD:Int):Nat×List dq:=
 if iL name=true then
  if dU text=true/\text≠[]then
   if du<0\/1000000<du\/dD<0\/255<dD then(3,O)
   else if 30<=(eO ss O).length/\qo (eO ss O) name=none then(4,O)
   else(0,dJ O [⟨name,false,text,du,dD⟩])
  else(2,O)
 else(1,O)
end
section
open Go.RowKit
variable {l:List dq} {c:UInt8} {path:Wd}
def Part(f:Nat)(path:Wd)(x:UInt8×List dq):Wd:=dL ((mP x.2).drop path.length)++nk f (mP x.2) (fo x.2)
def Oi(O:List (UInt8×List dq)):Prop:=O.Pairwise λa b=>a.1.toNat<b.1.toNat
def AZ(path:Wd)(O:List (UInt8×List dq)):Prop:=∀x∈O,x.2≠[]/\∀e∈x.2,path++[x.1] <+: dF e
def nG(O:List (UInt8×List dq)):List dq:=O.flatMap λx=>x.2
theorem xX(h:∀e∈l,¬path++[c] <+: dF e):jM l path c=[]:=by
 unfold jM;rw[bn];intro e O hb;exact h e O ((nd ..).1 hb)
theorem Qs(h:∀e∈l,path++[c] <+: dF e):jM l path c=l:=by
 unfold jM;rw[b8];intro e O;exact(nd ..).2 (h e O)
theorem GA(l m:List dq)(path:Wd)(c:UInt8):jM (l++m) path c=jM l path c++jM m path c:=by unfold jM; rw[aF]
theorem qM{s:Wd}{d:UInt8}(O:path++[c] <+: s)(U:path++[d] <+: s):c=d:=by
 rw[<-((jT ..).1 O).2.2,((jT ..).1 U).2.2]
theorem OK(path:Wd):∀(O:List (UInt8×List dq)),AZ path O->∀c,(∀x∈O,x.1≠c)->jM (nG O) path c=[]:=by
 intro O W c Y;refine xX λe he hp=>?_;obtain⟨x,U,hm⟩:=aS.1 he;exact Y x U (qM ((W x U).2 e hm) hp)
theorem OA(path:Wd):∀(O:List (UInt8×List dq)),Oi O->AZ path O->∀x∈O,jM (nG O) path x.1=x.2:=by
 intro O
 induction O with
 |nil=>intro _ _ x U; simp at U
 |cons y O ih=>
  intro hH hU x U;have W:=a6.1 hH;have Y:AZ path O:=λz hz=>hU z (by simp[hz]);rw[show nG _=y.2++nG O from rfl,GA];simp only[a0]at U;rcases U with rfl|U
  .rw[Qs (hU x (by simp)).2,OK path O Y _ (λz hz e=>by have:=W.1 z hz; rw[e]at this; omega),bl]
  .rw[xX _,ih W.2 Y x U,aW];intro e he hp;have:=qM ((hU y (by simp)).2 e he) hp;have h2:=W.1 x U;rw[this]at h2; omega
theorem tZ:kP.Pairwise λa b=>a.toNat<b.toNat:=by
 rw[aT];intro i j hi O U;rw[tD,tD];rw[CO]at hi O;simp;omega
theorem Bs(c:UInt8):c∈kP:=by
 exact a9.2 ⟨c.toNat,bi.2 c.toNat_lt,by simp⟩
theorem mL{cs:List UInt8}(h:cs.Pairwise λa b=>a.toNat<b.toNat):cs.Nodup:=h.imp (λh e=>by rw[e]at h; omega)
theorem Cn(p:UInt8->Bool)(cs:List UInt8)(h:cs.Pairwise λa b=>a.toNat<b.toNat)(U:∀c,p c=true↔c∈cs):kP.filter p=cs:=by
 have O:=tZ.filter p;refine ee (le:=λa b=>a.toNat<b.toNat) (λa b _ _ O W=>by omega) O h ?_;rw[bv (mL O) (mL h)];intro c;rw[az,<-U c];exact⟨λh=>h.2,λh=>⟨Bs c,h⟩⟩
theorem MI(h:∀e∈l,dF e≠path):kU l path=[]:=by
 unfold kU;rw[bn];intro e O hb;exact h e O (beq_iff_eq.1 hb)
theorem QB(h:∀e∈l,dF e=path):kU l path=l:=by
 unfold kU;rw[b8];intro e O;exact beq_iff_eq.2 (h e O)
theorem On{O:List (UInt8×List dq)}(h:AZ path O):∀e∈nG O,dF e≠path:=by
 intro e U W;obtain⟨x,Y,hm⟩:=aS.1 U;have:=((jT ..).1 ((h x Y).2 e hm)).2.1;rw[W]at this; omega
theorem Qn(h:∀e∈l,dF e=path)(c:UInt8):jM l path c=[]:=
 xX λe O U=>by have:=((jT ..).1 U).2.1; rw[h e O]at this; omega
theorem Hz(f:Nat)(path:Wd)(own:List dq)(O:List (UInt8×List dq))(h1:jy own)(h2:∀e∈own,dF e=path)(Y:Oi O)(W:AZ path O) :
  nk (f+1) path (fo (own++nG O))=ic (gL (own++nG O))++(u8 own.length::(own.flatMap mY++(u8 O.length::O.flatMap (Part f path)))):=by
 have e1:kU (fo (own++nG O)) path=own:=by
  rw[kU,pW,aF];have a:=QB h2;have b:=MI (On W);unfold kU at a b;rw[a,b,bl,CQ own h1]
 have e2:∀c,jM (fo (own++nG O)) path c=fo (jM (nG O) path c):=by
  intro c;unfold jM;rw[pW,aF];have a:=Qn h2 c;unfold jM at a;rw[a,aW]
 have e3:jP (fo (own++nG O)) path=O.map (·.1):=by
  refine Cn _ _ (bA.2 Y) (λc=>?_);rw[e2,a9];constructor
  .intro h;refine e8 λaa=>?_;rw[OK path O W c (λx U e=>aa ⟨x,U,e⟩)]at h;simp[fo]at h
  .rintro⟨x,U,rfl⟩;rw[OA path O Y W x U];have:=(W x U).1;have hl:=Kk x.2
   cases hq:fo _ with
   |nil=>rw[hq]at hl; cases h:x.2 with
    |nil=>exact absurd h this
    |cons a b=>rw[h]at hl; simp at hl
   |cons a b=>rfl
 rw[nk,e1,e3,Bj (fS _),bT,bQ];congr 4;refine p9 λx U=>?_;rw[e2,OA path O Y W x U];unfold Part
 have:mP (fo _)=mP x.2:=Hw λs=>by
  rw[a9,a9];exact⟨λ⟨e,h,k⟩=>⟨e,mV.1 h,k⟩,λ⟨e,h,k⟩=>⟨e,mV.2 h,k⟩⟩
 rw[this]
def dX(l:List dq):Wd:=u8 ((fo l).filter λe=>e.gone).length::(((fo l).filter λe=>e.gone).flatMap (λe=>dL e.name)++(dL []++nk 26 [] ((fo l).filter λe=>!e.gone)))
def Pz(e:dq):Prop:=Jt e\/(e=⟨e.name,true,[],0,0⟩/\iL e.name=true)
structure ni(l:List dq):Prop where
 each:∀e∈l,Pz e
 nodup:(l.map dq.name).Nodup
 some:l≠[]
 gone:(l.filter λe=>e.gone).length<=100
 there:(l.filter λe=>!e.gone).length<=30
end
section
open Go.RowKit
variable {e:dq} {G:List dq} {c:UInt8} {s:Wd}
theorem gI(h:iL s=true):0<s.length/\s.length<=8:=by
 unfold iL at h;simp only[cw,decide_eq_true_eq]at h;exact⟨h.1.2,h.2⟩
theorem jc(h:dU s=true):s.length<=24:=by
 unfold dU at h;simp only[cw,decide_eq_true_eq]at h;exact h.1
theorem w9(h:iL s=true):cv [] s=true:=by
 have:=(gI h).1
 cases s with
 |nil=>simp at this
 |cons a s=>rfl
theorem tX(h:Jt e):(dF e).length<=24/\0<(dF e).length:=by
 have O:=jc h.2.2.1;have U:=h.2.2.2.1;unfold dF;rw[gf];refine⟨O,?_⟩
 cases W:e.text with
 |nil=>exact absurd W U
 |cons a b=>simp
theorem ub{ks:List Wd}{last O:Wd}(r:Wd)(U:iL O=true)(W:cv last O=true)(Y:O ∉ ks):nA ks last (dL O++r)=some (O,r):=by
 unfold nA;rw[mI O r (by have:=(gI U).2; omega)];simp[U,W,Y]
theorem Ez(e:dq)(h:Jt e)(r:Wd):ki e.name (dL e.text++(ic e.du++(u8 e.dD::r)))=some (e,r):=by
 obtain⟨U,h2,O,W,Y,h6,h7,h8⟩:=h;obtain⟨nm,gn,tx,wt,tg⟩:=e;simp only at U h2 O W Y h6 h7 h8;subst U;obtain⟨n,rfl⟩:=cW Y;obtain⟨m,rfl⟩:=cW h7;have hw:n<=1000000:=by omega
 unfold ki;rw[mI tx _ (by have:=jc O; omega)];simp only[bZ,O,W,ne_eq,not_false_eq_true,and_self,if_true];rw[qH n (by omega)];simp only[bZ,hw,if_true];rw[rn m (by omega)];rfl
theorem Ek(path:Wd):∀(es:List dq)(ks:List Wd)(last rest:Wd),(∀e∈es,Jt e/\dF e=path/\e.name ∉ ks/\cv last e.name=true)->jy es->ve es.length path ks last (es.flatMap mY++rest)=some (es,rest):=by
 intro es
 induction es with
 |nil=>intro ks last rest _ _; rfl
 |cons e es W=>
  intro ks last rest h Y;obtain⟨a1,a2,a3,a4⟩:=h e (by simp);have O:=a6.1 Y
  have e1:(e::es).flatMap mY++rest=dL e.name++(dL e.text++(ic e.du++(u8 e.dD::(es.flatMap mY++rest)))):=by
   simp[mY]
  rw[e1,aC,ve,ub _ a1.2.1 a4 a3];simp only[bZ];rw[Ez e a1];simp only[bZ,a2,if_true];rw[W _ _ _ (λx U=>?_) O.2]
  .rfl
  .obtain⟨b1,b2,b3,b4⟩:=h x (by simp[U]);refine⟨b1,b2,?_,O.1 x U⟩;intro hm;simp only[aB,aD]at hm;rcases hm with hm|hm
   .exact b3 hm
   .exact Bt (O.1 x U) hm.symm
theorem Fg:∀(es:List dq)(ks:List Wd)(last rest:Wd),(∀e∈es,e=⟨e.name,true,[],0,0⟩/\iL e.name=true/\e.name ∉ ks/\cv last e.name=true)->jy es->u9 es.length ks last (es.flatMap (λe=>dL e.name)++rest)=some (es,rest):=by
 intro es
 induction es with
 |nil=>intro ks last rest _ _; rfl
 |cons e es W=>
  intro ks last rest h Y;obtain⟨a1,a2,a3,a4⟩:=h e (by simp);have O:=a6.1 Y;rw[aH,aL,aC,u9,ub _ a2 a4 a3];simp only[bZ];rw[W _ _ _ (λx U=>?_) O.2]
  .simp only[bZ];rw[<-a1]
  .obtain⟨b1,b2,b3,b4⟩:=h x (by simp[U]);refine⟨b1,b2,?_,O.1 x U⟩;intro hm;simp only[aB,aD]at hm;rcases hm with hm|hm
   .exact b3 hm
   .exact Bt (O.1 x U) hm.symm
theorem KY(h:(G.map dq.name).Nodup):G.Nodup:=dj _ (λa b O e=>O (by rw[e])) h
theorem iW{p:Wd}:e∈jM G p c↔e∈G/\p++[c] <+: dF e:=Jx
theorem pI(G:List dq)(p:Wd):(jP G p).Pairwise λa b=>a.toNat<b.toNat:=tZ.filter _
theorem uO{p:Wd}:c∈jP G p↔∃e∈G,p++[c] <+: dF e:=by
 unfold jP;rw[az];constructor
 .rintro⟨_,h⟩
  cases O:jM G p c with
  |nil=>rw[O]at h; simp at h
  |cons e t=>
   have:=iW.1 (show e∈jM G p c by rw[O]; simp);exact⟨e,this⟩
 .rintro⟨e,U,W⟩;refine⟨Bs c,?_⟩;have:=iW.2 ⟨U,W⟩
  cases O:jM G p c with
  |nil=>rw[O]at this; simp at this
  |cons e t=>rfl
theorem Jd{p:Wd}(h:G.Nodup):∀(cs:List UInt8),cs.Nodup->(cs.flatMap (jM G p)).Nodup:=by
 intro cs
 induction cs with
 |nil=>simp
 |cons c cs U=>
  intro W;have O:=aV.1 W;rw[aH,bg];refine⟨h.filter _,U O.2,λa Y b hb e=>?_⟩;subst e;obtain⟨d,hd,hb⟩:=aS.1 hb;have:=qM (iW.1 Y).2 (iW.1 hb).2;subst this;exact O.1 hd
theorem IM{p:Wd}(h:G.Nodup)(U:∀e∈G,p <+: dF e):(kU G p++(jP G p).flatMap (jM G p)).Perm G:=by
 rw[bv _ h]
 .intro e;rw[aB];constructor
  .rintro(h|h)
   .exact(az.1 h).1
   .obtain⟨c,_,h⟩:=aS.1 h;exact(iW.1 h).1
  .intro O;by_cases W:dF e=p
   .exact Or.inl (az.2 ⟨O,beq_iff_eq.2 W⟩)
   .have:=(jT ..).2 ⟨U e O,yH (U e O) W,rfl⟩;exact Or.inr (aS.2 ⟨_,uO.2 ⟨e,O,this⟩,iW.2 ⟨O,this⟩⟩)
 .rw[bg];refine⟨h.filter _,Jd h _ (mL (pI G p)),λa Y b hb e=>?_⟩;subst e;obtain⟨c,_,hb⟩:=aS.1 hb;have h1:=beq_iff_eq.1 (az.1 Y).2;have h2:=((jT ..).1 (iW.1 hb).2).2.1;rw[h1]at h2; omega
theorem ye(h:(G.map dq.name).Nodup){a b:dq}(O:a∈G)(hb:b∈G)(U:a.name=b.name):a=b:=by
 induction G with
 |nil=>simp at O
 |cons x G W=>
  rw[aA,aV]at h;simp only[a0]at O hb;rcases O with rfl|O<;>rcases hb with rfl|hb
  .rfl
  .exact absurd (a9.2 ⟨b,hb,U.symm⟩) h.1
  .exact absurd (a9.2 ⟨a,O,U⟩) h.1
  .exact W h.2 O hb
theorem J3{l:List dq}(h:∀e∈l,e.du<=1000000):gL l<=1000000:=by
 induction l with
 |nil=>simp[gL]
 |cons e l O=>
  have W:=h e (by simp);have Y:=O (λx U=>h x (by simp[U]));rw[kH]; omega
def Ru(node:Wd->List Wd->Wd->Option (Nat×List dq×Wd))(f:Nat):Prop:=
 ∀(path:Wd)(ks:List Wd)(G:List dq)(rest:Wd),jy G->(∀e∈G,Jt e/\path <+: dF e/\e.name ∉ ks)->G.length<=255->(path=[]\/(G≠[]/\mP G=path))->26<=f+path.length->
  ∃es,node path ks (nk f path G++rest)=some ((gL G).toNat,es,rest)/\es.Perm G
theorem FO{node:Wd->List Wd->Wd->Option (Nat×List dq×Wd)}{f:Nat}(hN:Ru node f)(path:Wd)(G:List dq)(hG:jy G)(ag:∀e∈G,Jt e)(hl:G.length<=255)(hf:25<=f+path.length) :
  ∀(cs:List UInt8)(ks:List Wd)(last:Int)(rest:Wd),(cs.Pairwise λa b=>a.toNat<b.toNat)->(∀c∈cs,c∈jP G path/\last<(c.toNat:Int))->(∀e∈cs.flatMap (jM G path),e.name ∉ ks)->
   ∃es,uM node cs.length path ks last (cs.flatMap (λc=>dL ((mP (jM G path c)).drop path.length)++nk f (mP (jM G path c)) (jM G path c))++rest)=some ((gL (cs.flatMap (jM G path))).toNat,es,rest)/\es.Perm (cs.flatMap (jM G path)):=by
 intro cs
 induction cs with
 |nil=>intro ks last rest _ _ _; exact⟨[],rfl,ef _⟩
 |cons c cs ih=>
  intro ks last rest hr hc hk;have aa:=a6.1 hr;obtain⟨ah,ai⟩:=hc c (by simp);have U:=uF ah;rw[<-uK]at U;have Y:=Pl (l:=G) (p:=path++[c]) (by rw[<-uK]; exact U);rw[<-uK]at Y;have aj:=pU U;have ak:jy (jM G path c):=hG.filter _;have ab:∀e∈jM G path c,Jt e/\mP (jM G path c) <+: dF e/\e.name ∉ ks:=λe O=>⟨ag e (iW.1 O).1,aj.1 _ (a9.2 ⟨e,O,rfl⟩),hk e (by rw[aH]; exact bL _ O)⟩;have al:(jM G path c).length<=255:=ci (aI _ _) hl;obtain⟨t,ht⟩:=Y;obtain⟨e0,ad⟩:=aU _ U;have ap:(mP (jM G path c)).length<=24:=ci (ab e0 ad).2.1.length_le (tX (ab e0 ad).1).1
  have ae:∀e∈cs.flatMap (jM G path),e.name ∉ (jM G path c).map dq.name:=by
   intro e O hm;obtain⟨d,hd,O⟩:=aS.1 O;obtain⟨x,hx,am⟩:=a9.1 hm;have:=ye hG.nodup (iW.1 hx).1 (iW.1 O).1 am;subst this;have:=qM (iW.1 hx).2 (iW.1 O).2;have h3:=aa.1 d hd;rw[this]at h3; omega
  have an:∀e∈cs.flatMap (jM G path),e.name ∉ ks:=λe O=>hk e (by rw[aH]; exact List.mem_append_right _ O);have ac:(mP (jM G path c)).drop path.length=c::t:=by rw[<-ht]; simp
  have W:path++c::t=mP (jM G path c):=by rw[<-ht]; simp
  have aq:path.length+1<=(mP (jM G path c)).length:=by rw[<-W]; simp
  obtain⟨e1,h1,af⟩:=hN _ ks _ _ ak ab al (Or.inr ⟨U,rfl⟩) (by omega)
  obtain⟨e2,h2,ao⟩:=ih _ c.toNat rest aa.2 (λd hd=>⟨(hc d (by simp[hd])).1,by have:=aa.1 d hd; omega⟩) (λe O hm=>by
   rw[aB]at hm;rcases hm with hm|hm
   .exact an e O hm
   .exact ae e O ((af.map _).mem_iff.1 hm))
  refine⟨e1++e2,?_,?_⟩
  .rw[aH,aH,aC,uM,ac,aL,aL,mI _ _ (by have:=congrArg bX W; simp at this; simp; omega)];simp only[bZ,List.getD_cons_zero,ne_eq,reduceCtorEq,not_false_eq_true,ai,and_self,if_true,W];rw[h1];simp only[bZ];rw[h2];simp only[bZ,cQ,Prod.mk.injEq,and_true];rw[nS];omega
  .exact af.append ao
theorem Ea:∀f:Nat,Ru (sT f) f:=by
 intro f
 induction f with
 |zero=>
  intro path ks G rest hr hm hl hp hf;rcases hp with rfl|⟨U,hs⟩
  .simp at hf
  .obtain⟨e,O⟩:=aU _ U;have:=(hm e O).2.1.length_le;have:=(tX (hm e O).1).1;omega
 |succ f ih=>
  intro path ks G rest hr hm hl hp hf
  have ai:path.length<=24:=by
   rcases hp with rfl|⟨U,hs⟩
   .simp
   .obtain⟨e,O⟩:=aU _ U;exact ci (hm e O).2.1.length_le (tX (hm e O).1).1
  have eE:=IM (KY hr.nodup) (λe O=>(hm e O).2.1);have ac:=eE.length_eq;rw[a7]at ac
  have ad:∀e∈kU G path,Jt e/\dF e=path/\e.name ∉ ks/\cv [] e.name=true:=λe O=>by
   have h:=az.1 O;exact⟨(hm e h.1).1,beq_iff_eq.1 h.2,(hm e h.1).2.2,w9 (hm e h.1).1.2.1⟩
  have ao:gL G<=1000000:=J3 (λe O=>(hm e O).1.2.2.2.2.2.1);have ap:=nF G
  have aq:(jP G path).length<=((jP G path).flatMap (jM G path)).length:=by
   rw[List.length_flatMap]
   have:∀cs:List UInt8,(∀c∈cs,c∈jP G path)->cs.length<=(cs.map λc=>(jM G path c).length).sum:=by
    intro cs
    induction cs with
    |nil=>intro _; simp
    |cons c cs aj=>
     intro h;have h1:=aj (λd hd=>h d (by simp[hd]));have h2:=uF (h c (by simp));rw[<-uK]at h2;have h3:=b7.2 h2;simp only[aC,aA,aQ]; omega
   exact this _ (λ_ h=>h)
  obtain⟨es,hk,ak⟩:=FO ih path G hr (λe O=>(hm e O).1) hl (by omega) (jP G path) (ks++(kU G path).map dq.name) (-1) rest (pI G path) (λc hc=>⟨hc,by omega⟩) (λe O W=>by
   obtain⟨c,hc,O⟩:=aS.1 O;have aa:=iW.1 O;rw[aB]at W;rcases W with W|W
   .exact(hm e aa.1).2.2 W
   .obtain⟨x,Y,al⟩:=a9.1 W;have ae:=az.1 Y;have:=ye hr.nodup ae.1 aa.1 al;subst this;have h1:=beq_iff_eq.1 ae.2;have h2:=((jT _ _ _).1 aa.2).2.1
    rw[h1]at h2; omega)
  refine⟨kU G path++es,?_,(dt _ ak).trans eE⟩;have hG:((gL G).toNat:Int)=gL G:=by omega
  have e1:nk (f+1) path G++rest=ic (((gL G).toNat:Nat):Int)++(u8 ((kU G path).length:Int)::((kU G path).flatMap mY++(u8 ((jP G path).length:Int)::((jP G path).flatMap (λc=>dL ((mP (jM G path c)).drop path.length)++nk f (mP (jM G path c)) (jM G path c))++rest)))):=by
   rw[hG,nk]; simp
  have an:gL G=max (gL (kU G path)) (gL ((jP G path).flatMap (jM G path))):=by rw[<-nS,Bj eE]
  have ar:=nF (kU G path);have au:=nF ((jP G path).flatMap (jM G path))
  have af:path=[]\/0<(kU G path).length\/1<(jP G path).length:=by
   rcases hp with h|⟨U,hs⟩
   .exact Or.inl h
   .refine Or.inr (e8 λag=>?_);have ho:kU G path=[]:=bc.1 (by omega);have ah:=pU U;rw[hs]at ah;obtain⟨e,O⟩:=aU _ U
    have am:∀x∈G,dF x≠path:=λx Y hk=>by
     have:x∈kU G path:=az.2 ⟨Y,beq_iff_eq.2 hk⟩;rw[ho]at this; simp at this
    have hb:∀x∈G,path++[(dF x).getD path.length 0] <+: dF x:=λx Y=>(jT _ _ _).2 ⟨(hm x Y).2.1,yH (hm x Y).2.1 (am x Y),rfl⟩
    have ab:∀x∈G,(dF x).getD path.length 0=(dF e).getD path.length 0:=by
     intro x Y;have i1:=uO.2 ⟨x,Y,hb x Y⟩;have i2:=uO.2 ⟨e,O,hb e O⟩
     match hh:jP G path with
     |[]=>rw[hh]at i1; simp at i1
     |[d]=>rw[hh]at i1 i2; simp only[aD]at i1 i2; rw[i1,i2]
     |d::d2::ds=>rw[hh]at ag; simp at ag
    have:=ah.2 (path++[(dF e).getD _ 0]) (λs hs=>by
     obtain⟨x,Y,rfl⟩:=a9.1 hs
     rw[<-ab x Y]; exact hb x Y)
    have:=this.length_le;simp at this;omega
  rw[e1,sT,if_pos ai,qH _ (by omega)];simp only[bZ];rw[rn _ (by omega)];simp only[bZ];rw[Ek path _ ks [] _ ad (hr.filter _)];simp only[bZ];rw[rn _ (by omega)];simp only[bZ];rw[hk];simp only[bZ];rw[if_pos ⟨by omega,af⟩]
theorem y6{l:List dq}(h:ni l):∃gs es,JA (dX l)=some (gs,es)/\(gs++es).Perm l:=by
 obtain⟨h1,h2,h3,h4,h5⟩:=h;have hR:=mG l h2;have hp:=fS l;have aa:=hp.filter (λe=>e.gone);have ab:=hp.filter (λe=>!e.gone);have O:((fo l).filter (λe=>e.gone)++(fo l).filter _).Perm l:=(List.filter_append_perm ..).trans hp;have ai:=aa.length_eq;have aj:=ab.length_eq;have ac:jy ((fo l).filter λe=>e.gone):=hR.filter _;have ad:jy ((fo l).filter λe=>!e.gone):=hR.filter _
 have ae:∀e∈(fo l).filter (λe=>e.gone),e=⟨e.name,true,[],0,0⟩/\iL _=true/\e.name ∉ ([])/\cv [] _=true:=λe he=>by
  have hm:=az.1 he;rcases h1 e (mV.1 hm.1)with U|U
  .rw[U.1]at hm; simp at hm
  .exact⟨U.1,U.2,by simp,w9 U.2⟩
 have af:∀e∈(fo l).filter (λe=>!e.gone),Jt e/\([]) <+: dF e/\e.name ∉ ((fo l).filter λe=>e.gone).map _:=λe he=>by
  have hm:=az.1 he;rcases h1 e (mV.1 hm.1)with U|U
  .refine⟨U,aN,λhx=>?_⟩;obtain⟨x,hx,hn⟩:=a9.1 hx;have W:=az.1 hx;have:=ye hR.nodup W.1 hm.1 hn;subst this;have a:=W.2;have b:=hm.2;simp[a]at b
  .rw[U.1]at hm; simp at hm
 unfold dX;generalize (fo l).filter _=gs at *;generalize (fo l).filter _=es at *;obtain⟨ag,hn,Y⟩:=Ea 26 [] _ es [] ad af (by omega) (Or.inl rfl) (by simp);refine⟨gs,ag,?_,(dt _ Y).trans O⟩;have ak:=Y.length_eq;have ah:=O.length_eq;rw[a7]at ah;have al:=b7.2 h3;rw[bl]at hn;unfold JA;rw[rn _ (by omega)];simp only[bZ];rw[Fg gs [] [] _ ae ac];simp only[bZ];rw[mI [] _ (by simp)];simp only[bZ,if_true];rw[hn];simp only[bZ];rw[if_pos ⟨trivial,by omega,by omega,by omega⟩]
end
section
open Go.RowKit
variable {l:List dq} {x:Wd}
theorem uy(h:qo l x=none):x ∉ l.map dq.name:=by
 unfold qo at h;rw[bJ]at h;intro hm;obtain⟨e,O,U⟩:=a9.1 hm;have:=h e O;rw[U]at this;simp at this
theorem pQ(h:x ∉ l.map dq.name):qo l x=none:=by
 unfold qo;rw[bJ];intro e O;rw[beq_eq_false_iff_ne];intro U;exact h (a9.2 ⟨e,O,U⟩)
end
section
open Go.RowKit
def kI(O:List dq)(ss:List (List dq))(name:Wd):Nat×List dq:=
 if iL name=true then
  if qo (eO ss O) name=none then(5,O)
  else if 100<=O.length-(dx O).length then(4,O)
  else(0,dJ O [⟨name,true,[],0,0⟩])
 else(1,O)
end
section
open Go.RowKit
def eY(O:List dq)(ss:List (List dq)):List dq:=if ss.length=0 then dx O else O
def eV(O:List dq)(ss:List (List dq)):Nat×List dq×List (List dq):=
 if O.length=0 then(5,O,ss)else if 6<=ss.length then(4,O,ss)
 else(0,[],if 0<(eY O ss).length then ss++[eY O ss]else ss)
end
section
open Go.RowKit
variable {ss:List (List dq)} {vs:List Value} {E:Value->List dq->Prop}
def Zip(E:Value->List dq->Prop)(vs:List Value)(ss:List (List dq)):Prop:=vs.length=ss.length/\∀i(h:i<ss.length),∃u,vs[i]?=some u/\E u ss[i]
theorem Zip.nil(E:Value->List dq->Prop):Zip E [] []:=⟨rfl,nofun⟩
theorem Zip.one{u:Value}{l:List dq}(h:E u l):Zip E [u] [l]:=⟨rfl,λi hi=>by
 have:=by simp at hi; omega
 subst this
 exact⟨u,rfl,h⟩⟩
theorem Zip.append{vt:List Value}{st:List (List dq)}(U:Zip E vs ss)(h2:Zip E vt st):Zip E (vs++vt) (ss++st):=by
 refine⟨by rw[a7,a7,U.1,h2.1],λi hi=>?_⟩;by_cases O:i<ss.length
 .obtain⟨u,W,Y⟩:=U.2 i O;exact⟨u,by rw[bI (by rw[U.1]; exact O)]; exact W,by rw[List.getElem_append_left O]; exact Y⟩
 .have PT:i-ss.length<st.length:=by rw[a7]at hi; omega
  obtain⟨u,W,Y⟩:=h2.2 _ PT;refine⟨u,?_,?_⟩
  .rw[List.getElem?_append_right (by rw[U.1]; omega),U.1]; exact W
  .rw[List.getElem_append_right (by omega)]; exact Y
theorem Zip.mono{E':Value->List dq->Prop}(h:Zip E vs ss)(O:∀u l,E u l->E' u l):Zip E' vs ss:=⟨h.1,λi hi=>by
 obtain⟨u,U,W⟩:=h.2 i hi
 exact⟨u,U,O u _ W⟩⟩
def iQ(ss:List (List dq))(n:Nat):List dq:=if n=0 then dx (dJ (ss.getD n []) (ss.getD (n+1) []))else dJ (ss.getD n []) (ss.getD (n+1) [])
def eP(ss:List (List dq))(n:Int):Nat×List (List dq):=
 if n<0\/(ss.length:Int)-1<=n then(6,ss)
 else if 100<(iQ ss n.toNat).length-(dx (iQ ss n.toNat)).length then(4,ss)
 else(0,ss.take n.toNat++((if 0<(iQ ss n.toNat).length then [iQ ss n.toNat]else [])++ss.drop (n.toNat+2)))
end
section
open Go.RowKit
def DG(a b:dq):Prop:=cv (dF a) (dF b)=true\/(dF a=dF b/\cv a.name b.name=true)
def gC(l:List dq):Prop:=l.Pairwise DG
def eW(d:Nat)(e:dq):UInt8:=(dF e).getD d 0
def iK(L:List dq)(d:Nat):Nat:=(L.takeWhile λe=>(dF e).length==d).length
def runs(d:Nat):List dq->List (List dq)
 |[]=>[]
 |e::l=>match runs d l with
  |[]=>[[e]]
  |[]::gs=>[e]::gs
  |(x::g)::gs=>if eW d e=eW d x then(e::x::g)::gs else [e]::(x::g)::gs
def iq(C:List dq):Wd:=match C with
 |[]=>[]
 |e::C=>sI (dF e) (dF ((e::C).getLast (by simp)))
def gT:Nat->Nat->List dq->Wd
 |0,_,_=>[]
 |f+1,d,L=>ic (gL L)++(u8 (iK L d)::((L.take (iK L d)).flatMap mY++(u8 (runs d (L.drop (iK L d))).length::(runs d (L.drop (iK L d))).flatMap λC=>dL ((iq C).drop d)++gT f (iq C).length C)))
theorem Cq{a b:dq}(h:DG a b):cv (dF b) (dF a)=false:=by
 rcases h with h|h
 .exact pZ h
 .rw[h.1]; exact ij _
theorem JY:∀(r a b c:Wd),r <+: a->r <+: c->cv b a=false->cv c b=false->r <+: b
 |[],_,_,_,_,_,_,_=>aN
 |x::r,[],_,_,h,_,_,_=>by simp at h
 |x::r,_::_,_,[],_,h,_,_=>by simp at h
 |x::r,y::a,[],z::c,_,_,O,_=>by simp[cv]at O
 |x::r,y::a,w::b,z::c,h1,h2,O,U=>by
  have g1:=aJ.1 h1
  have g2:=aJ.1 h2;simp only[cv,cz,c6,decide_eq_false_iff_not,beq_iff_eq]at O U;obtain⟨W,Y⟩:=g1;obtain⟨aa,ab⟩:=g2;subst W;subst aa
  have e:w=x:=by
   have a1:=O.1;have a2:=U.1;apply cT.1;simp only[cS]at a1 a2;omega
  subst e;exact aJ.2 ⟨rfl,JY r a b c Y ab (O.2 rfl) (U.2 rfl)⟩
theorem ND:∀(C:List dq),C≠[]->gC C->mP C=iq C:=by
 intro C W Y
 cases C with
 |nil=>exact absurd rfl W
 |cons e C=>
  refine Rh (by simp) ⟨λs h=>?_,λr U=>?_⟩
  .obtain⟨x,O,rfl⟩:=a9.1 h;have hl:=rp (dF e) (dF ((e::C).getLast (by simp)));have U:=p8 (dF e) (dF ((e::C).getLast (by simp)))
   have ha:x=e\/DG e x:=by
    simp only[a0]at O;rcases O with rfl|O
    .exact Or.inl rfl
    .exact Or.inr ((a6.1 Y).1 x O)
   have hb:x=(e::C).getLast (by simp)\/DG x ((e::C).getLast (by simp)):=by
    obtain⟨i,hi,rfl⟩:=List.mem_iff_getElem.1 O;rw[List.getLast_eq_getElem];by_cases h:i=(e::C).length-1
    .simp[h]
    .right;exact aT.1 Y i _ hi _ (by omega)
   have h1:cv (dF x) (dF e)=false:=by
    rcases ha with rfl|h
    .exact ij _
    .exact Cq h
   have h2:cv (dF ((e::C).getLast (by simp))) (dF x)=false:=by
    rcases hb with h|h
    .rw[<-h]; exact ij _
    .exact Cq h
   exact JY _ _ _ _ hl U h1 h2
  .exact rE _ _ _ (U _ (a9.2 ⟨e,by simp,rfl⟩)) (U _ (a9.2 ⟨_,List.getLast_mem _,rfl⟩))
theorem Nr{p s:Wd}(h:p <+: s)(U:s≠p):cv p s=true:=by
 rcases il p s with O|O|O
 .exact O
 .exact absurd O.symm U
 .exfalso;obtain⟨t,rfl⟩:=h;clear U
  induction p with
  |nil=>cases t<;>simp[cv]at O
  |cons a p W=>
   simp only[bd,cv,cy,decide_eq_true_eq,cw,beq_self_eq_true,true_and]at O;rcases O with O|O
   .simp at O
   .exact W O
theorem QW{p a b:Wd}(W:p <+: a)(hb:p <+: b)(O:p.length<a.length)(U:p.length<b.length)(h:cv b a=false):(a.getD p.length 0).toNat<=(b.getD p.length 0).toNat:=by
 obtain⟨s,rfl⟩:=W;obtain⟨t,rfl⟩:=hb
 induction p with
 |nil=>
  cases s with
  |nil=>simp at O
  |cons x s=>
   cases t with
   |nil=>simp at U
   |cons y t=>
    simp only[aW,cv,cz,decide_eq_false_iff_not,cS]at h;simp;omega
 |cons x p Y=>
  simp only[bd,cv,cz,c6,decide_eq_false_iff_not,beq_self_eq_true,true_implies]at h;have:=Y (by simpa using O) (by simpa using U) h.2;simpa using this
theorem zQ{p:Wd}{L:List dq}(hL:gC L)(W:∀e∈L,p <+: dF e):(∀e∈L.take (iK L p.length),dF e=p)/\∀e∈L.drop (iK L p.length),dF e≠p:=by
 have e1:L.take (iK L p.length)=L.takeWhile λe=>(dF e).length==p.length:=by
  unfold iK;conv=>lhs; arg 2; rw[<-aY (p:=λe=>(dF e).length==p.length) (l:=L)]
  rw[List.take_left]
 have e2:L.drop (iK L p.length)=L.dropWhile λe=>(dF e).length==p.length:=by
  unfold iK;conv=>lhs; arg 2; rw[<-aY (p:=λe=>(dF e).length==p.length) (l:=L)]
  rw[List.drop_left]
 rw[e1,e2];refine⟨λe O=>?_,λe O Y=>?_⟩
 .have h1:=NK L e O;have h2:=W e ((b5 _).mem O);exact(h2.eq_of_length (by simpa using(beq_iff_eq.1 h1).symm)).symm
 .have hs:gC (L.dropWhile λe=>(dF e).length==p.length):=di (b6 _) hL;have hm:∀e∈L.dropWhile (λe=>(dF e).length==p.length),p <+: dF e:=λe O=>W e ((b6 _).mem O);have hd:=Jr (p:=λe=>(dF e).length==p.length) L;generalize L.dropWhile _=B at *
  cases B with
  |nil=>simp at O
  |cons b B=>
   have hb:=hd b B rfl;have U:dF b≠p:=λh=>by rw[h]at hb; simp at hb
   simp only[a0]at O;rcases O with rfl|O
   .exact U Y
   .have:=Cq ((a6.1 hs).1 e O);rw[Y,Nr (hm b (by simp)) U]at this;cases this
theorem za(p:Wd):∀(L:List dq),gC L->(∀e∈L,p <+: dF e/\dF e≠p)->∃W:List (UInt8×List dq),runs p.length L=W.map (·.2)/\Oi W/\AZ p W/\nG W=L/\(∀x∈W,gC x.2)/\∀x∈W,∃e g,x.2=e::g/\x.1=eW p.length e:=by
 intro L
 induction L with
 |nil=>intro _ _; exact⟨[],rfl,List.Pairwise.nil,λ_ h=>by simp at h,rfl,λ_ h=>by simp at h,λ_ h=>by simp at h⟩
 |cons e L ih=>
  intro hL hp;have aa:=a6.1 hL;obtain⟨W,h1,h2,h3,h4,h5,h6⟩:=ih aa.2 (λx U=>hp x (by simp[U]));have ab:p++[eW p.length e] <+: dF e:=(jT _ _ _).2 ⟨(hp e (by simp)).1,yH (hp e (by simp)).1 (hp e (by simp)).2,rfl⟩
  cases W with
  |nil=>
   refine⟨[(eW p.length e,[e])],?_,bz _ _,?_,?_,?_,?_⟩
   .rw[runs,h1]; rfl
   .intro x U; simp at U; subst U;exact⟨by simp,λy Y=>by simp at Y; subst Y; exact ab⟩
   .simp only[nG,List.flatMap_nil]at h4; rw[<-h4]; rfl
   .intro x U; simp at U; subst U; exact bz _ _
   .intro x U; simp at U; subst U; exact⟨e,[],rfl,rfl⟩
  |cons y W=>
   obtain⟨x,g,Y,ac⟩:=h6 y (by simp);obtain⟨yc,yg⟩:=y;simp only at Y ac;subst Y;subst ac;have ad:runs p.length L=(x::g)::W.map (·.2):=h1;by_cases hb:eW p.length e=eW p.length x
   .refine⟨(eW p.length e,e::x::g)::W,?_,?_,?_,?_,?_,?_⟩
    .rw[runs,ad]; simp[hb]
    .have:=a6.1 h2;exact a6.2 ⟨λz O=>by have:=this.1 z O; rw[hb]; exact this,this.2⟩
    .intro z O;simp only[a0]at O;rcases O with rfl|O
     .refine⟨by simp,λw hw=>?_⟩;rcases a0.1 hw with rfl|hw
      .exact ab
      .show p++[eW p.length e] <+: dF w;rw[hb]; exact(h3 (eW _ x,x::g) (by simp)).2 w hw
     .exact h3 z (by simp[O])
    .rw[<-h4]; rfl
    .intro z O;simp only[a0]at O;rcases O with rfl|O
     .refine a6.2 ⟨λw hw=>aa.1 w ?_,h5 (eW p.length x,x::g) (by simp)⟩;rw[<-h4]; exact bL _ hw
     .exact h5 z (by simp[O])
    .intro z O;simp only[a0]at O;rcases O with rfl|O
     .exact⟨e,x::g,rfl,rfl⟩
     .exact h6 z (by simp[O])
   .refine⟨(eW p.length e,[e])::(eW p.length x,x::g)::W,?_,?_,?_,?_,?_,?_⟩
    .rw[runs,ad]; simp[hb]
    .have U:x∈L:=by rw[<-h4]; simp[nG]
     have ae:(eW p.length e).toNat<(eW p.length x).toNat:=by
      have a1:=hp e (by simp);have a2:=hp x (by simp[U]);have:=QW a1.1 a2.1 (yH a1.1 a1.2) (yH a2.1 a2.2) (Cq (aa.1 x U));have af:(eW _ e).toNat≠(eW _ x).toNat:=λh=>hb (cT.1 h);unfold eW at *;omega
     refine a6.2 ⟨λz O=>?_,h2⟩;simp only[a0]at O;rcases O with rfl|O
     .exact ae
     .have:=(a6.1 h2).1 z O;exact Nat.lt_trans ae this
    .intro z O;rw[a0]at O;rcases O with rfl|O
     .exact⟨by simp,λy Y=>by simp at Y; subst Y; exact ab⟩
     .exact h3 z O
    .rw[<-h4]; rfl
    .intro z O;rw[a0]at O;rcases O with rfl|O
     .exact bz ..
     .exact h5 z O
    .intro z O;rw[a0]at O;rcases O with rfl|O
     .exact⟨e,[],rfl,rfl⟩
     .exact h6 z O
theorem FT{p:Wd}{l:List dq}(h:gC l)(O:∀e∈l,dF e=p):jy l:=by
 refine dk (fun {a b} ha hb h=>?_) h;rcases h with h|h
 .rw[O a ha,O b hb,ij]at h; cases h
 .exact h.2
theorem QD:∀(f:Nat)(p:Wd)(L:List dq),gC L->(∀e∈L,p <+: dF e)->gT f p.length L=nk f p (fo L):=by
 intro f
 induction f with
 |zero=>intro p L _ _; rfl
 |succ f ih=>
  intro p L hL hp;obtain⟨h1,h2⟩:=zQ hL hp;have aa:gC (L.drop (iK L p.length)):=di (List.drop_sublist ..) hL;have ab:gC (L.take (iK L p.length)):=di (List.take_sublist ..) hL;obtain⟨hs,r1,r2,r3,r4,r5,r6⟩:=za p _ aa (λe he=>⟨hp e (bp he),h2 e he⟩);have O:L.take (iK L p.length)++nG hs=L:=by rw[r4,bf]
  have hb:=Hz f p _ hs (FT ab h1) h1 r2 r3;rw[O]at hb
  have U:(L.take (iK L p.length)).length=iK L p.length:=by
   have:iK L p.length<=L.length:=(b5 _).length_le;simp; omega
  rw[hb,gT,r1,bT,U,bQ];congr 4;refine p9 λx hx=>?_;have W:=(r3 x hx).1;have Y:=ND _ W (r5 x hx);unfold Part;rw[Y,ih _ _ (r5 x hx) (λe he=>?_)];rw[<-Y];exact(pU W).1 _ (a9.2 ⟨e,he,rfl⟩)
end
section
open Go.RowKit
variable {e:dq} {a b l:List dq} {x:Wd}
def names(l:List dq):List Wd:=l.map dq.name
theorem ii:jg l e=true↔e.name ∉ names l:=by
 unfold jg names;constructor
 .intro h;refine uy ?_
  cases O:qo l _ with
  |none=>rfl
  |some i=>rw[O]at h; simp at h
 .intro h;rw[pQ h]; rfl
theorem kL:e∈dJ a b↔(e∈a/\e.name ∉ names b)\/e∈b:=by
 unfold dJ;rw[aB,az,ii]
theorem oN:x∈names l↔∃e∈l,e.name=x:=by unfold names; rw[a9]
theorem Hc:x∈names (dJ a b)↔x∈names a\/x∈names b:=by
 rw[oN,oN,oN];constructor
 .rintro⟨e,O,rfl⟩;rcases kL.1 O with h|h
  .exact Or.inl ⟨e,h.1,rfl⟩
  .exact Or.inr ⟨e,h,rfl⟩
 .rintro(⟨e,O,rfl⟩|⟨e,O,rfl⟩)
  .by_cases h:e.name∈names b
   .obtain⟨f,U,W⟩:=oN.1 h;exact⟨f,kL.2 (Or.inr U),W⟩
   .exact⟨e,kL.2 (Or.inl ⟨O,h⟩),rfl⟩
  .exact⟨e,kL.2 (Or.inr O),rfl⟩
theorem pT(O:(a.map dq.name).Nodup)(hb:(b.map dq.name).Nodup):((dJ a b).map dq.name).Nodup:=by
 unfold dJ;rw[aO,bg];refine⟨O.sublist (ba.map _),hb,?_⟩;intro x U y W e;subst e;obtain⟨f,Y,rfl⟩:=a9.1 U;exact(ii.1 (az.1 Y).2) W
theorem mJ(O:(a.map dq.name).Nodup):((dx a).map dq.name).Nodup:=O.sublist (ba.map _)
theorem Fe{c:List dq}(h:∀x,x∈names b↔x∈names c)(e:dq):jg b e=jg c e:=by
 rw[cx,ii,ii,h]
theorem Kg{O U:List dq}(Y:a.Perm O)(W:b.Perm U):(dJ a b).Perm (dJ O U):=by
 refine ei ?_ W;have:a.filter _=a.filter _:=aX λe _=>Fe (λx=>(W.map _).mem_iff) e;rw[this];exact Y.filter _
theorem wv(h:a.Perm b):(dx a).Perm (dx b):=h.filter _
theorem qa(a b c:List dq):dJ (dJ a b) c=dJ a (dJ b c):=by
 have h:∀e,jg (dJ b c) e=(jg b e&&jg c e):=by
  intro e;rw[cx,cw,ii,ii,ii,Hc];exact not_or
 unfold dJ at h⊢;rw[aF,aK,aL];congr 1;refine aX λe _=>?_;rw[h e,c5]
theorem mh(a:List dq):dJ [] a=a:=by simp[dJ]
theorem oR(a:List dq):dJ a []=a:=by
 unfold dJ;rw[bl,b8];intro e _;exact ii.2 (by simp[names])
theorem s8(a b:List dq):dx (dJ (dx a) b)=dx (dJ a b):=by
 unfold dx dJ;rw[aF,aF,aK,aK];congr 1;rw[aK];refine aX λe _=>?_;cases e.gone<;>simp
theorem jW(a:List dq):dx (dx a)=dx a:=by
 unfold dx;rw[aK];refine aX λe _=>?_;cases e.gone<;>simp
theorem Gj(L:List (List dq)):∀a:List dq,dx (L.foldl dJ (dx a))=dx (L.foldl dJ a):=by
 induction L with
 |nil=>intro a; exact jW a
 |cons b L O=>
  intro a;rw[aP,aP,<-O _,s8,O]
def fX(L:List (List dq)):List dq:=L.foldl dJ []
theorem ll(L M:List (List dq)):fX (L++M)=M.foldl dJ (fX L):=by unfold fX; rw[bw]
theorem fj(L:List (List dq))(b:List dq):fX (L++[b])=dJ (fX L) b:=by rw[ll]; rfl
theorem zN(ss:List (List dq))(k:Nat):lR ss k=fX (ss.take k):=rfl
theorem fP(ss:List (List dq))(O:List dq):eO ss O=dx (fX (ss++[O])):=by
 unfold eO;rw[fj,zN,aR]
theorem lu(a b:List dq):(dx b).length<=(dx (dJ a b)).length:=by
 unfold dJ dx;rw[aF,a7];omega
theorem oP(a:List dq):(dx a).length<=a.length:=aI ..
theorem jv(l:List dq):l.length-(dx l).length=(l.filter λe=>e.gone).length:=by
 have h:∀l,(l.filter λe=>e.gone).length+(dx l).length=l.length:=by
  intro l;unfold dx
  induction l with
  |nil=>rfl
  |cons e l O=>
   cases h:e.gone<;>simp[h]<;>omega
 have:=h l;omega
structure Inv(buf:List dq)(ss:List (List dq)):Prop where
 each:∀e∈buf,Pz e
 nodup:(buf.map dq.name).Nodup
 gone:(buf.filter λe=>e.gone).length<=100
 jf:∀s∈ss,ni s
 qk:ss.length<=6
 there:∀k,k<=ss.length->(dx (fX (ss.take k))).length<=30
 all:(eO ss buf).length<=30
theorem Je:Inv [] []:=⟨nofun,List.Pairwise.nil,by simp,nofun,by simp,λk _=>by simp[fX,dx],by simp[eO,lR,dJ,dx]⟩
theorem sy(O:List dq)(e:dq):((dJ O [e]).filter λe=>e.gone).length<=(O.filter λe=>e.gone).length+(if e.gone then 1 else 0):=by
 unfold dJ
 have U:(O.filter λx=>x.gone&&jg [e] x).length<=(O.filter λx=>x.gone).length:=by
  rw[show(O.filter _)=(O.filter λx=>x.gone).filter _ by rw[aK]; exact aX λx _=>c5 ..];exact aI ..
 cases h:e.gone<;>simp[h]<;>omega
theorem Inv.F6{O:List dq}{ss:List (List dq)}(h:Inv O ss)(W:Pz e)(Y:((dJ O [e]).filter λe=>e.gone).length<=100)(ha:(eO ss (dJ O [e])).length<=30):Inv (dJ O [e]) ss where
 each:=λx hx=>by
  rcases kL.1 hx with U|U
  .exact h.each x U.1
  .simp only[aD]at U; subst U; exact W
 nodup:=pT h.nodup (by simp);gone:=Y;jf:=h.jf;qk:=h.qk;there:=h.there;all:=ha
theorem qE(ss:List (List dq))(O:List dq)(e:dq):eO ss (dJ O [e])=dx (dJ (fX (ss++[O])) [e]):=by
 rw[fP,fj,fj,qa]
theorem pP(T:List dq)(e:dq):dx (dJ T [e])=(dx T).filter (jg [e])++dx [e]:=by
 unfold dx dJ;rw[aF,aK,aK];congr 1;exact aX λx _=>c5 ..
theorem JE{O:List dq}{ss:List (List dq)}(h:Inv O ss)(name text:Wd)(du dD:Int):Inv (jp O ss name text du dD).2 ss:=by
 unfold jp;split
 .rename_i hn;split
  .rename_i ht;split
   .exact h
   .split
    .exact h
    .rename_i hm;refine h.F6 (Or.inl ⟨rfl,hn,ht.1,ht.2,by simp; omega,by simp; omega,by simp; omega,by simp; omega⟩) ?_ ?_
     .have:=sy O ⟨name,false,text,du,dD⟩;have:=h.gone;simp only[c7,if_false]at *;omega
     .rw[qE,pP,a7];have e1:(dx [(⟨name,false,text,du,dD⟩)]).length=1:=rfl;have ha:=h.all;rw[fP]at ha hm;generalize dx _=T at *;by_cases U:30<=T.length
      .have W:=λW=>hm ⟨U,W⟩
       have Y:name∈names T:=by
        by_cases hc:name∈names T
        .exact hc
        .exact absurd (pQ hc) W
       obtain⟨x,hx,aa⟩:=oN.1 Y
       have:(T.filter (jg [⟨name,false,text,du,dD⟩])).length<T.length:=by
        rw[List.length_filter_lt_length_iff_exists];refine⟨x,hx,?_⟩;rw[ii];simp[names,aa]
       omega
      .have:=aI (jg [⟨name,false,text,du,dD⟩]) T;omega
  .exact h
 .exact h
theorem J9{O:List dq}{ss:List (List dq)}(h:Inv O ss)(name:Wd):Inv (kI O ss name).2 ss:=by
 unfold kI;split
 .rename_i U;split
  .exact h
  .split
   .exact h
   .rename_i W;rw[jv]at W;refine h.F6 (Or.inr ⟨rfl,U⟩) ?_ ?_
    .have:=sy O ⟨name,true,[],0,0⟩;simp only[if_true]at this;omega
    .rw[qE,pP,a7];have e1:(dx [(⟨name,true,[],0,0⟩)]).length=0:=rfl;have Y:=h.all;rw[fP]at Y;have:=aI (jg [⟨name,true,[],0,0⟩]) (dx (fX (ss++[O])));omega
 .exact h
theorem sF(l:List dq):((dx l).filter λe=>e.gone)=[]:=by
 rw[bn];intro e O;have:=(az.1 O).2;simpa using this
theorem yP(U:∀e∈l,Pz e)(W:(l.map dq.name).Nodup)(O:0<l.length)(Y:(l.filter λe=>e.gone).length<=100)(h5:(dx l).length<=30):ni l:=
 ⟨U,W,λe=>by rw[e]at O; simp at O,Y,h5⟩
theorem AD{W:List dq}{ss:List (List dq)}(h:Inv W ss):Inv (eV W ss).2.1 (eV W ss).2.2:=by
 unfold eV;split
 .exact h
 .split
  .exact h
  .have U:∀O,(∀s∈O,ni s)->O.length<=6->(∀k,k<=O.length->(dx _).length<=30)->Inv [] O:=λO g1 g2 g3=>
    ⟨nofun,List.Pairwise.nil,by simp,g1,g2,g3,by
      rw[fP,fj,oR]
      have:=g3 _ (cd _)
      rw[aR]at this
      exact this⟩
   have fv:=h.all;rw[fP,fj]at fv;have Y:=ci (lu ..) fv;split
   .rename_i hpos;refine U _ ?_ (by simp; omega) ?_
    .intro s hs;rcases aB.1 hs with h1|h1
     .exact h.jf s h1
     .simp only[aD]at h1;subst h1;unfold eY at hpos⊢;split
      .rename_i h0;rw[if_pos h0]at hpos;refine yP (λe he=>h.each e (az.1 he).1) (mJ h.nodup) hpos ?_ ?_
       .rw[sF]; simp
       .rw[jW]; exact Y
      .rename_i h0;rw[if_neg h0]at hpos;exact yP h.each h.nodup hpos h.gone Y
    .intro k hk;by_cases aa:k<=ss.length
     .rw[bF aa];exact h.there k aa
     .rw[bm (by simp; omega),fj];unfold eY;split
      .rename_i h0;have:=bc.1 h0;subst this;show(dx (dJ [] _)).length<=30;rw[mh,jW];exact Y
      .exact fv
   .exact U ss h.jf h.qk h.there
theorem wq(L M:List (List dq))(a b:List dq):fX (L++[dJ a b]++M)=fX (L++[a,b]++M):=by
 rw[ll _ M,ll _ M,fj];rw[show L++[a,b]=(L++[a])++[b] by simp,fj,fj,qa]
def Hl(n:Nat)(a b:List dq):List dq:=if n=0 then dx (dJ a b)else dJ a b
def oD(n:Nat)(a b:List dq):List (List dq):=if 0<(Hl n a b).length then [Hl n a b]else []
theorem Ji{n:Nat}{s:List dq}(h:s∈oD n a b):s=Hl n a b/\0<s.length:=by
 unfold oD at h;split at h
 .rename_i O;simp only[aD]at h;subst h;exact⟨rfl,O⟩
 .simp at h
theorem th(L X:List (List dq))(a b:List dq):dx (fX (L++(oD L.length a b++X)))=dx (fX (L++([a,b]++X))):=by
 unfold oD Hl;by_cases O:L.length=0
 .have:=bc.1 O;subst this;simp only[br,if_true,aW]
  have U:fX ([a,b]++X)=X.foldl dJ (dJ a b):=by
   show X.foldl dJ _=_;rw[mh]
  rw[U,<-Gj X _];split
  .show dx (X.foldl dJ _)=_;rw[mh]
  .have:dx (dJ a b)=[]:=bc.1 (by omega);rw[this];rfl
 .rw[if_neg O];split
  .rw[<-aL,<-aL,wq]
  .have W:dJ a b=[]:=bc.1 (by omega);have e:=wq L X a b;rw[W]at e
   have Y:fX (L++[[]]++X)=fX (L++([]++X)):=by
    rw[ll,fj,oR,aW,ll]
   rw[<-Y,e,aL]
theorem BX(ss:List (List dq))(n:Nat)(h:n+1<ss.length):ss=ss.take n++([ss.getD n [],ss.getD (n+1) []]++ss.drop (n+2)):=by
 have O:ss.getD n []=ss[n]:=by rw[ay,a5 _]; rfl
 have U:ss.getD (n+1) []=ss[n+1]:=by rw[ay,a5 _]; rfl
 rw[O,U]
 have W:ss.drop n=ss[n]::ss[n+1]::ss.drop (n+2):=by
  rw[aM _,aM _]
 have:=bf n ss;rw[W]at this;exact this.symm
theorem yX(ss:List (List dq))(n:Nat):(if 0<(iQ ss n).length then [iQ ss n]else [])=oD n (ss.getD n []) (ss.getD (n+1) []):=rfl
theorem vq(ss:List (List dq))(n:Nat)(h:n+1<ss.length)(Y:List (List dq)):dx (fX ((ss.take n++(oD n (ss.getD n []) (ss.getD (n+1) [])++ss.drop (n+2)))++Y))=dx (fX (ss++Y)):=by
 have O:(ss.take n).length=n:=by simp; omega
 have e:=th (ss.take n) (ss.drop (n+2)++Y) (ss.getD n []) (ss.getD (n+1) []);rw[O]at e;conv=>rhs; rw[BX ss n h]
 simp only[aL]at e⊢;exact e
theorem Jo(n:Nat)(a b:List dq):(oD n a b).length<=1:=by unfold oD; split<;>simp
theorem oL{α:Type}(A B:List α)(k:Nat)(h:A.length<=k):(A++B).take k=A++B.take (k-A.length):=by
 rw[List.take_append,bm h]
theorem Bg{O:List dq}{ss:List (List dq)}(h:Inv O ss)(n:Int):Inv O (eP ss n).2:=by
 unfold eP;split
 .exact h
 .split
  .exact h
  .rename_i hn hg;obtain⟨m,rfl⟩:∃m:Nat,n=(m:Int):=⟨n.toNat,by omega⟩;have hm:m+1<ss.length:=by omega
   rw[Int.toNat_natCast]at *;rw[yX]at *;show Inv O (ss.take m++(oD m (ss.getD m []) (ss.getD (m+1) [])++ss.drop (m+2)));have aa:=BX ss m hm;have af:=vq ss m hm [O]
   have U:ss.getD m []∈ss/\ss.getD (m+1) []∈ss:=by
    rw[ay,ay,a5 (by omega),a5 hm];exact⟨aG _,aG _⟩
   have hA:ni (ss.getD m []):=h.jf _ U.1;have hB:ni (ss.getD (m+1) []):=h.jf _ U.2;change ¬100<(Hl m (ss.getD m []) (ss.getD (m+1) [])).length-(dx (Hl m (ss.getD m []) (ss.getD (m+1) []))).length at hg;clear U;generalize ss.getD m []=A at *;generalize ss.getD (m+1) []=B at *;have ah:=Jo m A B
   have ab:(dx (dJ A B)).length<=30:=by
    have W:=h.there (m+2) (by omega)
    have e:ss.take (m+2)=ss.take m++[A,B]:=by
     conv=>lhs; rw[aa]
     rw[oL _ _ _ (by simp; omega)];have:(ss.take m).length=m:=by simp; omega
     rw[this,show m+2-m=2 by omega];simp
    rw[e,show ss.take m++[A,B]=(ss.take m++[A])++[B] by simp,fj,fj,qa]at W;exact ci (lu _ _) W
   refine⟨h.each,h.nodup,h.gone,?_,?_,?_,?_⟩
   .intro s hs;rcases aB.1 hs with h1|h1
    .exact h.jf s (bo h1)
    .rcases aB.1 h1 with h1|h1
     .obtain⟨h1,ac⟩:=Ji h1
      .rw[<-h1,jv]at hg;unfold Hl at h1
       have ad:∀e∈s,e∈dJ (A) (B):=by
        intro e Y;rw[h1]at Y;split at Y
        .exact(az.1 Y).1
        .exact Y
       have ae:=pT hA.nodup hB.nodup;refine yP (λe Y=>?_) ?_ ac (by omega) ?_
       .rcases kL.1 (ad e Y)with W|W
        .exact hA.each e W.1
        .exact hB.each e W
       .rw[h1];split
        .exact mJ ae
        .exact ae
       .rw[h1];split
        .rw[jW]; exact ab
        .exact ab
     .exact h.jf s (bp h1)
   .have:=h.qk;simp only[a7,bP,bE];omega
   .intro k hk;by_cases ag:k<=m
    .rw[bF (by simp; omega),bW,cr ag];exact h.there k (by omega)
    .have e0:(ss.take m).length=m:=by simp; omega
     rw[oL _ _ _ (by omega),e0,oL _ _ _ (by omega)];have e:=th (ss.take m) ((ss.drop (m+2)).take (k-m-(oD m A B).length)) (A) (B);rw[e0]at e;rw[e]
     have e4:ss.take m++([A,B]++(ss.drop (m+2)).take (k-m-(oD m A B).length))=ss.take (m+2+(k-m-(oD m A B).length)):=by
      conv=>rhs; rw[aa]
      rw[oL _ _ _ (by omega),oL _ _ _ (by simp; omega)];simp;omega
     rw[e4];refine h.there _ ?_;simp only[a7,bP,bE]at hk;omega
   .rw[fP,af,<-fP];exact h.all
end
section
open Go.RowKit
def Jg(e:dq):Prop:=e.name.length<=1048576/\e.text.length<=1048576/\(-9223372036854775808<=e.du/\e.du<=9223372036854775807)/\-9223372036854775808<=e.dD/\e.dD<=9223372036854775807
theorem NV{e:dq}(h:Jg e):(mY e).length<=2097160:=by
 have O:=h.1;have U:=h.2.1;simp[mY,dL,ic]; omega
theorem N'(m:List dq)(h:∀e∈m,Jg e):(m.flatMap mY).length<=m.length*2097160:=by
 induction m with
 |nil=>simp
 |cons e m O=>
  have W:=NV (h e (by simp));have Y:=O (λx U=>h x (by simp[U]));rw[aH,a7,aC]; omega
def Ew(p:Wd)(e:dq)(c:UInt8):Nat:=if nN (dF e) (p++[c])=true then 1 else 0
theorem Fo(p:Wd)(e:dq):∀(cs:List UInt8),(∀c∈cs,nN (dF e) (p++[c])=false)->(cs.map (Ew p e)).sum=0:=by
 intro cs
 induction cs with
 |nil=>intro _; rfl
 |cons c cs O=>
  intro h;have U:=h c (by simp);rw[aA,aQ,O (λd W=>h d (by simp[W]))];simp[Ew,U]
theorem Qw(p:Wd)(e:dq):∀(cs:List UInt8),cs.Nodup->(cs.map (Ew p e)).sum<=1:=by
 intro cs
 induction cs with
 |nil=>simp
 |cons c cs W=>
  intro h;have U:=aV.1 h;rw[aA,aQ]
  cases hb:nN (dF e) (p++[c])with
  |false=>have:=W U.2; simp only[Ew,hb]; simpa using this
  |true=>
   rw[Fo p e cs (λd Y=>?_)]
   .simp[Ew,hb]
   .rw[c4];intro O;have:=qM ((nd ..).1 hb) ((nd ..).1 O);subst this;exact U.1 Y
theorem P'(p:Wd)(cs:List UInt8)(e:dq)(G:List dq):(cs.map λc=>(jM (e::G) p c).length).sum=(cs.map (Ew p e)).sum+(cs.map λc=>(jM G p c).length).sum:=by
 induction cs with
 |nil=>rfl
 |cons c cs O=>
  simp only[aA,aQ,O]
  have:(jM (e::G) p c).length=Ew p e c+(jM G p c).length:=by
   unfold jM Ew;rw[bj];split
   .simp; omega
   .simp
  omega
theorem L7(p:Wd)(cs:List UInt8)(W:cs.Nodup):∀G:List dq,(kU G p).length+(cs.map λc=>(jM G p c).length).sum<=G.length:=by
 intro G
 induction G with
 |nil=>
  have:∀cs:List UInt8,(cs.map λc=>(jM [] p c).length).sum=0:=by
   intro cs
   induction cs with
   |nil=>rfl
   |cons c cs U=>rw[aA,aQ,U]; rfl
  rw[this]; simp[kU]
 |cons e G U=>
  rw[P'];by_cases O:dF e=p
  .have Y:=Fo p e cs (λc _=>by
    rw[c4];intro hb;have:=((jT ..).1 ((nd ..).1 hb)).2.1
    rw[O]at this; omega)
   have h1:(kU (e::G) p).length=(kU G p).length+1:=by
    unfold kU; rw[bj,if_pos (beq_iff_eq.2 O)]; rfl
   rw[aC]; omega
  .have Y:=Qw p e cs W
   have h1:(kU (e::G) p).length=(kU G p).length:=by
    unfold kU; rw[bj,if_neg (by simpa using O)]
   rw[aC]; omega
theorem N4:∀(f:Nat)(p:Wd)(G:List dq),(∀e∈G,Jg e)->(nk f p G).length<=f*(G.length*3145743)+5:=by
 intro f
 induction f with
 |zero=>simp[nk]
 |succ f ih=>
  intro p G W;have ab:=N' (kU G p) (λe Y=>W e (az.1 Y).1);have ac:=L7 p _ (mL (pI G p)) G
  have hk:∀cs:List UInt8,(∀c∈cs,c∈jP G p)->(cs.flatMap λc=>dL ((mP (jM G p c)).drop p.length)++nk f (mP (jM G p c)) (jM G p c)).length<=(cs.map λc=>(jM G p c).length).sum*(1048582+f*3145743):=by
   intro cs
   induction cs with
   |nil=>simp
   |cons c cs aa=>
    intro hc;have h1:=aa (λd hd=>hc d (by simp[hd]));have O:=uF (hc c (by simp));rw[<-uK]at O;have ad:=b7.2 O;obtain⟨e0,U⟩:=aU _ O
    have ae:(mP (jM G p c)).length<=1048576:=by
     have a:=((pU O).1 _ (a9.2 ⟨e0,U,rfl⟩)).length_le;have b:=(W e0 (iW.1 U).1).2.1;unfold dF at a;rw[gf]at a;omega
    have h2:=ih (mP (jM G p c)) (jM G p c) (λe Y=>W e (iW.1 Y).1);have h3:(dL ((mP (jM G p c)).drop p.length)).length<=1048577:=by simp[dL]; omega
    rw[aH,a7,a7,aA,aQ,cn];generalize (jM G p c).length=n at *;have e1:n*(1048582+f*3145743)=n*1048582+f*(n*3145743):=by rw[cu,cf]
    omega
  have af:=hk _ (λ_ h=>h);rw[nk];simp only[a7,aC];have h3:(ic (gL G)).length=3:=rfl;generalize ((jP G p).map λc=>(jM G p c).length).sum=m at *;have e1:m*(1048582+f*3145743)=m*1048582+m*(f*3145743):=cu ..;have e2:(f+1)*(G.length*3145743)=G.length*3145743+G.length*(f*3145743):=by rw[cn,cf]; omega
  have e3:m*(f*3145743)<=G.length*(f*3145743):=ch _ (by omega);omega
end
section
open Go.RowKit
variable {e:dq} {es gs ps:List (Nat×dq)} {ks:List Wd} {N a b c f g n:Nat} {bs ls path r rf:Wd}
abbrev sn(l:List (Nat×dq)):List dq:=l.map Prod.snd
def lj(N:Nat):Nat->Wd->List Wd->Wd->Wd->Option (List (Nat×dq)×Wd)
 |0,_,_,_,bs=>some ([],bs)
 |n+1,path,ks,last,bs=>(nA ks last bs).bind λx=>(ki x.1 x.2).bind λy=>if dF y.1=path then(lj N n path (ks++[x.1]) x.1 y.2).bind λz=>some ((N-bs.length,y.1)::z.1,z.2)else none
def lQ(node:Wd->List Wd->Wd->Option (Nat×List (Nat×dq)×Wd)):Nat->Wd->List Wd->Int->Wd->Option (Nat×List (Nat×dq)×Wd)
 |0,_,_,_,bs=>some (0,[],bs)
 |n+1,path,ks,last,bs=>(ju bs).bind λx=>if x.1≠[]/\last<((x.1.getD 0 0).toNat:Int)then
   (node (path++x.1) ks x.2).bind λy=>(lQ node n path (ks++(sn y.2.1).map dq.name) ((x.1.getD 0 0).toNat:Int) y.2.2).bind λz=>some (max y.1 z.1,y.2.1++z.2.1,z.2.2)else none
def jZ(N:Nat):Nat->Wd->List Wd->Wd->Option (Nat×List (Nat×dq)×Wd)
 |0,_,_,_=>none
 |f+1,path,ks,bs=>if path.length<=24 then
   (ir bs).bind λa=>(rdNum a.2).bind λb=>(lj N b.1 path ks [] b.2).bind λc=>(rdNum c.2).bind λd=>(lQ (jZ N f) d.1 path (ks++(sn c.1).map dq.name) (-1) d.2).bind λe=>
    if(a.1:Int)=max (gL (sn c.1)) e.1/\(path=[]\/0<b.1\/1<d.1)then some (a.1,c.1++e.2.1,e.2.2)else none
  else none
def jY(N:Nat):Nat->List Wd->Wd->Wd->Option (List (Nat×dq)×Wd)
 |0,_,_,bs=>some ([],bs)
 |n+1,ks,last,bs=>(nA ks last bs).bind λx=>(jY N n (ks++[x.1]) x.1 x.2).bind λz=>some ((N-bs.length,⟨x.1,true,[],0,0⟩)::z.1,z.2)
def ji(N:Nat)(bs:Wd):Option (List (Nat×dq)×List (Nat×dq)):=
 (rdNum bs).bind λa=>(jY N a.1 [] [] a.2).bind λb=>(ju b.2).bind λc=>if c.1=[]then(jZ N 26 [] ((sn b.1).map dq.name) c.2).bind λd=>
  if d.2.2=[]/\0<b.1.length+d.2.1.length/\a.1<=100/\d.2.1.length<=30 then some (b.1,d.2.1)else none else none
theorem sY(h:jY N (n+1) ks ls r=some (gs,rf)):∃O U gs',nA ks ls r=some (O,U)/\jY N n (ks++[O]) O U=some (gs',rf)/\gs=(N-r.length,⟨O,true,[],0,0⟩)::gs':=by
 rw[jY]at h;simp only[cc]at h;obtain⟨⟨O,U⟩,W,⟨gs',r2⟩,Y,h3⟩:=h;cases h3;exact⟨O,U,gs',W,Y,rfl⟩
theorem C0(h:lj N (n+1) path ks ls r=some (es,rf)):∃U W e Y O,nA ks ls r=some (U,W)/\ki U W=some (e,Y)/\dF e=path/\lj N n path (ks++[U]) U Y=some (O,rf)/\es=(N-r.length,e)::O:=by
 rw[lj]at h;simp only[cc]at h;obtain⟨⟨U,W⟩,h1,⟨e,Y⟩,h2,h3⟩:=h;split at h3
 .rename_i hk;simp only[cc]at h3;obtain⟨⟨O,r4⟩,h4,h5⟩:=h3;cases h5;exact⟨U,W,e,Y,O,h1,h2,hk,h4,rfl⟩
 .cases h3
theorem CI{node:Wd->List Wd->Wd->Option (Nat×List (Nat×dq)×Wd)}{la:Int}(h:lQ node (n+1) path ks la r=some (g,es,rf)) :
  ∃c cs W g1 O Y g2 U,ju r=some (c::cs,W)/\la<(c.toNat:Int)/\node (path++(c::cs)) ks W=some (g1,O,Y)/\lQ node n path (ks++(sn O).map dq.name) (c.toNat:Int) Y=some (g2,U,rf)/\g=max g1 g2/\es=O++U:=by
 rw[lQ]at h;simp only[cc]at h;obtain⟨⟨lb,W⟩,h1,h⟩:=h;split at h
 .rename_i hc;simp only[cc]at h;obtain⟨⟨g1,O,Y⟩,h2,⟨g2,U,r3⟩,h3,h4⟩:=h
  cases lb with
  |nil=>exact absurd rfl hc.1
  |cons c cs=>
   cases h4;exact⟨c,cs,W,g1,O,Y,g2,U,h1,hc.2,h2,h3,rfl,rfl⟩
 .cases h
theorem Dy(h:jZ N f path ks bs=some (g,es,r)):∃f',f=f'+1/\path.length<=24/\∃r0 nb U own W O Y gb below,ir bs=some (g,r0)/\rdNum r0=some (nb,U)/\lj N nb path ks [] U=some (own,W)/\rdNum W=some (O,Y)/\lQ (jZ N f') O path (ks++(sn own).map dq.name) (-1) Y=some (gb,below,r)/\(g:Int)=max (gL (sn own)) gb/\(path=[]\/0<nb\/1<O)/\es=own++below:=by
 cases f with
 |zero=>cases h
 |succ f=>
  rw[jZ]at h;split at h
  .rename_i hp;simp only[cc]at h;obtain⟨⟨wg,r0⟩,h1,⟨nb,U⟩,h2,⟨own,W⟩,h3,⟨O,Y⟩,h4,⟨gb,below,r4⟩,h5,h6⟩:=h;split at h6
   .rename_i hc;cases h6;exact⟨f,rfl,hp,r0,nb,U,own,W,O,Y,gb,below,h1,h2,h3,h4,h5,hc.1,hc.2,rfl⟩
   .cases h6
  .cases h
theorem Fx(h:ji N bs=some (gs,es)):∃n r r0 O g,rdNum bs=some (n,r)/\jY N n [] [] r=some (gs,r0)/\ju r0=some ([],O)/\jZ N 26 [] ((sn gs).map dq.name) O=some (g,es,[])/\0<gs.length+es.length/\n<=100/\es.length<=30:=by
 unfold ji at h;simp only[cc]at h;obtain⟨⟨n,r⟩,W,⟨gs',r0⟩,Y,⟨lb,O⟩,h3,h⟩:=h;split at h
 .rename_i hc;simp only[cc]at h;obtain⟨⟨g,aa,r2⟩,h4,h⟩:=h;split at h
  .rename_i U;cases h;obtain⟨e,U⟩:=U;subst hc e;exact⟨n,r,r0,O,g,W,Y,h3,h4,U⟩
  .cases h
 .cases h
theorem vH:∀{n:Nat}{ks:List Wd}{ls r rf:Wd}{gs:List (Nat×dq)},jY N n ks ls r=some (gs,rf)->gs.length=n
 |0,_,_,_,_,_,h=>by cases h; rfl
 |n+1,_,_,_,_,_,h=>by
  obtain⟨_,_,_,_,O,rfl⟩:=sY h
  simp[vH O]
def pN(a b:Nat)(ps:List (Nat×dq)):Prop:=a<=b/\(∀p∈ps,a<=p.1/\p.1<b)/\ps.Pairwise λx y=>x.1<y.1
theorem pN.nil(h:a<=b):pN a b []:=⟨h,by simp,.nil⟩
theorem pN.append{qs:List (Nat×dq)}(h:pN a b ps)(W:pN b c qs):pN a c (ps++qs):=by
 obtain⟨h1,O,Y⟩:=h;obtain⟨k1,U,k3⟩:=W;refine⟨by omega,λp hp=>?_,bh.2 ⟨Y,k3,λx hx y hy=>?_⟩⟩
 .rcases aB.1 hp with h|h
  .have:=O p h; omega
  .have:=U p h; omega
 .have:=O x hx; have:=U y hy; omega
theorem pN.one(h:a<b):pN a b [(a,e)]:=⟨by omega,by simp; omega,by simp⟩
theorem pN.from(h:pN b c ps)(U:a<=b):pN a c ps:=⟨by have:=h.1; omega,λp O=>by have:=h.2.1 p O; omega,h.2.2⟩
theorem yV(N:Nat):∀{n:Nat}{ks:List Wd}{ls r rf:Wd}{gs:List dq},u9 n ks ls r=some (gs,rf)->r.length<=N->∃ps,jY N n ks ls r=some (ps,rf)/\sn ps=gs/\rf.length<=r.length/\pN (N-r.length) (N-rf.length) ps
 |0,_,_,_,_,_,h,_=>by cases h; exact⟨[],rfl,rfl,cd _,.nil (cd _)⟩
 |n+1,ks,ls,r,rf,gs,h,hN=>by
  rw[u9]at h
  simp only[cc]at h
  obtain⟨⟨U,W⟩,O,⟨gs',r2⟩,Y,h3⟩:=h
  cases h3
  try dsimp only at *
  have hl:W.length+1<=r.length:=by rw[(nV O).1]; simp[dL]
  obtain⟨ps,k1,k2,k3,k4⟩:=yV N Y (by omega);refine⟨(N-r.length,⟨U,true,[],0,0⟩)::ps,?_,by simp[sn,<-k2],by omega,(pN.one (by omega)).append k4⟩;rw[jY,O,bZ,k1];rfl
theorem Gv{U O:Wd}(h:ki U r=some (e,O)):O.length<=r.length:=by
 unfold ki at h;simp only[cc]at h;obtain⟨⟨tx,r'⟩,W,h⟩:=h;split at h
 .simp only[cc]at h;obtain⟨⟨wt,r3⟩,Y,h⟩:=h;split at h
  .simp only[cc]at h;obtain⟨⟨tg,r4⟩,h3,h⟩:=h;cases h;have e1:=(iu W).1;have e2:=(jR Y).1;have e3:=(gW h3).1;rw[e1,e2,e3];simp;omega
  .cases h
 .cases h
theorem xZ(N:Nat):∀{n:Nat}{path:Wd}{ks:List Wd}{ls r rf:Wd}{es:List dq},ve n path ks ls r=some (es,rf)->r.length<=N->∃ps,lj N n path ks ls r=some (ps,rf)/\sn ps=es/\rf.length<=r.length/\pN (N-r.length) (N-rf.length) ps
 |0,_,_,_,_,_,_,h,_=>by cases h; exact⟨[],rfl,rfl,cd _,.nil (cd _)⟩
 |n+1,path,ks,ls,r,rf,es,h,hN=>by
  rw[ve]at h
  simp only[cc]at h
  obtain⟨⟨nm,Y⟩,U,⟨e,r2⟩,W,O⟩:=h
  split at O
  .rename_i hk;simp only[cc]at O;obtain⟨⟨aa,r4⟩,h4,h5⟩:=O;cases h5
   try dsimp only at *
   have hl:Y.length+1<=r.length:=by rw[(nV U).1]; simp[dL]
   have ab:=Gv W;obtain⟨ps,k1,k2,k3,k4⟩:=xZ N h4 (by omega);refine⟨(N-r.length,e)::ps,?_,by simp[sn,<-k2],by omega,(pN.one (by omega)).append k4⟩;rw[lj,U,bZ,W,bZ,if_pos hk,k1];rfl
  .cases O
def Pu(N:Nat)(f:Nat):Prop:=∀(path:Wd)(ks:List Wd)(r rf:Wd)(g:Nat)(es:List dq),sT f path ks r=some (g,es,rf)->r.length<=N->∃ps,jZ N f path ks r=some (g,ps,rf)/\sn ps=es/\rf.length<=r.length/\pN (N-r.length) (N-rf.length) ps
theorem zL(U:Pu N f):∀{n:Nat}{path:Wd}{ks:List Wd}{O:Int}{r rf:Wd}{g:Nat}{es:List dq},uM (sT f) n path ks O r=some (g,es,rf)->r.length<=N->∃ps,lQ (jZ N f) n path ks O r=some (g,ps,rf)/\sn ps=es/\rf.length<=r.length/\pN (N-r.length) (N-rf.length) ps
 |0,_,_,_,_,_,_,_,h,_=>by cases h; exact⟨[],rfl,rfl,cd _,.nil (cd _)⟩
 |n+1,path,ks,O,r,rf,g,es,h,hN=>by
  rw[uM]at h
  simp only[cc]at h
  obtain⟨⟨lb,r1⟩,W,h⟩:=h
  split at h
  .rename_i hc;simp only[cc]at h;obtain⟨⟨g1,aa,r2⟩,h2,⟨g2,ab,r3⟩,h3,h4⟩:=h;cases h4
   try dsimp only at *
   have hl:r1.length<=r.length:=by rw[(iu W).1]; simp
   obtain⟨ps,k1,Y,k3,k4⟩:=U _ _ _ _ _ _ h2 (by omega);obtain⟨qs,j1,j2,j3,j4⟩:=zL U h3 (by omega);refine⟨ps++qs,?_,by simp[sn]at *; rw[Y,j2],by omega,(k4.append j4).from (by omega)⟩;rw[lQ,W,bZ,if_pos hc,k1];simp only[Y,j1,bZ]
  .cases h
theorem zC(N:Nat):∀f,Pu N f
 |0=>nofun
 |f+1=>λpath ks r rf g es h hN=>by
  rw[sT]at h
  split at h
  .rename_i hp
   simp only[cc]at h
   obtain⟨⟨wg,r0⟩,U,⟨nb,r1⟩,W,⟨own,r2⟩,h3,⟨nc,r3⟩,Y,⟨gb,below,r4⟩,h5,O⟩:=h
   split at O
   .rename_i hc;cases O
    try dsimp only at *
    have l1:r0.length<=r.length:=by rw[(jR U).1]; simp
    have l2:r1.length<=r0.length:=by have:=(gW W).1; rw[this]; simp
    obtain⟨ps,k1,k2,k3,k4⟩:=xZ N h3 (by omega);have l3:r3.length<=r2.length:=by have:=(gW Y).1; rw[this]; simp
    obtain⟨qs,j1,j2,j3,j4⟩:=zL (zC N f) h5 (by omega);refine⟨ps++qs,?_,by simp[sn]at *; rw[k2,j2],by omega,(k4.append (j4.from (by omega))).from (by omega)⟩;rw[jZ,if_pos hp,U,bZ,W,bZ,k1,bZ,Y];simp only[k2,j1,bZ];rw[if_pos hc]
   .cases O
  .cases h
theorem Bq{gs es:List dq}(h:JA bs=some (gs,es)):∃ps qs,ji bs.length bs=some (ps,qs)/\sn ps=gs/\sn qs=es/\pN 0 bs.length (ps++qs):=by
 unfold JA at h;simp only[cc]at h;obtain⟨⟨n,r⟩,W,⟨gs',r0⟩,h2,⟨lb,r1⟩,Y,h⟩:=h;split at h
 .rename_i hc;simp only[cc]at h;obtain⟨⟨g,O,r2⟩,h4,h⟩:=h;split at h
  .rename_i hd;cases h
   try dsimp only at *
   have l1:r.length<=bs.length:=by have:=(gW W).1; rw[this]; simp
   obtain⟨ps,k1,U,k3,k4⟩:=yV _ h2 (by omega);have l3:r1.length<=r0.length:=by rw[(iu Y).1]; simp
   obtain⟨qs,j1,j2,j3,j4⟩:=zC bs.length 26 _ _ _ _ _ _ h4 (by omega);refine⟨ps,qs,?_,U,j2,?_⟩
   .have a1:ps.length=gs.length:=by rw[<-U]; simp
    have a2:qs.length=O.length:=by rw[<-j2]; simp
    unfold ji;rw[W,bZ,k1,bZ,Y,bZ,if_pos hc];simp only[U,j1,bZ];rw[if_pos (by rw[a1,a2]; exact hd)]
   .have:=(k4.append (j4.from (by omega))).from (cg _);rw[hd.1]at this;exact this
  .cases h
 .cases h
end
section
open Go.RowKit
def gU(a:Wd)(c:UInt8)(row:List Nat)(z:Nat):Nat->List Nat
 |0=>[z]
 |i+1=>gU a c row z i++[min (min (row.getD i 0+(if a.getD i 0=c then 0 else 1)) (row.getD (i+1) 0+1)) ((gU a c row z i).getD i 0+1)]
def jI(a s:Wd):Nat->List Nat
 |0=>aE (a.length+1)
 |k+1=>gU a (s.getD k 0) (jI a s k) (k+1) a.length
def wz(a s:Wd)(k:Nat):Nat:=(jI a s k).getD a.length 0
theorem j0(a:Wd)(c:UInt8)(row:List Nat)(z:Nat):∀i,(gU a c row z i).length=i+1:=by
 intro i
 induction i with
 |zero=>rfl
 |succ i O=>rw[gU,a7,O]; rfl
theorem uP(a s:Wd)(k:Nat):(jI a s k).length=a.length+1:=by
 cases k with
 |zero=>simp[jI]
 |succ k=>rw[jI,j0]
theorem tr(a:Wd)(c:UInt8)(row:List Nat)(z m:Nat)(Y:z<=m)(U:∀x∈row,x+1<=m):∀i,i<row.length->∀x∈gU a c row z i,x<=m:=by
 intro i
 induction i with
 |zero=>intro _ x O; simp[gU]at O; omega
 |succ i W=>
  intro hi x O;rcases aB.1 O with h|h
  .exact W (by omega) x h
  .simp only[a0,List.not_mem_nil,or_false]at h;have h1:=U (row.getD _ 0) (by rw[ay,a5 hi]; exact aG hi);omega
theorem FC(a s:Wd):∀k,∀x∈jI a s k,x<=a.length+k:=by
 intro k
 induction k with
 |zero=>intro x O; simp[jI]at O; omega
 |succ k U=>
  intro x O;exact tr a _ _ _ _ (by omega) (λy W=>by have:=U y W; omega) _ (by rw[uP]; omega) x O
def jo(mode:Nat)(q s:Wd):Bool:=
 if mode=0 then nN s q
 else if mode=1 then(aE s.length).any λi=>fL s i&&nN (s.drop i) q
 else(aE (s.length+1)).any λk=>decide (wz q s k<mode)
end
section
open Go.RowKit
theorem vZ{x y:UInt8}:((x.toNat:Int)==(y.toNat:Int))=decide (x=y):=by
 rw[cx,beq_iff_eq,decide_eq_true_eq];constructor
 .intro h; exact cT.1 (by omega)
 .intro h; rw[h]
end
section
open Go.RowKit
variable {n:Nat} {p:Nat->Bool}
theorem OP(s:ByteArray)(n:Nat):(s.extract n s.size).data.toList=s.data.toList.drop n:=by
 simp;rw[bm (by simp)]
theorem any_none(h:∀i,i<n->p i=false):(aE n).any p=false:=by
 rw[bx];intro x O;rw[h x (bi.1 O)]; simp
theorem any_some(i:Nat)(hi:i<n)(h:p i=true):(aE n).any p=true:=
 b0.2 ⟨i,bi.2 hi,h⟩
end
section
open Go.RowKit
def eK(x y:dq):Bool:=if x.du=y.du then(if dF x=dF y then cv x.name y.name else cv (dF x) (dF y))else decide (y.du<x.du)
end
section
open Go.RowKit
def sE(n:Nat):Wd:=if h:n<=9 then [48+cR n]else sE (n / 10)++[48+cR (n % 10)]
termination_by n
decreasing_by omega
theorem qI{n:Nat}(h:n<=9):sE n=[48+cR n]:=by rw[sE,dif_pos h]
theorem oV{n:Nat}(h:¬n<=9):sE n=sE (n / 10)++[48+cR (n % 10)]:=by rw[sE,dif_neg h]
theorem MU:∀(k n:Nat),n<10 ^ k->1<=k->(sE n).length<=k:=by
 intro k
 induction k with
 |zero=>omega
 |succ k U=>
  intro n h _;by_cases O:n<=9
  .rw[qI O]; simp
  .rw[oV O]
   have W:1<=k:=by
    rcases cj k with e|e
    .subst e; omega
    .exact e
   have:=U (n / 10) (by omega) W;simp; omega
end
section
open Go.RowKit
variable {x y:dq} {l:List dq} {told:List Nat} {ok:Nat->Bool}
theorem tw(x:dq):eK x x=false:=by
 unfold eK;rw[if_pos rfl,if_pos rfl,ij]
theorem mf{z:dq}(U:eK x y=true)(O:eK y z=true):eK x z=true:=by
 unfold eK at *;by_cases a:x.du=y.du
 .rw[if_pos a]at U;by_cases b:y.du=z.du
  .rw[if_pos b]at O;rw[if_pos (a.trans b)];by_cases c:dF x=dF y
   .rw[if_pos c]at U;by_cases d:dF y=dF z
    .rw[if_pos d]at O;rw[if_pos (c.trans d)];exact lZ _ _ _ U O
    .rw[if_neg d]at O;rw[if_neg (λe=>d (c.symm.trans e)),c];exact O
   .rw[if_neg c]at U;by_cases d:dF y=dF z
    .rw[if_neg (λe=>c (e.trans d.symm)),<-d];exact U
    .rw[if_neg d]at O;have W:=lZ _ _ _ U O;rw[if_neg (Bt W)];exact W
  .rw[if_neg b]at O;rw[if_neg (λe=>b (a.symm.trans e)),a];exact O
 .rw[if_neg a,decide_eq_true_eq]at U;by_cases b:y.du=z.du
  .rw[if_neg (λe=>a (e.trans b.symm)),decide_eq_true_eq];omega
  .rw[if_neg b,decide_eq_true_eq]at O;rw[if_neg (by omega),decide_eq_true_eq];omega
theorem vp(h:x.name≠y.name):eK x y=true\/eK y x=true:=by
 unfold eK;by_cases a:x.du=y.du
 .rw[if_pos a,if_pos a.symm];by_cases c:dF x=dF y
  .rw[if_pos c,if_pos c.symm];rcases il .. with O|O|O
   .exact Or.inl O
   .exact absurd O h
   .exact Or.inr O
  .rw[if_neg c,if_neg (λe=>c e.symm)];rcases il .. with O|O|O
   .exact Or.inl O
   .exact absurd O c
   .exact Or.inr O
 .rw[if_neg a,if_neg (λe=>a e.symm),decide_eq_true_eq,decide_eq_true_eq];omega
theorem sH(h:eK x y=true):eK y x=false:=by
 rw[c4];intro O;have:=mf h O;rw[tw]at this;cases this
def jO:dq:=⟨[],false,[],0,0⟩
def tU(l:List dq)(ok:Nat->Bool):Nat->Option Nat
 |0=>none
 |k+1=>match tU l ok k with
  |none=>if ok k=true then some k else none
  |some b=>if ok k=true/\eK (l.getD k jO) (l.getD b jO)=true then some k else some b
def pD(l:List dq)(ok:Nat->Bool):Nat->List Nat->List Nat
 |0,_=>[]
 |n+1,told=>match tU l (λi=>ok i && !told.contains i) l.length with
  |none=>[]
  |some b=>b::pD l ok n (told++[b])
theorem zA:∀k,tU l ok k=none->∀i,i<k->ok i=false:=by
 intro k
 induction k with
 |zero=>omega
 |succ k U=>
  intro h i hi;rw[tU]at h
  cases hb:tU l ok k with
  |none=>
   rw[hb]at h;simp only at h;split at h
   .cases h
   .rename_i W;rcases cl i k with O|O
    .exact U hb i O
    .have e:i=k:=by omega
     subst e;simpa using W
  |some b=>
   rw[hb]at h;simp only at h;split at h<;>cases h
theorem I8(hn:(l.map dq.name).Nodup):∀k b,k<=l.length->tU l ok k=some b->b<k/\ok b=true/\∀i,i<k->ok i=true->i≠b->eK (l.getD b jO) (l.getD i jO)=true:=by
 have Y:∀i j,i<l.length->j<l.length->i≠j->(l.getD i jO).name≠(l.getD j jO).name:=λi j hi hj h e=>by
  rw[ay,ay,a5 hi,a5 hj]at e;exact h ((List.getElem_inj (h₀:=by simpa using hi) (h₁:=by simpa using hj) hn).1 (by simpa using e))
 intro k
 induction k with
 |zero=>intro b _ h; cases h
 |succ k ih=>
  intro b hk h;rw[tU]at h
  cases hb:tU l ok k with
  |none=>
   rw[hb]at h;simp only at h;split at h
   .rename_i O;simp only[cQ]at h;subst h;refine⟨by omega,O,λi hi U W=>?_⟩;have:=zA k hb i (by omega);rw[this]at U; cases U
   .cases h
  |some c=>
   rw[hb]at h;simp only at h;obtain⟨c1,c2,c3⟩:=ih c (by omega) hb;split at h
   .rename_i O;simp only[cQ]at h;subst h;refine⟨by omega,O.1,λi hi U W=>?_⟩;by_cases e:i=c
    .subst e; exact O.2
    .exact mf O.2 (c3 i (by omega) U e)
   .rename_i O;simp only[cQ]at h;subst h;refine⟨by omega,c2,λi hi U W=>?_⟩;rcases cl i k with h3|h3
    .exact c3 i h3 U W
    .have e:i=k:=by omega
     subst e;rcases vp (Y i c (by omega) (by omega) W)with h4|h4
     .exact absurd ⟨U,h4⟩ O
     .exact h4
def nj(l:List dq)(ok:Nat->Bool)(told:List Nat):List Nat:=(aE l.length).filter λi=>ok i && !told.contains i
theorem G2{i:Nat}:i∈nj l ok told↔i<l.length/\(ok i && !told.contains i)=true:=by
 unfold nj;rw[az,bi]
theorem Kx{b:Nat}(hb:b∈nj l ok told):(nj l ok told).Perm (b::nj l ok (told++[b])):=by
 have U:(nj l ok told).Nodup:=bY.sublist ba List.nodup_range
 have e:nj l ok (told++[b])=(nj l ok told).erase b:=by
  rw[U.erase_eq_filter];unfold nj;rw[aK];refine aX λi _=>?_;rw[cx];simp only[cw,c0,bne_iff_ne,List.contains_eq_mem,aB,aD,decide_eq_false_iff_not];constructor
  .rintro⟨W,O⟩; exact⟨λh=>O (Or.inr h),W,λh=>O (Or.inl h)⟩
  .rintro⟨W,O,Y⟩; exact⟨O,λh=>h.elim Y W⟩
 rw[e];exact List.perm_cons_erase hb
theorem Av(l:List dq)(hn:(l.map dq.name).Nodup)(ok:Nat->Bool):∀(n:Nat)(told:List Nat)(S:List dq),S.Pairwise (λx y=>eK x y=true)->S.Perm ((nj l ok told).map λi=>l.getD i jO)->(pD l ok n told).map (λi=>l.getD i jO)=S.take n:=by
 intro n
 induction n with
 |zero=>simp[pD]
 |succ n ih=>
  intro told S hs W;rw[pD]
  cases hb:tU l .. with
  |none=>
   have Y:=zA _ hb
   have hc:nj l ok told=[]:=by
    unfold nj;rw[bn];intro i hi;rw[Y i (bi.1 hi)];simp
   rw[hc]at W;have:=eg W;subst this;simp
  |some b=>
   obtain⟨b1,b2,b3⟩:=I8 hn _ b (cd _) hb;have Aa:=G2.2 ⟨b1,b2⟩;have aa:=(Kx Aa).map (λi=>l.getD i jO);have O:=W.trans aa
   cases S with
   |nil=>exact absurd O.symm.eq_nil (by simp)
   |cons h S'=>
    have hh:h=l.getD b jO:=by
     refine e8 λU=>?_
     have m1:l.getD b jO∈S':=by
      have:l.getD b jO∈h::S':=O.mem_iff.2 (by simp);rcases a0.1 this with e|e
      .exact absurd e.symm U
      .exact e
     have a1:=(a6.1 hs).1 _ m1;have m2:h∈(nj l ok told).map _:=W.mem_iff.1 (by simp);obtain⟨i,hi,e⟩:=a9.1 m2;have PT:=G2.1 hi;have ab:i≠b:=λe2=>U (by rw[<-e,e2]);have a2:=b3 i PT.1 PT.2 ab;rw[e]at a2;rw[sH a1]at a2;cases a2
    subst hh;simp only[aA,bu];rw[ih _ S' (a6.1 hs).2 ((List.perm_cons _).1 O)]
end
section
open Go.RowKit
def oq(t e:Nat):Bool:=e &&& t==t
theorem QA(n j:Nat):n.testBit j=(n / 2 ^ j % 2==1):=by
 rw[Nat.testBit_eq_decide_div_mod_eq];rfl
def fZ(e:dq):Wd:=e.name++(32::(sE e.du.toNat++(32::e.text)))
def ix(mode dD:Nat)(q:Wd)(e:dq):Bool:=oq dD e.dD.toNat&&jo mode (ed q) (dF e)
def tz(l:List dq)(mode:Int)(q:Wd)(dD most:Int):List Wd×Nat:=
 if mode<0\/3<mode\/dD<0\/255<dD\/most<1\/20<most then([],3)
 else if dU q=true then((pD l (λi=>ix mode.toNat dD.toNat q (l.getD i jO)) most.toNat []).map (λi=>fZ (l.getD i jO)),0)else([],2)
theorem tL{l S:List dq}(U:(l.map dq.name).Nodup){mode dD most:Int}{q:Wd}(W:S.Pairwise (λx y=>eK x y=true))(Y:S.Perm (l.filter λe=>ix mode.toNat dD.toNat q e)) :
  (pD l (λi=>ix mode.toNat dD.toNat q (l.getD i jO)) most.toNat []).map (λi=>fZ (l.getD i jO))=(S.take most.toNat).map fZ:=by
 have hc:(nj l (λi=>ix mode.toNat dD.toNat q (l.getD i jO)) []).map (λi=>l.getD i jO)=l.filter λe=>ix mode.toNat dD.toNat q e:=by
  unfold nj
  have O:(λi=>ix mode.toNat dD.toNat q (l.getD i jO) && !([]).contains i)=(λe=>ix mode.toNat dD.toNat q e) ∘ λi=>l.getD i jO:=by
   funext i; simp
  rw[O,<-List.filter_map];congr 1;apply bR
  .simp
  .intro i O h2;simp[ay,h2]
 have h:=Av l U _ most.toNat [] S W (by rw[hc]; exact Y);have e:(λi=>fZ _)=fZ ∘ λi=>l.getD i jO:=rfl;rw[e,<-List.map_map,h]
end
section
open Go.RowKit
theorem Gi(s p:ByteArray)(w:World) :
  cE prog 267 #[.string s,.string p] w λe w'=>e=.returned (.bool (nN s.data.toList p.data.toList))/\w=w':=by
 by_cases h:p.size<=s.size
 .go_wp2;go_ret;rw[JJ,fk,fk];simp[h]
 .go_wp2;go_ret;rw[JJ];simp[h]
theorem xG(s p:ByteArray)(w:World) :
  cE prog 240 #[.string s,.string p] w λe w'=>e=.returned (.bool (nN s.data.toList p.data.toList))/\w=w':=by
 go_enter func240,ntmps240;go_wp2_with fail;refine(Gi s p w).mono ?_;rintro e w' ⟨rfl,rfl⟩;go_wp2;go_ret;exact⟨rfl,rfl⟩
theorem xJ(s:ByteArray)(k:Nat)(w:World)(hs:s.size<=1099511627776)(hk:k<s.size) :
  cE prog 268 #[.string s,.int .i64 k] w λe w'=>e=.returned (.bool (fL s.data.toList k))/\w=w':=by
 have e1:=lq s k hk;have ac:(k:Int)<(s.size:Int):=by omega
 obtain⟨Y,O⟩:∃Y,Y=fe s[k]:=⟨_,rfl⟩;have U:=mK s[k] w;rw[<-O]at U;by_cases h0:k=0
 .subst h0
  have HF:fs (fL s.data.toList 0=Y):=by
   show _=_;unfold fL;rw[e1,<-O]; simp
  clear e1 O;go_enter func268,ntmps268;go_wp2_with fail;refine U.mono ?_;rintro e w' ⟨rfl,rfl⟩;clear U
  cases Y with
  |false=>
   go_wp2;go_ret;exact⟨eH HF.out.symm,rfl⟩
  |true=>
   go_wp2;go_ret;exact⟨eH HF.out.symm,rfl⟩
 .have ad:((k:Int)==0)=false:=by rw[beq_eq_false_iff_ne]; omega
  have ab:k-1<s.size:=by omega
  have e2:=lq s (k-1) ab;obtain⟨b2,W⟩:∃b2,b2=fe s[k-1]:=⟨_,rfl⟩;have aa:=mK s[k-1] w;rw[<-W]at aa
  have HF:fs (fL s.data.toList k=(Y && !b2)):=by
   show _=_;unfold fL;rw[e1,e2,<-O,<-W]; simp[h0]
  have ae:(k:Int)-1=((k-1:Nat):Int):=by omega
  have af:(k:Int)-1<(s.size:Int):=by omega
  have ag:(0:Int)<=k-1:=by omega
  clear e1 e2 O W;go_enter func268,ntmps268;go_wp2_with fail;refine U.mono ?_;rintro e w' ⟨rfl,rfl⟩
  cases Y with
  |false=>
   go_wp2;go_ret;exact⟨eH (by rw[HF.out]; rfl),rfl⟩
  |true=>
   go_wp2_with fail;refine aa.mono ?_;rintro e w' ⟨rfl,rfl⟩;go_wp2;go_ret;exact⟨eH (by rw[HF.out]; rfl),rfl⟩
end
section
open Go.RowKit
theorem C6(U O:ByteArray)(w:World)(hs:O.size<=1048576) :
  cE prog 241 #[.string U,.string O] w λe w'=>e=.returned (.bool (jo 1 U.data.toList O.data.toList))/\w=w':=by
 have HF:fs (jo 1 U.data.toList O.data.toList=(aE O.size).any λi=>fL O.data.toList i&&nN (O.data.toList.drop i) U.data.toList):=by
  show _=_;unfold jo;simp
 go_enter func241,ntmps241;go_wp2;go_loopw [8] (λiv wr=>∃i:Nat,i<=O.size/\iv=.int .i64 i/\(∀j,j<i->(fL O.data.toList j&&nN (O.data.toList.drop j) U.data.toList)=false)/\w=wr) (λi _=>O.size-(intOf i).toNat)
 case atStart=>exact⟨0,cg _,rfl,λj hj=>by omega,rfl⟩
 case round=>
  obtain⟨i,hi,rfl,ad,rfl⟩:=hrel;have W:fs (∀j,j<i->(fL O.data.toList j&&nN (O.data.toList.drop j) U.data.toList)=false):=ad;clear ad;by_cases ae:i<O.size
  .have ai:(i:Int)<(O.size:Int):=by omega
   have aj:(i:Int)<=(O.size:Int):=by omega
   obtain⟨b1,Y⟩:∃b1,b1=fL O.data.toList i:=⟨_,rfl⟩;obtain⟨b2,aa⟩:∃b2,b2=nN (O.data.toList.drop i) U.data.toList:=⟨_,rfl⟩;have ab:=xJ O i w (by omega) ae;have ac:=xG (O.extract i O.size) U w;rw[<-Y]at ab;rw[OP,<-aa]at ac;have af:fs (b1=fL O.data.toList i):=Y;have ag:fs (b2=nN (O.data.toList.drop i) U.data.toList):=aa;clear Y aa;go_wp2_with fail;refine ab.mono ?_;rintro e w3 ⟨rfl,rfl⟩;clear ab
   cases b1 with
   |false=>
    go_wp2;go_roundw
    case rel=>exact⟨i+1,by omega,by go_num,λj hj=>by
     rcases cl j i with h|h
     .exact W.out j h
     .have e:j=i:=by omega
      subst e; rw[<-af.out]; rfl,trivial⟩
    case measure=>simp[intOf]; omega
   |true=>
    go_wp2_with fail;refine ac.mono ?_;rintro e w4 ⟨rfl,rfl⟩;clear ac
    cases b2 with
    |false=>
     go_wp2;go_roundw
     case rel=>exact⟨i+1,by omega,by go_num,λj hj=>by
      rcases cl j i with h|h
      .exact W.out j h
      .have e:j=i:=by omega
       subst e; rw[<-ag.out]; simp,trivial⟩
     case measure=>simp[intOf]; omega
    |true=>
     have HY:fs (jo 1 U.data.toList O.data.toList=true):=by
      show _=_;rw[HF.out];exact any_some i ae (by rw[<-af.out,<-ag.out]; rfl)
     go_wp2;go_ret;exact⟨eH HY.out.symm,rfl⟩
  .have ah:i=O.size:=by omega
   subst ah
   have HY:fs (jo 1 U.data.toList O.data.toList=false):=by
    exact any_none W.out
   go_wp2;go_ret;exact⟨eH HY.out.symm,rfl⟩
end
section
open Go.RowKit
theorem AF(n:Nat):(cM #[Value.int .i64 0] n).toList=dY (bH n 0):=by
 apply bR
 .simp[cM,dY]
 .simp[cM,dY,Nat.mod_one]
def kK(n i:Nat):List Nat:=aE i++bH (n-i) 0
theorem Is{n i:Nat}(h:i<=n):(kK n i).length=n:=by simp[kK]; omega
theorem E5{n i:Nat}(h:i<n):(dY (kK n i)).set i (.int .i64 (i:Int))=dY (kK n (i+1)):=by
 have e:n-i=(n-(i+1))+1:=by omega
 have O:kK n (i+1)=(kK n i).set i i:=by
  unfold kK;rw[e,List.replicate_succ,bk];simp
 rw[O];unfold dY;rw[List.map_set]
theorem Hp(n:Nat):kK n n=aE n:=by simp[kK]
theorem xe(O:ByteArray)(w:World)(hq:O.size<=1048576) :
  cE prog 269 #[.string O] w λe w'=>∃g,e=.returned (.slice (some ⟨g,0,none⟩) (O.size+1) (O.size+1))/\w'.ownsRow w.heap.size 3 1 (.slice (some ⟨g,0,none⟩) (O.size+1) (O.size+1)) (O.size+1) (dY (aE (O.size+1)))/\Below w.heap.size w w':=by
 obtain⟨i3,ae,af,ag,hy2⟩:=info_parts Rx;go_enter func269,ntmps269;go_wp2_with (at_make; go_must (refine wpList_make_full _ rfl _ _ 26 rfl w.heap.size 3 i3 (.int .i64 0) 1 underlying26 ae af ag .i64 .i64 _ _ (O.size+1) rfl rfl rfl rfl ?m1 ?m2 ?m3 ?_))
 case m1=>rw[hy2]; omega
 case m2=>unfold c9; omega
 case m3=>exact cd _
 intro w5 aa ab;have HB5:fs (Below w.heap.size w w5):=(fd _ _).grown ab (cd _) (by simp)
 have HT5:fs (w5.ownsRow w.heap.size 3 1 (.slice (some ⟨w.heap.size,0,none⟩) (O.size+1) (O.size+1)) (O.size+1) (dY (kK (O.size+1) 0))):=by
  show er _ _ _ _ _ _ _;have e:(cM #[Value.int .i64 0] (O.size+1)).toList=dY (kK (O.size+1) 0):=by rw[AF]; simp[kK]
  rw[<-e];exact aa
 clear aa ab;generalize hg:w.heap.size=g at *;have ac:fs (w.heap.size=g):=hg;clear hg;go_wp2;go_loopw [11] (λiv wr=>∃i:Nat,i<=O.size+1/\iv=.int .i64 i/\wr.ownsRow g 3 1 (.slice (some ⟨g,0,none⟩) (O.size+1) (O.size+1)) (O.size+1) (dY (kK (O.size+1) i))/\Below g w wr) (λi _=>O.size+1-(intOf i).toNat)
 case atStart=>exact⟨0,cg _,rfl,HT5.out,HB5.out⟩
 case round=>
  obtain⟨i,hi,rfl,U,W⟩:=hrel;by_cases Y:i<O.size+1
  .have aj:(i:Int)<(O.size:Int)+1:=by omega
   obtain⟨bt,ot,ad,ah⟩:=iZ U i _ (iN _ i (by rw[Is hi]; exact Y));simp only[cQ,Addr.mk.injEq]at ad;obtain⟨rfl,rfl,_⟩:=ad;rw[cm]at ah;have ak:=qC U i
   have HO6:fs ((wr.setCell ⟨g,i,none⟩ (.int .i64 i)).ownsRow g 3 1 (.slice (some ⟨g,0,none⟩) (O.size+1) (O.size+1)) (O.size+1) (dY (kK (O.size+1) (i+1)))):=by
    show er _ _ _ _ _ _ _;rw[<-E5 Y];exact xD U i _ Y
   have HB6:fs (Below g w (wr.setCell ⟨g,i,none⟩ (.int .i64 i))):=by exact ff W (cd _) _
   clear U W;go_wp2;go_roundw
   case rel=>exact⟨i+1,by omega,by go_num,HO6.out,HB6.out⟩
   case measure=>simp[intOf]; omega
  .have ai:i=O.size+1:=by omega
   subst ai
   have HO6:fs (wr.ownsRow g 3 1 (.slice (some ⟨g,0,none⟩) (O.size+1) (O.size+1)) (O.size+1) (dY (aE (O.size+1)))):=by
    rw[<-Hp];exact U
   have HB6:fs _:=W;go_wp2;go_ret;exact⟨g,rfl,by rw[ac.out]; exact HO6.out,by rw[ac.out]; exact HB6.out⟩
end
section
open Go.RowKit
variable {cs cs':Array Value} {f:Nat×Nat} {e e':cA} {F:Value->Prop} {w:World}
def jK(F:Value->Prop)(w:World)(v:Value):Prop:=∀g cs e f,v.ownBlock=some g->w.heap[g]?=some (.cells cs e f)->∀u∈cs.toList,F u
theorem Iw(F:Value->Prop)(w:World)(n c:Nat):jK F w (.slice none n c):=nofun
theorem jK.stay{w':World}{v:Value}(h:jK F w v)(U:∀g,v.ownBlock=some g->w'.heap[g]?=w.heap[g]?):jK F w' v:=λg cs e f O W=>h g cs e f O (by rw[<-U g O]; exact W)
theorem su{O:Array Value}{k:Nat}{u:Value}(h:u∈(da O k).toList):u∈O.toList:=by
 unfold da at h;simp at h;obtain⟨i,hi,rfl⟩:=h
 have U:0<O.size:=by
  rcases cj O.size with h|h
  .rw[h]at hi; simp at hi
  .exact h
 have hm:i % O.size<O.size:=Nat.mod_lt _ U;rw[getElem!_pos O _ hm];simp
theorem Jh(h:(w.drew.alloc (.cells cs e)).heap[w.heap.size]?=some (.cells cs' e' f)):cs'=cs:=by
 have O:(w.heap.push _)[w.heap.size]?=some _:=h;simp at O;exact O.1.symm
theorem IA{g:Nat}{O:Array Value}{f':Nat×Nat}(U:w.heap[g]?=some (.cells O e f))(h:(w.setRow g cs).heap[g]?=some (.cells cs' e' f')):cs'=cs:=by
 unfold World.setRow at h;simp only[e6,if_true,U,Option.map_some,cQ,Obj.cells.injEq]at h;exact h.1.symm
theorem IK{P:Program}{base:Nat}{t ty:cA}{i:TypeInfo}{z:Value}{size bytes:Nat}(ht:P.underlying t=some (.slice e))(hi:P.info? e=some i)(hz:i.zero=some z)
  (U:i.size=size) (ak:i.bytes=bytes) (au:z.cells.size=size) (ap:0<size)
  {v:Value} {n:Nat} {xs:List Value} (aa:w.ownsRow base e size v n xs)
  {x:Value} {m:Nat} {news:List Value} (hx:ql w size x m news) (h1:∀u∈news,u.oneCell'=true)
  (Y:(n+m)*bytes<=140737488355328) (al:n+m<=c9) (aq:0<m) {v':Value} {w':World} (hr:(cY #[t,t] ty #[v,x]).run P w=.ok v' w')
  (hF:jK F w v) (hN:∀u∈news,F u) (hZ:∀u∈z.cells.toList,F u):jK F w' v':=by
 obtain⟨a,cap,rfl,hc,hm,hl,am⟩:=hx;have an:0<news.length:=by rw[hl]; exact cq aq ap
 obtain⟨b,off,ha,_⟩:=am 0 _ (a5 an);subst ha
 have W:∀j u,news[j]?=some u->w.cell? ((⟨b,off,none⟩:Addr).add j)=some u:=by
  intro j u hj;obtain⟨b',ar,he,ah⟩:=am j u hj;obtain⟨rfl,rfl,_⟩:=he;rw[ew]; exact ah
 have ag:news.length=m*i.size:=by rw[U]; exact hl
 rcases aa.2 with⟨rfl,rfl⟩|⟨g,c,ab,rfl,av,hg,aw,ax,ai,aj⟩
 .have ac:=cI (P:=P) w t ty e i z ht hi hz _ m cap news ag W (by omega) (by simp only[c9]at al; omega) (by rw[ak]; simp only[cm]at Y; omega);rw[ac]at hr;obtain⟨rfl,rfl⟩:=hr;intro g cs e' f hg ai u O;simp only[ej,cQ]at hg;subst hg;have:=Jh ai;subst this;simp at O;rcases O with O|O
  .exact hN u O
  .exact hZ u (su (by simpa using O))
 .by_cases ad:n+m<=c
  .have ao:n*i.size+news.length<=ab.size:=by rw[ag,ai,U,<-cn]; exact ch _ ad
   have ac:=cG (P:=P) w t ty e i ht hi g n c ab hg _ m cap news ag W h1 ad ao;rw[ac]at hr;obtain⟨rfl,rfl⟩:=hr;intro g' cs e' f ae af u O;simp only[ej,cQ]at ae;subst ae;have:=IA hg af;subst this;simp at O;rcases O with O|O|O
   .exact hF g ab e _ rfl hg u (bo O)
   .exact hN u O
   .exact hF g ab e _ rfl hg u (bp O)
  .have holds:=aa.cells (g:=g) rfl;have ac:=cH (P:=P) w t ty e i z ht hi hz _ n c xs (by rw[U]; exact aa.1) holds _ m cap news ag W (by omega) (by simp only[c9]at al; omega) (by rw[ak]; exact cJ (by omega) Y);rw[ac]at hr;obtain⟨rfl,rfl⟩:=hr;intro g' cs e' f ae af u O;simp only[ej,cQ]at ae;subst ae;have:=Jh af;subst this;simp at O;rcases O with O|O|O
   .rw[<-aj]at O;exact hF g ab e _ rfl hg u (bo O)
   .exact hN u O
   .exact hZ u (su (by simpa using O))
theorem uw{P:Program}(w:World){ops:Array Oper}{rest:List Oper}{o:Oper}{a:Act}{Q:Exit->Act->World->Prop}(ae:o.guard=none)(s x:Operand)(t:cA)
  (ho:o.op=.call {callee:=.builtin .append,args:=#[s,x],argTypes:=#[t,t]})
  (base:Nat) (e:cA) (i:TypeInfo) (z:Value) (size bytes:Nat) (ht:P.underlying t=some (.slice e)) (hi:P.info? e=some i) (hz:i.zero=some z)
  (U:i.size=size) (aa:i.bytes=bytes) (ab:z.cells.size=size) (ac:0<size)
  (v:Value) (n:Nat) (xs:List Value) (hs:a.eval s=v) (W:w.ownsRow base e size v n xs)
  (y:Value) (m:Nat) (news:List Value) (hx:a.eval x=y) (hy:ql w size y m news) (h1:∀u∈news,u.oneCell'=true)
  (O:(n+m)*bytes<=140737488355328) (ad:n+m<=c9) (Y:base<=w.heap.size) (af:0<m) (hF:jK F w v) (hN:∀u∈news,F u) (hZ:∀u∈z.cells.toList,F u)
  (h:∀v' w',w'.ownsRow base e size v' (n+m) (xs++news)->w.grownBy w' v.ownBlock->jK F w' v'->cB P ops Q rest (a.put o.dst v') w'):cB P ops Q (o::rest) a w:=by
 refine cC ae λ_ hK=>?_;obtain⟨v',w',hr,h2,h3,h4⟩:=qc (P:=P) w base t o.type e i z size bytes ht hi hz U aa ab ac v n xs W y m news hy h1 O ad Y;have h5:=IK ht hi hz U aa ab ac W hy h1 O ad af hr hF hN hZ;unfold Oper.wp cK;simp only[ho,cO,invoke,builtin,fr,fm,e5,bD,aA,be,hs,hx,hr];exact hK _ _ (h v' w' h2 h3 h5)
end
section
open Go.RowKit
def NY(O:List Wd)(x:Wd):Bool:=O.any λy=>y==x
def jn(xs O:List Wd):Bool:=xs.all λx=>NY O x
theorem Pk(O:List Wd)(k:Nat)(h:k<O.length)(x:Wd):NY (O.take (k+1)) x=(NY (O.take k) x || O[k]==x):=by
 unfold NY;rw[a8 h,bU];simp
theorem zU(xs:List Wd)(j:Nat)(h:j<xs.length):(dp xs)[j]?=some (.string ⟨xs[j].toArray⟩):=gO xs j h
theorem pK(va vb:Value)(xs O:List Wd)(w:World)(ha:ql w 1 va xs.length (dp xs))(hb:ql w 1 vb O.length (dp O))(hx:xs.length<=1000000)(hy:O.length<=1000000) :
  cE prog 20 #[va,vb] w λe w'=>e=.returned (.bool (jn xs O))/\Below w.heap.size w w':=by
 obtain⟨aa,ca,rfl,ap,ak,_,hA⟩:=ha;obtain⟨ab,cb,rfl,aq,al,_,hB⟩:=hb;have HA:fs (∀j(h:j<xs.length),∃b off,aa=some ⟨b,off,none⟩/\w.cell? ⟨b,off+j,none⟩=some (.string ⟨xs[j].toArray⟩)):=λj h=>hA j _ (zU xs j h);have HB:fs (∀j(h:j<O.length),∃b off,ab=some ⟨b,off,none⟩/\w.cell? ⟨b,off+j,none⟩=some (.string ⟨O[j].toArray⟩)):=λj h=>hB j _ (zU O j h);clear hA hB ak al;go_enter func20,ntmps20;go_wp2;go_loopw [5] (λi wr=>∃n:Nat,n<=xs.length/\i=.int .i64 n/\jn (xs.take n) O=true/\Below w.heap.size w wr) (λi _=>xs.length-(intOf i).toNat)
 case atStart=>exact⟨0,cg _,rfl,by simp[jn],fd _ _⟩
 case round=>
  obtain⟨n,hn,rfl,ad,hb⟩:=hrel;have HWI:fs _:=ad;have HBW:fs _:=hb;clear ad hb;by_cases ac:n<xs.length
  .have ae:(n:Int)<(xs.length:Int):=by omega
   generalize wr=wo at *;go_wp2;go_loopw [6,7] (λu i wr=>∃k:Nat,k<=O.length/\i=.int .i64 k/\u=.bool (NY (O.take k) xs[n])/\Below w.heap.size w wr) (λ_ i _=>O.length-(intOf i).toNat)
   case atStart=>exact⟨0,cg _,rfl,by simp[NY],HBW.out⟩
   case round=>
    obtain⟨k,hk,rfl,rfl,af⟩:=hrel;have U:fs _:=af;clear af;by_cases ag:k<O.length
    .have ah:(k:Int)<(O.length:Int):=by omega
     obtain⟨b1,o1,rfl,c1⟩:=HA.out n ac;obtain⟨b2,o2,rfl,c2⟩:=HB.out k ag;have d1:=cD U.out c1;have d2:=cD U.out c2;have ai:=Pk O k ag xs[n];have HST:fs _:=ai;clear ai c1 c2;generalize xs[n]=x at *;generalize O[k]=y at *
     cases W:NY (O.take k) x with
     |true=>
      rw[W]at HST;go_wp2;go_quiet (fail);go_wp2;go_roundw
      case rel=>exact⟨k+1,by omega,by go_num,by rw[HST.out]; rfl,gV U.out _⟩
      case measure=>simp[intOf]; omega
     |false=>
      rw[W]at HST;by_cases Y:y=x
      .subst Y;go_wp2;go_quiet (fail);go_wp2;go_roundw
       case rel=>exact⟨k+1,by omega,by go_num,by rw[HST.out]; simp,gV U.out _⟩
       case measure=>simp[intOf]; omega
      .have ao:¬((⟨y.toArray⟩:ByteArray)=⟨x.toArray⟩):=by
        intro e;apply Y;have:=congrArg (λz:ByteArray=>z.data.toList) e;simpa using this
       go_wp2;go_quiet (fail);go_wp2;go_roundw
       case rel=>
        refine⟨k+1,by omega,by go_num,?_,gV U.out _⟩;rw[HST.out];have:(y==x)=false:=by rw[beq_eq_false_iff_ne]; exact Y
        rw[this]
        first|rfl|simp[Y]
       case measure=>simp[intOf]; omega
    .have am:k=O.length:=by omega
     subst am;have ah:¬((O.length:Int)<(O.length:Int)):=by omega
     rw[aR]
     have HNW:fs (jn (xs.take (n+1)) O=(jn (xs.take n) O&&NY O xs[n])):=by
      show _=_;unfold jn;rw[a8 ac,bV];simp
     have aj:fs (NY O xs[n]=false->jn xs O=false):=λh=>by
      unfold jn;rw[List.all_eq_false];exact⟨xs[n],aG ac,by rw[h]; simp⟩
     generalize xs[n]=x at *
     cases W:NY O x with
     |true=>
      rw[W]at HNW;go_wp2;go_roundw
      case rel=>exact⟨n+1,by omega,by go_num,by rw[HNW.out,HWI.out]; rfl,U.out⟩
      case measure=>simp[intOf]; omega
     |false=>
      go_wp2;go_ret;refine⟨?_,U.out⟩;rw[aj.out W];rfl
  .have an:n=xs.length:=by omega
   subst an;have ae:¬((xs.length:Int)<(xs.length:Int)):=by omega
   go_wp2;go_ret;have h:=HWI.out;rw[aR]at h;refine⟨?_,HBW.out⟩;rw[h];rfl
end
end Go.Proofs.YtocbogeoffeolaaGreatDoor
