import Derived.Below
import Derived.WalkKit
import Derived.WalkSpells
import Derived.Test.YtocbogeoffeolaaGreatDoorProg
import Derived.WalkLawsBesides
import Derived.Deep.Draws
import Derived.WalkSmall
import Derived.Deep.QuietTactic
import Derived.BigQuiet
import Derived.Deep.Light
import Derived.Deep.RegionWith
import Derived.Deep.RegionHeld
import Derived.Deep.CutRange
import Derived.Lib.FieldsP
import Derived.Laws.RangeString
import Derived.Lib.Bytealg
import Derived.Sort.Statements
import Derived.Shelf.SlSortCmp.Insertion
import Derived.Lib.ConvBytes
import Derived.Laws.IdiomStrings
import Derived.Deep.RegionLaw
import Derived.Maps.OwnSet
import Derived.Maps.RangeWalk
set_option linter.all false
set_option maxHeartbeats 8000000
set_option maxRecDepth 1000000
open List renaming getD_eq_getElem?_getD->ay,mem_filter->az,mem_cons->a0,length_append->a5,mem_map->a6,getElem?_eq_getElem->a7,pairwise_cons->a8,mem_append->a9,map_cons->aA,take_succ_eq_append_getElem->aB,length_cons->aC,mem_singleton->aD,filter_append->aE,flatMap_cons->aF,length_filter_le->aG,cons_prefix_cons->aH,getElem_mem->aI,append_assoc->aJ,drop_eq_getElem_cons->aK,filter_filter->aL,nil_prefix->aM,map_append->aN,foldl_cons->aO,sum_cons->aP,mem_flatMap->aQ,range->aR,pairwise_iff_getElem->aS,exists_mem_of_ne_nil->aT,nodup_cons->aU,nil_append->aV,takeWhile_append_dropWhile->aW,takeWhile_cons->aX,length_eq_zero_iff->aY,cons_append->aZ,take_append_drop->ba,nodup_append->bc,filter_congr->bd,pairwise_append->be,take_length->bf,map_nil->bg,filter_cons->bh,filter_sublist->bi,append_nil->bj,take_of_length_le->bk,eq_nil_of_length_eq_zero->bl,range_succ->bm,length_nil->bn,perm_ext_iff_of_nodup->bo,mem_range->bp,foldl_append->bq,any_eq_false->br,pairwise_singleton->bt,any_eq_true->bu,takeWhile_sublist->bv,filter_eq_nil_iff->bw,dropWhile_sublist->bx,mem_of_mem_drop->bz,take_succ_cons->b0,length_pos_iff->b5,filter_eq_self->b6,dropWhile_cons->b7,pairwise_map->b8,count_append->b9,prefix_refl->bA,length_drop->bB,take_append_of_le_length->bC,sum_append->bD,getElem?_append_left->bE,findIdx?_eq_none_iff->bF,length_pos_of_mem->bG,mem_of_mem_take->bH,mem_append_left->bI,getElem_of_mem->bJ,getElem?_drop->bK,perm_middle->bL,map_toArray->bM,length_take->bN,flatMap_map->bO,prefix_nil->bP,length_map->bQ,take_take->bR,length->bS,Nodup->bT
open Option renaming bind_some->bU,bind_eq_some_iff->bV
open Nat renaming le_refl->bW,mul_right_comm->bX,mul_left_comm->bY,mul_le_mul_right->bZ,le_trans->ca,mul_assoc->cb,zero_le->cc,mul_lt_mul_of_pos_right->cd,add_mul->ce,eq_zero_or_pos->cf,min_eq_left->cg,le_antisymm->ch,zero_add->ci,mul_pos->cj,mul_add->ck
open Go.Op renaming bytesLess->cl
open Bool renaming and_eq_true->cm,eq_iff_iff->cn,or_eq_true->cp,or_eq_false_iff->cq,not_eq_true'->cr,eq_false_iff->ct,and_comm->cu,and_eq_false_imp->cv,false_eq_true->cw,false_or->cx
open Go renaming maxLen->cy,TypeId->cz,wpList->c0,wpList_plain->c1,run_append_own->c2,cell_later->c3,run_convert_bytes_string->c4,Calls->c5,execOp->c6,run_append_room->c7,run_append_grow->c8,run_underlying->c9,run_append_nil->cA,growslice_fits->cB,storeCells->cC
open Int renaming tmod_eq_emod_of_nonneg->cD,tdiv_eq_ediv_of_nonneg->cE,eq_ofNat_of_zero_le->cF,emod_nonneg->cG
open UInt8 renaming lt_iff_toNat_lt->cH,ofNat->cI,toNat_inj->cJ
open Option.some renaming injEq->cK
open Go.Lib renaming compareBytes->cL,spansFromP->cM,closeSpans->cN,bytesWorld_size->cO
open Go.Builtin renaming append_->cP,firstCells->cQ,lenOf->cR,len_->cS
open List.Pairwise renaming sublist->cT,of_map->cU,imp_of_mem->cV
open Go.Result.ok renaming injEq->cW
open ByteArray renaming size->cX,ext->cY
open List.Perm renaming append_left->cZ,eq_of_pairwise->da,refl->db,append->dc
open Go.IntKind renaming wrap_i64->dd
open Go.World renaming setCell->de,frozen?->df,cell?->dg
open Go.Addr renaming add_lit->dh,add->di
open Go.Result renaming andThen->dj,andThen_ok->dk
open Go.Value renaming ownBlock->dl
open Go.Maps renaming string_keyed->dm,size->dn,has->dp
open Array renaming toList_inj->dq,getElem?_modify->dr
open Prod renaming fst->dt
namespace Go.Proofs.YtocbogeoffeolaaGreatDoor
open Go.Proofs.Tryz
section
open Go.RowKit
def ik(c:UInt8):Bool:=decide ((97<=c.toNat/\c.toNat<=122)\/(48<=c.toNat/\c.toNat<=57))
def mh(c:UInt8):Bool:=decide (32<=c.toNat/\c.toNat<=126)
def il(l:List UInt8):Bool:=decide (l.length<=24)&&l.all mh
def Ac(c:UInt8):UInt8:=if 65<=c.toNat/\c.toNat<=90 then c+32 else c
def ir(l:List UInt8):List UInt8:=l.map Ac
theorem xe(s:ByteArray)(k:Nat)(h:k<s.size):s.data.toList.take (k+1)=s.data.toList.take k++[s[k]]:=by
 rw[aB _]; rfl
theorem jH(l:List UInt8):(ir l).length=l.length:=by simp[ir]
theorem Kc(l:List UInt8)(c:UInt8):ir (l++[c])=ir l++[Ac c]:=by simp[ir]
def js(l:List UInt8):List Value:=l.map λc=>Value.int .u8 c.toNat
theorem sP(l:List UInt8):(js l).length=l.length:=by simp[js]
theorem Ra(c:UInt8)(h:65<=c.toNat/\c.toNat<=90):((Ac c).toNat:Int)=(c.toNat:Int)+32:=by
 unfold Ac; rw[if_pos h,UInt8.toNat_add];have:(32:UInt8).toNat=32:=rfl;omega
theorem Sn(c:UInt8)(h:¬(65<=c.toNat/\c.toNat<=90)):Ac c=c:=by
 unfold Ac; rw[if_neg h]
def jy(l:List UInt8)(i:Nat):Bool:=ik (l.getD i 0)&&(decide (i=0) || !ik (l.getD (i-1) 0))
def xk(l:List UInt8)(i:Nat):List UInt8:=(l.drop i).takeWhile ik
def mE(l:List UInt8)(k:Nat):List (List UInt8):=((aR k).filter (jy l)).map (xk l)
def kX(l:List UInt8):List (List UInt8):=mE l l.length
def gr(ws:List (List UInt8)):List Value:=ws.map λb=>Value.string ⟨b.toArray⟩
theorem gL(ws:List (List UInt8)):(gr ws).length=ws.length:=by simp[gr]
theorem pB(ws:List (List UInt8))(b:List UInt8):gr (ws++[b])=gr ws++[Value.string ⟨b.toArray⟩]:=by simp[gr]
theorem wX(l:List UInt8)(k:Nat)(h:jy l k=true):mE l (k+1)=mE l k++[xk l k]:=by
 simp[mE,bm,h]
theorem pa(l:List UInt8)(k:Nat)(h:jy l k=false):mE l (k+1)=mE l k:=by
 simp[mE,bm,h]
theorem KH(l:List UInt8)(k:Nat):(mE l k).length<=k:=by
 unfold mE;have:=aG (jy l) (aR k);simpa using this
theorem nO(s:ByteArray)(k:Nat)(h:k<s.size):s.data.toList.getD k 0=s[k]:=by
 rw[ay,a7 _]; rfl
def Ad(l:List UInt8)(i too:Nat):Prop:=i<=too/\too<=l.length/\∀j,i<=j->j<too->ik (l.getD j 0)=true
theorem C1(p:UInt8->Bool):∀(l:List UInt8)(n:Nat),n<=l.length->(∀j,j<n->p (l.getD j 0)=true)->(n=l.length\/p (l.getD n 0)=false)->l.takeWhile p=l.take n:=by
 intro l
 induction l with
 |nil=>simp
 |cons c l ih=>
  intro n h ji O
  cases n with
  |zero=>
   rcases O with U|U
   .simp at U
   .simp at U; simp[U]
  |succ n=>
   have U:=ji 0 (by omega);simp at U;rw[aX,U,b0];simp only[if_true];rw[ih n (by simpa using h) (λj hj=>by have:=ji (j+1) (by omega); simpa using this) ?_];rcases O with Y|Y
   .left; simpa using Y
   .right; simpa using Y
theorem Jk(l:List UInt8)(i too:Nat)(h:Ad l i too)(O:too=l.length\/ik (l.getD too 0)=false):xk l i=(l.drop i).take (too-i):=by
 obtain⟨h1,h2,Y⟩:=h;have U:∀j,(l.drop i).getD j 0=l.getD (i+j) 0:=by simp[ay,bK]
 refine C1 ik _ _ (by simp; omega) (λj hj=>?_) ?_
 .rw[U]; exact Y _ (by omega) (by omega)
 .rcases O with h|h
  .simp; omega
  .right; rw[U,show i+(too-i)=too by omega]; exact h
theorem Ix(l:List UInt8)(k:Nat)(O:k<=l.length):Ad l k k:=⟨bW _,O,λ_ _ _=>by omega⟩
theorem Aq(l:List UInt8)(k t:Nat)(h:Ad l k t)(Y:t<l.length)(O:ik (l.getD t 0)=true):Ad l k (t+1):=
 ⟨by have:=h.1; omega,by omega,λj U h2=>by
   by_cases e:j=t
   .rw[e]; exact O
   .exact h.2.2 j U (by omega)⟩
theorem vN(f:ByteArray)(k t:Nat)(h:Ad f.data.toList k t)(O:t=f.size\/ik (f.data.toList.getD t 0)=false) :
  f.extract k t=⟨(xk f.data.toList k).toArray⟩:=by
 rw[Jk _ k t h (by simpa using O)];apply cY;apply dq.1;simp
theorem F5(s:ByteArray)(k:Nat)(h:k<s.size):s[k]∈s.data.toList:=by
 exact aI _
theorem iy{a b:Bool}(h:a=b):Ending.returned (.bool a)=.returned (.bool b):=by rw[h]
theorem iP{k:IntKind}{a b:Int}(h:a=b):Ending.returned (.int k a)=.returned (.int k b):=by rw[h]
end
section
open Go.RowKit
variable {v:Value} {w:World}
theorem jc{P:Program}(w:World){ops:Array Oper}{rest:List Oper}{o:Oper}{a:Act}{Q:Exit->Act->World->Prop}(ac:o.guard=none)(s x:Operand)(t:cz)
  (ho:o.op=.call {callee:=.builtin .append,args:=#[s,x],argTypes:=#[t,t]})
  (base:Nat) (e:cz) (i:TypeInfo) (z:Value) (bytes:Nat) (ht:P.underlying t=some (.slice e)) (hi:P.info? e=some i) (hz:i.zero=some z)
  (U:i.size=1) (ae:i.bytes=bytes) (af:z.cells.size=1)
  (v:Value) (n:Nat) (xs:List Value) (hs:a.eval s=v) (ab:w.ownsRow base e 1 v n xs)
  (ad:Addr) (y:Value) (hx:a.eval x=.slice (some ad) 1 1) (Y:w.cell? ad=some y) (h1:y.oneCell'=true)
  (O:(n+1)*bytes<=140737488355328) (ag:n+1<=cy) (aa:base<=w.heap.size)
  (h:∀v' w',w'.ownsRow base e 1 v' (n+1) (xs++[y])->w.grownBy w' v.ownBlock->v'≠.slice none 0 0->c0 P ops Q rest (a.put o.dst v') w'):c0 P ops Q (o::rest) a w:=by
 refine wpList_append_own w ac s x t ho base e i z 1 bytes ht hi hz U ae af (by decide) v n xs hs ab ad 1 1 [y] hx rfl ?_ ?_ ag O aa ?_
 .intro j u hj
  match j,hj with
  |0,hj=>simp at hj; subst hj; simpa[di]using Y
  |j+1,hj=>simp at hj
 .intro u hu; simp at hu; subst hu; exact h1
 .intro v' w' h2 h3 h4;refine h v' w' h2 h3 ?_;intro he;have:=h4.1 he;simp at this
theorem lr{t:cz}:(w.alloc (.cells #[v] t)).cell? ⟨w.heap.size,0,none⟩=some v:=by
 rw[World.cell?_alloc_at _ _ _ _ rfl]; rfl
theorem Jm:∀(l:List UInt8)(s:ByteArray),(l.map λc=>(c.toNat:Int)).foldl (λr n=>r.push (cI n.toNat)) s=⟨s.data++l.toArray⟩:=by
 intro l
 induction l with
 |nil=>simp
 |cons c l O=>
  intro s;rw[aA,aO,O];simp
theorem JN{P:Program}{base u8 src O n:Nat}{l:List UInt8}(h:w.ownsRow base u8 1 v n (js l))
  (hs:P.underlying src=some (.slice u8)) (he:P.underlying u8=some (.int .u8)) (hd:P.underlying O=some .string) :
  (convert src O v).run P w=.ok (.string ⟨l.toArray⟩) w:=by
 have h0:=h;obtain⟨U,h⟩:=h;rcases h with⟨rfl,rfl⟩|⟨g,cap,aa,rfl,_,hg,_,_,ab,ac⟩
 .have:=by simpa[js]using U
  subst this;rw[c4 w src O u8 _ _ _ hs he hd];rfl
 .rw[c4 w src O u8 _ _ _ hs he hd];have hn:n=l.length:=by rw[sP]at U; omega
  have Y:=run_loadCells_list (P:=P) w _ _ (h0.cells rfl);rw[sP,<-hn]at Y;have e:js l=(l.map λc=>c.toNat).map (Value.int .u8):=by simp[js]
  rw[e]at Y;rw[run_bytesToString w _ _ _ _ Y,Jm];simp
end
section
open Go.RowKit
theorem IC:(prog.info? 5).map (λi=>(i.zero,i.size,i.bytes))=some (some (.int .u8 0),1,1):=by kernel_rfl
end
section
open Go.RowKit
theorem yM:(prog.info? 9).map (λi=>(i.zero,i.size,i.bytes))=some (some (.string ⟨#[]⟩),1,16):=by kernel_rfl
end
section
open Go.RowKit
abbrev Wd:=List UInt8
def Aw(t ws:List Wd)(k j:Nat):Bool:=decide ((t.drop k).take j=ws.take j)
def rK(t ws:List Wd)(k:Nat):Bool:=Aw t ws k ws.length
def lu(t ws:List Wd)(k:Nat):Nat:=((aR k).filter (rK t ws)).length
def tZ(t ws:List Wd):Nat:=lu t ws (t.length+1-ws.length)
def kC(O:List (List Wd))(ws:List Wd):Nat:=(O.map λt=>tZ t ws).sum
def jP(O:List (List Wd)):Nat:=(O.map λt=>t.length+1).sum
theorem BX(t ws:List Wd)(k:Nat)(h:rK t ws k=true):lu t ws (k+1)=lu t ws k+1:=by
 simp[lu,bm,h]
theorem F8(t ws:List Wd)(k:Nat)(h:rK t ws k=false):lu t ws (k+1)=lu t ws k:=by
 simp[lu,bm,h]
theorem EJ(t ws:List Wd)(k:Nat):lu t ws k<=k:=by
 have:=aG (rK t ws) (aR k);simpa[lu]using this
theorem JK(t ws:List Wd):tZ t ws<=t.length+1:=by
 have:=EJ t ws (t.length+1-ws.length);unfold tZ; omega
theorem Ki(O:List (List Wd))(i:Nat)(h:i<O.length):jP (O.take (i+1))=jP (O.take i)+(O[i].length+1):=by
 unfold jP;rw[aB h,aN,bD]; rfl
theorem NP(O:List (List Wd))(ws:List Wd):kC O ws<=jP O:=by
 induction O with
 |nil=>simp[kC,jP]
 |cons t O U=>
  have h:=JK t ws;simp only[kC,jP,aA,aP]at U⊢;omega
end
section
open Go.RowKit
def Rd(w:World)(v:Value)(xs:List Value):Prop:=
 ∃a cap,v=.slice a xs.length cap/\xs.length<=cap/\cap<=cy/\∀j u,xs[j]?=some u->∃b off,a=some ⟨b,off,none⟩/\w.cell? ⟨b,off+j,none⟩=some u
theorem Rd.lT{w:World}{base e n:Nat}{v:Value}{xs:List Value}(h:w.ownsRow base e 1 v n xs):Rd w v xs:=by
 have U:=h;obtain⟨Y,h⟩:=h;rcases h with⟨rfl,rfl⟩|⟨g,cap,aa,rfl,_,hg,hn,O,ab,ac⟩
 .have:=by simpa using Y
  subst this;exact⟨none,0,rfl,bW _,by omega,by simp⟩
 .have e:n=xs.length:=by omega
  refine⟨some _,cap,by rw[e],by omega,O,λj u hj=>⟨g,0,rfl,?_⟩⟩;have:=U.cells (g:=g) rfl j u hj
  have e2:(⟨g,0,none⟩:Addr).add j=⟨g,0+j,none⟩:=by
   unfold di;split
   .rename_i h; rw[h]
   .rfl
  rw[e2]at this;exact this
theorem kh(ws:List Wd)(j:Nat)(h:j<ws.length):(gr ws)[j]?=some (.string ⟨ws[j].toArray⟩):=by
 simp[gr,h]
end
section
open Go.RowKit
def zU(out:List Wd)(x:Wd):Nat:=(out.takeWhile λy=>cl y x).length
def wQ(out:List Wd)(x:Wd):List Wd:=if out[zU out x]?=some x then out else out.take (zU out x)++([x]++out.drop (zU out x))
def zv(out:List Wd)(t:List Wd)(k:Nat):List Wd:=(t.take k).foldl wQ out
def iN(O:List (List Wd)):List Wd:=O.foldl (λout t=>t.foldl wQ out) []
theorem Vq(out:List Wd)(x:Wd):zU out x<=out.length:=(bv _).length_le
theorem Cf{α:Type}(p:α->Bool):∀(l:List α)(n:Nat)(O:n<=l.length),(∀j(h:j<n),p (l[j]'(by omega))=true)->(∀h:n<l.length,p l[n]=false)->(l.takeWhile p).length=n:=by
 intro l
 induction l with
 |nil=>intro n O _ _; simp at O; simp[O]
 |cons c l ih=>
  intro n O U Y
  cases n with
  |zero=>have:=Y (by simp); simp at this; simp[this]
  |succ n=>
   have h0:=U 0 (by omega);simp at h0;rw[aX,h0];simp only[if_true,aC];rw[ih n (by simpa using O) (λj hj=>by have:=U (j+1) (by omega); simpa using this) (λhh=>by have:=Y (by simpa using hh); simpa using this)]
theorem PD(out:List Wd)(x:Wd):(wQ out x).length<=out.length+1:=by
 unfold wQ;split
 .omega
 .simp; omega
theorem I0(O:List (List Wd))(i:Nat)(h:i<O.length):iN (O.take (i+1))=zv (iN (O.take i)) O[i] O[i].length:=by
 unfold iN zv;rw[aB h,bq,bf]; rfl
theorem Cc(t:List Wd):∀out,(t.foldl wQ out).length<=out.length+t.length:=by
 induction t with
 |nil=>simp
 |cons x t O=>intro out; have:=O (wQ out x); have:=PD out x; simp only[aO,aC]; omega
theorem FE(out t:List Wd)(k:Nat):(zv out t k).length<=out.length+k:=by
 have:=Cc (t.take k) out;unfold zv;simp at this⊢; omega
theorem IX(O:List (List Wd))(i:Nat)(hi:i<=O.length):(iN (O.take i)).length<=jP (O.take i):=by
 induction i with
 |zero=>simp[iN]
 |succ i U=>
  rw[I0 O i (by omega),Ki O i (by omega)];have:=FE (iN (O.take i)) O[i] O[i].length;omega
end
section
open Go.RowKit
variable {xs:List Value} {ws:List Wd} {b base cap e n:Nat} {a:Option Addr} {v:Value} {w w':World}
theorem na{P:Program}(w:World)(t O e:cz)(i:TypeInfo)(U:P.underlying t=some (.slice e))(hi:P.info? e=some i)(b:Option Addr)(n cap c:Nat)(h:n<=cap) :
  (cP #[t,t] O #[.slice b n cap,.slice none 0 c]).run P w=.ok (.slice b n cap) w:=by
 cases b<;>simp[cP,c9 U,sizeOf,typeInfo,hi,cR,cQ,h,cC]
theorem gU(h:w.ownsRow base e 1 v n xs):∃a cap,v=.slice a n cap/\n<=cap:=by
 rcases h.2 with⟨rfl,rfl⟩|⟨g,cap,O,rfl,_,_,U,_⟩
 .exact⟨none,0,rfl,bW _⟩
 .exact⟨_,cap,rfl,U⟩
theorem Cq{P:Program}(w:World)(base:Nat)(t ty e:cz)(i:TypeInfo)(z:Value)(bytes:Nat)(ht:P.underlying t=some (.slice e))(hi:P.info? e=some i)(hz:i.zero=some z)
  (Y:i.size=1) (ac:i.bytes=bytes) (ae:z.cells.size=1)
  (v:Value) (n:Nat) (xs:List Value) (O:w.ownsRow base e 1 v n xs)
  (x:Value) (news:List Value) (hx:Rd w x news) (h1:∀u∈news,u.oneCell'=true)
  (U:(n+news.length)*bytes<=140737488355328) (af:n+news.length<=cy) (aa:base<=w.heap.size) :
  ∃v' w',(cP #[t,t] ty #[v,x]).run P w=.ok v' w'/\w'.ownsRow base e 1 v' (n+news.length) (xs++news)/\w.grownBy w' v.ownBlock:=by
 obtain⟨a,cap,rfl,hc,hm,hr⟩:=hx
 cases a with
 |none=>
  have hn:news=[]:=by
   cases news with
   |nil=>rfl
   |cons u us=>obtain⟨b,off,he,_⟩:=hr 0 u rfl; simp at he
  subst hn;obtain⟨b,c,rfl,ag⟩:=gU O;refine⟨_,w,na w t ty e i ht hi b n c cap ag,by simpa using O,World.grownBy.refl ..⟩
 |some ad=>
  by_cases hn:news=[]
  .subst hn;obtain⟨v',w',h1,h2,h3,_⟩:=c2 (P:=P) w base t ty e i z 1 bytes ht hi hz Y ac ae (by decide) v n xs O ad 0 cap [] rfl (by simp) (by simp) (by simpa using af) (by simpa using U) aa;exact⟨v',w',h1,h2,h3⟩
  .obtain⟨b,off,he,_⟩:∃b off,some ad=some ⟨b,off,none⟩/\True:=by
    cases news with
    |nil=>exact absurd rfl hn
    |cons u us=>obtain⟨b,off,he,_⟩:=hr 0 u rfl; exact⟨b,off,he,trivial⟩
   simp only[cK]at he;subst he
   obtain⟨v',w',h1,h2,h3,_⟩:=c2 (P:=P) w base t ty e i z 1 bytes ht hi hz Y ac ae (by decide) v n xs O _ _ cap news (by simp) (λj u hj=>by
    obtain⟨b',ah,he,ab⟩:=hr j u hj;obtain⟨rfl,rfl,_⟩:=he
    rw[dh]; exact ab) h1 af U aa
   exact⟨v',w',h1,h2,h3⟩
theorem sR{P:Program}(w:World)(base:Nat)(t ty e:cz)(i:TypeInfo)(z:Value)(bytes:Nat)(ht:P.underlying t=some (.slice e))(hi:P.info? e=some i)(hz:i.zero=some z)
  (O:i.size=1) (ae:i.bytes=bytes) (ai:z.cells.size=1)
  (v:Value) (n:Nat) (xs:List Value) (U:w.ownsRow base e 1 v n xs)
  (x:Value) (news:List Value) (hx:Rd w x news) (h1:∀u∈news,u.oneCell'=true)
  (Y:(n+news.length)*bytes<=140737488355328) (af:n+news.length<=cy) (ac:base<=w.heap.size) :
  ∃v' w',(cP #[t,t] ty #[v,x]).run P w=.ok v' w'/\w'.ownsRow base e 1 v' (n+news.length) (xs++news)/\w.grownBy w' v.ownBlock/\(v'.ownBlock=v.ownBlock\/v'.ownBlock=some w.heap.size):=by
 obtain⟨v',w',hr,h2,h3⟩:=Cq (P:=P) w base t ty e i z bytes ht hi hz O ae ai v n xs U x news hx h1 Y af ac;refine⟨v',w',hr,h2,h3,?_⟩;obtain⟨a,cap,rfl,hc,hm,aj⟩:=hx
 cases a with
 |none=>
  have hn:news=[]:=by
   cases news with
   |nil=>rfl
   |cons u us=>obtain⟨b,off,he,_⟩:=aj 0 u rfl; simp at he
  subst hn;obtain⟨b,c,rfl,ak⟩:=gU U;have:=na (P:=P) w t ty e i ht hi b n c cap ak;simp only[bn]at hr;rw[this]at hr;simp only[cW]at hr;exact Or.inl (by rw[<-hr.1])
 |some ad=>
  have ab:∀j u,news[j]?=some u->w.cell? (ad.add j)=some u:=by
   intro j u hj;obtain⟨b,off,he,ag⟩:=aj j u hj;simp only[cK]at he;subst he;rw[dh]; exact ag
  have hl:news.length=news.length*i.size:=by rw[O]; omega
  rcases U.2 with⟨rfl,rfl⟩|⟨g,c,al,rfl,ap,hg,ak,aq,ar,am⟩
  .by_cases an:news.length=0
   .have hn:=bl an;subst hn;rcases h2.2 with⟨rfl,_⟩|⟨g',c',ao,rfl,_,au,_⟩
    .exact Or.inl rfl
    .have:=c2 (P:=P) w base t ty e i z 1 bytes ht hi hz O ae ai (by decide) _ 0 xs U ad 0 cap [] rfl (by simp) (by simp) (by simp) (by simp) ac;obtain⟨v2,w2,aa,_,_,h4⟩:=this;simp only[bn]at hr;rw[hr]at aa;simp only[cW]at aa;have:=h4.2 ⟨rfl,rfl⟩;rw[<-aa.1]at this;simp at this
   .have aa:=cA (P:=P) w t ty e i z ht hi hz ad _ cap news hl ab (by omega) (by simp only[cy]at af; omega) (by rw[ae]; simp only[ci]at Y; omega);rw[aa]at hr;simp only[cW]at hr;exact Or.inr (by rw[<-hr.1]; rfl)
  .by_cases ah:n+news.length<=c
   .have aa:=c7 (P:=P) w t ty e i ht hi g n c al hg ad _ cap news hl ab h1 ah (by rw[O]; omega);rw[aa]at hr;simp only[cW]at hr;exact Or.inl (by rw[<-hr.1]; rfl)
   .have holds:=U.cells (g:=g) rfl;have aa:=c8 (P:=P) w t ty e i z ht hi hz _ n c xs (by rw[O]; exact U.1) holds ad _ cap news hl ab (by omega) (by simp only[cy]at af; omega) (by rw[ae]; exact cB (by omega) Y);rw[aa]at hr;simp only[cW]at hr;exact Or.inr (by rw[<-hr.1]; rfl)
theorem jk{P:Program}(w:World){ops:Array Oper}{rest:List Oper}{o:Oper}{a:Act}{Q:Exit->Act->World->Prop}(ab:o.guard=none)(s x:Operand)(t:cz)
  (ho:o.op=.call {callee:=.builtin .append,args:=#[s,x],argTypes:=#[t,t]})
  (base:Nat) (e:cz) (i:TypeInfo) (z:Value) (bytes:Nat) (ht:P.underlying t=some (.slice e)) (hi:P.info? e=some i) (hz:i.zero=some z)
  (U:i.size=1) (ac:i.bytes=bytes) (ad:z.cells.size=1)
  (v:Value) (n:Nat) (xs:List Value) (hs:a.eval s=v) (aa:w.ownsRow base e 1 v n xs)
  (y:Value) (news:List Value) (hx:a.eval x=y) (hy:Rd w y news) (h1:∀u∈news,u.oneCell'=true)
  (O:(n+news.length)*bytes<=140737488355328) (ae:n+news.length<=cy) (Y:base<=w.heap.size)
  (h:∀v' w',w'.ownsRow base e 1 v' (n+news.length) (xs++news)->w.grownBy w' v.ownBlock->(v'.ownBlock=v.ownBlock\/v'.ownBlock=some w.heap.size)->c0 P ops Q rest (a.put o.dst v') w'):c0 P ops Q (o::rest) a w:=by
 refine c1 ab λ_ hK=>?_;obtain⟨v',w',hr,h2,h3,h4⟩:=sR (P:=P) w base t o.type e i z bytes ht hi hz U ac ad v n xs aa y news hy h1 O ae Y;unfold Oper.wp c6;simp only[ho,resolve,invoke,builtin,Sem.run_bind,Sem.run_pure,dk,bM,aA,bg,hs,hx,hr];exact hK _ _ (h v' w' h2 h3 h4)
theorem Rd.one{y:Value}(h:w.cell? ⟨b,0,none⟩=some y):Rd w (.slice (some ⟨b,0,none⟩) 1 1) [y]:=by
 refine⟨some _,1,rfl,bW _,by unfold cy; omega,λj u O=>⟨b,0,rfl,?_⟩⟩
 match j,O with
 |0,O=>simp at O; subst O; exact h
 |j+1,O=>simp at O
theorem n4:∀u∈gr ws,u.oneCell'=true:=by
 intro u O;simp only[gr,a6]at O;obtain⟨b,_,rfl⟩:=O;rfl
theorem Rd.take(h:Rd w (.slice a n cap) xs)(k:Nat)(hk:k<=xs.length):Rd w (.slice a k cap) (xs.take k):=by
 obtain⟨a',U,Y,hc,hm,hr⟩:=h;obtain⟨rfl,rfl,rfl⟩:=Y;have hl:(xs.take k).length=k:=by simp; omega
 refine⟨a,cap,by rw[hl],by omega,hm,λj u O=>hr j u ?_⟩;rw[List.getElem?_take]at O;split at O
 .exact O
 .simp at O
theorem Rd.Ph(h:Rd w (.slice a n cap) (gr ws))(k:Nat)(O:k<=ws.length):Rd w (.slice a k cap) (gr (ws.take k)):=by
 have:=h.take k (by rw[gL]; exact O);simpa[gr]using this
theorem Rd.drop(h:Rd w (.slice a n cap) xs)(k:Nat)(hk:k<=xs.length) :
  Rd w (.slice (if cap=k then a else a.map λx=>x.add k) (n-k) (cap-k)) (xs.drop k):=by
 obtain⟨a',Y,he,hc,hm,hr⟩:=h;obtain⟨rfl,rfl,rfl⟩:=he;refine⟨if cap=k then a else a.map _,cap-k,by rw[bB],by simp; omega,by omega,λj u U=>?_⟩;rw[bK]at U;obtain⟨b,off,rfl,O⟩:=hr _ u U
 have aa:k+j<xs.length:=by
  by_cases h:k+j<xs.length
  .exact h
  .rw[List.getElem?_eq_none (by omega)]at U; simp at U
 refine⟨b,off+k,?_,by rw[Nat.add_assoc]; exact O⟩;rw[if_neg (by omega)];simp[dh]
theorem Rd.Ai(h:Rd w (.slice a n cap) (gr ws))(k:Nat)(O:k<=ws.length) :
  Rd w (.slice (if cap=k then a else a.map λx=>x.add k) (n-k) (cap-k)) (gr (ws.drop k)):=by
 have:=h.drop k (by rw[gL]; exact O);simpa[gr]using this
theorem Rd.Gf{off:Nat}(h:Rd w (.slice (some ⟨b,off,none⟩) n cap) (gr ws))(k:Nat)(O:k<ws.length)(U:n<=cap)(Y:n=ws.length) :
  Rd w (.slice (some ⟨b,off+k,none⟩) (n-k) (cap-k)) (gr (ws.drop k)):=by
 have:=h.Ai k (by omega);rw[if_neg (by omega)]at this;simpa[dh]using this
theorem Rd.Km{c:Nat}(O:n=0)(U:c<=cy):Rd w (.slice a n c) []:=by
 subst O;exact⟨a,c,rfl,cc _,U,by simp⟩
theorem Rd.later(h:Rd w v xs)(U:∀a u,w.cell? a=some u->w'.cell? a=some u):Rd w' v xs:=by
 obtain⟨a,cap,Y,h1,h2,hr⟩:=h;refine⟨a,cap,Y,h1,h2,λj u hj=>?_⟩;obtain⟨b,off,e,O⟩:=hr j u hj;exact⟨b,off,e,U _ _ O⟩
theorem Sy{a:Addr}{u:Value}(h:w.cell? a=some u):a.block<w.heap.size:=by
 by_cases O:a.block<w.heap.size
 .exact O
 .unfold dg at h;rw[Array.getElem?_eq_none (by omega)]at h;simp at h
theorem Rd.below(h:Rd w v xs)(hb:Below w.heap.size w w'):Rd w' v xs:=
 h.later λ_ _ O=>c3 hb O
theorem mA{O size:Nat}(h:w.ownsRow base e size v n xs)(hb:O<=base):w.ownsRow O e size v n xs:=by
 obtain⟨h1,U⟩:=h;refine⟨h1,?_⟩;rcases U with U|⟨g,cap,Y,hv,hg,r⟩
 .exact Or.inl U
 .exact Or.inr ⟨g,cap,Y,hv,by omega,r⟩
end
section
open Go.RowKit
def qR(O:List (List Wd)):Nat:=(O.map λt=>t.length).sum
def V3(O:List (List Wd))(l:List Wd)(x:Wd):Nat:=kC O [l.getD (l.length-2) [],l.getD (l.length-1) [],x]
def Vm(O:List (List Wd))(l:List Wd)(x:Wd):Nat:=kC O [l.getD (l.length-1) [],x]
def tr(O:List (List Wd))(l:List Wd)(x:Wd):Nat×Nat:=
 if 1<l.length/\0<V3 O l x then(V3 O l x,kC O [l.getD (l.length-2) [],l.getD (l.length-1) []])
 else if 0<l.length/\0<Vm O l x then(4*Vm O l x,10*kC O [l.getD (l.length-1) []])
 else(16*kC O [x],100*qR O)
theorem Mi(O:List (List Wd)):qR O<=jP O:=by
 induction O with
 |nil=>simp[qR,jP]
 |cons t O U=>simp only[qR,jP,aA,aP]at U⊢; omega
end
section
open Go.RowKit
theorem Ei(ws:List Wd)(j:Nat)(h:j<ws.length):(gr ws)[j]?=some (.string ⟨(ws.getD j []).toArray⟩):=by
 rw[kh ws j h,ay,a7 h]; rfl
theorem Ly(n k:Int)(h:n=k)(O:0<=n)(U:n<=4611686018427387904):IntKind.i64.wrap n=k:=by
 rw[IntWalk.i64_in n (by omega),h]
end
section
open Go.RowKit
abbrev Fr:=Nat×Nat
def wU(O:List Fr)(i j:Nat):Bool:=decide ((O.getD j (0,0)).1*(O.getD i (0,0)).2<(O.getD i (0,0)).1*(O.getD j (0,0)).2)
def kg(O:List Fr)(told:List Bool):Nat->Option Nat
 |0=>none
 |i+1=>if told.getD i false=true then kg O told i else
  match kg O told i with
  |none=>some i
  |some j=>if wU O i j=true then some i else some j
def AA(O:List Fr):List Bool->Nat->List Nat
 |_,0=>[]
 |told,n+1=>match kg O told O.length with
  |none=>[]
  |some b=>b::AA O (told.set b true) n
def Wa(O:List (List Wd))(l:List Wd):List Fr:=(iN O).map (tr O l)
def lq(O:List (List Wd))(l:List Wd)(most:Nat):List Wd:=
 (AA (Wa O l) (List.replicate (iN O).length false) (min most (iN O).length)).map λi=>(iN O).getD i []
theorem CP(ab:List Fr)(told:List Bool):∀(i j:Nat),kg ab told i=some j->j<i/\told.getD j false=false:=by
 intro i
 induction i with
 |zero=>intro j h; simp[kg]at h
 |succ i U=>
  intro j h;unfold kg at h;split at h
  .have:=U j h; exact⟨by omega,this.2⟩
  .rename_i Y;split at h
   .simp at h; subst h; exact⟨by omega,by simpa using Y⟩
   .rename_i j' O;split at h
    .simp at h; subst h; exact⟨by omega,by simpa using Y⟩
    .simp at h; subst h; have:=U j' O; exact⟨by omega,this.2⟩
theorem yH(O:List Fr)(told:List Bool):∀(i:Nat),kg O told i=none->∀j,j<i->told.getD j false=true:=by
 intro i
 induction i with
 |zero=>omega
 |succ i U=>
  intro h j hj;unfold kg at h;split at h
  .rename_i Y;by_cases e:j=i
   .subst e; exact Y
   .exact U h j (by omega)
  .split at h
   .simp at h
   .split at h<;>simp at h
theorem FY(O:List Fr)(told:List Bool)(i:Nat)(h:told.getD i false=true):kg O told (i+1)=kg O told i:=by simp only[kg]; rw[if_pos h]
theorem Fz(O:List Fr)(told:List Bool)(i:Nat)(h:told.getD i false=false)(U:kg O told i=none):kg O told (i+1)=some i:=by simp only[kg]; rw[if_neg (by rw[h]; simp),U]
theorem Cd(O:List Fr)(told:List Bool)(i j:Nat)(h:told.getD i false=false)(U:kg O told i=some j)(hb:wU O i j=true):kg O told (i+1)=some i:=by simp only[kg]; rw[if_neg (by rw[h]; simp),U]; simp[hb]
theorem EE(O:List Fr)(told:List Bool)(i j:Nat)(h:told.getD i false=false)(U:kg O told i=some j)(hb:wU O i j=false):kg O told (i+1)=some j:=by simp only[kg]; rw[U]; simp[hb]
end
section
open Go.RowKit
variable {xs:List Value} {base c e g m n:Nat} {v:Value} {w:World}
def ig(l:List Nat):List Value:=l.map λ(n:Nat)=>Value.int .i64 (n:Int)
theorem Av(l:List Nat):(ig l).length=l.length:=by simp[ig]
theorem l7(l:List Nat)(j:Nat)(h:j<l.length):(ig l)[j]?=some (.int .i64 (l.getD j 0)):=by
 simp[ig,ay,h]
theorem SV:(prog.info? 3).map (λi=>(i.zero,i.size,i.bytes))=some (some (.int .i64 0),1,8):=by kernel_rfl
theorem K6{w':World}(h:w.ownsRow base e 1 v n xs)(hb:Below w.heap.size w w'):w'.ownsRow base e 1 v n xs:=
 h.kept (row:=none) ⟨hb.os,hb.tape,hb.output,hb.size,λk O _=>hb.block k O⟩ (by cases v.ownBlock<;>simp)
theorem lJ{a:Option Addr}(h:w.ownsRow base e 1 (.slice a m c) n xs)(k:Nat)(u:Value)(U:xs[k]?=some u):∃b off,a=some ⟨b,off,none⟩/\w.cell? ⟨b,off+k,none⟩=some u:=by
 obtain⟨a',c',O,_,_,Y⟩:=Rd.lT h;simp only[Value.slice.injEq]at O;rw[O.1];exact Y k u U
theorem tR(h:w.ownsRow base e 1 (.slice (some ⟨g,0,none⟩) m c) n xs)(o:Nat):w.frozen? ⟨g,o,none⟩=false:=by
 rcases h.2 with⟨h,_⟩|⟨g',cap,O,U,_,Y,_⟩
 .simp at h
 .obtain⟨⟨rfl,_⟩,_⟩:=U;simp[df,Y]
theorem A5(h:w.ownsRow base e 1 (.slice (some ⟨g,0,none⟩) m c) n xs)(k:Nat)(v:Value)(hk:k<n) :
  (w.setCell ⟨g,k,none⟩ v).ownsRow base e 1 (.slice (some ⟨g,0,none⟩) m c) n (xs.set k v):=by
 obtain⟨Y,h2⟩:=h;refine⟨by simpa using Y,?_⟩;rcases h2 with⟨h,_⟩|⟨g',cap,O,he,hb,hg,h3,h4,h5,h6⟩
 .simp at h
 .have U:=he;obtain⟨⟨rfl,_⟩,rfl,rfl⟩:=U;refine Or.inr ⟨g,c,O.setIfInBounds k v,rfl,hb,?_,h3,h4,by simpa using h5,?_⟩
  .simp only[de,dr,hg];simp
  .rw[Array.toList_setIfInBounds,List.take_set,h6]
theorem Mh{b:Nat}{t:cz}(hb:b=w.heap.size):(w.alloc (.cells #[v] t)).cell? ⟨b,0,none⟩=some v:=by
 subst hb; exact lr
end
section
open Go.RowKit
variable {cs:Array Value} {xs:List Value} {b base e n:Nat} {fz:Nat×Nat} {F G:Nat->Prop} {t:cz} {v:Value} {w w':World}
structure gz(F:Nat->Prop)(w w':World):Prop where
 os:w'.os=w.os
 tape:w'.tape=w.tape
 output:w'.output=w.output
 size:w.heap.size<=w'.heap.size
 block:∀k,k<w.heap.size->¬F k->w'.heap[k]?=w.heap[k]?
def SM(F:Nat->Prop)(w w':World):Nat->Prop:=λk=>F k\/(w.heap.size<=k/\k<w'.heap.size)
theorem gz.refl(F:Nat->Prop)(w:World):gz F w w:=⟨rfl,rfl,rfl,bW _,λ_ _ _=>rfl⟩
theorem gz.jm(h:Below w.heap.size w w'):gz F w w':=⟨h.os,h.tape,h.output,h.size,λk O _=>h.block k O⟩
theorem gz.trans{a b c:World}(h:gz F a b)(k:gz G b c)(O:∀i,i<a.heap.size->G i->F i):gz F a c:=
 ⟨k.os.trans h.os,k.tape.trans h.tape,k.output.trans h.output,ca h.size k.size,λi hi hF=>by
   rw[k.block i (Nat.lt_of_lt_of_le hi h.size) (λU=>hF (O i hi U)),h.block i hi hF]⟩
theorem gz.mono(h:gz F w w')(hF:∀k,F k->G k):gz G w w':=⟨h.os,h.tape,h.output,h.size,λk O U=>h.block k O (λY=>U (hF k Y))⟩
theorem iz(h:w.ownsRow base e 1 v n xs)(hb:∀k,v.ownBlock=some k->w'.heap[k]?=w.heap[k]?):w'.ownsRow base e 1 v n xs:=by
 obtain⟨h1,O⟩:=h;refine⟨h1,?_⟩;rcases O with O|⟨g,cap,U,rfl,Y,hg,r⟩
 .exact Or.inl O
 .exact Or.inr ⟨g,cap,U,rfl,Y,by rw[hb g rfl]; exact hg,r⟩
theorem gq(h:w.heap[b]?=some (.cells cs t fz))(o:Nat):w.cell? ⟨b,o,none⟩=cs[o]?:=by
 simp[dg,h]
theorem gP(h:w.heap[b]?=some (.cells cs t (0,0)))(o:Nat):w.frozen? ⟨b,o,none⟩=false:=by
 simp[df,h]
theorem heap_set(h:w.heap[b]?=some (.cells cs t fz))(o:Nat)(v:Value):(w.setCell ⟨b,o,none⟩ v).heap[b]?=some (.cells (cs.setIfInBounds o v) t fz):=by
 simp[de,dr,h]
theorem sI(h:w.heap[b]?=some (.cells cs t fz))(ho:w.ownsRow base e 1 v n xs)(O:t≠e):v.ownBlock≠some b:=by
 rcases ho.2 with⟨rfl,_⟩|⟨g,cap,aa,rfl,_,U,_⟩
 .simp[dl]
 .intro Y;simp only[dl,cK]at Y;rw[Y,h]at U;simp only[cK,Obj.cells.injEq]at U;exact O U.2.1
end
section
open Go.RowKit
def pk(c:Int)(n:Nat):Nat:=((if c<0 then -(c+1)else c) % (n:Int)).toNat
theorem sO(c:Int)(n:Nat)(O:0<n):pk c n<n:=by
 unfold pk;have U:=Int.emod_lt_of_pos (if c<0 then -(c+1)else c) (show(0:Int)<n by omega);omega
theorem lK(c:Int)(n:Nat)(w:World)(h0 : -9223372036854775808<=c)(h1:c<=9223372036854775807)(hn:0<n)(U:n<=1000000):c5 prog 15 #[.int .i64 c,.int .i64 (n:Int)] w λe w'=>e=.returned (.int .i64 (pk c n:Nat))/\w=w':=by
 have Y:¬((n:Int)=0):=by omega
 have aa:¬((n:Int) = -1):=by omega
 by_cases O:c<0
 .have e:((pk c n):Int)=(-(c+1)).tmod n:=by
   unfold pk;rw[if_pos O,cD (by omega)];have:=cG (-(c+1)) (show(n:Int)≠0 by omega);omega
  rw[e];go_wp2;go_ret;refine⟨?_,rfl⟩;show Ending.returned (.int _ _)=_;rw[Int.neg_tmod]
 .have e:((pk c n):Int)=c.tmod n:=by
   unfold pk;rw[if_neg O,cD (by omega)];have:=cG c (show(n:Int)≠0 by omega);omega
  go_wp2;go_ret;refine⟨?_,rfl⟩;show Ending.returned (.int _ _)=_;rw[cD (by omega)]
end
section
open Go.RowKit
variable {xs:List Value} {base e n size:Nat} {v:Value} {w:World}
theorem ku{w':World}(h:w.ownsRow base e size v n xs)(hb:∀k,v.ownBlock=some k->w'.heap[k]?=w.heap[k]?):w'.ownsRow base e size v n xs:=by
 obtain⟨h1,O⟩:=h;refine⟨h1,?_⟩;rcases O with O|⟨g,cap,U,rfl,Y,hg,r⟩
 .exact Or.inl O
 .exact Or.inr ⟨g,cap,U,rfl,Y,by rw[hb g rfl]; exact hg,r⟩
theorem wj{b1 b2 e1 e2 s1 s2 n1 n2:Nat}{v1 v2:Value}{x1 x2:List Value}(h1:w.ownsRow b1 e1 s1 v1 n1 x1)(h2:w.ownsRow b2 e2 s2 v2 n2 x2)(aa:e1≠e2)(k:Nat)(O:v1.ownBlock=some k)(U:v2.ownBlock=some k):False:=by
 rcases h1.2 with⟨rfl,_⟩|⟨g,cap,ad,rfl,_,hg,_⟩
 .simp[dl]at O
 .rcases h2.2 with⟨rfl,_⟩|⟨g2,ab,ac,rfl,_,Y,_⟩
  .simp[dl]at U
  .simp only[dl,cK]at O U;rw[O]at hg;rw[U,hg]at Y;simp only[cK,Obj.cells.injEq]at Y;exact aa Y.2.1
theorem lG(h:w.ownsRow base e size v n xs):∃a cap,v=.slice a n cap/\n<=cap:=by
 rcases h.2 with⟨rfl,rfl⟩|⟨g,cap,O,rfl,_,_,U,_⟩
 .exact⟨none,0,rfl,bW _⟩
 .exact⟨_,cap,rfl,U⟩
end
section
open Go.RowKit
variable {xs:List Value} {n s:Nat} {v:Value} {w:World}
def vv(w:World)(s:Nat)(v:Value)(n:Nat)(xs:List Value):Prop:=
 ∃a cap,v=.slice a n cap/\n<=cap/\cap<=cy/\xs.length=n*s/\∀j u,xs[j]?=some u->∃b off,a=some ⟨b,off,none⟩/\w.cell? ⟨b,off+j,none⟩=some u
theorem vv.lT{base e:Nat}(h:w.ownsRow base e s v n xs):vv w s v n xs:=by
 have Y:=h;obtain⟨U,h⟩:=h;rcases h with⟨rfl,rfl⟩|⟨g,cap,aa,rfl,_,hg,hn,O,ab,ac⟩
 .have:=bl (by simpa using U);subst this;exact⟨none,0,rfl,bW _,by omega,by simp,by simp⟩
 .refine⟨some _,cap,rfl,hn,O,U,λj u hj=>⟨g,0,rfl,?_⟩⟩;have:=Y.cells (g:=g) rfl j u hj;rwa [dh]at this
theorem vv.nil(w:World)(s:Nat):vv w s (.slice none 0 0) 0 []:=⟨none,0,rfl,bW _,by omega,by simp,by simp⟩
theorem vv.later{w':World}(h:vv w s v n xs)(U:∀a u,w.cell? a=some u->w'.cell? a=some u):vv w' s v n xs:=by
 obtain⟨a,cap,Y,h1,h2,hl,hr⟩:=h;refine⟨a,cap,Y,h1,h2,hl,λj u hj=>?_⟩;obtain⟨b,off,e,O⟩:=hr j u hj;exact⟨b,off,e,U _ _ O⟩
theorem rS{P:Program}(w:World)(base:Nat)(t ty e:cz)(i:TypeInfo)(z:Value)(size bytes:Nat)(ht:P.underlying t=some (.slice e))(hi:P.info? e=some i)(hz:i.zero=some z)
  (U:i.size=size) (af:i.bytes=bytes) (ap:z.cells.size=size) (ak:0<size)
  (v:Value) (n:Nat) (xs:List Value) (O:w.ownsRow base e size v n xs)
  (x:Value) (m:Nat) (news:List Value) (hx:vv w size x m news) (h1:∀u∈news,u.oneCell'=true)
  (Y:(n+m)*bytes<=140737488355328) (ag:n+m<=cy) (ah:base<=w.heap.size) :
  ∃v' w',(cP #[t,t] ty #[v,x]).run P w=.ok v' w'/\w'.ownsRow base e size v' (n+m) (xs++news)/\w.grownBy w' v.ownBlock/\(v'.ownBlock=v.ownBlock\/(v'.ownBlock=some w.heap.size/\Below w.heap.size w w')):=by
 obtain⟨a,cap,rfl,hc,hm,hl,al⟩:=hx;by_cases aq:m=0
 .subst aq;have hn:news=[]:=bl (by simpa using hl);subst hn;obtain⟨b,c,rfl,ai⟩:=lG O
  have hr:(cP #[t,t] ty #[.slice b n c,.slice a 0 cap]).run P w=.ok (.slice b n c) w:=by
   cases a with
   |none=>exact na (P:=P) w t ty e i ht hi b n c cap ai
   |some ad=>
    cases b<;>simp[cP,c9 ht,sizeOf,typeInfo,hi,cR,cQ,ai,cC,loadCells,loadCellsFrom]
  exact⟨_,w,hr,by simpa using O,World.grownBy.refl _ _,Or.inl rfl⟩
 .have am:0<news.length:=by rw[hl]; exact cj (by omega) ak
  obtain⟨b,off,ha,_⟩:=al 0 news[0] (a7 am);subst ha
  have aa:∀j u,news[j]?=some u->w.cell? ((⟨b,off,none⟩:Addr).add j)=some u:=by
   intro j u hj;obtain⟨b',av,he,aj⟩:=al j u hj;simp only[cK,Addr.mk.injEq]at he;obtain⟨rfl,rfl,_⟩:=he;rw[dh]; exact aj
  obtain⟨v',w',hr,h2,h3,_⟩:=c2 (P:=P) w base t ty e i z size bytes ht hi hz U af ap ak v n xs O ⟨b,off,none⟩ m cap news hl aa h1 ag Y ah;refine⟨v',w',hr,h2,h3,?_⟩;have ae:news.length=m*i.size:=by rw[U]; exact hl
  rcases O.2 with⟨rfl,rfl⟩|⟨g,c,an,rfl,aw,hg,ai,ax,ar,au⟩
  .have ab:=cA (P:=P) w t ty e i z ht hi hz ⟨b,off,none⟩ m cap news ae aa (by omega) (by simp only[cy]at ag; omega) (by rw[af]; simp only[ci]at Y; omega);rw[ab]at hr;simp only[cW]at hr;exact Or.inr ⟨by rw[<-hr.1]; rfl,by rw[<-hr.2]; exact((Below.refl _ _).drew).alloc (bW _) _⟩
  .by_cases ac:n+m<=c
   .have ao:n*i.size+news.length<=an.size:=by rw[ae,ar,U,<-ce]; exact bZ _ ac
    have ab:=c7 (P:=P) w t ty e i ht hi g n c an hg ⟨b,off,none⟩ m cap news ae aa h1 ac ao;rw[ab]at hr;simp only[cW]at hr;exact Or.inl (by rw[<-hr.1]; rfl)
   .have holds:∀j u,xs[j]?=some u->w.cell? ((⟨g,0,none⟩:Addr).add j)=some u:=O.cells (g:=g) rfl;have ab:=c8 (P:=P) w t ty e i z ht hi hz ⟨g,0,none⟩ n c xs (by rw[U]; exact O.1) holds ⟨b,off,none⟩ m cap news ae aa (by omega) (by simp only[cy]at ag; omega) (by rw[af]; exact cB (by omega) Y);rw[ab]at hr;simp only[cW]at hr;exact Or.inr ⟨by rw[<-hr.1]; rfl,by rw[<-hr.2]; exact((Below.refl _ _).drew).alloc (bW _) _⟩
theorem zc{P:Program}(w:World){ops:Array Oper}{rest:List Oper}{o:Oper}{a:Act}{Q:Exit->Act->World->Prop}(ab:o.guard=none)(s x:Operand)(t:cz)
  (ho:o.op=.call {callee:=.builtin .append,args:=#[s,x],argTypes:=#[t,t]})
  (base:Nat) (e:cz) (i:TypeInfo) (z:Value) (size bytes:Nat) (ht:P.underlying t=some (.slice e)) (hi:P.info? e=some i) (hz:i.zero=some z)
  (U:i.size=size) (ac:i.bytes=bytes) (ad:z.cells.size=size) (ae:0<size)
  (v:Value) (n:Nat) (xs:List Value) (hs:a.eval s=v) (aa:w.ownsRow base e size v n xs)
  (y:Value) (m:Nat) (news:List Value) (hx:a.eval x=y) (hy:vv w size y m news) (h1:∀u∈news,u.oneCell'=true)
  (O:(n+m)*bytes<=140737488355328) (af:n+m<=cy) (Y:base<=w.heap.size)
  (h:∀v' w',w'.ownsRow base e size v' (n+m) (xs++news)->w.grownBy w' v.ownBlock->(v'.ownBlock=v.ownBlock\/(v'.ownBlock=some w.heap.size/\Below w.heap.size w w'))->c0 P ops Q rest (a.put o.dst v') w'):c0 P ops Q (o::rest) a w:=by
 refine c1 ab λ_ hK=>?_;obtain⟨v',w',hr,h2,h3,h4⟩:=rS (P:=P) w base t o.type e i z size bytes ht hi hz U ac ad ae v n xs aa y m news hy h1 O af Y;unfold Oper.wp c6;simp only[ho,resolve,invoke,builtin,Sem.run_bind,Sem.run_pure,dk,bM,aA,bg,hs,hx,hr];exact hK _ _ (h v' w' h2 h3 h4)
end
section
open Go.RowKit
structure gu where
 name:Wd
 gone:Bool
 text:Wd
 gw:Int
 gK:Int
def sM(l:List gu)(x:Wd):Option Nat:=l.findIdx? λe=>e.name==x
end
section
open Go.RowKit
def lA(later:List gu)(e:gu):Bool:=(sM later e.name).isNone
def gQ(old later:List gu):List gu:=old.filter (lA later)++later
def gD(l:List gu):List gu:=l.filter λe=>!e.gone
end
section
open Go.RowKit
def jE(l:List UInt8):Bool:=l.all ik&&decide (0<l.length)&&decide (l.length<=8)
def kU(ss:List (List gu)):Nat:=(ss.map λs=>s.length+1).sum
def oE(ss:List (List gu))(k:Nat):List gu:=(ss.take k).foldl gQ []
def ix(ss:List (List gu))(O:List gu):List gu:=gD (gQ (oE ss ss.length) O)
theorem CU(a b:List gu):(gQ a b).length<=a.length+b.length:=by
 unfold gQ;have:=aG (lA b) a;rw[a5]; omega
theorem Er(ss:List (List gu))(k:Nat)(h:k<ss.length):oE ss (k+1)=gQ (oE ss k) ss[k]:=by
 unfold oE;rw[aB h,bq]; rfl
theorem Bj(ss:List (List gu))(i:Nat)(h:i<ss.length):kU (ss.take (i+1))=kU (ss.take i)+(ss[i].length+1):=by
 unfold kU;rw[aB h,aN,bD]; rfl
theorem FQ(ss:List (List gu))(i:Nat):kU (ss.take i)<=kU ss:=by
 have:kU ss=kU (ss.take i)+kU (ss.drop i):=by
  unfold kU; rw[<-bD,<-aN,ba]
 omega
theorem MA(ss:List (List gu)):ss.length<=kU ss:=by
 induction ss with
 |nil=>simp
 |cons t U O=>simp only[kU,aA,aP,aC]at O⊢; omega
theorem ID(ss:List (List gu))(k:Nat)(O:k<=ss.length):(oE ss k).length<=kU (ss.take k):=by
 induction k with
 |zero=>simp[oE]
 |succ k U=>
  rw[Er ss k (by omega),Bj ss k (by omega)];have:=CU (oE ss k) ss[k];omega
end
section
open Go.RowKit
def qQ(r:Nat):Bool:=decide (128<=r) || !ik (cI r)
theorem Gs(c:UInt8)(h:c.toNat<128):qQ c.toNat = !ik c:=by
 unfold qQ;rw[decide_eq_false (by omega)];simp
def TB(b:Wd):ByteArray:=⟨b.toArray⟩
structure Vx(f:ByteArray)(pos:Nat)(st:Option Nat)(acc:List (Nat×Nat)):Prop where
 none:st=none->(acc.map λx=>f.extract x.1 x.2)=(mE f.data.toList pos).map TB/\(pos=0\/ik (f.data.toList.getD (pos-1) 0)=false)
 some:∀a,st=some a->(acc.map λx=>f.extract x.1 x.2)++[TB (xk f.data.toList a)]=(mE f.data.toList pos).map TB/\a<pos/\Ad f.data.toList a pos
theorem Dc(l:List UInt8)(k:Nat)(h:ik (l.getD k 0)=false):jy l k=false:=by unfold jy; rw[h]; rfl
theorem Kv(l:List UInt8)(k:Nat)(h:ik (l.getD k 0)=true)(O:k=0\/ik (l.getD (k-1) 0)=false):jy l k=true:=by
 unfold jy;rw[h];rcases O with O|O
 .simp[O]
 .rw[O]; simp
theorem Nb(l:List UInt8)(k a:Nat)(O:a<k)(h:Ad l a k):jy l k=false:=by
 unfold jy;rw[h.2.2 (k-1) (by omega) (by omega),decide_eq_false (by omega)];simp
theorem FR(f:ByteArray)(hf:∀k(h:k<f.size),(f[k]'h).toNat<128):∀(g pos:Nat)(st:Option Nat)(acc:List (Nat×Nat)),Vx f pos st acc->pos<=f.size->f.size<=pos+g->
  ((cN f (cM qQ f g pos st acc)).map λx=>f.extract x.1 x.2)=(kX f.data.toList).map TB:=by
 intro g
 induction g with
 |zero=>
  intro pos st acc h h1 h2;obtain rfl:pos=f.size:=by omega
  have hw:kX f.data.toList=mE f.data.toList f.size:=by unfold kX; simp
  rw[hw]
  cases st with
  |none=>simpa[cM,cN]using(h.none rfl).1
  |some a=>
   obtain⟨e,Y,hr⟩:=h.some a rfl;simp only[cM,cN,aN,aA,bg];rw[vN f a _ hr (Or.inl rfl)];exact e
 |succ g ih=>
  intro pos st acc h h1 h2;unfold cM;by_cases O:pos<f.size
  .rw[if_pos O,decode_ascii f pos O (hf pos O),Gs _ (hf pos O)];have hg:=nO f pos O;by_cases hl:ik (f[pos]'O)=true
   .rw[hl];have U:ik (f.data.toList.getD pos 0)=true:=by rw[hg]; exact hl
    cases st with
    |none=>
     obtain⟨e,hp⟩:=h.none rfl;refine ih _ _ _ ⟨λh=>(by cases h),λa Y=>?_⟩ (by omega) (by omega);obtain rfl:=by simpa using Y
     have hs:=Kv _ _ U hp;rw[wX _ _ hs,aN,e];exact⟨rfl,by omega,Aq _ _ _ (Ix _ _ (by simp; omega)) (by simpa using O) U⟩
    |some a=>
     obtain⟨e,Y,hr⟩:=h.some a rfl;refine ih _ _ _ ⟨λh=>(by cases h),λb hb=>?_⟩ (by omega) (by omega);obtain rfl:=by simpa using hb
     rw[pa _ _ (Nb _ _ _ Y hr)];exact⟨e,by omega,Aq _ _ _ hr (by simpa using O) U⟩
   .have aa:=by simpa using hl
    rw[aa];have U:ik (f.data.toList.getD pos 0)=false:=by rw[hg]; exact aa
    cases st with
    |none=>
     obtain⟨e,hp⟩:=h.none rfl;refine ih _ _ _ ⟨λ_=>?_,λa Y=>(by cases Y)⟩ (by omega) (by omega);rw[pa _ _ (Dc _ _ U)];exact⟨e,Or.inr (by simpa using U)⟩
    |some a=>
     obtain⟨e,Y,hr⟩:=h.some a rfl;refine ih _ _ _ ⟨λ_=>?_,λa Y=>(by cases Y)⟩ (by omega) (by omega);rw[pa _ _ (Dc _ _ U),<-e,aN];refine⟨?_,Or.inr (by simpa using U)⟩;simp only[aA,bg];rw[vN f a pos hr (Or.inr U)];rfl
  .rw[if_neg O];have:=ih pos st acc h h1 (by omega);rw[Lib.spansFromP_end _ _ _ _ _ _ O]at this;exact this
theorem EY(f:ByteArray)(O:∀k(h:k<f.size),(f[k]'h).toNat<128):Lib.goFieldsP qQ f=(kX f.data.toList).map TB:=by
 refine FR f O _ 0 none [] ⟨λ_=>⟨by simp[mE],Or.inl rfl⟩,λa U=>(by cases U)⟩ (by omega) (by omega)
theorem H7(ws:List Wd):(ws.map TB).map Value.string=gr ws:=by simp[gr,TB]
end
section
open Go.RowKit
variable {l:List Wd} {x y:Wd}
theorem kJ:∀x:Wd,cl x x=false:=by
 intro x
 induction x with
 |nil=>rfl
 |cons a x O=>simp[cl,O]
theorem GG{a b c:UInt8}(h:a<b)(k:b<c):a<c:=by
 rw[cH]at *; omega
theorem oJ:∀x y z:Wd,cl x y=true->cl y z=true->cl x z=true:=by
 intro x
 induction x with
 |nil=>intro y z U O; cases z with
  |nil=>cases y<;>simp[cl]at O
  |cons=>rfl
 |cons a x Y=>
  intro y z U O
  cases y with
  |nil=>simp[cl]at U
  |cons b y=>
   cases z with
   |nil=>simp[cl]at O
   |cons c z=>
    simp only[cl,cp,cm,decide_eq_true_eq,beq_iff_eq]at *;rcases U with U|⟨rfl,U⟩
    .rcases O with O|⟨rfl,O⟩
     .exact Or.inl (GG U O)
     .exact Or.inl U
    .rcases O with O|⟨rfl,O⟩
     .exact Or.inl O
     .exact Or.inr ⟨rfl,Y y z U O⟩
theorem kR:∀x y:Wd,cl x y=true\/x=y\/cl y x=true:=by
 intro x
 induction x with
 |nil=>intro y; cases y with
  |nil=>exact Or.inr (Or.inl rfl)
  |cons=>exact Or.inl rfl
 |cons a x Y=>
  intro y
  cases y with
  |nil=>exact Or.inr (Or.inr rfl)
  |cons b y=>
   simp only[cl,cp,cm,decide_eq_true_eq,beq_iff_eq];by_cases O:a<b
   .exact Or.inl (Or.inl O)
   .by_cases U:b<a
    .exact Or.inr (Or.inr (Or.inl U))
    .obtain rfl:a=b:=by
      apply cJ.1;rw[cH]at O U;omega
     rcases Y y with h|h|h
     .exact Or.inl (Or.inr ⟨rfl,h⟩)
     .exact Or.inr (Or.inl (by rw[h]))
     .exact Or.inr (Or.inr (Or.inr ⟨rfl,h⟩))
theorem CG(h:cl x y=true):x≠y:=by
 intro e; subst e; rw[kJ]at h; cases h
theorem rN(h:cl x y=true):cl y x=false:=by
 cases O:cl y x with
 |false=>rfl
 |true=>have:=oJ _ _ _ h O; rw[kJ]at this; cases this
abbrev oW(l:List Wd):Prop:=l.Pairwise λx y=>cl x y=true
theorem oW.nodup(h:oW l):l.Nodup:=h.imp λO=>CG O
theorem Sp(out:List Wd)(x:Wd):out.take (zU out x)=out.takeWhile λy=>cl y x:=by
 unfold zU
 induction out with
 |nil=>simp
 |cons a l O=>
  rw[aX];split
  .simp only[aC,b0,O]
  .simp
theorem Ld(out:List Wd)(x:Wd):out.drop (zU out x)=out.dropWhile λy=>cl y x:=by
 unfold zU
 induction out with
 |nil=>simp
 |cons a l O=>
  rw[aX,b7];split
  .simp only[aC,List.drop_succ_cons,O]
  .simp
theorem Ci{p:Wd->Bool}:∀(l:List Wd),∀y∈l.takeWhile p,p y=true:=by
 intro l
 induction l with
 |nil=>intro y h; simp at h
 |cons a l O=>
  intro y h;rw[aX]at h;split at h
  .rename_i U;rcases a0.1 h with rfl|h
   .exact U
   .exact O y h
  .simp at h
theorem zI{p:Wd->Bool}:∀(l:List Wd)(y:Wd)(r:List Wd),l.dropWhile p=y::r->p y=false:=by
 intro l
 induction l with
 |nil=>intro y r h; simp at h
 |cons a l O=>
  intro y r h;rw[b7]at h;split at h
  .exact O y r h
  .rename_i U;cases h;simpa using U
theorem R'(out:List Wd)(x:Wd)(h:oW out):oW (wQ out x)/\∀y,y∈wQ out x↔(y=x\/y∈out):=by
 unfold wQ;split
 .rename_i Y;refine⟨h,λy=>⟨Or.inr,λO=>?_⟩⟩;rcases O with rfl|O
  .exact List.mem_of_getElem? Y
  .exact O
 .rename_i Y;have U:=ba (zU out x) out;have ab:out[zU out x]?=(out.drop (zU out x))[0]?:=by simp
  rw[ab]at Y;rw[Sp,Ld]at U⊢;rw[Ld]at Y;have hA:=Ci (p:=λy=>cl y x) out;have hH:=zI (p:=λy=>cl y x) out;generalize out.takeWhile _=A at *;generalize out.dropWhile _=B at *;subst U;obtain⟨sA,sB,ac⟩:=be.1 h
  have hB:∀y∈B,cl x y=true:=by
   cases B with
   |nil=>intro y O; simp at O
   |cons b B=>
    have h1:=hH b B rfl
    have aa:cl x b=true:=by
     rcases kR x b with h|h|h
     .exact h
     .subst h; simp at Y
     .rw[h1]at h; cases h
    intro y O;rcases a0.1 O with rfl|O
    .exact aa
    .exact oJ _ _ _ aa ((a8.1 sB).1 y O)
  refine⟨?_,λy=>?_⟩
  .refine be.2 ⟨sA,?_,?_⟩
   .exact a8.2 ⟨hB,sB⟩
   .intro a ha b hb;rcases a0.1 hb with rfl|hb
    .exact hA a ha
    .exact ac a ha b hb
  .simp only[a9,a0,aZ,aV];constructor
   .rintro(h|h|h)
    .exact Or.inr (Or.inl h)
    .exact Or.inl h
    .exact Or.inr (Or.inr h)
   .rintro(h|h|h)
    .exact Or.inr (Or.inl h)
    .exact Or.inl h
    .exact Or.inr (Or.inr h)
theorem Fc(t:List Wd):∀out,oW out->oW (t.foldl wQ out)/\∀y,y∈t.foldl wQ out↔(y∈t\/y∈out):=by
 induction t with
 |nil=>intro out h; exact⟨h,by simp⟩
 |cons x t O=>
  intro out h;obtain⟨U,Y⟩:=R' out x h;obtain⟨h3,h4⟩:=O _ U;refine⟨h3,λy=>?_⟩;rw[aO,h4,Y,a0];constructor
  .rintro(h|h|h)
   .exact Or.inl (Or.inr h)
   .exact Or.inl (Or.inl h)
   .exact Or.inr h
  .rintro((h|h)|h)
   .exact Or.inr (Or.inl h)
   .exact Or.inl h
   .exact Or.inr (Or.inr h)
theorem CE(O:List (List Wd)):∀out,oW out->oW (O.foldl (λout t=>t.foldl wQ out) out)/\∀y,y∈O.foldl (λout t=>t.foldl wQ out) out↔((∃t∈O,y∈t)\/y∈out):=by
 induction O with
 |nil=>intro out h; exact⟨h,by simp⟩
 |cons t O U=>
  intro out h;obtain⟨Y,h2⟩:=Fc t out h;obtain⟨h3,h4⟩:=U _ Y;refine⟨h3,λy=>?_⟩;rw[aO,h4,h2];simp only[a0,exists_eq_or_imp];constructor
  .rintro(h|h|h)
   .exact Or.inl (Or.inr h)
   .exact Or.inl (Or.inl h)
   .exact Or.inr h
  .rintro((h|h)|h)
   .exact Or.inr (Or.inl h)
   .exact Or.inl h
   .exact Or.inr (Or.inr h)
theorem mT(O:List (List Wd)):oW (iN O):=(CE O [] List.Pairwise.nil).1
theorem nd(O:List (List Wd))(y:Wd):y∈iN O↔∃t∈O,y∈t:=by
 have:=(CE O [] List.Pairwise.nil).2 y;simpa[iN]using this
theorem yf(h:l.Nodup)(a:Wd):l.count a=if a∈l then 1 else 0:=by
 induction l with
 |nil=>simp
 |cons b l O=>
  obtain⟨U,Y⟩:=aU.1 h;rw[List.count_cons,O Y];by_cases e:b=a
  .subst e; simp[U]
  .have e2:¬a=b:=λx=>e x.symm;simp[e,e2]
theorem E9{U:List Wd}(h:l.Nodup)(Y:U.Nodup)(hm:∀a,a∈l↔a∈U):l.Perm U:=by
 rw[List.perm_iff_count];intro a;rw[yf h,yf Y];by_cases O:a∈l
 .rw[if_pos O,if_pos ((hm a).1 O)]
 .rw[if_neg O,if_neg (λx=>O ((hm a).2 x))]
def jF(kn:List Wd)(t:List Wd)(k:Nat):List Wd:=(t.take k).foldl (λu x=>if x∈kn\/x∈u then u else u++[x]) []
theorem AX(kn t:List Wd)(k:Nat)(h:k<t.length):jF kn t (k+1)=if t[k]∈kn\/t[k]∈jF kn t k then jF kn t k else jF kn t k++[t[k]]:=by
 unfold jF;rw[aB h,bq]; rfl
theorem Aj(kn t:List Wd):∀k,k<=t.length->(jF kn t k).Nodup/\(∀y,y∈jF kn t k↔(y∈t.take k/\y ∉ kn))/\(jF kn t k).length<=k:=by
 intro k
 induction k with
 |zero=>simp[jF]
 |succ k ih=>
  intro hk;obtain⟨Y,U,h3⟩:=ih (by omega);rw[AX kn t k (by omega),aB (by omega)];split
  .rename_i O;refine⟨Y,λy=>?_,by omega⟩;rw[U y,a9,aD];constructor
   .rintro⟨a,b⟩; exact⟨Or.inl a,b⟩
   .rintro⟨a|a,b⟩
    .exact⟨a,b⟩
    .subst a;rcases O with O|O
     .exact absurd O b
     .exact(U _).1 O
  .rename_i O;refine⟨?_,λy=>?_,by simp; omega⟩
   .rw[bc];refine⟨Y,by simp,?_⟩;intro a ha b hb;simp at hb;subst hb;intro e;subst e;exact O (Or.inr ha)
   .rw[a9,U y,a9,aD];constructor
    .rintro(⟨a,b⟩|a)
     .exact⟨Or.inl a,b⟩
     .subst a; exact⟨Or.inr rfl,λx=>O (Or.inl x)⟩
    .rintro⟨a|a,b⟩
     .exact Or.inl ⟨a,b⟩
     .exact Or.inr a
theorem A9(kn:List Wd)(Y:List (List Wd))(t:List Wd)(h:kn.Perm (iN Y)):(kn++jF kn t t.length).Perm (iN (Y++[t])):=by
 obtain⟨h1,h2,_⟩:=Aj kn t _ (bW _);have aa:=h.nodup_iff.2 (mT Y).nodup;refine E9 ?_ (mT _).nodup ?_
 .rw[bc];refine⟨aa,h1,λa U b hb e=>?_⟩;subst e;exact((h2 _).1 hb).2 U
 .intro a;rw[a9,h2,nd,h.mem_iff,nd,bf];constructor
  .rintro(⟨t',O,U⟩|⟨U,_⟩)
   .exact⟨t',by simp[O],U⟩
   .exact⟨t,by simp,U⟩
  .rintro⟨t',O,U⟩;rw[a9,aD]at O;rcases O with O|rfl
   .exact Or.inl ⟨t',O,U⟩
   .by_cases hk:a∈kn
    .exact Or.inl ((nd Y a).1 (h.mem_iff.1 hk))
    .exact Or.inr ⟨U,λe=>hk (h.mem_iff.2 ((nd Y a).2 e))⟩
end
section
open Go.RowKit
variable {x y z:Fr} {K:List Wd} {sc:Wd->Fr}
def ze(x y:Fr):Bool:=decide (y.1*x.2<x.1*y.2)
theorem Mv(hz:0<z.2)(O:ze x y=true)(h2:ze y z=true):ze x z=true:=by
 unfold ze at *;simp only[decide_eq_true_eq]at *;have a1:=cd O hz;by_cases hx:0<x.2
 .have a2:=cd h2 hx;refine Nat.lt_of_mul_lt_mul_right (a:=y.2) ?_;have e1:z.1*x.2*y.2=z.1*y.2*x.2:=by rw[bX]
  have e2:y.1*z.2*x.2=y.1*x.2*z.2:=by rw[bX]
  have e3:x.1*z.2*y.2=x.1*y.2*z.2:=by rw[bX]
  omega
 .have U:x.2=0:=by omega
  have Y:0<x.1:=by
   rcases cf x.1 with h|h
   .rw[h]at O; simp at O
   .exact h
  rw[U];simpa using cj Y hz
theorem xL(hx:0<x.2)(O:0<y.2)(hz:0<z.2)(U:ze y x=false)(Y:ze z y=false):ze z x=false:=by
 unfold ze at *;simp only[decide_eq_false_iff_not,Nat.not_lt]at *;have a1:y.1*x.2*z.2<=x.1*y.2*z.2:=bZ _ U;have a2:z.1*y.2*x.2<=y.1*z.2*x.2:=bZ _ Y;refine Nat.le_of_mul_le_mul_right (c:=y.2) ?_ O;have e1:z.1*x.2*y.2=z.1*y.2*x.2:=by rw[bX]
 have e2:y.1*z.2*x.2=y.1*x.2*z.2:=by rw[bX]
 have e3:x.1*z.2*y.2=x.1*y.2*z.2:=by rw[bX]
 omega
theorem Pk(h:ze x y=true):ze y x=false:=by
 unfold ze at *;simp only[decide_eq_true_eq,decide_eq_false_iff_not]at *;omega
def pE(sc:Wd->Fr)(x y:Wd):Bool:=ze (sc x) (sc y) || (!ze (sc y) (sc x)&&cl x y)
theorem yr(sc:Wd->Fr)(x:Wd):pE sc x x=false:=by
 unfold pE;rw[kJ];have:ze (sc x) (sc x)=false:=by unfold ze; simp
 rw[this]; rfl
theorem vk(sc:Wd->Fr){x y z:Wd}(hx:0<(sc x).2)(hy:0<(sc y).2)(hz:0<(sc z).2)(U:pE sc x y=true)(O:pE sc y z=true):pE sc x z=true:=by
 unfold pE at *;simp only[cp,cm,cr]at *;rcases U with U|⟨U,aa⟩
 .rcases O with O|⟨O,Y⟩
  .exact Or.inl (Mv hz U O)
  .cases hh:ze .. with
   |true=>exact Or.inl rfl
   |false=>
    have:=xL hy hz hx O hh;rw[this]at U; cases U
 .rcases O with O|⟨O,Y⟩
  .cases hh:ze .. with
   |true=>exact Or.inl rfl
   |false=>
    have:=xL hz hx hy hh U;rw[this]at O; cases O
  .exact Or.inr ⟨xL hx hy hz U O,oJ _ _ _ aa Y⟩
theorem Bw(sc:Wd->Fr)(x y:Wd):pE sc x y=true\/x=y\/pE sc y x=true:=by
 unfold pE;simp only[cp,cm,cr]
 cases O:ze .. with
 |true=>exact Or.inl (Or.inl rfl)
 |false=>
  cases U:ze .. with
  |true=>exact Or.inr (Or.inr (Or.inl rfl))
  |false=>
   rcases kR x y with h|h|h
   .exact Or.inl (Or.inr ⟨rfl,h⟩)
   .exact Or.inr (Or.inl h)
   .exact Or.inr (Or.inr (Or.inr ⟨rfl,h⟩))
theorem Mb(sc:Wd->Fr){x y:Wd}(h:pE sc x y=true):pE sc y x=false:=by
 unfold pE at *;simp only[cp,cm,cr,cq,Bool.and_eq_false_iff,Bool.not_eq_false']at *;rcases h with h|⟨h,O⟩
 .exact⟨Pk h,Or.inl h⟩
 .exact⟨h,Or.inr (rN O)⟩
theorem JS(O:oW K){i j:Nat}(h:i<j)(U:j<K.length):cl (K[i]'(by omega)) K[j]=true:=aS.1 O i j _ U h
theorem Dy(i j:Nat)(hi:i<K.length)(O:j<K.length):wU (K.map sc) i j=ze (sc K[i]) (sc K[j]):=by
 unfold wU ze;simp[ay,hi,O]
theorem Kf(hK:oW K)(hp:∀x∈K,0<(sc x).2)(told:List Bool):∀(m:Nat),m<=K.length->∀b,kg (K.map sc) told m=some b->∃hb:b<K.length,∀i(hi:i<K.length),i<m->told.getD i false=false->i≠b->pE sc K[b] K[i]=true:=by
 intro m
 induction m with
 |zero=>intro _ b h; simp[kg]at h
 |succ m ih=>
  intro hm b h
  cases ht:told.getD m false with
  |true=>
   rw[FY _ _ _ ht]at h;obtain⟨hb,hh⟩:=ih (by omega) b h;refine⟨hb,λi hi ab U aa=>?_⟩;by_cases e:i=m
   .subst e; rw[ht]at U; cases U
   .exact hh i hi (by omega) U aa
  |false=>
   cases O:kg _ told m with
   |none=>
    rw[Fz _ _ _ ht O]at h;obtain rfl:=by simpa using h
    refine⟨by omega,λi hi ab U aa=>?_⟩;have:=yH _ _ _ O i (by omega);rw[U]at this; cases this
   |some j=>
    obtain⟨hj,hh⟩:=ih (by omega) j O;have ac:=(CP _ _ _ _ O).1
    cases Y:wU _ m j with
    |true=>
     rw[Cd _ _ _ _ ht O Y]at h;obtain rfl:=by simpa using h
     refine⟨by omega,λi hi ab U aa=>?_⟩
     have h1:pE sc K[m] K[j]=true:=by
      rw[Dy m j (by omega) hj]at Y;unfold pE; rw[Y]; rfl
     by_cases e:i=j
     .subst e; exact h1
     .exact vk sc (hp _ (aI _)) (hp _ (aI _)) (hp _ (aI _)) h1 (hh i hi (by omega) U e)
    |false=>
     rw[EE _ _ _ _ ht O Y]at h;obtain rfl:=by simpa using h
     refine⟨hj,λi hi ab U aa=>?_⟩;by_cases e:i=m
     .subst e;rw[Dy i j hi hj]at Y;unfold pE;rw[Y,JS hK ac hi];simp
     .exact hh i hi (by omega) U aa
theorem E7(hK:oW K)(hp:∀x∈K,0<(sc x).2):∀(k:Nat)(told:List Bool)(S:List Wd),told.length=K.length->S.Nodup->(S.Pairwise λx y=>pE sc x y=true)->
  (∀x,x∈S↔∃i,∃hi:i<K.length,told.getD i false=false/\K[i]=x)->(AA (K.map sc) told k).map (λi=>K.getD i [])=S.take k:=by
 intro k
 induction k with
 |zero=>simp[AA]
 |succ k ih=>
  intro told S hl ag hs hm
  cases hb:kg (K.map sc) told (K.map sc).length with
  |none=>
   have ji:=yH _ _ _ hb
   have:S=[]:=by
    cases S with
    |nil=>rfl
    |cons x S=>
     obtain⟨i,hi,O,_⟩:=(hm x).1 (by simp);have:=ji i (by simpa using hi);rw[O]at this; cases this
   subst this;simp only[AA,hb,bg,List.take_nil]
  |some b=>
   obtain⟨ac,U⟩:=Kf hK hp told _ (by simp) b hb;have ah:=(CP _ _ _ _ hb).2;have ad:=(hm _).2 ⟨b,ac,ah,rfl⟩
   cases S with
   |nil=>simp at ad
   |cons x S=>
    obtain⟨ai,aj⟩:=a8.1 hs;obtain⟨ak,al⟩:=aU.1 ag;obtain⟨i0,ae,af,Y⟩:=(hm x).1 (by simp)
    have ab:K[b]=x:=by
     rcases a0.1 ad with h|h
     .exact h
     .by_cases e:i0=b
      .subst e; exact Y
      .have O:=U i0 ae (by simpa using ae) af e;have h2:=ai _ h;rw[Y]at O;rw[Mb sc h2]at O;cases O
    simp only[AA,hb,aA,b0];rw[ih _ S (by simpa using hl) al aj ?_]
    .rw[<-ab,ay,a7 ac];rfl
    .intro y
     have aa:∀i,(told.set b true).getD i false=if b=i then true else told.getD i false:=by
      intro i;by_cases e:b=i
      .subst e; simp[show b<told.length by omega]
      .simp[e]
     constructor
     .intro hy;obtain⟨i,hi,O,h2⟩:=(hm y).1 (List.mem_cons_of_mem _ hy);refine⟨i,hi,?_,h2⟩;rw[aa];by_cases e:b=i
      .subst e;rw[ab]at h2;subst h2;exact absurd hy ak
      .rw[if_neg e]; exact O
     .rintro⟨i,hi,O,h2⟩;rw[aa]at O;by_cases e:b=i
      .rw[if_pos e]at O; cases O
      .rw[if_neg e]at O;have am:=(hm y).2 ⟨i,hi,O,h2⟩;rcases a0.1 am with h|h
       .have an:i≠b:=λx=>e x.symm;have:=U i hi (by simpa using hi) O an;rw[h2,h,ab,yr]at this;cases this
       .exact h
theorem Af(O:List (List Wd))(l:List Wd)(most:Nat)(S:List Wd)(Y:∀x∈iN O,0<(tr O l x).2)(U:S.Perm (iN O))(hs:S.Pairwise λx y=>pE (tr O l) x y=true) :
  lq O l most=S.take (min most (iN O).length):=by
 refine E7 (mT O) Y _ _ S (by simp) (U.nodup_iff.2 (mT O).nodup) hs ?_;intro x;rw[U.mem_iff];constructor
 .intro h;obtain⟨i,hi,e⟩:=bJ h;exact⟨i,hi,by simp[ay,hi],e⟩
 .rintro⟨i,hi,_,e⟩;subst e;exact aI _
end
section
open Go.RowKit
def l8(t:List Wd)(e:Nat):List (List Wd):=(aR (min e 3+1)).map λj=>(t.take e).drop (e-min e 3+j)
def lP(t:List Wd):Nat->List (List Wd)
 |0=>[]
 |e+1=>lP t e++l8 t (e+1)
def iW(O:List (List Wd))(ws:List Wd):Nat:=if ws=[]then qR O else kC O ws
def QW(t ws:List Wd):Nat:=if ws=[]then t.length else tZ t ws
theorem Mn(O:List (List Wd))(t ws:List Wd):iW (O++[t]) ws=iW O ws+QW t ws:=by
 unfold iW QW;split
 .simp[qR]
 .simp[kC]
theorem Pe(ws:List Wd):iW [] ws=0:=by unfold iW; split<;>simp[qR,kC]
theorem zq(n:Nat)(f:Nat->List Wd)(ws:List Wd)(k:Nat)(Y:k<n)(h:∀j,j<n->f j=ws->j=k):((aR n).map f).count ws=if f k=ws then 1 else 0:=by
 have key:∀m,m<=n->((aR m).map f).count ws=if k<m/\f k=ws then 1 else 0:=by
  intro m
  induction m with
  |zero=>simp
  |succ m ih=>
   intro hm;rw[bm,aN,b9,ih (by omega)];simp only[aA,bg,List.count_singleton];by_cases e:m=k
   .subst e;simp
   .have O:f m≠ws:=λhh=>e (h m (by omega) hh);simp only[beq_iff_eq,O,if_false];by_cases U:k<m
    .simp[U,show k<m+1 by omega]
    .simp[U,show ¬k<m+1 by omega]
 rw[key n (bW _)];simp[Y]
theorem Kr(l:List (List Wd))(ws:List Wd)(h:∀x∈l,x≠ws):l.count ws=0:=by
 rw[List.count_eq_zero];intro hm;exact h ws hm rfl
theorem uE(t ws:List Wd)(e:Nat)(he:e<=t.length)(hw:ws.length<=3):(l8 t e).count ws=if ws.length<=e/\(t.take e).drop (e-ws.length)=ws then 1 else 0:=by
 have O:∀j,((t.take e).drop (e-min e 3+j)).length=e-(e-min e 3+j):=by simp; omega
 by_cases U:ws.length<=e
 .unfold l8;rw[zq _ _ ws (min e 3-ws.length) (by omega)]
  .rw[show e-min e 3+(min e 3-ws.length)=e-ws.length by omega];simp[U]
  .intro j hj Y;have:=O j;rw[Y]at this;omega
 .rw[if_neg (by simp[U])];refine Kr _ _ (λx hx=>?_);obtain⟨j,hj,rfl⟩:=a6.1 hx;intro Y;have:=O j;rw[Y]at this;omega
theorem Jx(t ws:List Wd)(hw:ws.length<=3)(h1:ws≠[]):∀n,n<=t.length->(lP t n).count ws=lu t ws (n+1-ws.length):=by
 have Y:1<=ws.length:=by cases ws with|nil=>exact absurd rfl h1|cons a b=>simp
 intro n
 induction n with
 |zero=>rw[show 0+1-ws.length=0 by omega]; simp[lP,lu]
 |succ n ih=>
  intro hn;simp only[lP];rw[b9,ih (by omega),uE t ws _ hn hw];by_cases O:ws.length<=n+1
  .rw[show n+1+1-ws.length=(n+1-ws.length)+1 by omega]
   have hh:rK t ws (n+1-ws.length)=decide ((t.take (n+1)).drop (n+1-ws.length)=ws):=by
    unfold rK Aw;rw[bf,List.drop_take,show n+1-(n+1-ws.length)=ws.length by omega]
   by_cases U:(t.take (n+1)).drop (n+1-ws.length)=ws
   .rw[if_pos ⟨O,U⟩,BX _ _ _ (by rw[hh]; exact decide_eq_true U)]
   .rw[if_neg (λx=>U x.2),F8 _ _ _ (by rw[hh]; exact decide_eq_false U)];omega
  .rw[if_neg (λx=>O x.1),show n+1+1-ws.length=0 by omega,show n+1-ws.length=0 by omega,Nat.add_zero]
theorem A1(t:List Wd):∀n,n<=t.length->(lP t n).count []=n:=by
 intro n
 induction n with
 |zero=>intro _; rfl
 |succ n O=>
  intro U;simp only[lP];rw[b9,O (by omega),uE t [] _ U (by simp),if_pos ⟨by simp,by simp⟩]
theorem Q3(t ws:List Wd)(O:ws.length<=3):(lP t t.length).count ws=QW t ws:=by
 unfold QW;split
 .rename_i h; rw[h]; exact A1 t _ (bW _)
 .rename_i h; exact Jx t ws O h _ (bW _)
theorem qB(O:List (List Wd))(ws:List Wd):iW O ws<=jP O:=by
 unfold iW;split
 .exact Mi O
 .exact NP O ws
theorem qH(t:List Wd)(e:Nat):(l8 t e).length=min e 3+1:=by simp[l8]
theorem FO(t:List Wd)(e j:Nat)(h:j<(l8 t e).length):(l8 t e)[j]=(t.take e).drop (e-min e 3+j):=by simp[l8]
theorem BN(t:List Wd):∀n,(lP t n).length<=4*n:=by
 intro n
 induction n with
 |zero=>simp[lP]
 |succ n O=>simp only[lP,a5,qH]; omega
end
section
open Go.RowKit
variable {a p:Fr} {t ws:List Wd}
def q7(O:List (List Wd))(x:Wd):List Wd->Fr
 |[]=>(iW O [x]*4,iW O [])
 |[v]=>if iW O [v,x]=0 then(iW O [x]*4,iW O [])else(iW O [v,x]*10,iW O [v])
 |u::v::_=>if iW O [u,v,x]=0 then(if iW O [v,x]=0 then(iW O [x]*4,iW O [])else(iW O [v,x]*10,iW O [v]))else(iW O [u,v,x]*25,iW O [u,v])
def pg(l:List Wd):List Wd:=l.drop (l.length-2)
theorem NA(l:List Wd):(pg l).length<=2:=by simp[pg]; omega
theorem Qd(l:List Wd):(l=[]/\pg l=[])\/(l.length=1/\pg l=[l.getD (l.length-1) []])\/(1<l.length/\pg l=[l.getD (l.length-2) [],l.getD (l.length-1) []]):=by
 unfold pg
 match l with
 |[]=>exact Or.inl ⟨rfl,rfl⟩
 |[a]=>exact Or.inr (Or.inl ⟨rfl,rfl⟩)
 |a::b::r=>
  refine Or.inr (Or.inr ⟨by simp,?_⟩);have O:(a::b::r).length=r.length+2:=rfl;rw[O,show r.length+2-2=r.length by omega];have U:(a::b::r).drop _=(a::b::r)[r.length]'(by omega)::(a::b::r).drop _:=aK _;have Y:(a::b::r).drop _=(a::b::r)[r.length+1]'(by simp)::(a::b::r).drop _:=aK _;have e3:(a::b::r).drop (r.length+2)=[]:=by simp
  rw[U,Y,e3];simp only[ay];rw[a7 _,a7 _];rfl
def IJ(a p:Fr):Prop:=∃c d:Nat,(a=(c,d)/\p=(c*25,d))\/(a=(4*c,10*d)/\p=(c*10,d))\/(a=(16*c,100*d)/\p=(c*4,d))
theorem IJ.three(c d:Nat):IJ (c,d) (c*25,d):=⟨c,d,Or.inl ⟨rfl,rfl⟩⟩
theorem IJ.two(c d:Nat):IJ (4*c,10*d) (c*10,d):=⟨c,d,Or.inr (Or.inl ⟨rfl,rfl⟩)⟩
theorem IJ.one(c d:Nat):IJ (16*c,100*d) (c*4,d):=⟨c,d,Or.inr (Or.inr ⟨rfl,rfl⟩)⟩
theorem rE(O:List (List Wd))(l:List Wd)(x:Wd):IJ (tr O l x) (q7 O x (pg l)):=by
 have n3:∀u v,iW O [u,v,x]=kC O [u,v,x]:=λu v=>by simp[iW]
 have n2:∀u v,iW O [u,v]=kC O [u,v]:=λu v=>by simp[iW]
 have n1:∀u,iW O [u]=kC O [u]:=λu=>by simp[iW]
 have n0:iW O []=qR O:=by simp[iW]
 unfold tr;rcases Qd l with⟨rfl,e⟩|⟨h1,e⟩|⟨h2,e⟩
 .exact IJ.one ..
 .rw[e,if_neg (by omega)];simp only[q7,n1,n2,n0];unfold Vm;by_cases U:kC O [l.getD (l.length-1) [],x]=0
  .rw[if_neg (by omega),if_pos U]; exact IJ.one ..
  .rw[if_pos (by omega),if_neg U]; exact IJ.two ..
 .rw[e];simp only[q7,n1,n2,n3,n0];unfold V3 Vm;by_cases U:kC O [l.getD (l.length-2) [],l.getD (l.length-1) [],x]=0
  .rw[if_neg (by omega),if_pos U];by_cases Y:kC O [l.getD (l.length-1) [],x]=0
   .rw[if_neg (by omega),if_pos Y]; exact IJ.one ..
   .rw[if_pos (by omega),if_neg Y]; exact IJ.two ..
  .rw[if_pos (by omega),if_neg U]; exact IJ.three ..
theorem oR(c g d:Nat):c*g*d=g*(c*d):=by rw[Nat.mul_comm c g,cb]
theorem y9(a b c d:Nat):a*c*(b*d)=a*b*(c*d):=Nat.mul_mul_mul_comm a c b d
theorem Qw{b q:Fr}(Y:IJ a p)(U:IJ b q):ze p q=ze a b:=by
 unfold ze;rw[decide_eq_decide];obtain⟨c,d,⟨rfl,rfl⟩|⟨rfl,rfl⟩|⟨rfl,rfl⟩⟩:=Y
 .obtain⟨O,d',⟨rfl,rfl⟩|⟨rfl,rfl⟩|⟨rfl,rfl⟩⟩:=U
  .simp only[oR]; omega
  .simp only; rw[oR O 10,oR c 25,cb 4,bY c 10]; omega
  .simp only; rw[oR O 4,oR c 25,cb 16,bY c _]; omega
 .obtain⟨O,d',⟨rfl,rfl⟩|⟨rfl,rfl⟩|⟨rfl,rfl⟩⟩:=U
  .simp only; rw[oR O 25,oR c 10,cb 4,bY O 10]; omega
  .simp only; rw[oR O 10,oR c 10,y9 4 10,y9 4 10]; omega
  .simp only; rw[oR O 4,oR c 10,y9 16 10,y9 4 _]; omega
 .obtain⟨O,d',⟨rfl,rfl⟩|⟨rfl,rfl⟩|⟨rfl,rfl⟩⟩:=U
  .simp only; rw[oR O 25,oR c 4,cb 16,bY O _]; omega
  .simp only; rw[oR O 10,oR c 4,y9 4 _,y9 16 10]; omega
  .simp only; rw[oR O 4,oR c 4,y9 16 _,y9 16 100]; omega
theorem S8(h:IJ a p):0<p.2↔0<a.2:=by
 obtain⟨c,d,⟨rfl,rfl⟩|⟨rfl,rfl⟩|⟨rfl,rfl⟩⟩:=h<;>simp
theorem QG(t ws:List Wd)(x:Wd)(k:Nat)(h:rK t (ws++[x]) k=true):rK t ws k=true:=by
 unfold rK Aw at *;simp only[decide_eq_true_eq,bf]at *;have:=congrArg (List.take ws.length) h;rw[bR]at this;simpa using this
theorem xZ(h:0<tZ t ws):∃k,k+ws.length<=t.length/\rK t ws k=true:=by
 obtain⟨k,O⟩:=List.exists_mem_of_length_pos h;obtain⟨U,Y⟩:=az.1 O;have:=bp.1 U;exact⟨k,by omega,Y⟩
theorem yy{k:Nat}(O:k+ws.length<=t.length)(h:rK t ws k=true):0<tZ t ws:=by
 exact bG (az.2 ⟨bp.2 (by omega),h⟩)
theorem vg{α:Type}(f:α->Nat):∀(l:List α),0<(l.map f).sum↔∃x∈l,0<f x:=by
 intro l
 induction l with
 |nil=>simp
 |cons a l O=>
  simp only[aA,aP,a0,exists_eq_or_imp];constructor
  .intro h;by_cases U:0<f a
   .exact Or.inl U
   .exact Or.inr (O.1 (by omega))
  .rintro(h|h)
   .omega
   .have:=O.2 h; omega
theorem AO(O:List (List Wd))(ws:List Wd)(x:Wd)(h:0<kC O (ws++[x])):0<kC O ws:=by
 unfold kC at *;rw[vg]at *;obtain⟨t,U,Y⟩:=h;obtain⟨k,h1,h2⟩:=xZ Y;simp at h1;exact⟨t,U,yy (by omega) (QG _ _ _ _ h2)⟩
theorem NU(U:List (List Wd))(x:Wd):0<kC U [x]↔∃t∈U,x∈t:=by
 unfold kC;rw[vg];constructor
 .rintro⟨t,O,Y⟩;obtain⟨k,h1,h2⟩:=xZ Y;refine⟨t,O,?_⟩;unfold rK Aw at h2;simp only[aC,bn,decide_eq_true_eq]at h2;have:x∈(t.drop k).take (0+1):=by rw[h2]; simp
  exact bz (bH this)
 .rintro⟨t,O,hx⟩;obtain⟨k,hk,e⟩:=bJ hx;refine⟨t,O,yy (k:=k) (by simp; omega) ?_⟩;unfold rK Aw;simp only[aC,bn,decide_eq_true_eq];rw[aK hk,e];rfl
theorem DJ(O:List (List Wd))(l:List Wd)(x:Wd)(Y:x∈iN O):0<(tr O l x).2:=by
 unfold tr;split
 .rename_i h; exact AO O _ x h.2
 .split
  .rename_i h;have:=AO O [_] x h.2;omega
  .obtain⟨t,ht,U⟩:=(nd O x).1 Y
   have:0<qR O:=by
    unfold qR;rw[vg];exact⟨t,ht,bG U⟩
   omega
theorem QT(O:List (List Wd))(l:List Wd)(x:Wd)(U:x∈iN O):0<(q7 O x (pg l)).2:=(S8 (rE O l x)).2 (DJ O l x U)
theorem Mx(O:List (List Wd))(x:Wd):iW O [x]=0↔x ∉ iN O:=by
 have h:=NU O x;rw[nd];have e:iW O [x]=kC O [x]:=by simp[iW]
 constructor
 .intro U Y; have:=h.2 Y; omega
 .intro Y;rcases cf _ with U|U
  .exact U
  .exact absurd (h.1 U) Y
theorem Ug(O:List (List Wd))(x:Wd)(l:List Wd):(q7 O x l).1<=25*jP O/\(q7 O x l).2<=jP O:=by
 have h:=qB O
 match l with
 |[]=>have:=h [x]; have:=h []; simp only[q7]; omega
 |[v]=>
  have:=h [x]; have:=h []; have:=h [v,x]; have:=h [v];simp only[q7];split<;>simp only<;>omega
 |u::v::_=>
  have:=h [x]; have:=h []; have:=h [v,x]; have:=h [v]; have:=h [u,v,x]; have:=h [u,v];simp only[q7];split
  .split<;>simp only<;>omega
  .omega
end
section
open Go.RowKit Go.Sort Go.Shelf
def BV(O:List (List Wd))(l:List Wd)(x:Wd):Fr:=if x∈iN O then q7 O x (pg l)else(0,1)
theorem KB(O:List (List Wd))(l:List Wd)(x:Wd)(h:x∈iN O):BV O l x=q7 O x (pg l):=by unfold BV; rw[if_pos h]
theorem ue(O:List (List Wd))(l:List Wd)(x:Wd):0<(BV O l x).2:=by
 unfold BV;split
 .rename_i h; exact QT O l x h
 .exact Nat.one_pos
theorem PH(O:List (List Wd))(l:List Wd)(x:Wd):(BV O l x).1<=25*jP O/\(BV O l x).2<=jP O+1:=by
 unfold BV;split
 .have:=Ug O x (pg l); omega
 .omega
def B5(a b:Nat):Int:=if a<b then -1 else if b<a then 1 else 0
def Vi(sc:Wd->Fr)(x y:Wd):Int:=if B5 ((sc y).1*(sc x).2) ((sc x).1*(sc y).2)≠0 then B5 ((sc y).1*(sc x).2) ((sc x).1*(sc y).2)else cL x y
theorem SN:∀x y:Wd,(cL x y<0)↔cl x y=true:=by
 intro x
 induction x with
 |nil=>intro y; cases y<;>simp[cL,cl]
 |cons a x ih=>
  intro y
  cases y with
  |nil=>simp[cL,cl]
  |cons b y=>
   unfold cL cl;by_cases O:a<b
   .simp[O]
   .by_cases U:b<a
    .have Y:a≠b:=by
      intro e; subst e;exact O U
     simp[O,U,Y]
    .have he:a=b:=by
      apply cJ.1;rw[cH]at O U;omega
     subst he;simp[O,ih]
theorem EN(sc:Wd->Fr)(x y:Wd):ltOf (Vi sc) x y=pE sc x y:=by
 unfold ltOf Vi pE ze B5;by_cases O:(sc y).1*(sc x).2<(sc x).1*(sc y).2
 .simp[O]
 .by_cases U:(sc x).1*(sc y).2<(sc y).1*(sc x).2
  .simp[O,U]
  .simp only[O,U,if_false,ne_eq,not_true_eq_false,decide_false,cx,Bool.not_false,Bool.true_and];rw[cn,decide_eq_true_eq];exact SN x y
theorem R4(O:List (List Wd))(l:List Wd):SWO (ltOf (Vi (BV O l))) where
 irrefl x:=by rw[EN]; exact yr _ x
 trans x y z h1 h2:=by rw[EN]at *; exact vk _ (ue O l x) (ue O l y) (ue O l z) h1 h2
 ntrans x y z h1 h2:=by
  rw[EN]at *
  cases U:pE (BV O l) x z with
  |false=>rfl
  |true=>
   rcases Bw (BV O l) x y with h|h|h
   .rw[h1]at h; cases h
   .subst h; rw[h2]at U; cases U
   .have:=vk _ (ue O l y) (ue O l x) (ue O l z) h U;rw[h2]at this; cases this
theorem Q8(O:List (List Wd))(l:List Wd)(x y:Wd)(U:x∈iN O)(Y:y∈iN O):pE (BV O l) x y=pE (tr O l) x y:=by
 unfold pE;rw[KB O l x U,KB O l y Y,Qw (rE O l x) (rE O l y),Qw (rE O l y) (rE O l x)]
theorem BL(O:List (List Wd))(l kn:List Wd)(most:Nat)(d':Array Wd)(hk:kn.Perm (iN O))(hp:PermIn 0 kn.toArray.size kn.toArray d')(hs:SortedIn (ltOf (Vi (BV O l))) 0 kn.toArray.size d') :
  lq O l most=d'.toList.take (min most kn.length):=by
 obtain⟨p1,_,p3⟩:=hp
 have iC:=by
  have e1:d'.extract 0 kn.toArray.size=d':=by
   rw[<-p1]; simp
  have e2:kn.toArray.extract 0 kn.toArray.size=kn.toArray:=by simp
  rw[e1,e2]at p3;exact p3.trans hk
 rw[Af O l most _ (λx hx=>DJ O l x hx) iC ?_,hk.length_eq];rw[aS];intro i j hi hj Y;have ab:d'.toList.length=kn.toArray.size:=by simpa using p1
 have h:=hs i j (cc _) Y (by omega);rw[EN]at h
 have gi:d'[i]! = d'.toList[i]:=by
  rw[getElem!_pos d' i _]; rfl
 have gj:d'[j]! = d'.toList[j]:=by
  rw[getElem!_pos d' j _]; rfl
 rw[gi,gj]at h;have mi:=iC.mem_iff.1 (aI hi);have mj:=iC.mem_iff.1 (aI hj);rw[Q8 O l _ _ mj mi]at h;have aa:=iC.nodup_iff.2 (mT O).nodup;rcases Bw .. with U|U|U
 .exact U
 .exfalso;have:=aS.1 aa i j hi hj Y;exact this U
 .rw[h]at U; cases U
end
section
open Go.RowKit
variable {l m:List gu} {S T:List Wd} {α:Type} {q:Wd}
def gM(e:gu):Wd:=ir e.text
def sW(s p:Wd):Bool:=decide (p <+: s)
theorem qo(s p:Wd):sW s p=true↔p <+: s:=by simp[sW]
theorem KO(s p:Wd):sW s p=(decide (p.length<=s.length)&&(s.take p.length==p)):=by
 rw[cn,qo,cm,decide_eq_true_iff,beq_iff_eq,List.prefix_iff_eq_take];constructor
 .intro h; refine⟨?_,h.symm⟩;have:=congrArg bS h; simp at this; omega
 .intro h; exact h.2.symm
def vi:Wd->Wd->Wd
 |a::u,b::bs=>if a=b then a::vi u bs else []
 |_,_=>[]
theorem um:∀a b:Wd,vi a b <+: a
 |[],b=>by cases b<;>exact bA _
 |a::u,[]=>aM
 |a::u,b::bs=>by
  unfold vi;split
  .exact aH.2 ⟨rfl,um u bs⟩
  .exact aM
theorem rP:∀a b:Wd,vi a b <+: b
 |[],b=>by cases b<;>exact aM
 |a::u,[]=>bA _
 |a::u,b::bs=>by
  unfold vi;split
  .rename_i h; subst h; exact aH.2 ⟨rfl,rP u bs⟩
  .exact aM
theorem ua:∀(a b r:Wd),r <+: a->r <+: b->r <+: vi a b
 |[],b,r,h,_=>by have:=bP.1 h; subst this; exact aM
 |a::u,[],r,_,h=>by have:=bP.1 h; subst this; exact aM
 |a::u,b::bs,[],_,_=>aM
 |a::u,b::bs,c::r,U,Y=>by
  have g1:=aH.1 U;have O:=aH.1 Y;unfold vi;rw[if_pos (g1.1.symm.trans O.1)];exact aH.2 ⟨g1.1,ua u bs r g1.2 O.2⟩
def OI:List Wd->Wd
 |[]=>[]
 |a::u=>u.foldl vi a
def uG(q:Wd)(S:List Wd):Prop:=(∀s∈S,q <+: s)/\∀r:Wd,(∀s∈S,r <+: s)->r <+: q
theorem LF:∀(u:List Wd)(a:Wd),uG (u.foldl vi a) (a::u)
 |[],a=>⟨λs O=>by simp at O; subst O; exact bA _,λr h=>h a (by simp)⟩
 |b::u,a=>by
  have U:=LF u (vi a b)
  refine⟨λs O=>?_,λr h=>?_⟩
  .have Y:=U.1 (vi a b) (by simp);simp only[a0]at O;rcases O with rfl|rfl|O
   .exact Y.trans (um ..)
   .exact Y.trans (rP ..)
   .exact U.1 s (by simp[O])
  .refine U.2 r (λs O=>?_);simp only[a0]at O;rcases O with rfl|O
   .exact ua _ _ _ (h a (by simp)) (h b (by simp))
   .exact h s (by simp[O])
theorem zx(h:S≠[]):uG (OI S) S:=by
 cases S with
 |nil=>exact absurd rfl h
 |cons a u=>exact LF u a
theorem uG.one{p:Wd}(O:uG p S)(U:uG q S):p=q:=
 (U.2 p O.1).eq_of_length (ch (U.2 p O.1).length_le (O.2 q U.1).length_le)
theorem SI(h:S≠[])(O:uG q S):OI S=q:=(zx h).one O
theorem uG.congr(h:∀s,s∈S↔s∈T)(U:uG q S):uG q T:=
 ⟨λs O=>U.1 s ((h s).2 O),λr Y=>U.2 r (λs O=>Y s ((h s).1 O))⟩
theorem Kj(h:∀s,s∈S↔s∈T):OI S=OI T:=by
 by_cases e:S=[]
 .subst e
  have:T=[]:=by
   cases T with
   |nil=>rfl
   |cons a T=>exact absurd ((h a).2 (by simp)) (by simp)
  rw[this]
 .exact((zx e).congr h).one (zx (λO=>by
   subst O
   cases S with
   |nil=>exact e rfl
   |cons a S=>exact absurd ((h a).1 (by simp)) (by simp)))
def EF(a b:gu):Bool:=cl a.name b.name
def vJ(out:List gu)(x:gu):List gu:=out.takeWhile (λy=>EF y x)++x::out.dropWhile (λy=>EF y x)
def jd(l:List gu):List gu:=l.foldl vJ []
def n9(l:List gu):Prop:=l.Pairwise λa b=>EF b a=false
def mo(l:List gu):Prop:=l.Pairwise λa b=>EF a b=true
theorem Iv(q:α->Bool)(A B:List α)(O:∀a∈A,q a=true)(U:∀b∈B,q b=false):(A++B).takeWhile q=A/\(A++B).dropWhile q=B:=by
 induction A with
 |nil=>
  cases B with
  |nil=>simp
  |cons b B=>have:=U b (by simp); simp[this]
 |cons a A Y=>
  have h0:=O a (by simp);have:=Y (λx hx=>O x (by simp[hx]));simp[h0,this.1,this.2]
theorem OD{p:α->Bool}:∀(l:List α)(y:α),y∈l.takeWhile p->p y=true:=by
 intro l
 induction l with
 |nil=>intro y h; simp at h
 |cons a l O=>
  intro y h;rw[aX]at h;split at h
  .rename_i U;rcases a0.1 h with rfl|h
   .exact U
   .exact O y h
  .simp at h
theorem LQ{p:α->Bool}:∀(l:List α)(y:α)(r:List α),l.dropWhile p=y::r->p y=false:=by
 intro l
 induction l with
 |nil=>intro y r h; simp at h
 |cons a l O=>
  intro y r h;rw[b7]at h;split at h
  .exact O y r h
  .rename_i U;cases h;simpa using U
theorem Rp{x y z:gu}(U:EF y x=false)(Y:EF z y=false):EF z x=false:=by
 unfold EF at *
 cases h:cl .. with
 |false=>rfl
 |true=>
  rcases kR .. with O|O|O
  .rw[oJ _ _ _ O h]at U; cases U
  .rw[O,h]at U; cases U
  .rw[O]at Y; cases Y
theorem Dw(out:List gu)(x:gu)(h:n9 out):∃A B,out=A++B/\vJ out x=A++x::B/\(∀a∈A,EF a x=true)/\∀b∈B,EF b x=false:=by
 refine⟨out.takeWhile _,out.dropWhile _,(aW).symm,rfl,λa U=>OD out a U,λb hb=>?_⟩;have Y:n9 (out.dropWhile (λy=>EF y x)):=cT (bx _) h;have hh:=LQ (p:=λy=>EF y x) out;generalize out.dropWhile _=B at *
 cases B with
 |nil=>simp at hb
 |cons c B=>
  have O:=hh c B rfl;simp only[a0]at hb;rcases hb with rfl|hb
  .exact O
  .exact Rp O (List.rel_of_pairwise_cons Y hb)
theorem zT(out:List gu)(x:gu)(h:n9 out):n9 (vJ out x):=by
 obtain⟨A,B,rfl,U,Y,h4⟩:=Dw out x h;rw[U];unfold n9 at *;rw[be]at h⊢;refine⟨h.1,a8.2 ⟨λb hb=>h4 b hb,h.2.1⟩,λa O b hb=>?_⟩;simp only[a0]at hb;rcases hb with rfl|hb
 .exact rN (Y a O)
 .exact h.2.2 a O b hb
theorem Fw(l:List gu):∀out,n9 out->n9 (l.foldl vJ out):=by
 induction l with
 |nil=>intro out h; exact h
 |cons x l O=>intro out h; exact O _ (zT out x h)
theorem ED(l:List gu):n9 (jd l):=Fw l [] List.Pairwise.nil
theorem Pj(out:List gu)(x:gu):(vJ out x).Perm (x::out):=by
 refine bL.trans (List.Perm.cons x ?_);rw[aW]
theorem Kd(l:List gu):∀out,(l.foldl vJ out).Perm (l++out):=by
 induction l with
 |nil=>intro out; exact db _
 |cons x l O=>
  intro out;refine(O _).trans ?_;refine(cZ l (Pj out x)).trans ?_;exact bL
theorem jA(l:List gu):(jd l).Perm l:=by have:=Kd l []; rw[bj]at this; exact this
theorem pL{e:gu}:e∈jd l↔e∈l:=(jA l).mem_iff
theorem Ny(l:List gu):(jd l).length=l.length:=(jA l).length_eq
theorem Jt(p:gu->Bool)(out:List gu)(x:gu)(h:n9 out):(vJ out x).filter p=if p x=true then vJ (out.filter p) x else out.filter p:=by
 obtain⟨A,B,rfl,Y,h3,h4⟩:=Dw out x h;rw[Y];have hA:∀a∈A.filter p,(λy=>EF y x) a=true:=λa O=>h3 a (az.1 O).1;have hB:∀a∈B.filter p,(λy=>EF y x) a=false:=λa O=>h4 a (az.1 O).1;have U:=Iv _ _ _ hA hB;rw[aE,aE,bh];split
 .unfold vJ; rw[U.1,U.2]
 .rfl
theorem Fg(p:gu->Bool)(l:List gu):∀out,n9 out->(l.foldl vJ out).filter p=(l.filter p).foldl vJ (out.filter p):=by
 induction l with
 |nil=>intro out _; rfl
 |cons x l O=>
  intro out h;rw[aO,O _ (zT out x h),Jt p out x h,bh];split
  .rfl
  .rfl
theorem rU(p:gu->Bool)(l:List gu):(jd l).filter p=jd (l.filter p):=Fg p l [] List.Pairwise.nil
theorem Rx(out:List gu)(x:gu)(h:∀a∈out,EF a x=true):vJ out x=out++[x]:=by
 have:=Iv _ out [] h (by simp);rw[bj]at this;unfold vJ; rw[this.1,this.2]
theorem Em(l:List gu):∀out,mo (out++l)->l.foldl vJ out=out++l:=by
 induction l with
 |nil=>simp
 |cons x l O=>
  intro out h;have U:=(be.1 h).2.2;rw[aO,Rx out x (λa Y=>U a Y x (by simp)),O]
  .simp
  .simpa using h
theorem Ea(l:List gu)(h:mo l):jd l=l:=by simpa[jd]using Em l [] (by simpa using h)
theorem Ns(h:n9 l)(U:(l.map gu.name).Nodup):mo l:=by
 rw[bT,b8]at U;refine(h.and U).imp ?_;rintro a b ⟨Y,h2⟩;unfold EF at *;rcases kR .. with O|O|O
 .exact O
 .exact absurd O h2
 .rw[O]at Y; cases Y
theorem p8(l:List gu)(O:(l.map gu.name).Nodup):mo (jd l):=
 Ns (ED l) (((jA l).map _).nodup_iff.2 O)
theorem mo.nodup(h:mo l):(l.map gu.name).Nodup:=by
 rw[bT,b8];exact h.imp (λh=>CG h)
theorem J5(O:mo l)(hm:mo m)(h:l.Perm m):l=m:=by
 refine da (le:=λa b=>EF a b=true) ?_ O hm h;intro a b _ _ U h2;have:=rN U;unfold EF at h2;rw[h2]at this; cases this
theorem Iw(O:(l.map gu.name).Nodup)(h:l.Perm m):jd l=jd m:=
 J5 (p8 l O) (p8 m ((h.map _).nodup_iff.1 O)) (((jA l).trans h).trans (jA m).symm)
end
section
open Go.RowKit
variable {l:List gu} {p s:Wd}
def u8(n:Int):UInt8:=cI (n % 256).toNat
def gS(s:Wd):Wd:=u8 s.length::s
def kF(n:Int):Wd:=[u8 (n.tdiv 65536),u8 ((n.tdiv 256).tmod 256),u8 (n.tmod 256)]
def qh(e:gu):Wd:=gS e.name++(gS e.text++(kF e.gw++[u8 e.gK]))
def jZ(l:List gu):Int:=l.foldl (λg e=>if g<e.gw then e.gw else g) 0
def Ul(l:List gu)(p:Wd):List gu:=l.filter λe=>sW (gM e) p
def nK(l:List gu)(p:Wd):List gu:=l.filter λe=>gM e==p
def mK(G:List gu)(p:Wd)(c:UInt8):List gu:=G.filter λe=>sW (gM e) (p++[c])
def nD:List UInt8:=(aR 256).map cI
def mV(G:List gu)(p:Wd):List UInt8:=nD.filter λc=>!(mK G p c).isEmpty
def p9(H:List gu):Wd:=OI (H.map gM)
def qi:Nat->Wd->List gu->Wd
 |0,_,_=>[]
 |f+1,p,G=>kF (jZ G)++(u8 (nK G p).length::((nK G p).flatMap qh++(u8 (mV G p).length::(mV G p).flatMap λc=>gS ((p9 (mK G p c)).drop p.length)++qi f (p9 (mK G p c)) (mK G p c))))
theorem mO(p s:Wd)(c:UInt8):p++[c] <+: s↔p <+: s/\p.length<s.length/\s.getD p.length 0=c:=by
 constructor
 .rintro⟨t,rfl⟩;simp[ay]
 .rintro⟨⟨t,rfl⟩,O,U⟩
  cases t with
  |nil=>simp at O
  |cons d t=>
   subst U;exact⟨t,by simp⟩
theorem zX(h:p <+: s)(U:s≠p):p.length<s.length:=by
 rcases Nat.lt_or_ge .. with O|O
 .exact O
 .exact absurd (h.eq_of_length (ch h.length_le O)).symm U
theorem GR(h:p <+: s)(i:Nat)(hi:i<p.length):s.getD i 0=p.getD i 0:=by
 obtain⟨t,rfl⟩:=h;rw[ay,ay,bE hi]
theorem Lf{e:gu}:e∈Ul l p↔e∈l/\p <+: gM e:=by simp[Ul,qo]
theorem x9(l:List gu)(p:Wd)(c:UInt8):mK l p c=Ul l (p++[c]):=rfl
theorem s4{H:List gu}(h:H≠[]):uG (p9 H) (H.map gM):=zx (by simpa using h)
theorem OX(h:Ul l p≠[]):p <+: p9 (Ul l p):=
 (s4 h).2 p (λs O=>by
  obtain⟨e,U,rfl⟩:=a6.1 O
  exact(Lf.1 U).2)
theorem vI(i:Nat)(h:i<nD.length):nD[i]=cI i:=by simp[nD]
theorem EK:nD.length=256:=by simp[nD]
theorem xj{c:UInt8}(h:c∈mV l p):Ul l (p++[c])≠[]:=by
 have:=(az.1 h).2;rw[x9]at this;intro e; rw[e]at this; simp at this
theorem sC{α O:Type}{f g:α->List O}:∀{l:List α},(∀a∈l,f a=g a)->l.flatMap f=l.flatMap g
 |[],_=>rfl
 |a::l,h=>by rw[aF,aF,h a (by simp),sC (λx U=>h x (by simp[U]))]
end
section
open Go.RowKit
theorem UQ(s:ByteArray)(n:Nat):s.extract 0 n=⟨(s.data.toList.take n).toArray⟩:=by
 apply cY;apply dq.1;simp
theorem TD(n:Int):((u8 n).toNat:Int)=n % 256:=by
 unfold u8;have:(cI (n % 256).toNat).toNat=(n % 256).toNat % 256:=by simp
 omega
theorem oU(n:Int):js [u8 n]=[.int .u8 (n % 256)]:=by simp only[js,aA,bg,TD]
end
section
open Go.RowKit
theorem lW{B:Nat}{a w:World}(h:Below B a w)(q:Nat):Below B a (w.drewN q):=⟨h.os,h.tape,h.output,h.size,h.block⟩
end
section
open Go.RowKit
def zy(k:Nat):Wd:=[cI (97+k)]
theorem CL(c:Int)(w:World)(h0 : -9223372036854775808<=c)(h1:c<=9223372036854775807):c5 prog 23 #[.int .i64 c] w λe w'=>e=.returned (.string ⟨(zy (pk c 12)).toArray⟩)/\w=w':=by
 have U:=lK c 12 w h0 h1 (by omega) (by omega);have O:=sO c 12 (by omega);obtain⟨k,Y⟩:∃k,k=pk c 12:=⟨_,rfl⟩;rw[<-Y]at U O⊢;clear Y;go_enter func23,ntmps23;go_wp2_with fail;refine U.mono ?_;rintro e w1 ⟨rfl,rfl⟩;rcases(by omega:k=0\/k=1\/k=2\/k=3\/k=4\/k=5\/k=6\/k=7\/k=8\/k=9\/k=10\/k=11)with rfl|rfl|rfl|rfl|rfl|rfl|rfl|rfl|rfl|rfl|rfl|rfl
 all_goals
  go_wp2;go_ret;exact⟨rfl,rfl⟩
def w6:Nat->Wd
 |0=>[110,101,119]
 |1=>[89,111,114,107]
 |2=>[110,101,119,97,114,107]
 |3=>[110,101]
 |4=>[89,111,45,121,111]
 |_=>[107,57]
def ES(n:Nat):Wd:=
 if n<6 then w6 n else if n<42 then w6 ((n-6) / 6)++[32]++w6 ((n-6) % 6)
 else w6 ((n-42) / 36)++[45]++w6 ((n-42) / 6 % 6)++[32]++w6 ((n-42) % 6)
def xz:Array Value:=#[.string ⟨#[110,101,119]⟩,.string ⟨#[89,111,114,107]⟩,.string ⟨#[110,101,119,97,114,107]⟩,.string ⟨#[110,101]⟩,.string ⟨#[89,111,45,121,111]⟩,.string ⟨#[107,57]⟩]
theorem Ji(i:Nat)(h:i<6):xz[i]?=some (.string ⟨(w6 i).toArray⟩):=by
 rcases(by omega:i=0\/i=1\/i=2\/i=3\/i=4\/i=5)with rfl|rfl|rfl|rfl|rfl|rfl<;>rfl
theorem Ba(i:Nat):(w6 i).length<=6:=by unfold w6; split<;>simp
theorem uc(a b:Wd):(⟨a.toArray⟩:ByteArray)++⟨b.toArray⟩=⟨(a++b).toArray⟩:=by
 apply cY;simp
theorem Ni(c:Int)(w:World)(h0 : -9223372036854775808<=c)(h1:c<=9223372036854775807):c5 prog 45 #[.int .i64 c] w λe w'=>e=.returned (.string ⟨(ES (pk c 258)).toArray⟩)/\Below w.heap.size w w':=by
 have aa:=sO c 258 (by omega);obtain⟨n,hn⟩:∃n,n=pk c 258:=⟨_,rfl⟩;have hb:Below w.heap.size w (w.alloc (.cells xz 9)):=(Below.refl _ _).alloc (bW _) _;have HB:Hid _:=hb
 have HC:Hid (∀i,i<6->(w.alloc (.cells xz 9)).cell? ⟨w.heap.size,i,none⟩=some (.string ⟨(w6 i).toArray⟩)):=λi hi=>by
  rw[gq (cs:=xz) (t:=9) (fz:=(0,0)) (by simp[World.alloc,-World.alloc_eq])];exact Ji i hi
 have hp:=lK c 258 (w.alloc (.cells xz 9)) h0 h1 (by omega) (by omega);rw[<-hn]at hp aa⊢;clear hn hb;unfold xz at HB HC hp;by_cases U:n<6
 .have g1:((n:Nat):Int)<6:=by omega
  have Y:ES n=w6 n:=by unfold ES; rw[if_pos U]
  have hc:=HC.out n U;rw[Y];go_enter func45,ntmps45;go_wp2_with fail;refine hp.mono ?_;rintro e w1 ⟨rfl,rfl⟩;clear hp;go_wp2;go_ret;exact⟨rfl,HB.out⟩
 .have g1:¬((n:Nat):Int)<6:=by omega
  by_cases O:n<42
  .obtain⟨i,j,hi,hj,hn⟩:∃i j,i<6/\j<6/\n=6+6*i+j:=⟨(n-6) / 6,(n-6) % 6,by omega,by omega,by omega⟩
   have Y:ES n=w6 i++[32]++w6 j:=by
    unfold ES;rw[if_neg U,if_pos O,show(n-6) / 6=i by omega,show(n-6) % 6=j by omega]
   have ab:=HC.out i hi;have ac:=HC.out j hj;have zi:(⟨(w6 i).toArray⟩:ByteArray).size<=6:=by have:=Ba i; simpa[cX]using this
   have zj:(⟨(w6 j).toArray⟩:ByteArray).size<=6:=by have:=Ba j; simpa[cX]using this
   rw[Y];have g3:(⟨(w6 i++[32]++w6 j).toArray⟩:ByteArray)=⟨(w6 i).toArray⟩++⟨#[32]⟩++⟨(w6 j).toArray⟩:=by rw[<-uc,<-uc]
   rw[g3];clear g3;generalize (⟨(w6 i).toArray⟩:ByteArray)=si at *;generalize (⟨(w6 j).toArray⟩:ByteArray)=sj at *;have g4:(n:Int)-6<36:=by omega
   have g5:((n:Int)-6).tdiv 6=(i:Nat):=by rw[cE (by omega)]; omega
   have g6:((n:Int)-6).tmod 6=(j:Nat):=by rw[cD (by omega)]; omega
   have m1:(i:Int)<6:=by omega
   have m2:(j:Int)<6:=by omega
   have k1:IntKind.i64.wrap ((i:Int))=i:=by simp only[dd]; omega
   have k2:IntKind.i64.wrap ((j:Int))=j:=by simp only[dd]; omega
   clear Y hn O U;go_enter func45,ntmps45;go_wp2_with fail;refine hp.mono ?_;rintro e w1 ⟨rfl,rfl⟩;clear hp;generalize w.alloc _=wa at *;go_wp2;go_quiet (fail);go_wp2;go_ret;exact⟨rfl,lW HB.out _⟩
  .obtain⟨i,j,l,hi,hj,hl,hn⟩:∃i j l,i<6/\j<6/\l<6/\n=42+36*i+6*j+l:=⟨(n-42) / 36,(n-42) / 6 % 6,(n-42) % 6,by omega,by omega,by omega,by omega⟩
   have Y:ES n=w6 i++[45]++w6 j++[32]++w6 l:=by
    unfold ES;rw[if_neg U,if_neg O,show(n-42) / 36=i by omega,show(n-42) / 6 % 6=j by omega,show(n-42) % 6=l by omega]
   have ab:=HC.out i hi;have ac:=HC.out j hj;have mP:=HC.out l hl;have zi:(⟨(w6 i).toArray⟩:ByteArray).size<=6:=by have:=Ba i; simpa[cX]using this
   have zj:(⟨(w6 j).toArray⟩:ByteArray).size<=6:=by have:=Ba j; simpa[cX]using this
   have zl:(⟨(w6 l).toArray⟩:ByteArray).size<=6:=by have:=Ba l; simpa[cX]using this
   rw[Y];have g3:(⟨(w6 i++[45]++w6 j++[32]++w6 l).toArray⟩:ByteArray)=⟨(w6 i).toArray⟩++⟨#[45]⟩++⟨(w6 j).toArray⟩++⟨#[32]⟩++⟨(w6 l).toArray⟩:=by rw[<-uc,<-uc,<-uc,<-uc]
   rw[g3];clear g3;generalize (⟨(w6 i).toArray⟩:ByteArray)=si at *;generalize (⟨(w6 j).toArray⟩:ByteArray)=sj at *;generalize (⟨(w6 l).toArray⟩:ByteArray)=sl at *;have g4:¬(n:Int)-6<36:=by omega
   have g6:((n:Int)-6-36).tdiv 36=(i:Nat):=by rw[cE (by omega)]; omega
   have g7:((n:Int)-6-36).tdiv 6=((6*i+j:Nat):Int):=by rw[cE (by omega)]; omega
   have g8:(6*(i:Int)+(j:Int)).tmod 6=(j:Nat):=by rw[cD (by omega)]; omega
   have g9:((n:Int)-6-36).tmod 6=(l:Nat):=by rw[cD (by omega)]; omega
   have m1:(i:Int)<6:=by omega
   have m2:(j:Int)<6:=by omega
   have k1:IntKind.i64.wrap ((i:Int))=i:=by simp only[dd]; omega
   have k2:IntKind.i64.wrap ((j:Int))=j:=by simp only[dd]; omega
   have m3:(l:Int)<6:=by omega
   have k3:IntKind.i64.wrap ((l:Int))=l:=by simp only[dd]; omega
   have k4:IntKind.i64.wrap (6*(i:Int)+(j:Int))=6*(i:Int)+(j:Int):=by simp only[dd]; omega
   clear Y hn O U;go_enter func45,ntmps45;go_wp2_with fail;refine hp.mono ?_;rintro e w1 ⟨rfl,rfl⟩;clear hp;generalize w.alloc _=wa at *;go_wp2;go_quiet (fail);go_wp2;go_ret;exact⟨rfl,lW HB.out _⟩
end
section
open Go.RowKit
theorem pq(c:UInt8)(w:World) :
  c5 prog 98 #[.int .u8 c.toNat] w λe w'=>e=.returned (.bool (ik c))/\w=w':=by
 go_wp2
 all_goals
  go_ret;refine⟨iy ?_,rfl⟩;unfold ik;rw[cn];simp only[decide_eq_true_eq,cp,true_iff,false_iff,cw];omega
theorem qC(s:ByteArray)(w:World)(hs:s.size<=cy) :
  c5 prog 48 #[.string s] w λe w'=>e=.returned (.bool (il s.data.toList))/\w=w':=by
 unfold cy at hs;by_cases aa:s.size<=24
 .have hd:decide (24<(s.size:Int))=false:=by simp; omega
  go_enter func48,ntmps48;go_wp2;go_loop [9] (λi=>∃k:Nat,k<=s.size/\i=.int .i64 k/\(s.data.toList.take k).all mh=true) (λi=>s.size-(intOf i).toNat)
  case atStart=>exact⟨0,cc _,rfl,rfl⟩
  case round=>
   obtain⟨k,hk,rfl,ji⟩:=hrel;have HA:Hid _:=ji;clear ji;by_cases U:k<s.size
   .have Y:=xe s k U;have HS:Hid _:=Y;clear Y;by_cases O:mh s[k]=true
    .have HP:Hid _:=O;have h1:32<=(s[k].toNat:Int):=by simp[mh]at O; omega
     have h2:(s[k].toNat:Int)<=126:=by simp[mh]at O; omega
     clear O;go_wp2;go_round
     case rel=>exact⟨k+1,by omega,by go_num,by rw[HS.out,List.all_append,HA.out]; simp[HP.out]⟩
     case measure=>simp[intOf]; omega
    .have HP:Hid _:=O;have h1:(s[k].toNat:Int)<32\/126<(s[k].toNat:Int):=by simp[mh]at O; omega
     clear O;rcases h1 with h1|h1
     all_goals
      go_wp2;go_ret;refine⟨iy ?_,rfl⟩;symm;rw[ct];intro hq;apply HP.out;simp only[il,cm]at hq;exact List.all_eq_true.1 hq.2 _ (F5 s k U)
   .go_wp2;go_ret;refine⟨iy ?_,rfl⟩;have e:s.data.toList.take k=s.data.toList:=bk (by simp; omega);have:=HA.out;rw[e]at this;simp[il,this]; exact aa
 .go_enter func48,ntmps48;go_wp2;go_ret;refine⟨iy ?_,rfl⟩;simp[il]; omega
theorem sD(s:ByteArray)(w:World)(hs:s.size<=cy) :
  c5 prog 65 #[.string s] w λe w'=>e=.returned (.bool (decide (il s.data.toList=true/\s.data.toList≠[])))/\w=w':=by
 by_cases O:s.data.toList=[]
 .have U:s=⟨#[]⟩:=by
   apply cY;apply dq.1;exact O
  subst U;go_wp2;go_ret;exact⟨iy (by simp),rfl⟩
 .have Y:s.toList.isEmpty=false:=by
   rw[ByteArray.toList_eq]
   cases h:s.data.toList with
   |nil=>exact absurd h O
   |cons a l=>rfl
  have HQ:Hid (decide (il s.data.toList=true/\s.data.toList≠[])=il s.data.toList):=by
   rw[cn,decide_eq_true_eq];exact⟨λh=>h.1,λh=>⟨h,O⟩⟩
  go_enter func65,ntmps65;go_wp2_with fail;refine(qC _ _ hs).mono ?_;rintro e w' ⟨rfl,rfl⟩;go_wp2;go_ret;exact⟨iy (by rw[HQ.out]),rfl⟩
def ug(w:World)(g:Nat)(l:List UInt8):Prop:=∀j(h:j<l.length),w.cell? ⟨g,j,none⟩=some (.int .u8 l[j].toNat)/\w.frozen? ⟨g,j,none⟩=false
theorem ug.set{w:World}{g:Nat}{l:List UInt8}(h:ug w g l)(k:Nat)(c:UInt8)(v:Value)(Y:v=.int .u8 c.toNat):ug (w.setCell ⟨g,k,none⟩ v) g (l.set k c):=by
 subst Y;intro j hj;have O:j<l.length:=by simpa using hj
 obtain⟨U,h2⟩:=h j O;refine⟨?_,by rw[World.frozen?_setCell]; exact h2⟩;by_cases e:k=j
 .subst e;rw[World.cell?_setCell_same _ _ _ U];simp
 .rw[World.cell?_setCell_other _ _ _ _ (by intro hh; simp at hh),U];simp[e]
def lh(l:List UInt8)(k:Nat):List UInt8:=ir (l.take k)++l.drop k
theorem uZ(l:List UInt8)(k:Nat):(lh l k).length=l.length:=by simp[lh,ir]; omega
theorem Am(l:List UInt8)(k:Nat)(h:k<l.length):(lh l k)[k]'(by rw[uZ]; exact h)=l[k]:=by
 unfold lh;simp[ir,cg (Nat.le_of_lt h)]
theorem Hd(l:List UInt8)(k:Nat)(h:k<l.length):lh l (k+1)=(lh l k).set k (Ac l[k]):=by
 unfold lh;rw[aB h,Kc];have O:(ir (l.take k)).length=k:=by rw[jH]; simp; omega
 rw[List.set_append_right _ _ (by omega),O,Nat.sub_self,aJ];rw[aK h];rfl
theorem Ks(l:List UInt8):lh l l.length=ir l:=by simp[lh]
theorem H9(l:List UInt8):lh l 0=l:=by simp[lh,ir]
theorem drawn_setCell(w:World)(a:Addr)(v:Value):(w.setCell a v).drawn=w.drawn:=by
 unfold de;split <;>(try split) <;>(try split)<;>rfl
theorem va(s:ByteArray)(w:World)(hs:s.size<=1099511627776) :
  c5 prog 50 #[.string s] w λe w'=>e=.returned (.string ⟨(ir s.data.toList).toArray⟩)/\Below w.heap.size w w'/\w.drawn<=w'.drawn:=by
 have ac:=Lib.run_convert_string_bytes (P:=prog) w 9 60 5 s underlying9 underlying60 underlying5;go_enter func50,ntmps50;obtain⟨W0,O⟩:∃W0,Lib.bytesWorld w 5 s=W0:=⟨_,rfl⟩
 have hb0:Below w.heap.size w W0:=by
  subst O;exact⟨rfl,rfl,rfl,by rw[cO]; omega,λk hk=>Lib.bytesWorld_at_old w _ s k hk⟩
 have hd0:w.drawn<=W0.drawn:=by subst O; exact Nat.le_succ _
 have hz0:w.heap.size<W0.heap.size:=by subst O; rw[cO]; omega
 have hA0:ug W0 w.heap.size (lh s.data.toList 0):=by
  rw[H9];intro j hj;have ad:j<s.size:=by simpa using hj
  subst O;refine⟨?_,?_⟩
  .rw[Lib.bytesWorld_cell w _ s j ad,ay,a7 hj]; rfl
  .simp[df,Lib.bytesWorld_at_new];intro h;simp[Lib.bytesCells]at h;omega
 rw[O]at ac;clear O;go_wp2;go_loopw [10] (λi wr=>∃k:Nat,k<=s.size/\i=.int .i64 k/\ug wr w.heap.size (lh s.data.toList k)/\Below w.heap.size w wr/\w.heap.size<wr.heap.size/\w.drawn<=wr.drawn) (λi _=>s.size-(intOf i).toNat)
 case atStart=>exact⟨0,cc _,rfl,hA0,hb0,hz0,hd0⟩
 case round=>
  obtain⟨k,hk,rfl,hA,hb,hz,hd⟩:=hrel;have HD:Hid (w.drawn<=wr.drawn):=hd;clear hd;by_cases ae:k<s.size
  .have Y:k<s.data.toList.length:=by simpa using ae
   obtain⟨hc,hf⟩:=hA k (by rw[uZ]; exact Y);rw[Am _ _ Y]at hc;have HE:Hid (lh s.data.toList (k+1)=(lh s.data.toList k).set k (Ac s.data.toList[k])):=Hd _ _ Y;have HG:Hid (s.data.toList.length=s.size):=by show _=_; simp
   have ab:Hid ((lh s.data.toList k)[k]'(by rw[uZ]; exact Y)=s.data.toList[k]):=Am _ _ Y;have HA:Hid (ug wr w.heap.size (lh s.data.toList k)):=hA;generalize s.data.toList[k]=c at *;clear hA;by_cases U:65<=c.toNat/\c.toNat<=90
   .have h1:65<=(c.toNat:Int):=by omega
    have h2:(c.toNat:Int)<=90:=by omega
    have HL:Hid (((Ac c).toNat:Int)=(c.toNat:Int)+32):=Ra _ U;clear U;go_wp2;go_roundw
    case rel=>exact⟨k+1,by omega,by go_num,by rw[HE.out]; exact HA.out.set k _ _ (by rw[HL.out]; go_num),Below.setCell hb (bW _) _,by simpa[de]using hz,by rw[drawn_setCell]; exact HD.out⟩
    case measure=>simp[intOf]; omega
   .have HL:Hid (Ac c=c):=Sn _ U;have af:(c.toNat:Int)<65\/90<(c.toNat:Int):=by omega
    have HS:Hid (lh s.data.toList (k+1)=lh s.data.toList k):=by
     show _=_;rw[HE.out,HL.out,<-ab.out];simp
    clear U;rcases af with h1|h1
    all_goals
     go_wp2;go_roundw
     case rel=>exact⟨k+1,by omega,by go_num,by rw[HS.out]; exact HA.out,hb,hz,HD.out⟩
     case measure=>simp[intOf]; omega
  .have ek:k=s.size:=by omega
   subst ek;have Y:(ir s.data.toList).length=s.size:=by rw[jH]; simp
   have e1:lh s.data.toList s.size=ir s.data.toList:=by
    have:s.size=s.data.toList.length:=by simp
    rw[this,Ks]
   rw[e1]at hA
   have aa:=run_convert_bytes_back (P:=prog) wr 60 9 5 ⟨w.heap.size,0,none⟩ (grownCap w s.size 0 5) (ir s.data.toList) underlying60 underlying5 underlying9 (λj hj=>by
    have:=(hA j hj).1
    have e2:(⟨w.heap.size,0,none⟩:Addr).add j=⟨w.heap.size,j,none⟩:=by
     unfold di;split
     .rename_i h; rw[h]
     .simp
    rw[e2]; exact this)
   rw[Y]at aa;clear Y e1;go_wp2;go_ret;exact⟨rfl,hb,HD.out⟩
theorem rb(s:ByteArray)(w:World)(O:s.size<=1099511627776) :
  c5 prog 50 #[.string s] w λe w'=>e=.returned (.string ⟨(ir s.data.toList).toArray⟩)/\Below w.heap.size w w':=(va s w O).mono λ_ _ h=>⟨h.1,h.2.1⟩
end
section
open Go.RowKit
def vq(O:List (List Wd))(s:List UInt8):Nat×List (List Wd):=
 if il s=true/\s≠[]then
  if 60<(iN (O++[kX (ir s)])).length then(4,O)else(0,O++[kX (ir s)])
 else(2,O)
end
section
open Go.RowKit
def xx(O:List (List Wd))(s:List UInt8)(most:Int):List Wd×Nat:=
 if most<1\/20<most then([],3)else if il s=true then(lq O (kX (ir s)) most.toNat,0)else([],2)
def NZ(w:World):Prop:=w.cell? ⟨0,0,none⟩=some (.int .u64 4)/\w.cell? ⟨0,1,none⟩=some (.int .u64 10)/\w.cell? ⟨0,2,none⟩=some (.int .u64 25)
theorem NZ.below{w w':World}(h:NZ w)(hb:Below w.heap.size w w'):NZ w':=⟨c3 hb h.1,c3 hb h.2.1,c3 hb h.2.2⟩
end
section
open Go.RowKit Go.Maps
variable {D:DataW Value} {m:List (Wd×Value)} {r:Nat} {row:Option Nat} {e t:cz} {w':World}
def nQ(v:Value):Option (DataW Value×List MemPlace):=some (.held v,[])
structure QJ(D:DataW Value)(l:List (Wd×Value)):Prop where
 nodup:(l.map dt).Nodup
 short:∀p∈l,p.1.length<=cy
 size:dn D=l.length
 has:∀x:Wd,dp D (.string x)=l.any λp=>p.1==x
 at_:∀p∈l,∀z,D.atKey (.string p.1) z=.held p.2
def gT(P:Program)(k:cz)(w:World)(B:Nat)(l:List (Wd×Value)):Prop:=∃D:DataW Value,w.ownsMap P k nQ B l.length D/\QJ D l
def tA(l:List (Wd×Value))(x:Wd)(v:Value):List (Wd×Value):=(l.filter λp=>p.1 != x)++[(x,v)]
theorem FW{α:Type}{l m:List α}(h:l.Perm m)(f:α->Bool):l.any f=m.any f:=by
 rw[cn];simp only[bu];exact⟨λ⟨x,O,U⟩=>⟨x,h.mem_iff.1 O,U⟩,λ⟨x,O,U⟩=>⟨x,h.mem_iff.2 O,U⟩⟩
theorem QJ.perm{l:List (Wd×Value)}(h:QJ D l)(O:l.Perm m):QJ D m where
 nodup:=(O.map dt).nodup_iff.1 h.nodup
 short:=λp hm=>h.short p (O.mem_iff.2 hm);size:=by rw[h.size,O.length_eq]
 has:=λx=>by rw[h.has x,FW O]
 at_:=λp hm=>h.at_ p (O.mem_iff.2 hm)
theorem Ap{P:Program}{k:cz}{w:World}{B n:Nat}{R:Value->Option (DataW Value×List MemPlace)}(h:w.ownsMap P k R B n D):w.ownsMap P k R B (dn D) D:=by
 obtain⟨es,clock,hb,F,_,rfl⟩:=h;exact⟨es,clock,hb,F,by simp[dn,length_sorted],rfl⟩
section
variable {P:Program} {k:cz} {w:World} {B:Nat} {l:List (Wd×Value)}
theorem gT.perm(h:gT P k w B l)(O:l.Perm m):gT P k w B m:=by
 obtain⟨D,U,Y⟩:=h;exact⟨D,by rw[<-O.length_eq]; exact U,Y.perm O⟩
theorem gT.lt(h:gT P k w B l):B<w.heap.size:=by
 obtain⟨D,O,_⟩:=h;exact O.lt
theorem gT.nodup(h:gT P k w B l):(l.map dt).Nodup:=by
 obtain⟨D,_,O⟩:=h;exact O.nodup
theorem gT.stay(h:gT P k w B l)(hb:w'.heap[B]?=w.heap[B]?):gT P k w' B l:=by
 obtain⟨D,⟨es,clock,O,U⟩,Y⟩:=h;exact⟨D,⟨es,clock,hb.trans O,U⟩,Y⟩
theorem gT.below(h:gT P k w B l)(hb:Below w.heap.size w w'):gT P k w' B l:=h.stay (hb.block B h.lt)
theorem gT.kept(h:gT P k w B l)(U:w.grownBy w' row)(O:some B≠row):gT P k w' B l:=h.stay (U.block B h.lt O)
theorem gT.made(w:World):gT P k (w.alloc (.map #[] 0)) w.heap.size []:=
 ⟨.map [],World.ownsMap_made ..,⟨List.Pairwise.nil,nofun,rfl,λ_=>rfl,nofun⟩⟩
theorem Lu(O:P.underlying k=some .string)(x:Wd)(U:x.length<=cy):keyOf P k (.string ⟨x.toArray⟩)=some (.string x):=by
 have:=WideMaps.keyOf_string_mk (P:=P) (k:=k) O (s:=⟨x.toArray⟩) (by show x.toArray.size<=cy; simpa using U);simpa using this
def pf(l:List (Wd×Value))(x:Wd)(z:Value):Value:=match l.find? λp=>p.1==x with
 |some p=>p.2
 |none=>z
theorem gT.look{z:Value}(h:gT P k w B l)(hk:P.underlying k=some .string)(ht:P.underlying t=some (.map k e))(hz:(zeroValue e).run P w=.ok z w)(x:Wd)(hx:x.length<=cy) :
  (Instr.lookup t (.map (some B)) (.string ⟨x.toArray⟩) false).run P w=.ok (pf l x z) w/\(Instr.lookup t (.map (some B)) (.string ⟨x.toArray⟩) true).run P w=.ok (.tuple #[pf l x z,.bool (l.any λp=>p.1==x)]) w:=by
 obtain⟨D,h1,O⟩:=h;have K:=dm hk;have jX:=Lu hk x hx;obtain⟨v1,p1,r1,U⟩:=h1.lookup K ht hz (zd:=.held z) (zp:=[]) rfl jX;obtain⟨v2,p2,r2,Y⟩:=h1.look_ok K ht hz (zd:=.held z) (zp:=[]) rfl jX
 have aa:D.atKey (.string x) (.held z)=.held (pf l x z):=by
  unfold pf
  cases hf:l.find? _ with
  |none=>
   have:dp D (.string x)=false:=by
    rw[O.has x,br];intro p hp;simpa using List.find?_eq_none.1 hf p hp
   exact atKey_of_not_has this _
  |some p=>
   have hp:=List.mem_of_find?_eq_some hf;have he:=by simpa using List.find?_some hf
   have:=O.at_ p hp (.held z);rw[he]at this;exact this
 rw[aa]at U Y;simp only[nQ,cK,Prod.mk.injEq,DataW.held.injEq]at U Y;rw[r1,r2,U.1,Y.1,O.has x];exact⟨rfl,rfl⟩
theorem gT.len(h:gT P k w B l)(U:P.underlying t=some (.map k e))(O:cz):(cS #[t] O #[.map (some B)]).run P w=.ok (.int .i64 (l.length:Nat)) w:=by
 obtain⟨D,Y,h2⟩:=h;rw[Y.len U O,h2.size]
theorem Hj(l:List (Wd×Value))(x y:Wd)(U:y≠x):(l.filter λp=>p.1 != x).any (λp=>p.1==y)=l.any λp=>p.1==y:=by
 rw[cn];simp only[bu,az,beq_iff_eq,bne_iff_ne];constructor
 .rintro⟨p,⟨Y,_⟩,O⟩; exact⟨p,Y,O⟩
 .rintro⟨p,Y,O⟩; exact⟨p,⟨Y,by rw[O]; exact U⟩,O⟩
theorem Ql(x:Wd):∀(l:List (Wd×Value)),(l.map dt).Nodup->(l.filter λp=>p.1 != x).length+(if l.any (λp=>p.1==x)then 1 else 0)=l.length:=by
 intro l
 induction l with
 |nil=>intro _; rfl
 |cons p l Y=>
  intro O;rw[aA,aU]at O;have h:=Y O.2;by_cases e:p.1=x
  .have U:l.any (λp=>p.1==x)=false:=by
    rw[br];intro q hq;simp only[beq_iff_eq];intro e2;exact O.1 (a6.2 ⟨q,hq,by rw[e2,e]⟩)
   rw[U]at h;simp[e]at h⊢;exact h
  .rw[bh,List.any_cons];simp only[bne_iff_ne,ne_eq,e,not_false_eq_true,if_true,aC];have:(p.1==x)=false:=by simpa using e
   rw[this,cx];omega
theorem gT.put(h:gT P k w B l)(hk:P.underlying k=some .string)(ht:P.underlying t=some (.map k e))(hn:l.length<cy)(x:Wd)(hx:x.length<=cy)(v:Value) :
  ∃w',(Instr.mapUpdate t (.map (some B)) (.string ⟨x.toArray⟩) v).run P w=.ok () w'/\gT P k w' B (tA l x v)/\w.grownBy w' (some B)/\w'.heap.size=w.heap.size:=by
 obtain⟨D,h1,O⟩:=h;have K:=dm hk;have jX:=Lu hk x hx;obtain⟨w',hr,ho,U⟩:=h1.store K ht hn jX (d:=.held v) (ps:=[]) (val:=v) rfl;have hT:=h1.tidy K
 have Y:dn (D.put (.string x) (.held v))=(tA l x v).length:=by
  rw[size_put hT,O.has x,O.size];have:=Ql x l O.nodup;unfold tA;rw[a5,List.length_singleton];split at this<;>rename_i hh
  .rw[if_pos hh]; omega
  .rw[if_neg hh]; omega
 refine⟨w',hr,⟨_,by rw[<-Y]; exact Ap ho,⟨?_,?_,Y,?_,?_⟩⟩,U.grown,?_⟩
 .unfold tA;rw[aN,aA,bg,bc];refine⟨O.nodup.sublist ((bi).map _),by simp,?_⟩;intro a ha b hb;simp only[aD]at hb;subst hb;obtain⟨p,hp,rfl⟩:=a6.1 ha;have:=(az.1 hp).2;simpa using this
 .intro p hp;rcases a9.1 hp with h|h
  .exact O.short p (az.1 h).1
  .simp only[aD]at h; subst h; exact hx
 .intro y;unfold tA;rw[List.any_append];by_cases e:y=x
  .subst e;rw[has_put_same h1.isMap (show WideAt.IsKeyLit (.string y)from trivial)];simp
  .rw[has_put_other (by simpa using e),O.has y,Hj l x y e];have:(x==y)=false:=by simpa using λh=>e h.symm
   simp[this]
 .intro p hp z;rcases a9.1 hp with h|h
  .have hm:=az.1 h;have ab:=by simpa using hm.2
   rw[atKey_put_other (by simpa using ab)];exact O.at_ p hm.1 z
  .simp only[aD]at h;subst h;rw[atKey_put_same h1.isMap (show WideAt.IsKeyLit (.string x)from trivial)]
 .obtain⟨es,clock,ac,aa,_,rfl⟩:=U;simp[ChangeMaps.setBlock]
def iq(P:Program)(k:cz)(w:World)(B r:Nat)(l rest:List (Wd×Value)):Prop:=
 (rest.map dt).Nodup/\(∀p∈rest,p∈l)/\∃D left cnt,w.ranges P k nQ B r l.length D left cnt/\QJ D l/\∀x:Wd,left (.string x)=rest.any λp=>p.1==x
theorem iq.owns{rest:List (Wd×Value)}(h:iq P k w B r l rest):gT P k w B l:=by
 obtain⟨_,_,D,left,cnt,O,U,_⟩:=h;exact⟨D,O.owns,U⟩
theorem iq.lt{rest:List (Wd×Value)}(h:iq P k w B r l rest):r<w.heap.size:=by
 obtain⟨_,_,D,left,cnt,O,U,_⟩:=h;exact O.lt
theorem iq.kept{rest:List (Wd×Value)}(h:iq P k w B r l rest)(O:w.grownBy w' row)(U:some B≠row)(Y:some r≠row):iq P k w' B r l rest:=by
 obtain⟨a,b,D,left,cnt,h1,h2,h3⟩:=h;exact⟨a,b,D,left,cnt,h1.kept O U Y,h2,h3⟩
theorem iq.mB(O:w'.heap[B]?=w.heap[B]?)(U:w'.heap[r]?=w.heap[r]?):w'.rangeLeft B r=w.rangeLeft B r:=by
 unfold World.rangeLeft;rw[O,U]
theorem gT.range(h:gT P k w B l)(U:P.underlying k=some .string)(Y:P.underlying t=some (.map k e)) :
  ∃w',(Instr.range t (.map (some B))).run P w=.ok (.pointer (some ⟨w.heap.size,0,none⟩)) w'/\iq P k w' B w.heap.size l l/\w.grownBy w' none/\w'.heap.size=w.heap.size+1:=by
 obtain⟨D,h1,O⟩:=h;obtain⟨w',hr,r1,r2,r3⟩:=h1.range (dm U) Y;exact⟨w',hr,⟨O.nodup,λ_ h=>h,D,_,_,r1,O,O.has⟩,r2,r3⟩
theorem Lm(U:P.underlying k=some .string){key:Value}{O:Lit}(h:keyOf P k key=some O):∃x:Wd,key=.string ⟨x.toArray⟩/\O=.string x:=by
 cases key<;>simp[keyOf,U,mapKey]at h
 rename_i s;refine⟨s.data.toList,?_,h.2.symm⟩;simp
theorem RZ:∀{l:List (Wd×Value)},(l.map dt).Nodup->∀{a b:Wd×Value},a∈l->b∈l->a.1=b.1->a=b:=by
 intro l
 induction l with
 |nil=>intro _ a b h; simp at h
 |cons c l Y=>
  intro O a b U hb e;rw[aA,aU]at O;rcases a0.1 U with ea|U
  .rcases a0.1 hb with eb|hb
   .rw[ea,eb]
   .exact absurd (a6.2 ⟨b,hb,by rw[<-e,ea]⟩) O.1
  .rcases a0.1 hb with eb|hb
   .exact absurd (a6.2 ⟨a,U,by rw[e,eb]⟩) O.1
   .exact Y O.2 U hb e
theorem iq.next{rest:List (Wd×Value)}(h:iq P k w B r l rest)(hk:P.underlying k=some .string)(ty:cz) :
  (rest=[]/\(Instr.next (.pointer (some ⟨r,0,none⟩)) false ty).run P w=.ok (.tuple #[.bool false]) w)\/
  ∃p O w',rest.Perm (p::O)/\(Instr.next (.pointer (some ⟨r,0,none⟩)) false ty).run P w=.ok (.tuple #[.bool true,.string ⟨p.1.toArray⟩,p.2]) w'/\iq P k w' B r l O/\w'.rangeLeft B r<w.rangeLeft B r/\
   w.grownBy w' (some r)/\w'.heap.size=w.heap.size/\(Instr.entry (.pointer (some ⟨r,0,none⟩))).run P w'=.ok (.tuple #[.string ⟨p.1.toArray⟩,p.2]) w':=by
 obtain⟨hn,U,D,left,cnt,h1,h2,h3⟩:=h;rcases h1.next (dm hk) ty with⟨_,hl,hr⟩|⟨key,v,kl,y,w',ab,jX,ae,hv,af,hr,ac,ag,hg,hs,ah⟩
 .left;refine⟨?_,hr⟩
  cases rest with
  |nil=>rfl
  |cons p rest=>
   have:=hl (.string p.1);rw[h3]at this;simp at this
 .right;obtain⟨x,rfl,rfl⟩:=Lm hk jX;have hx:=ae;rw[h3,bu]at hx;obtain⟨p,hp,aa⟩:=hx;have aa:=by simpa using aa
  subst aa
  have ai:=by
   have e1:=h2.at_ p (U p hp) (.held v);rw[af]at e1;simp only[nQ,cK]at hv;rw[<-hv]at e1;simpa using e1
  subst ai;refine⟨p,rest.filter λq=>q.1 != p.1,w',?_,hr,⟨?_,?_,D,_,ab,ac,h2,λx=>?_⟩,?_,hg,hs,ah⟩
  .have ad:rest.Nodup:=cU _ (λa b aj e=>aj (by rw[e])) hn;rw[bo ad]
   .intro q;simp only[a0,az,bne_iff_ne];constructor
    .intro Y;by_cases e:q.1=p.1
     .left;exact RZ hn Y hp e
     .right; exact⟨Y,e⟩
    .rintro(rfl|⟨Y,_⟩)
     .exact hp
     .exact Y
   .rw[aU];refine⟨λh=>?_,ad.sublist bi⟩;have:=(az.1 h).2;simp at this
  .exact hn.sublist (bi.map _)
  .exact λq Y=>U q (az.1 Y).1
  .rw[h3];by_cases e:x=p.1
   .subst e;have:(Lit.string p.1).sameKey (.string p.1)=true:=by simp[Lit.sameKey]
    rw[this];simp only[Bool.not_true,Bool.and_false];symm;rw[br];intro q Y;have:=(az.1 Y).2;simpa using this
   .have:(Lit.string x).sameKey (.string p.1)=false:=by simp[Lit.sameKey,e]
    rw[this,Hj rest _ x e];simp
  .rw[ac.left_eq,h1.left_eq];exact ag
end
section
variable {P:Program} {k:cz} {B:Nat} {l:List (Wd×Value)} (w:World) {ops:Array Oper} {rest:List Oper} {o:Oper} {a:Act} {Q:Exit->Act->World->Prop}
theorem Cp(hg:o.guard=none)(m:Operand)(t:cz)(U:o.op=Op.range t m)(e:cz)(hk:P.underlying k=some .string)(ht:P.underlying t=some (.map k e))
  (hm:a.eval m=.map (some B)) (h:gT P k w B l)
  (hK:∀w',iq P k w' B w.heap.size l l->w.grownBy w' none->w'.heap.size=w.heap.size+1->c0 P ops Q rest (a.put o.dst (.pointer (some ⟨w.heap.size,0,none⟩))) w') :
  c0 P ops Q (o::rest) a w:=by
 refine c1 hg λK' Y=>?_;obtain⟨w',O,r1,r2,r3⟩:=h.range hk ht;unfold Oper.wp;simp[c6,U,hm,O,dj];exact Y _ _ (hK w' r1 r2 r3)
theorem Ev(hg:o.guard=none)(it:Operand)(aa:o.op=Op.next it false)(hk:P.underlying k=some .string)(r:Nat)(left:List (Wd×Value))
  (ab:a.eval it=.pointer (some ⟨r,0,none⟩)) (h:iq P k w B r l left)
  (Y:left=[]->c0 P ops Q rest (a.put o.dst (.tuple #[.bool false])) w)
  (hMore:∀p O w',left.Perm (p::O)->iq P k w' B r l O->w'.rangeLeft B r<w.rangeLeft B r->w.grownBy w' (some r)->w'.heap.size=w.heap.size->(Instr.entry (.pointer (some ⟨r,0,none⟩))).run P w'=.ok (.tuple #[.string ⟨p.1.toArray⟩,p.2]) w'->
    c0 P ops Q rest (a.put o.dst (.tuple #[.bool true,.string ⟨p.1.toArray⟩,p.2])) w') :
  c0 P ops Q (o::rest) a w:=by
 refine c1 hg λK' ac=>?_;unfold Oper.wp;rcases h.next hk o.type with⟨h0,U⟩|⟨p,O,w',hp,U,ad,ae,af,ag,ah⟩
 .simp[c6,aa,ab,U,dj];exact ac _ _ (Y h0)
 .simp[c6,aa,ab,U,dj];exact ac _ _ (hMore p O w' hp ad ae af ag ah)
theorem mg(hg:o.guard=none)(m x v:Operand)(t:cz)(U:o.op=Op.mapUpdate t m x v)(e:cz)(hk:P.underlying k=some .string)(ht:P.underlying t=some (.map k e))
  (hm:a.eval m=.map (some B)) (h:gT P k w B l) (hn:l.length<cy) (y:Wd) (hy:y.length<=cy) (hx:a.eval x=.string ⟨y.toArray⟩) (u:Value) (hv:a.eval v=u)
  (hK:∀w',gT P k w' B (tA l y u)->w.grownBy w' (some B)->w'.heap.size=w.heap.size->c0 P ops Q rest (a.put o.dst undef) w') :
  c0 P ops Q (o::rest) a w:=by
 refine c1 hg λK' Y=>?_;obtain⟨w',O,r1,r2,r3⟩:=h.put hk ht hn y hy u;unfold Oper.wp;simp[c6,U,hm,hx,hv,O,dj];exact Y _ _ (hK w' r1 r2 r3)
end
end
section
open Go.RowKit
variable {n:Nat} {bs r:Wd}
def rT(n:Nat)(bs:Wd):Option (Wd×Wd):=if n<=bs.length then some (bs.take n,bs.drop n)else none
def rdNum:Wd->Option (Nat×Wd)
 |[]=>none
 |b::r=>some (b.toNat,r)
def lX(bs:Wd):Option (Wd×Wd):=(rdNum bs).bind λx=>rT x.1 x.2
def kO:Wd->Option (Nat×Wd)
 |a::b::c::r=>some (a.toNat*65536+b.toNat*256+c.toNat,r)
 |_=>none
def qd(ks:List Wd)(last bs:Wd):Option (Wd×Wd):=
 (lX bs).bind λx=>if jE x.1=true/\cl last x.1=true/\x.1 ∉ ks then some x else none
def mZ(O bs:Wd):Option (gu×Wd):=
 (lX bs).bind λx=>if il x.1=true/\x.1≠[]then(kO x.2).bind λy=>if y.1<=1000000 then(rdNum y.2).bind λz=>some (⟨O,false,x.1,y.1,z.1⟩,z.2)else none else none
def xm:Nat->Wd->List Wd->Wd->Wd->Option (List gu×Wd)
 |0,_,_,_,bs=>some ([],bs)
 |n+1,path,ks,last,bs=>(qd ks last bs).bind λx=>(mZ x.1 x.2).bind λy=>if gM y.1=path then(xm n path (ks++[x.1]) x.1 y.2).bind λz=>some (y.1::z.1,z.2)else none
def xP(node:Wd->List Wd->Wd->Option (Nat×List gu×Wd)):Nat->Wd->List Wd->Int->Wd->Option (Nat×List gu×Wd)
 |0,_,_,_,bs=>some (0,[],bs)
 |n+1,path,ks,last,bs=>(lX bs).bind λx=>if x.1≠[]/\last<((x.1.getD 0 0).toNat:Int)then
   (node (path++x.1) ks x.2).bind λy=>(xP node n path (ks++y.2.1.map gu.name) ((x.1.getD 0 0).toNat:Int) y.2.2).bind λz=>some (max y.1 z.1,y.2.1++z.2.1,z.2.2)else none
def vc:Nat->Wd->List Wd->Wd->Option (Nat×List gu×Wd)
 |0,_,_,_=>none
 |f+1,path,ks,bs=>if path.length<=24 then
   (kO bs).bind λa=>(rdNum a.2).bind λb=>(xm b.1 path ks [] b.2).bind λc=>(rdNum c.2).bind λd=>(xP (vc f) d.1 path (ks++c.1.map gu.name) (-1) d.2).bind λe=>
    if(a.1:Int)=max (jZ c.1) e.1/\(path=[]\/0<b.1\/1<d.1)then some (a.1,c.1++e.2.1,e.2.2)else none
  else none
def xo:Nat->List Wd->Wd->Wd->Option (List gu×Wd)
 |0,_,_,bs=>some ([],bs)
 |n+1,ks,last,bs=>(qd ks last bs).bind λx=>(xo n (ks++[x.1]) x.1 x.2).bind λz=>some (⟨x.1,true,[],0,0⟩::z.1,z.2)
def LG(bs:Wd):Option (List gu×List gu):=
 (rdNum bs).bind λa=>(xo a.1 [] [] a.2).bind λb=>(lX b.2).bind λc=>if c.1=[]then(vc 26 [] (b.1.map gu.name) c.2).bind λd=>
  if d.2.2=[]/\0<b.1.length+d.2.1.length/\a.1<=100/\d.2.1.length<=30 then some (b.1,d.2.1)else none else none
theorem KP(b:UInt8):u8 (b.toNat:Int)=b:=by
 have h:=b.toNat_lt;unfold u8;rw[show((b.toNat:Int) % 256).toNat=b.toNat by omega];simp
theorem vf(n:Nat)(h:n<256):(u8 (n:Int)).toNat=n:=by
 unfold u8;simp; omega
theorem kz(h:rdNum bs=some (n,r)):bs=u8 n::r/\n<256:=by
 cases bs with
 |nil=>simp[rdNum]at h
 |cons b t=>
  obtain⟨rfl,rfl⟩:=h;exact⟨by rw[KP],b.toNat_lt⟩
theorem tP(n:Nat)(h:n<256)(r:Wd):rdNum (u8 n::r)=some (n,r):=by simp[rdNum,vf n h]
theorem kM{t:Wd}(h:lX bs=some (t,r)):bs=gS t++r/\t.length<256:=by
 unfold lX at h
 cases O:rdNum bs with
 |none=>rw[O]at h; simp at h
 |some x=>
  obtain⟨n,b⟩:=x;obtain⟨rfl,U⟩:=kz O;rw[O]at h;simp only[bU,rT]at h;split at h
  .obtain⟨rfl,rfl⟩:=h;have Y:(b.take n).length=n:=by simp; omega
   refine⟨?_,by omega⟩;unfold gS;rw[Y,aZ,ba]
  .simp at h
theorem py(t r:Wd)(h:t.length<256):lX (gS t++r)=some (t,r):=by
 unfold lX gS;rw[aZ,tP _ h];simp[rT]
theorem xF(n:Nat)(h:n<16777216):kF (n:Int)=[u8 ((n / 65536:Nat):Int),u8 ((n / 256 % 256:Nat):Int),u8 ((n % 256:Nat):Int)]:=by
 rfl
theorem mL(h:kO bs=some (n,r)):bs=kF n++r/\n<16777216:=by
 match bs,h with
 |a::b::c::t,h=>
  obtain⟨rfl,rfl⟩:=h;have O:=a.toNat_lt;have hb:=b.toNat_lt;have U:=c.toNat_lt;refine⟨?_,by omega⟩;rw[xF _ (by omega)];rw[show(a.toNat*65536+b.toNat*256+c.toNat) / 65536=a.toNat by omega,show(a.toNat*65536+b.toNat*256+c.toNat) / 256 % 256=b.toNat by omega,show(a.toNat*65536+b.toNat*256+c.toNat) % 256=c.toNat by omega,KP,KP,KP];rfl
 |[],h=>simp[kO]at h
 |[_],h=>simp[kO]at h
 |[_,_],h=>simp[kO]at h
theorem tD(n:Nat)(h:n<16777216)(r:Wd):kO (kF n++r)=some (n,r):=by
 rw[xF n h];simp only[aZ,aV,kO];rw[vf _ (by omega),vf _ (by omega),vf _ (by omega)];congr 2;omega
theorem xS(l:List gu):∀g:Int,0<=g->l.foldl (λg e=>if g<e.gw then e.gw else g) g=max g (jZ l)/\0<=jZ l:=by
 induction l with
 |nil=>simp[jZ]; omega
 |cons e l O=>
  intro g hg;have U:=O (if g<e.gw then e.gw else g) (by split<;>omega);have Y:=O (if 0<e.gw then e.gw else 0) (by split<;>omega);have e1:jZ (e::l)=l.foldl .. := rfl;rw[e1,aO,U.1,Y.1];constructor
  .split<;>split<;>omega
  .split<;>omega
theorem pY(l:List gu):0<=jZ l:=(xS l 0 (by omega)).2
theorem nu(e:gu)(l:List gu):jZ (e::l)=max (max 0 e.gw) (jZ l):=by
 have:=(xS l (if 0<e.gw then e.gw else 0) (by split<;>omega)).1;rw[show jZ (e::l)=l.foldl .. from rfl,this];split<;>omega
theorem qK(l m:List gu):jZ (l++m)=max (jZ l) (jZ m):=by
 induction l with
 |nil=>have:=pY m; simp only[aV]; rw[show jZ []=0 from rfl]; omega
 |cons e l O=>rw[aZ,nu,nu]; omega
theorem Dg{l m:List gu}(h:l.Perm m):jZ l=jZ m:=by
 induction h with
 |nil=>rfl
 |cons e _ O=>rw[nu,nu,O]
 |swap a b l=>simp only[nu]; omega
 |trans _ _ U Y=>rw[U,Y]
def KZ(e:gu):Prop:=e.gone=false/\jE e.name=true/\il e.text=true/\e.text≠[]/\0<=e.gw/\e.gw<=1000000/\0<=e.gK/\e.gK<=255
theorem qG{ks:List Wd}{last O:Wd}(h:qd ks last bs=some (O,r)):bs=gS O++r/\jE O=true/\cl last O=true/\O ∉ ks:=by
 obtain⟨x,U,h⟩:=bV.1 h;split at h
 .rename_i Y;simp only[cK]at h;subst h;exact⟨(kM U).1,Y⟩
 .simp at h
end
section
open Go.RowKit
theorem bytes_eta(s:ByteArray):s=⟨s.data.toList.toArray⟩:=by simp
def kq(O:List gu)(ss:List (List gu))(name text:Wd)(gw gK:Int):Nat×List gu:=
 if jE name=true then
  if il text=true/\text≠[]then
   if gw<0\/1000000<gw\/gK<0\/255<gK then(3,O)
   else if 30<=(ix ss O).length/\sM (ix ss O) name=none then(4,O)
   else(0,gQ O [⟨name,false,text,gw,gK⟩])
  else(2,O)
 else(1,O)
end
section
open Go.RowKit
variable {l:List gu} {c:UInt8} {path:Wd}
def Part(f:Nat)(path:Wd)(x:UInt8×List gu):Wd:=gS ((p9 x.2).drop path.length)++qi f (p9 x.2) (jd x.2)
def Pn(O:List (UInt8×List gu)):Prop:=O.Pairwise λa b=>a.1.toNat<b.1.toNat
def CI(path:Wd)(O:List (UInt8×List gu)):Prop:=∀x∈O,x.2≠[]/\∀e∈x.2,path++[x.1] <+: gM e
def qm(O:List (UInt8×List gu)):List gu:=O.flatMap λx=>x.2
theorem A7(h:∀e∈l,¬path++[c] <+: gM e):mK l path c=[]:=by
 unfold mK;rw[bw];intro e O hb;exact h e O ((qo ..).1 hb)
theorem Ru(h:∀e∈l,path++[c] <+: gM e):mK l path c=l:=by
 unfold mK;rw[b6];intro e O;exact(qo ..).2 (h e O)
theorem JX(l m:List gu)(path:Wd)(c:UInt8):mK (l++m) path c=mK l path c++mK m path c:=by unfold mK; rw[aE]
theorem sZ{s:Wd}{d:UInt8}(O:path++[c] <+: s)(U:path++[d] <+: s):c=d:=by
 rw[<-((mO ..).1 O).2.2,((mO ..).1 U).2.2]
theorem P'(path:Wd):∀(O:List (UInt8×List gu)),CI path O->∀c,(∀x∈O,x.1≠c)->mK (qm O) path c=[]:=by
 intro O Y c hc;refine A7 λe he hp=>?_;obtain⟨x,U,hm⟩:=aQ.1 he;exact hc x U (sZ ((Y x U).2 e hm) hp)
theorem PB(path:Wd):∀(O:List (UInt8×List gu)),Pn O->CI path O->∀x∈O,mK (qm O) path x.1=x.2:=by
 intro O
 induction O with
 |nil=>intro _ _ x U; simp at U
 |cons y O ih=>
  intro hH hU x U;have Y:=a8.1 hH;have aa:CI path O:=λz hz=>hU z (by simp[hz]);rw[show qm _=y.2++qm O from rfl,JX];simp only[a0]at U;rcases U with rfl|U
  .rw[Ru (hU x (by simp)).2,P' path O aa _ (λz hz e=>by have:=Y.1 z hz; rw[e]at this; omega),bj]
  .rw[A7 _,ih Y.2 aa x U,aV];intro e he hp;have:=sZ ((hU y (by simp)).2 e he) hp;have h2:=Y.1 x U;rw[this]at h2; omega
theorem wF:nD.Pairwise λa b=>a.toNat<b.toNat:=by
 rw[aS];intro i j hi O U;rw[vI,vI];rw[EK]at hi O;simp;omega
theorem CM(c:UInt8):c∈nD:=by
 exact a6.2 ⟨c.toNat,bp.2 c.toNat_lt,by simp⟩
theorem pD{cs:List UInt8}(h:cs.Pairwise λa b=>a.toNat<b.toNat):cs.Nodup:=h.imp (λh e=>by rw[e]at h; omega)
theorem Ec(p:UInt8->Bool)(cs:List UInt8)(h:cs.Pairwise λa b=>a.toNat<b.toNat)(U:∀c,p c=true↔c∈cs):nD.filter p=cs:=by
 have O:=wF.filter p;refine da (le:=λa b=>a.toNat<b.toNat) (λa b _ _ O Y=>by omega) O h ?_;rw[bo (pD O) (pD h)];intro c;rw[az,<-U c];exact⟨λh=>h.2,λh=>⟨CM c,h⟩⟩
theorem Pf(h:∀e∈l,gM e≠path):nK l path=[]:=by
 unfold nK;rw[bw];intro e O hb;exact h e O (beq_iff_eq.1 hb)
theorem S6(h:∀e∈l,gM e=path):nK l path=l:=by
 unfold nK;rw[b6];intro e O;exact beq_iff_eq.2 (h e O)
theorem Qg{O:List (UInt8×List gu)}(h:CI path O):∀e∈qm O,gM e≠path:=by
 intro e U Y;obtain⟨x,hx,hm⟩:=aQ.1 U;have:=((mO ..).1 ((h x hx).2 e hm)).2.1;rw[Y]at this; omega
theorem Se(h:∀e∈l,gM e=path)(c:UInt8):mK l path c=[]:=
 A7 λe O U=>by have:=((mO ..).1 U).2.1; rw[h e O]at this; omega
theorem KE(f:Nat)(path:Wd)(own:List gu)(O:List (UInt8×List gu))(h1:mo own)(h2:∀e∈own,gM e=path)(h3:Pn O)(Y:CI path O) :
  qi (f+1) path (jd (own++qm O))=kF (jZ (own++qm O))++(u8 own.length::(own.flatMap qh++(u8 O.length::O.flatMap (Part f path)))):=by
 have e1:nK (jd (own++qm O)) path=own:=by
  rw[nK,rU,aE];have a:=S6 h2;have b:=Pf (Qg Y);unfold nK at a b;rw[a,b,bj,Ea own h1]
 have e2:∀c,mK (jd (own++qm O)) path c=jd (mK (qm O) path c):=by
  intro c;unfold mK;rw[rU,aE];have a:=Se h2 c;unfold mK at a;rw[a,aV]
 have e3:mV (jd (own++qm O)) path=O.map (·.1):=by
  refine Ec _ _ (b8.2 h3) (λc=>?_);rw[e2,a6];constructor
  .intro h;refine Classical.byContradiction λaa=>?_;rw[P' path O Y c (λx U e=>aa ⟨x,U,e⟩)]at h;simp[jd]at h
  .rintro⟨x,U,rfl⟩;rw[PB path O h3 Y x U];have:=(Y x U).1;have hl:=Ny x.2
   cases hq:jd _ with
   |nil=>rw[hq]at hl; cases h:x.2 with
    |nil=>exact absurd h this
    |cons a b=>rw[h]at hl; simp at hl
   |cons a b=>rfl
 rw[qi,e1,e3,Dg (jA _),bQ,bO];congr 4;refine sC λx U=>?_;rw[e2,PB path O h3 Y x U];unfold Part
 have:p9 (jd _)=p9 x.2:=Kj λs=>by
  rw[a6,a6];exact⟨λ⟨e,h,k⟩=>⟨e,pL.1 h,k⟩,λ⟨e,h,k⟩=>⟨e,pL.2 h,k⟩⟩
 rw[this]
def gZ(l:List gu):Wd:=u8 ((jd l).filter λe=>e.gone).length::(((jd l).filter λe=>e.gone).flatMap (λe=>gS e.name)++(gS []++qi 26 [] ((jd l).filter λe=>!e.gone)))
def QO(e:gu):Prop:=KZ e\/(e=⟨e.name,true,[],0,0⟩/\jE e.name=true)
structure qp(l:List gu):Prop where
 each:∀e∈l,QO e
 nodup:(l.map gu.name).Nodup
 some:l≠[]
 gone:(l.filter λe=>e.gone).length<=100
 there:(l.filter λe=>!e.gone).length<=30
end
section
open Go.RowKit
variable {e:gu} {G:List gu} {c:UInt8} {s:Wd}
theorem jV(h:jE s=true):0<s.length/\s.length<=8:=by
 unfold jE at h;simp only[cm,decide_eq_true_eq]at h;exact⟨h.1.2,h.2⟩
theorem mD(h:il s=true):s.length<=24:=by
 unfold il at h;simp only[cm,decide_eq_true_eq]at h;exact h.1
theorem yk(h:jE s=true):cl [] s=true:=by
 have:=(jV h).1
 cases s with
 |nil=>simp at this
 |cons a s=>rfl
theorem vw(h:KZ e):(gM e).length<=24/\0<(gM e).length:=by
 have O:=mD h.2.2.1;have U:=h.2.2.2.1;unfold gM;rw[jH];refine⟨O,?_⟩
 cases Y:e.text with
 |nil=>exact absurd Y U
 |cons a b=>simp
theorem wA{ks:List Wd}{last O:Wd}(r:Wd)(U:jE O=true)(Y:cl last O=true)(h3:O ∉ ks):qd ks last (gS O++r)=some (O,r):=by
 unfold qd;rw[py O r (by have:=(jV U).2; omega)];simp[U,Y,h3]
theorem Gk(e:gu)(h:KZ e)(r:Wd):mZ e.name (gS e.text++(kF e.gw++(u8 e.gK::r)))=some (e,r):=by
 obtain⟨U,h2,O,Y,h5,h6,h7,h8⟩:=h;obtain⟨nm,gn,tx,wt,tg⟩:=e;simp only at U h2 O Y h5 h6 h7 h8;subst U;obtain⟨n,rfl⟩:=cF h5;obtain⟨m,rfl⟩:=cF h7;have hw:n<=1000000:=by omega
 unfold mZ;rw[py tx _ (by have:=mD O; omega)];simp only[bU,O,Y,ne_eq,not_false_eq_true,and_self,if_true];rw[tD n (by omega)];simp only[bU,hw,if_true];rw[tP m (by omega)];rfl
theorem Io(path:Wd):∀(es:List gu)(ks:List Wd)(last rest:Wd),(∀e∈es,KZ e/\gM e=path/\e.name ∉ ks/\cl last e.name=true)->mo es->xm es.length path ks last (es.flatMap qh++rest)=some (es,rest):=by
 intro es
 induction es with
 |nil=>intro ks last rest _ _; rfl
 |cons e es Y=>
  intro ks last rest h hr;obtain⟨a1,a2,a3,a4⟩:=h e (by simp);have O:=a8.1 hr
  have e1:(e::es).flatMap qh++rest=gS e.name++(gS e.text++(kF e.gw++(u8 e.gK::(es.flatMap qh++rest)))):=by
   simp[qh]
  rw[e1,aC,xm,wA _ a1.2.1 a4 a3];simp only[bU];rw[Gk e a1];simp only[bU,a2,if_true];rw[Y _ _ _ (λx U=>?_) O.2]
  .rfl
  .obtain⟨b1,b2,b3,b4⟩:=h x (by simp[U]);refine⟨b1,b2,?_,O.1 x U⟩;intro hm;simp only[a9,aD]at hm;rcases hm with hm|hm
   .exact b3 hm
   .exact CG (O.1 x U) hm.symm
theorem FZ:∀(es:List gu)(ks:List Wd)(last rest:Wd),(∀e∈es,e=⟨e.name,true,[],0,0⟩/\jE e.name=true/\e.name ∉ ks/\cl last e.name=true)->mo es->xo es.length ks last (es.flatMap (λe=>gS e.name)++rest)=some (es,rest):=by
 intro es
 induction es with
 |nil=>intro ks last rest _ _; rfl
 |cons e es Y=>
  intro ks last rest h hr;obtain⟨a1,a2,a3,a4⟩:=h e (by simp);have O:=a8.1 hr;rw[aF,aJ,aC,xo,wA _ a2 a4 a3];simp only[bU];rw[Y _ _ _ (λx U=>?_) O.2]
  .simp only[bU];rw[<-a1]
  .obtain⟨b1,b2,b3,b4⟩:=h x (by simp[U]);refine⟨b1,b2,?_,O.1 x U⟩;intro hm;simp only[a9,aD]at hm;rcases hm with hm|hm
   .exact b3 hm
   .exact CG (O.1 x U) hm.symm
theorem MR(h:(G.map gu.name).Nodup):G.Nodup:=cU _ (λa b O e=>O (by rw[e])) h
theorem lC{p:Wd}:e∈mK G p c↔e∈G/\p++[c] <+: gM e:=Lf
theorem rM(G:List gu)(p:Wd):(mV G p).Pairwise λa b=>a.toNat<b.toNat:=wF.filter _
theorem xb{p:Wd}:c∈mV G p↔∃e∈G,p++[c] <+: gM e:=by
 unfold mV;rw[az];constructor
 .rintro⟨_,h⟩
  cases O:mK G p c with
  |nil=>rw[O]at h; simp at h
  |cons e t=>
   have:=lC.1 (show e∈mK G p c by rw[O]; simp);exact⟨e,this⟩
 .rintro⟨e,U,Y⟩;refine⟨CM c,?_⟩;have:=lC.2 ⟨U,Y⟩
  cases O:mK G p c with
  |nil=>rw[O]at this; simp at this
  |cons e t=>rfl
theorem JI{p:Wd}(h:G.Nodup):∀(cs:List UInt8),cs.Nodup->(cs.flatMap (mK G p)).Nodup:=by
 intro cs
 induction cs with
 |nil=>simp
 |cons c cs U=>
  intro Y;have O:=aU.1 Y;rw[aF,bc];refine⟨h.filter _,U O.2,λa ha b hb e=>?_⟩;subst e;obtain⟨d,hd,hb⟩:=aQ.1 hb;have:=sZ (lC.1 ha).2 (lC.1 hb).2;subst this;exact O.1 hd
theorem JV{p:Wd}(h:G.Nodup)(U:∀e∈G,p <+: gM e):(nK G p++(mV G p).flatMap (mK G p)).Perm G:=by
 rw[bo _ h]
 .intro e;rw[a9];constructor
  .rintro(h|h)
   .exact(az.1 h).1
   .obtain⟨c,_,h⟩:=aQ.1 h;exact(lC.1 h).1
  .intro O;by_cases Y:gM e=p
   .exact Or.inl (az.2 ⟨O,beq_iff_eq.2 Y⟩)
   .have:=(mO ..).2 ⟨U e O,zX (U e O) Y,rfl⟩;exact Or.inr (aQ.2 ⟨_,xb.2 ⟨e,O,this⟩,lC.2 ⟨O,this⟩⟩)
 .rw[bc];refine⟨h.filter _,JI h _ (pD (rM G p)),λa ha b hb e=>?_⟩;subst e;obtain⟨c,_,hb⟩:=aQ.1 hb;have h1:=beq_iff_eq.1 (az.1 ha).2;have h2:=((mO ..).1 (lC.1 hb).2).2.1;rw[h1]at h2; omega
theorem AB(h:(G.map gu.name).Nodup){a b:gu}(O:a∈G)(hb:b∈G)(U:a.name=b.name):a=b:=by
 induction G with
 |nil=>simp at O
 |cons x G Y=>
  rw[aA,aU]at h;simp only[a0]at O hb;rcases O with rfl|O<;>rcases hb with rfl|hb
  .rfl
  .exact absurd (a6.2 ⟨b,hb,U.symm⟩) h.1
  .exact absurd (a6.2 ⟨a,O,U⟩) h.1
  .exact Y h.2 O hb
theorem LC{l:List gu}(h:∀e∈l,e.gw<=1000000):jZ l<=1000000:=by
 induction l with
 |nil=>simp[jZ]
 |cons e l O=>
  have Y:=h e (by simp);have h2:=O (λx U=>h x (by simp[U]));rw[nu]; omega
def SY(node:Wd->List Wd->Wd->Option (Nat×List gu×Wd))(f:Nat):Prop:=
 ∀(path:Wd)(ks:List Wd)(G:List gu)(rest:Wd),mo G->(∀e∈G,KZ e/\path <+: gM e/\e.name ∉ ks)->G.length<=255->(path=[]\/(G≠[]/\p9 G=path))->26<=f+path.length->
  ∃es,node path ks (qi f path G++rest)=some ((jZ G).toNat,es,rest)/\es.Perm G
theorem Ht{node:Wd->List Wd->Wd->Option (Nat×List gu×Wd)}{f:Nat}(hN:SY node f)(path:Wd)(G:List gu)(hG:mo G)(ah:∀e∈G,KZ e)(hl:G.length<=255)(hf:25<=f+path.length) :
  ∀(cs:List UInt8)(ks:List Wd)(last:Int)(rest:Wd),(cs.Pairwise λa b=>a.toNat<b.toNat)->(∀c∈cs,c∈mV G path/\last<(c.toNat:Int))->(∀e∈cs.flatMap (mK G path),e.name ∉ ks)->
   ∃es,xP node cs.length path ks last (cs.flatMap (λc=>gS ((p9 (mK G path c)).drop path.length)++qi f (p9 (mK G path c)) (mK G path c))++rest)=some ((jZ (cs.flatMap (mK G path))).toNat,es,rest)/\es.Perm (cs.flatMap (mK G path)):=by
 intro cs
 induction cs with
 |nil=>intro ks last rest _ _ _; exact⟨[],rfl,db _⟩
 |cons c cs ih=>
  intro ks last rest hr hc hk;have ab:=a8.1 hr;obtain⟨ai,aj⟩:=hc c (by simp);have U:=xj ai;rw[<-x9]at U;have aa:=OX (l:=G) (p:=path++[c]) (by rw[<-x9]; exact U);rw[<-x9]at aa;have ak:=s4 U;have al:mo (mK G path c):=hG.filter _;have ac:∀e∈mK G path c,KZ e/\p9 (mK G path c) <+: gM e/\e.name ∉ ks:=λe O=>⟨ah e (lC.1 O).1,ak.1 _ (a6.2 ⟨e,O,rfl⟩),hk e (by rw[aF]; exact bI _ O)⟩;have am:(mK G path c).length<=255:=ca (aG _ _) hl;obtain⟨t,ht⟩:=aa;obtain⟨e0,ae⟩:=aT _ U;have aq:(p9 (mK G path c)).length<=24:=ca (ac e0 ae).2.1.length_le (vw (ac e0 ae).1).1
  have af:∀e∈cs.flatMap (mK G path),e.name ∉ (mK G path c).map gu.name:=by
   intro e O hm;obtain⟨d,hd,O⟩:=aQ.1 O;obtain⟨x,hx,an⟩:=a6.1 hm;have:=AB hG.nodup (lC.1 hx).1 (lC.1 O).1 an;subst this;have:=sZ (lC.1 hx).2 (lC.1 O).2;have h3:=ab.1 d hd;rw[this]at h3; omega
  have ao:∀e∈cs.flatMap (mK G path),e.name ∉ ks:=λe O=>hk e (by rw[aF]; exact List.mem_append_right _ O);have ad:(p9 (mK G path c)).drop path.length=c::t:=by rw[<-ht]; simp
  have Y:path++c::t=p9 (mK G path c):=by rw[<-ht]; simp
  have ar:path.length+1<=(p9 (mK G path c)).length:=by rw[<-Y]; simp
  obtain⟨e1,h1,ag⟩:=hN _ ks _ _ al ac am (Or.inr ⟨U,rfl⟩) (by omega)
  obtain⟨e2,h2,ap⟩:=ih _ c.toNat rest ab.2 (λd hd=>⟨(hc d (by simp[hd])).1,by have:=ab.1 d hd; omega⟩) (λe O hm=>by
   rw[a9]at hm;rcases hm with hm|hm
   .exact ao e O hm
   .exact af e O ((ag.map _).mem_iff.1 hm))
  refine⟨e1++e2,?_,?_⟩
  .rw[aF,aF,aC,xP,ad,aJ,aJ,py _ _ (by have:=congrArg bS Y; simp at this; simp; omega)];simp only[bU,List.getD_cons_zero,ne_eq,reduceCtorEq,not_false_eq_true,aj,and_self,if_true,Y];rw[h1];simp only[bU];rw[h2];simp only[bU,cK,Prod.mk.injEq,and_true];rw[qK];omega
  .exact ag.append ap
theorem G2:∀f:Nat,SY (vc f) f:=by
 intro f
 induction f with
 |zero=>
  intro path ks G rest hr hm hl hp hf;rcases hp with rfl|⟨U,hs⟩
  .simp at hf
  .obtain⟨e,O⟩:=aT _ U;have:=(hm e O).2.1.length_le;have:=(vw (hm e O).1).1;omega
 |succ f ih=>
  intro path ks G rest hr hm hl hp hf
  have ai:path.length<=24:=by
   rcases hp with rfl|⟨U,hs⟩
   .simp
   .obtain⟨e,O⟩:=aT _ U;exact ca (hm e O).2.1.length_le (vw (hm e O).1).1
  have iC:=JV (MR hr.nodup) (λe O=>(hm e O).2.1);have ac:=iC.length_eq;rw[a5]at ac
  have ad:∀e∈nK G path,KZ e/\gM e=path/\e.name ∉ ks/\cl [] e.name=true:=λe O=>by
   have h:=az.1 O;exact⟨(hm e h.1).1,beq_iff_eq.1 h.2,(hm e h.1).2.2,yk (hm e h.1).1.2.1⟩
  have ao:jZ G<=1000000:=LC (λe O=>(hm e O).1.2.2.2.2.2.1);have ap:=pY G
  have aq:(mV G path).length<=((mV G path).flatMap (mK G path)).length:=by
   rw[List.length_flatMap]
   have:∀cs:List UInt8,(∀c∈cs,c∈mV G path)->cs.length<=(cs.map λc=>(mK G path c).length).sum:=by
    intro cs
    induction cs with
    |nil=>intro _; simp
    |cons c cs aj=>
     intro h;have h1:=aj (λd hd=>h d (by simp[hd]));have h2:=xj (h c (by simp));rw[<-x9]at h2;have h3:=b5.2 h2;simp only[aC,aA,aP]; omega
   exact this _ (λ_ h=>h)
  obtain⟨es,hk,ak⟩:=Ht ih path G hr (λe O=>(hm e O).1) hl (by omega) (mV G path) (ks++(nK G path).map gu.name) (-1) rest (rM G path) (λc hc=>⟨hc,by omega⟩) (λe O Y=>by
   obtain⟨c,hc,O⟩:=aQ.1 O;have aa:=lC.1 O;rw[a9]at Y;rcases Y with Y|Y
   .exact(hm e aa.1).2.2 Y
   .obtain⟨x,hx,al⟩:=a6.1 Y;have ae:=az.1 hx;have:=AB hr.nodup ae.1 aa.1 al;subst this;have h1:=beq_iff_eq.1 ae.2;have h2:=((mO _ _ _).1 aa.2).2.1
    rw[h1]at h2; omega)
  refine⟨nK G path++es,?_,(cZ _ ak).trans iC⟩;have hG:((jZ G).toNat:Int)=jZ G:=by omega
  have e1:qi (f+1) path G++rest=kF (((jZ G).toNat:Nat):Int)++(u8 ((nK G path).length:Int)::((nK G path).flatMap qh++(u8 ((mV G path).length:Int)::((mV G path).flatMap (λc=>gS ((p9 (mK G path c)).drop path.length)++qi f (p9 (mK G path c)) (mK G path c))++rest)))):=by
   rw[hG,qi]; simp
  have an:jZ G=max (jZ (nK G path)) (jZ ((mV G path).flatMap (mK G path))):=by rw[<-qK,Dg iC]
  have ar:=pY (nK G path);have au:=pY ((mV G path).flatMap (mK G path))
  have af:path=[]\/0<(nK G path).length\/1<(mV G path).length:=by
   rcases hp with h|⟨U,hs⟩
   .exact Or.inl h
   .refine Or.inr (Classical.byContradiction λag=>?_);have ho:nK G path=[]:=aY.1 (by omega);have ah:=s4 U;rw[hs]at ah;obtain⟨e,O⟩:=aT _ U
    have am:∀x∈G,gM x≠path:=λx hx hk=>by
     have:x∈nK G path:=az.2 ⟨hx,beq_iff_eq.2 hk⟩;rw[ho]at this; simp at this
    have hb:∀x∈G,path++[(gM x).getD path.length 0] <+: gM x:=λx hx=>(mO _ _ _).2 ⟨(hm x hx).2.1,zX (hm x hx).2.1 (am x hx),rfl⟩
    have ab:∀x∈G,(gM x).getD path.length 0=(gM e).getD path.length 0:=by
     intro x hx;have i1:=xb.2 ⟨x,hx,hb x hx⟩;have i2:=xb.2 ⟨e,O,hb e O⟩
     match hh:mV G path with
     |[]=>rw[hh]at i1; simp at i1
     |[d]=>rw[hh]at i1 i2; simp only[aD]at i1 i2; rw[i1,i2]
     |d::d2::ds=>rw[hh]at ag; simp at ag
    have:=ah.2 (path++[(gM e).getD _ 0]) (λs hs=>by
     obtain⟨x,hx,rfl⟩:=a6.1 hs
     rw[<-ab x hx]; exact hb x hx)
    have:=this.length_le;simp at this;omega
  rw[e1,vc,if_pos ai,tD _ (by omega)];simp only[bU];rw[tP _ (by omega)];simp only[bU];rw[Io path _ ks [] _ ad (hr.filter _)];simp only[bU];rw[tP _ (by omega)];simp only[bU];rw[hk];simp only[bU];rw[if_pos ⟨by omega,af⟩]
theorem B8{l:List gu}(h:qp l):∃gs es,LG (gZ l)=some (gs,es)/\(gs++es).Perm l:=by
 obtain⟨h1,h2,h3,h4,h5⟩:=h;have hR:=p8 l h2;have hp:=jA l;have ab:=hp.filter (λe=>e.gone);have ac:=hp.filter (λe=>!e.gone);have O:((jd l).filter (λe=>e.gone)++(jd l).filter _).Perm l:=(List.filter_append_perm ..).trans hp;have aj:=ab.length_eq;have ak:=ac.length_eq;have ad:mo ((jd l).filter λe=>e.gone):=hR.filter _;have ae:mo ((jd l).filter λe=>!e.gone):=hR.filter _
 have af:∀e∈(jd l).filter (λe=>e.gone),e=⟨e.name,true,[],0,0⟩/\jE _=true/\e.name ∉ ([])/\cl [] _=true:=λe he=>by
  have hm:=az.1 he;rcases h1 e (pL.1 hm.1)with U|U
  .rw[U.1]at hm; simp at hm
  .exact⟨U.1,U.2,by simp,yk U.2⟩
 have ag:∀e∈(jd l).filter (λe=>!e.gone),KZ e/\([]) <+: gM e/\e.name ∉ ((jd l).filter λe=>e.gone).map _:=λe he=>by
  have hm:=az.1 he;rcases h1 e (pL.1 hm.1)with U|U
  .refine⟨U,aM,λhx=>?_⟩;obtain⟨x,hx,hn⟩:=a6.1 hx;have Y:=az.1 hx;have:=AB hR.nodup Y.1 hm.1 hn;subst this;have a:=Y.2;have b:=hm.2;simp[a]at b
  .rw[U.1]at hm; simp at hm
 unfold gZ;generalize (jd l).filter _=gs at *;generalize (jd l).filter _=es at *;obtain⟨ah,hn,aa⟩:=G2 26 [] _ es [] ae ag (by omega) (Or.inl rfl) (by simp);refine⟨gs,ah,?_,(cZ _ aa).trans O⟩;have al:=aa.length_eq;have ai:=O.length_eq;rw[a5]at ai;have am:=b5.2 h3;rw[bj]at hn;unfold LG;rw[tP _ (by omega)];simp only[bU];rw[FZ gs [] [] _ af ad];simp only[bU];rw[py [] _ (by simp)];simp only[bU,if_true];rw[hn];simp only[bU];rw[if_pos ⟨trivial,by omega,by omega,by omega⟩]
end
section
open Go.RowKit
variable {l:List gu} {x:Wd}
theorem xM(h:sM l x=none):x ∉ l.map gu.name:=by
 unfold sM at h;rw[bF]at h;intro hm;obtain⟨e,O,U⟩:=a6.1 hm;have:=h e O;rw[U]at this;simp at this
theorem s6(h:x ∉ l.map gu.name):sM l x=none:=by
 unfold sM;rw[bF];intro e O;rw[beq_eq_false_iff_ne];intro U;exact h (a6.2 ⟨e,O,U⟩)
end
section
open Go.RowKit
def mI(O:List gu)(ss:List (List gu))(name:Wd):Nat×List gu:=
 if jE name=true then
  if sM (ix ss O) name=none then(5,O)
  else if 100<=O.length-(gD O).length then(4,O)
  else(0,gQ O [⟨name,true,[],0,0⟩])
 else(1,O)
end
section
open Go.RowKit
def iX(O:List gu)(ss:List (List gu)):List gu:=if ss.length=0 then gD O else O
def iU(O:List gu)(ss:List (List gu)):Nat×List gu×List (List gu):=
 if O.length=0 then(5,O,ss)else if 6<=ss.length then(4,O,ss)
 else(0,[],if 0<(iX O ss).length then ss++[iX O ss]else ss)
end
section
open Go.RowKit
variable {ss:List (List gu)} {vs:List Value} {E:Value->List gu->Prop}
def Zip(E:Value->List gu->Prop)(vs:List Value)(ss:List (List gu)):Prop:=vs.length=ss.length/\∀i(h:i<ss.length),∃u,vs[i]?=some u/\E u ss[i]
theorem Zip.nil(E:Value->List gu->Prop):Zip E [] []:=⟨rfl,nofun⟩
theorem Zip.one{u:Value}{l:List gu}(h:E u l):Zip E [u] [l]:=⟨rfl,λi hi=>by
 have:=by simp at hi; omega
 subst this
 exact⟨u,rfl,h⟩⟩
theorem Zip.append{vt:List Value}{st:List (List gu)}(U:Zip E vs ss)(h2:Zip E vt st):Zip E (vs++vt) (ss++st):=by
 refine⟨by rw[a5,a5,U.1,h2.1],λi hi=>?_⟩;by_cases O:i<ss.length
 .obtain⟨u,Y,hE⟩:=U.2 i O;exact⟨u,by rw[bE (by rw[U.1]; exact O)]; exact Y,by rw[List.getElem_append_left O]; exact hE⟩
 .have S5:i-ss.length<st.length:=by rw[a5]at hi; omega
  obtain⟨u,Y,hE⟩:=h2.2 _ S5;refine⟨u,?_,?_⟩
  .rw[List.getElem?_append_right (by rw[U.1]; omega),U.1]; exact Y
  .rw[List.getElem_append_right (by omega)]; exact hE
theorem Zip.mono{E':Value->List gu->Prop}(h:Zip E vs ss)(O:∀u l,E u l->E' u l):Zip E' vs ss:=⟨h.1,λi hi=>by
 obtain⟨u,U,Y⟩:=h.2 i hi
 exact⟨u,U,O u _ Y⟩⟩
def l9(ss:List (List gu))(n:Nat):List gu:=if n=0 then gD (gQ (ss.getD n []) (ss.getD (n+1) []))else gQ (ss.getD n []) (ss.getD (n+1) [])
def iJ(ss:List (List gu))(n:Int):Nat×List (List gu):=
 if n<0\/(ss.length:Int)-1<=n then(6,ss)
 else if 100<(l9 ss n.toNat).length-(gD (l9 ss n.toNat)).length then(4,ss)
 else(0,ss.take n.toNat++((if 0<(l9 ss n.toNat).length then [l9 ss n.toNat]else [])++ss.drop (n.toNat+2)))
end
section
open Go.RowKit
def FA(a b:gu):Prop:=cl (gM a) (gM b)=true\/(gM a=gM b/\cl a.name b.name=true)
def jN(l:List gu):Prop:=l.Pairwise FA
def iV(d:Nat)(e:gu):UInt8:=(gM e).getD d 0
def l5(L:List gu)(d:Nat):Nat:=(L.takeWhile λe=>(gM e).length==d).length
def runs(d:Nat):List gu->List (List gu)
 |[]=>[]
 |e::l=>match runs d l with
  |[]=>[[e]]
  |[]::gs=>[e]::gs
  |(x::g)::gs=>if iV d e=iV d x then(e::x::g)::gs else [e]::(x::g)::gs
def kL(C:List gu):Wd:=match C with
 |[]=>[]
 |e::C=>vi (gM e) (gM ((e::C).getLast (by simp)))
def kD:Nat->Nat->List gu->Wd
 |0,_,_=>[]
 |f+1,d,L=>kF (jZ L)++(u8 (l5 L d)::((L.take (l5 L d)).flatMap qh++(u8 (runs d (L.drop (l5 L d))).length::(runs d (L.drop (l5 L d))).flatMap λC=>gS ((kL C).drop d)++kD f (kL C).length C)))
theorem F7{a b:gu}(h:FA a b):cl (gM b) (gM a)=false:=by
 rcases h with h|h
 .exact rN h
 .rw[h.1]; exact kJ _
theorem LJ:∀(r a b c:Wd),r <+: a->r <+: c->cl b a=false->cl c b=false->r <+: b
 |[],_,_,_,_,_,_,_=>aM
 |x::r,[],_,_,h,_,_,_=>by simp at h
 |x::r,_::_,_,[],_,h,_,_=>by simp at h
 |x::r,y::a,[],z::c,_,_,O,_=>by simp[cl]at O
 |x::r,y::a,w::b,z::c,h1,h2,O,U=>by
  have g1:=aH.1 h1
  have g2:=aH.1 h2;simp only[cl,cq,cv,decide_eq_false_iff_not,beq_iff_eq]at O U;obtain⟨Y,aa⟩:=g1;obtain⟨ab,ac⟩:=g2;subst Y;subst ab
  have e:w=x:=by
   have a1:=O.1;have a2:=U.1;apply cJ.1;simp only[cH]at a1 a2;omega
  subst e;exact aH.2 ⟨rfl,LJ r a b c aa ac (O.2 rfl) (U.2 rfl)⟩
theorem O0:∀(C:List gu),C≠[]->jN C->p9 C=kL C:=by
 intro C Y hs
 cases C with
 |nil=>exact absurd rfl Y
 |cons e C=>
  refine SI (by simp) ⟨λs h=>?_,λr U=>?_⟩
  .obtain⟨x,O,rfl⟩:=a6.1 h;have hl:=um (gM e) (gM ((e::C).getLast (by simp)));have U:=rP (gM e) (gM ((e::C).getLast (by simp)))
   have ha:x=e\/FA e x:=by
    simp only[a0]at O;rcases O with rfl|O
    .exact Or.inl rfl
    .exact Or.inr ((a8.1 hs).1 x O)
   have hb:x=(e::C).getLast (by simp)\/FA x ((e::C).getLast (by simp)):=by
    obtain⟨i,hi,rfl⟩:=List.mem_iff_getElem.1 O;rw[List.getLast_eq_getElem];by_cases h:i=(e::C).length-1
    .simp[h]
    .right;exact aS.1 hs i _ hi _ (by omega)
   have h1:cl (gM x) (gM e)=false:=by
    rcases ha with rfl|h
    .exact kJ _
    .exact F7 h
   have h2:cl (gM ((e::C).getLast (by simp))) (gM x)=false:=by
    rcases hb with h|h
    .rw[<-h]; exact kJ _
    .exact F7 h
   exact LJ _ _ _ _ hl U h1 h2
  .exact ua _ _ _ (U _ (a6.2 ⟨e,by simp,rfl⟩)) (U _ (a6.2 ⟨_,List.getLast_mem _,rfl⟩))
theorem Ow{p s:Wd}(h:p <+: s)(U:s≠p):cl p s=true:=by
 rcases kR p s with O|O|O
 .exact O
 .exact absurd O.symm U
 .exfalso;obtain⟨t,rfl⟩:=h;clear U
  induction p with
  |nil=>cases t<;>simp[cl]at O
  |cons a p Y=>
   simp only[aZ,cl,cp,decide_eq_true_eq,cm,beq_self_eq_true,true_and]at O;rcases O with O|O
   .simp at O
   .exact Y O
theorem Sx{p a b:Wd}(Y:p <+: a)(hb:p <+: b)(O:p.length<a.length)(U:p.length<b.length)(h:cl b a=false):(a.getD p.length 0).toNat<=(b.getD p.length 0).toNat:=by
 obtain⟨s,rfl⟩:=Y;obtain⟨t,rfl⟩:=hb
 induction p with
 |nil=>
  cases s with
  |nil=>simp at O
  |cons x s=>
   cases t with
   |nil=>simp at U
   |cons y t=>
    simp only[aV,cl,cq,decide_eq_false_iff_not,cH]at h;simp;omega
 |cons x p ih=>
  simp only[aZ,cl,cq,cv,decide_eq_false_iff_not,beq_self_eq_true,true_implies]at h;have:=ih (by simpa using O) (by simpa using U) h.2;simpa using this
theorem Bm{p:Wd}{L:List gu}(hL:jN L)(Y:∀e∈L,p <+: gM e):(∀e∈L.take (l5 L p.length),gM e=p)/\∀e∈L.drop (l5 L p.length),gM e≠p:=by
 have e1:L.take (l5 L p.length)=L.takeWhile λe=>(gM e).length==p.length:=by
  unfold l5;conv=>lhs; arg 2; rw[<-aW (p:=λe=>(gM e).length==p.length) (l:=L)]
  rw[List.take_left]
 have e2:L.drop (l5 L p.length)=L.dropWhile λe=>(gM e).length==p.length:=by
  unfold l5;conv=>lhs; arg 2; rw[<-aW (p:=λe=>(gM e).length==p.length) (l:=L)]
  rw[List.drop_left]
 rw[e1,e2];refine⟨λe O=>?_,λe O hk=>?_⟩
 .have h1:=OD L e O;have h2:=Y e ((bv _).mem O);exact(h2.eq_of_length (by simpa using(beq_iff_eq.1 h1).symm)).symm
 .have hs:jN (L.dropWhile λe=>(gM e).length==p.length):=cT (bx _) hL;have hm:∀e∈L.dropWhile (λe=>(gM e).length==p.length),p <+: gM e:=λe O=>Y e ((bx _).mem O);have hd:=LQ (p:=λe=>(gM e).length==p.length) L;generalize L.dropWhile _=B at *
  cases B with
  |nil=>simp at O
  |cons b B=>
   have hb:=hd b B rfl;have U:gM b≠p:=λh=>by rw[h]at hb; simp at hb
   simp only[a0]at O;rcases O with rfl|O
   .exact U hk
   .have:=F7 ((a8.1 hs).1 e O);rw[hk,Ow (hm b (by simp)) U]at this;cases this
theorem zR(p:Wd):∀(L:List gu),jN L->(∀e∈L,p <+: gM e/\gM e≠p)->∃Y:List (UInt8×List gu),runs p.length L=Y.map (·.2)/\Pn Y/\CI p Y/\qm Y=L/\(∀x∈Y,jN x.2)/\∀x∈Y,∃e g,x.2=e::g/\x.1=iV p.length e:=by
 intro L
 induction L with
 |nil=>intro _ _; exact⟨[],rfl,List.Pairwise.nil,λ_ h=>by simp at h,rfl,λ_ h=>by simp at h,λ_ h=>by simp at h⟩
 |cons e L ih=>
  intro hL hp;have aa:=a8.1 hL;obtain⟨Y,h1,h2,h3,h4,h5,h6⟩:=ih aa.2 (λx U=>hp x (by simp[U]));have ab:p++[iV p.length e] <+: gM e:=(mO _ _ _).2 ⟨(hp e (by simp)).1,zX (hp e (by simp)).1 (hp e (by simp)).2,rfl⟩
  cases Y with
  |nil=>
   refine⟨[(iV p.length e,[e])],?_,bt _ _,?_,?_,?_,?_⟩
   .rw[runs,h1]; rfl
   .intro x U; simp at U; subst U;exact⟨by simp,λy hy=>by simp at hy; subst hy; exact ab⟩
   .simp only[qm,List.flatMap_nil]at h4; rw[<-h4]; rfl
   .intro x U; simp at U; subst U; exact bt _ _
   .intro x U; simp at U; subst U; exact⟨e,[],rfl,rfl⟩
  |cons y Y=>
   obtain⟨x,g,hy,ac⟩:=h6 y (by simp);obtain⟨yc,yg⟩:=y;simp only at hy ac;subst hy;subst ac;have ad:runs p.length L=(x::g)::Y.map (·.2):=h1;by_cases hb:iV p.length e=iV p.length x
   .refine⟨(iV p.length e,e::x::g)::Y,?_,?_,?_,?_,?_,?_⟩
    .rw[runs,ad]; simp[hb]
    .have:=a8.1 h2;exact a8.2 ⟨λz O=>by have:=this.1 z O; rw[hb]; exact this,this.2⟩
    .intro z O;simp only[a0]at O;rcases O with rfl|O
     .refine⟨by simp,λw hw=>?_⟩;rcases a0.1 hw with rfl|hw
      .exact ab
      .show p++[iV p.length e] <+: gM w;rw[hb]; exact(h3 (iV _ x,x::g) (by simp)).2 w hw
     .exact h3 z (by simp[O])
    .rw[<-h4]; rfl
    .intro z O;simp only[a0]at O;rcases O with rfl|O
     .refine a8.2 ⟨λw hw=>aa.1 w ?_,h5 (iV p.length x,x::g) (by simp)⟩;rw[<-h4]; exact bI _ hw
     .exact h5 z (by simp[O])
    .intro z O;simp only[a0]at O;rcases O with rfl|O
     .exact⟨e,x::g,rfl,rfl⟩
     .exact h6 z (by simp[O])
   .refine⟨(iV p.length e,[e])::(iV p.length x,x::g)::Y,?_,?_,?_,?_,?_,?_⟩
    .rw[runs,ad]; simp[hb]
    .have U:x∈L:=by rw[<-h4]; simp[qm]
     have ae:(iV p.length e).toNat<(iV p.length x).toNat:=by
      have a1:=hp e (by simp);have a2:=hp x (by simp[U]);have:=Sx a1.1 a2.1 (zX a1.1 a1.2) (zX a2.1 a2.2) (F7 (aa.1 x U));have af:(iV _ e).toNat≠(iV _ x).toNat:=λh=>hb (cJ.1 h);unfold iV at *;omega
     refine a8.2 ⟨λz O=>?_,h2⟩;simp only[a0]at O;rcases O with rfl|O
     .exact ae
     .have:=(a8.1 h2).1 z O;exact Nat.lt_trans ae this
    .intro z O;rw[a0]at O;rcases O with rfl|O
     .exact⟨by simp,λy hy=>by simp at hy; subst hy; exact ab⟩
     .exact h3 z O
    .rw[<-h4]; rfl
    .intro z O;rw[a0]at O;rcases O with rfl|O
     .exact bt ..
     .exact h5 z O
    .intro z O;rw[a0]at O;rcases O with rfl|O
     .exact⟨e,[],rfl,rfl⟩
     .exact h6 z O
theorem FH{p:Wd}{l:List gu}(h:jN l)(O:∀e∈l,gM e=p):mo l:=by
 refine cV (fun {a b} ha hb h=>?_) h;rcases h with h|h
 .rw[O a ha,O b hb,kJ]at h; cases h
 .exact h.2
theorem Rj:∀(f:Nat)(p:Wd)(L:List gu),jN L->(∀e∈L,p <+: gM e)->kD f p.length L=qi f p (jd L):=by
 intro f
 induction f with
 |zero=>intro p L _ _; rfl
 |succ f ih=>
  intro p L hL hp;obtain⟨h1,h2⟩:=Bm hL hp;have ab:jN (L.drop (l5 L p.length)):=cT (List.drop_sublist ..) hL;have ac:jN (L.take (l5 L p.length)):=cT (List.take_sublist ..) hL;obtain⟨hs,r1,r2,r3,r4,r5,r6⟩:=zR p _ ab (λe he=>⟨hp e (bz he),h2 e he⟩);have O:L.take (l5 L p.length)++qm hs=L:=by rw[r4,ba]
  have hb:=KE f p _ hs (FH ac h1) h1 r2 r3;rw[O]at hb
  have U:(L.take (l5 L p.length)).length=l5 L p.length:=by
   have:l5 L p.length<=L.length:=(bv _).length_le;simp; omega
  rw[hb,kD,r1,bQ,U,bO];congr 4;refine sC λx hx=>?_;have Y:=(r3 x hx).1;have aa:=O0 _ Y (r5 x hx);unfold Part;rw[aa,ih _ _ (r5 x hx) (λe he=>?_)];rw[<-aa];exact(s4 Y).1 _ (a6.2 ⟨e,he,rfl⟩)
end
section
open Go.RowKit
variable {e:gu} {a b l:List gu} {x:Wd}
def names(l:List gu):List Wd:=l.map gu.name
theorem kH:lA l e=true↔e.name ∉ names l:=by
 unfold lA names;constructor
 .intro h;refine xM ?_
  cases O:sM l _ with
  |none=>rfl
  |some i=>rw[O]at h; simp at h
 .intro h;rw[s6 h]; rfl
theorem nJ:e∈gQ a b↔(e∈a/\e.name ∉ names b)\/e∈b:=by
 unfold gQ;rw[a9,az,kH]
theorem ri:x∈names l↔∃e∈l,e.name=x:=by unfold names; rw[a6]
theorem KD:x∈names (gQ a b)↔x∈names a\/x∈names b:=by
 rw[ri,ri,ri];constructor
 .rintro⟨e,O,rfl⟩;rcases nJ.1 O with h|h
  .exact Or.inl ⟨e,h.1,rfl⟩
  .exact Or.inr ⟨e,h,rfl⟩
 .rintro(⟨e,O,rfl⟩|⟨e,O,rfl⟩)
  .by_cases h:e.name∈names b
   .obtain⟨f,U,Y⟩:=ri.1 h;exact⟨f,nJ.2 (Or.inr U),Y⟩
   .exact⟨e,nJ.2 (Or.inl ⟨O,h⟩),rfl⟩
  .exact⟨e,nJ.2 (Or.inr O),rfl⟩
theorem rO(O:(a.map gu.name).Nodup)(hb:(b.map gu.name).Nodup):((gQ a b).map gu.name).Nodup:=by
 unfold gQ;rw[aN,bc];refine⟨O.sublist (bi.map _),hb,?_⟩;intro x U y Y e;subst e;obtain⟨f,hf,rfl⟩:=a6.1 U;exact(kH.1 (az.1 hf).2) Y
theorem pw(O:(a.map gu.name).Nodup):((gD a).map gu.name).Nodup:=O.sublist (bi.map _)
theorem GL{c:List gu}(h:∀x,x∈names b↔x∈names c)(e:gu):lA b e=lA c e:=by
 rw[cn,kH,kH,h]
theorem MU{O U:List gu}(h1:a.Perm O)(Y:b.Perm U):(gQ a b).Perm (gQ O U):=by
 refine dc ?_ Y;have:a.filter _=a.filter _:=bd λe _=>GL (λx=>(Y.map _).mem_iff) e;rw[this];exact h1.filter _
theorem yw(h:a.Perm b):(gD a).Perm (gD b):=h.filter _
theorem rV(a b c:List gu):gQ (gQ a b) c=gQ a (gQ b c):=by
 have h:∀e,lA (gQ b c) e=(lA b e&&lA c e):=by
  intro e;rw[cn,cm,kH,kH,kH,KD];exact not_or
 unfold gQ at h⊢;rw[aE,aL,aJ];congr 1;refine bd λe _=>?_;rw[h e,cu]
theorem oT(a:List gu):gQ [] a=a:=by simp[gQ]
theorem rH(a:List gu):gQ a []=a:=by
 unfold gQ;rw[bj,b6];intro e _;exact kH.2 (by simp[names])
theorem ve(a b:List gu):gD (gQ (gD a) b)=gD (gQ a b):=by
 unfold gD gQ;rw[aE,aE,aL,aL];congr 1;rw[aL];refine bd λe _=>?_;cases e.gone<;>simp
theorem mM(a:List gu):gD (gD a)=gD a:=by
 unfold gD;rw[aL];refine bd λe _=>?_;cases e.gone<;>simp
theorem Gq(L:List (List gu)):∀a:List gu,gD (L.foldl gQ (gD a))=gD (L.foldl gQ a):=by
 induction L with
 |nil=>intro a; exact mM a
 |cons b L O=>
  intro a;rw[aO,aO,<-O _,ve,O]
def j6(L:List (List gu)):List gu:=L.foldl gQ []
theorem nU(L M:List (List gu)):j6 (L++M)=M.foldl gQ (j6 L):=by unfold j6; rw[bq]
theorem jb(L:List (List gu))(b:List gu):j6 (L++[b])=gQ (j6 L) b:=by rw[nU]; rfl
theorem BF(ss:List (List gu))(k:Nat):oE ss k=j6 (ss.take k):=rfl
theorem jr(ss:List (List gu))(O:List gu):ix ss O=gD (j6 (ss++[O])):=by
 unfold ix;rw[jb,BF,bf]
theorem nE(a b:List gu):(gD b).length<=(gD (gQ a b)).length:=by
 unfold gQ gD;rw[aE,a5];omega
theorem rl(a:List gu):(gD a).length<=a.length:=aG ..
theorem mq(l:List gu):l.length-(gD l).length=(l.filter λe=>e.gone).length:=by
 have h:∀l,(l.filter λe=>e.gone).length+(gD l).length=l.length:=by
  intro l;unfold gD
  induction l with
  |nil=>rfl
  |cons e l O=>
   cases h:e.gone<;>simp[h]<;>omega
 have:=h l;omega
structure Inv(buf:List gu)(ss:List (List gu)):Prop where
 each:∀e∈buf,QO e
 nodup:(buf.map gu.name).Nodup
 gone:(buf.filter λe=>e.gone).length<=100
 lg:∀s∈ss,qp s
 rz:ss.length<=6
 there:∀k,k<=ss.length->(gD (j6 (ss.take k))).length<=30
 all:(ix ss buf).length<=30
theorem LK:Inv [] []:=⟨nofun,List.Pairwise.nil,by simp,nofun,by simp,λk _=>by simp[j6,gD],by simp[ix,oE,gQ,gD]⟩
theorem uL(O:List gu)(e:gu):((gQ O [e]).filter λe=>e.gone).length<=(O.filter λe=>e.gone).length+(if e.gone then 1 else 0):=by
 unfold gQ
 have U:(O.filter λx=>x.gone&&lA [e] x).length<=(O.filter λx=>x.gone).length:=by
  rw[show(O.filter _)=(O.filter λx=>x.gone).filter _ by rw[aL]; exact bd λx _=>cu ..];exact aG ..
 cases h:e.gone<;>simp[h]<;>omega
theorem Inv.GN{O:List gu}{ss:List (List gu)}(h:Inv O ss)(Y:QO e)(hg:((gQ O [e]).filter λe=>e.gone).length<=100)(ha:(ix ss (gQ O [e])).length<=30):Inv (gQ O [e]) ss where
 each:=λx hx=>by
  rcases nJ.1 hx with U|U
  .exact h.each x U.1
  .simp only[aD]at U; subst U; exact Y
 nodup:=rO h.nodup (by simp);gone:=hg;lg:=h.lg;rz:=h.rz;there:=h.there;all:=ha
theorem qL(ss:List (List gu))(O:List gu)(e:gu):ix ss (gQ O [e])=gD (gQ (j6 (ss++[O])) [e]):=by
 rw[jr,jb,jb,rV]
theorem po(T:List gu)(e:gu):gD (gQ T [e])=(gD T).filter (lA [e])++gD [e]:=by
 unfold gD gQ;rw[aE,aL,aL];congr 1;exact bd λx _=>cu ..
theorem Ex{O:List gu}{ss:List (List gu)}(h:Inv O ss)(name text:Wd)(gw gK:Int):Inv (kq O ss name text gw gK).2 ss:=by
 unfold kq;split
 .rename_i hn;split
  .rename_i ht;split
   .exact h
   .split
    .exact h
    .rename_i hm;refine h.GN (Or.inl ⟨rfl,hn,ht.1,ht.2,by simp; omega,by simp; omega,by simp; omega,by simp; omega⟩) ?_ ?_
     .have:=uL O ⟨name,false,text,gw,gK⟩;have:=h.gone;simp only[cw,if_false]at *;omega
     .rw[qL,po,a5];have e1:(gD [(⟨name,false,text,gw,gK⟩)]).length=1:=rfl;have ha:=h.all;rw[jr]at ha hm;generalize gD _=T at *;by_cases U:30<=T.length
      .have Y:=λY=>hm ⟨U,Y⟩
       have aa:name∈names T:=by
        by_cases hc:name∈names T
        .exact hc
        .exact absurd (s6 hc) Y
       obtain⟨x,hx,ab⟩:=ri.1 aa
       have:(T.filter (lA [⟨name,false,text,gw,gK⟩])).length<T.length:=by
        rw[List.length_filter_lt_length_iff_exists];refine⟨x,hx,?_⟩;rw[kH];simp[names,ab]
       omega
      .have:=aG (lA [⟨name,false,text,gw,gK⟩]) T;omega
  .exact h
 .exact h
theorem Ll{O:List gu}{ss:List (List gu)}(h:Inv O ss)(name:Wd):Inv (mI O ss name).2 ss:=by
 unfold mI;split
 .rename_i U;split
  .exact h
  .split
   .exact h
   .rename_i Y;rw[mq]at Y;refine h.GN (Or.inr ⟨rfl,U⟩) ?_ ?_
    .have:=uL O ⟨name,true,[],0,0⟩;simp only[if_true]at this;omega
    .rw[qL,po,a5];have e1:(gD [(⟨name,true,[],0,0⟩)]).length=0:=rfl;have ha:=h.all;rw[jr]at ha;have:=aG (lA [⟨name,true,[],0,0⟩]) (gD (j6 (ss++[O])));omega
 .exact h
theorem uO(l:List gu):((gD l).filter λe=>e.gone)=[]:=by
 rw[bw];intro e O;have:=(az.1 O).2;simpa using this
theorem AL(U:∀e∈l,QO e)(Y:(l.map gu.name).Nodup)(O:0<l.length)(h4:(l.filter λe=>e.gone).length<=100)(h5:(gD l).length<=30):qp l:=
 ⟨U,Y,λe=>by rw[e]at O; simp at O,h4,h5⟩
theorem CC{Y:List gu}{ss:List (List gu)}(h:Inv Y ss):Inv (iU Y ss).2.1 (iU Y ss).2.2:=by
 unfold iU;split
 .exact h
 .split
  .exact h
  .have U:∀O,(∀s∈O,qp s)->O.length<=6->(∀k,k<=O.length->(gD _).length<=30)->Inv [] O:=λO g1 g2 g3=>
    ⟨nofun,List.Pairwise.nil,by simp,g1,g2,g3,by
      rw[jr,jb,rH]
      have:=g3 _ (bW _)
      rw[bf]at this
      exact this⟩
   have ji:=h.all;rw[jr,jb]at ji;have aa:=ca (nE ..) ji;split
   .rename_i hpos;refine U _ ?_ (by simp; omega) ?_
    .intro s hs;rcases a9.1 hs with h1|h1
     .exact h.lg s h1
     .simp only[aD]at h1;subst h1;unfold iX at hpos⊢;split
      .rename_i h0;rw[if_pos h0]at hpos;refine AL (λe he=>h.each e (az.1 he).1) (pw h.nodup) hpos ?_ ?_
       .rw[uO]; simp
       .rw[mM]; exact aa
      .rename_i h0;rw[if_neg h0]at hpos;exact AL h.each h.nodup hpos h.gone aa
    .intro k hk;by_cases ab:k<=ss.length
     .rw[bC ab];exact h.there k ab
     .rw[bk (by simp; omega),jb];unfold iX;split
      .rename_i h0;have:=aY.1 h0;subst this;show(gD (gQ [] _)).length<=30;rw[oT,mM];exact aa
      .exact ji
   .exact U ss h.lg h.rz h.there
theorem yz(L M:List (List gu))(a b:List gu):j6 (L++[gQ a b]++M)=j6 (L++[a,b]++M):=by
 rw[nU _ M,nU _ M,jb];rw[show L++[a,b]=(L++[a])++[b] by simp,jb,jb,rV]
def K5(n:Nat)(a b:List gu):List gu:=if n=0 then gD (gQ a b)else gQ a b
def qZ(n:Nat)(a b:List gu):List (List gu):=if 0<(K5 n a b).length then [K5 n a b]else []
theorem KU{n:Nat}{s:List gu}(h:s∈qZ n a b):s=K5 n a b/\0<s.length:=by
 unfold qZ at h;split at h
 .rename_i O;simp only[aD]at h;subst h;exact⟨rfl,O⟩
 .simp at h
theorem wK(L X:List (List gu))(a b:List gu):gD (j6 (L++(qZ L.length a b++X)))=gD (j6 (L++([a,b]++X))):=by
 unfold qZ K5;by_cases O:L.length=0
 .have:=aY.1 O;subst this;simp only[bn,if_true,aV]
  have U:j6 ([a,b]++X)=X.foldl gQ (gQ a b):=by
   show X.foldl gQ _=_;rw[oT]
  rw[U,<-Gq X _];split
  .show gD (X.foldl gQ _)=_;rw[oT]
  .have:gD (gQ a b)=[]:=aY.1 (by omega);rw[this];rfl
 .rw[if_neg O];split
  .rw[<-aJ,<-aJ,yz]
  .have Y:gQ a b=[]:=aY.1 (by omega);have e:=yz L X a b;rw[Y]at e
   have e3:j6 (L++[[]]++X)=j6 (L++([]++X)):=by
    rw[nU,jb,rH,aV,nU]
   rw[<-e3,e,aJ]
theorem C8(ss:List (List gu))(n:Nat)(h:n+1<ss.length):ss=ss.take n++([ss.getD n [],ss.getD (n+1) []]++ss.drop (n+2)):=by
 have O:ss.getD n []=ss[n]:=by rw[ay,a7 _]; rfl
 have U:ss.getD (n+1) []=ss[n+1]:=by rw[ay,a7 _]; rfl
 rw[O,U]
 have Y:ss.drop n=ss[n]::ss[n+1]::ss.drop (n+2):=by
  rw[aK _,aK _]
 have:=ba n ss;rw[Y]at this;exact this.symm
theorem Bv(ss:List (List gu))(n:Nat):(if 0<(l9 ss n).length then [l9 ss n]else [])=qZ n (ss.getD n []) (ss.getD (n+1) []):=rfl
theorem xY(ss:List (List gu))(n:Nat)(h:n+1<ss.length)(Y:List (List gu)):gD (j6 ((ss.take n++(qZ n (ss.getD n []) (ss.getD (n+1) [])++ss.drop (n+2)))++Y))=gD (j6 (ss++Y)):=by
 have O:(ss.take n).length=n:=by simp; omega
 have e:=wK (ss.take n) (ss.drop (n+2)++Y) (ss.getD n []) (ss.getD (n+1) []);rw[O]at e;conv=>rhs; rw[C8 ss n h]
 simp only[aJ]at e⊢;exact e
theorem LP(n:Nat)(a b:List gu):(qZ n a b).length<=1:=by unfold qZ; split<;>simp
theorem rq{α:Type}(A B:List α)(k:Nat)(h:A.length<=k):(A++B).take k=A++B.take (k-A.length):=by
 rw[List.take_append,bk h]
theorem D2{O:List gu}{ss:List (List gu)}(h:Inv O ss)(n:Int):Inv O (iJ ss n).2:=by
 unfold iJ;split
 .exact h
 .split
  .exact h
  .rename_i hn hg;obtain⟨m,rfl⟩:∃m:Nat,n=(m:Int):=⟨n.toNat,by omega⟩;have hm:m+1<ss.length:=by omega
   rw[Int.toNat_natCast]at *;rw[Bv]at *;show Inv O (ss.take m++(qZ m (ss.getD m []) (ss.getD (m+1) [])++ss.drop (m+2)));have aa:=C8 ss m hm;have af:=xY ss m hm [O]
   have U:ss.getD m []∈ss/\ss.getD (m+1) []∈ss:=by
    rw[ay,ay,a7 (by omega),a7 hm];exact⟨aI _,aI _⟩
   have hA:qp (ss.getD m []):=h.lg _ U.1;have hB:qp (ss.getD (m+1) []):=h.lg _ U.2;change ¬100<(K5 m (ss.getD m []) (ss.getD (m+1) [])).length-(gD (K5 m (ss.getD m []) (ss.getD (m+1) []))).length at hg;clear U;generalize ss.getD m []=A at *;generalize ss.getD (m+1) []=B at *;have ah:=LP m A B
   have ab:(gD (gQ A B)).length<=30:=by
    have Y:=h.there (m+2) (by omega)
    have e:ss.take (m+2)=ss.take m++[A,B]:=by
     conv=>lhs; rw[aa]
     rw[rq _ _ _ (by simp; omega)];have:(ss.take m).length=m:=by simp; omega
     rw[this,show m+2-m=2 by omega];simp
    rw[e,show ss.take m++[A,B]=(ss.take m++[A])++[B] by simp,jb,jb,rV]at Y;exact ca (nE _ _) Y
   refine⟨h.each,h.nodup,h.gone,?_,?_,?_,?_⟩
   .intro s hs;rcases a9.1 hs with h1|h1
    .exact h.lg s (bH h1)
    .rcases a9.1 h1 with h1|h1
     .obtain⟨h1,ac⟩:=KU h1
      .rw[<-h1,mq]at hg;unfold K5 at h1
       have ad:∀e∈s,e∈gQ (A) (B):=by
        intro e he;rw[h1]at he;split at he
        .exact(az.1 he).1
        .exact he
       have ae:=rO hA.nodup hB.nodup;refine AL (λe he=>?_) ?_ ac (by omega) ?_
       .rcases nJ.1 (ad e he)with Y|Y
        .exact hA.each e Y.1
        .exact hB.each e Y
       .rw[h1];split
        .exact pw ae
        .exact ae
       .rw[h1];split
        .rw[mM]; exact ab
        .exact ab
     .exact h.lg s (bz h1)
   .have:=h.rz;simp only[a5,bN,bB];omega
   .intro k hk;by_cases ag:k<=m
    .rw[bC (by simp; omega),bR,cg ag];exact h.there k (by omega)
    .have e0:(ss.take m).length=m:=by simp; omega
     rw[rq _ _ _ (by omega),e0,rq _ _ _ (by omega)];have e:=wK (ss.take m) ((ss.drop (m+2)).take (k-m-(qZ m A B).length)) (A) (B);rw[e0]at e;rw[e]
     have e4:ss.take m++([A,B]++(ss.drop (m+2)).take (k-m-(qZ m A B).length))=ss.take (m+2+(k-m-(qZ m A B).length)):=by
      conv=>rhs; rw[aa]
      rw[rq _ _ _ (by omega),rq _ _ _ (by simp; omega)];simp;omega
     rw[e4];refine h.there _ ?_;simp only[a5,bN,bB]at hk;omega
   .rw[jr,af,<-jr];exact h.all
end
section
open Go.RowKit
def LM(e:gu):Prop:=e.name.length<=1048576/\e.text.length<=1048576/\(-9223372036854775808<=e.gw/\e.gw<=9223372036854775807)/\-9223372036854775808<=e.gK/\e.gK<=9223372036854775807
theorem Oh{e:gu}(h:LM e):(qh e).length<=2097160:=by
 have O:=h.1;have U:=h.2.1;simp[qh,gS,kF]; omega
theorem Qy(m:List gu)(h:∀e∈m,LM e):(m.flatMap qh).length<=m.length*2097160:=by
 induction m with
 |nil=>simp
 |cons e m O=>
  have Y:=Oh (h e (by simp));have h2:=O (λx U=>h x (by simp[U]));rw[aF,a5,aC]; omega
def G6(p:Wd)(e:gu)(c:UInt8):Nat:=if sW (gM e) (p++[c])=true then 1 else 0
theorem FI(p:Wd)(e:gu):∀(cs:List UInt8),(∀c∈cs,sW (gM e) (p++[c])=false)->(cs.map (G6 p e)).sum=0:=by
 intro cs
 induction cs with
 |nil=>intro _; rfl
 |cons c cs O=>
  intro h;have U:=h c (by simp);rw[aA,aP,O (λd Y=>h d (by simp[Y]))];simp[G6,U]
theorem Ri(p:Wd)(e:gu):∀(cs:List UInt8),cs.Nodup->(cs.map (G6 p e)).sum<=1:=by
 intro cs
 induction cs with
 |nil=>simp
 |cons c cs Y=>
  intro h;have U:=aU.1 h;rw[aA,aP]
  cases hb:sW (gM e) (p++[c])with
  |false=>have:=Y U.2; simp only[G6,hb]; simpa using this
  |true=>
   rw[FI p e cs (λd hd=>?_)]
   .simp[G6,hb]
   .rw[ct];intro O;have:=sZ ((qo ..).1 hb) ((qo ..).1 O);subst this;exact U.1 hd
theorem Rt(p:Wd)(cs:List UInt8)(e:gu)(G:List gu):(cs.map λc=>(mK (e::G) p c).length).sum=(cs.map (G6 p e)).sum+(cs.map λc=>(mK G p c).length).sum:=by
 induction cs with
 |nil=>rfl
 |cons c cs O=>
  simp only[aA,aP,O]
  have:(mK (e::G) p c).length=G6 p e c+(mK G p c).length:=by
   unfold mK G6;rw[bh];split
   .simp; omega
   .simp
  omega
theorem M2(p:Wd)(cs:List UInt8)(Y:cs.Nodup):∀G:List gu,(nK G p).length+(cs.map λc=>(mK G p c).length).sum<=G.length:=by
 intro G
 induction G with
 |nil=>
  have:∀cs:List UInt8,(cs.map λc=>(mK [] p c).length).sum=0:=by
   intro cs
   induction cs with
   |nil=>rfl
   |cons c cs U=>rw[aA,aP,U]; rfl
  rw[this]; simp[nK]
 |cons e G U=>
  rw[Rt];by_cases O:gM e=p
  .have h0:=FI p e cs (λc _=>by
    rw[ct];intro hb;have:=((mO ..).1 ((qo ..).1 hb)).2.1
    rw[O]at this; omega)
   have h1:(nK (e::G) p).length=(nK G p).length+1:=by
    unfold nK; rw[bh,if_pos (beq_iff_eq.2 O)]; rfl
   rw[aC]; omega
  .have h0:=Ri p e cs Y
   have h1:(nK (e::G) p).length=(nK G p).length:=by
    unfold nK; rw[bh,if_neg (by simpa using O)]
   rw[aC]; omega
theorem PY:∀(f:Nat)(p:Wd)(G:List gu),(∀e∈G,LM e)->(qi f p G).length<=f*(G.length*3145743)+5:=by
 intro f
 induction f with
 |zero=>simp[qi]
 |succ f ih=>
  intro p G Y;have ab:=Qy (nK G p) (λe he=>Y e (az.1 he).1);have ac:=M2 p _ (pD (rM G p)) G
  have hk:∀cs:List UInt8,(∀c∈cs,c∈mV G p)->(cs.flatMap λc=>gS ((p9 (mK G p c)).drop p.length)++qi f (p9 (mK G p c)) (mK G p c)).length<=(cs.map λc=>(mK G p c).length).sum*(1048582+f*3145743):=by
   intro cs
   induction cs with
   |nil=>simp
   |cons c cs aa=>
    intro hc;have h1:=aa (λd hd=>hc d (by simp[hd]));have O:=xj (hc c (by simp));rw[<-x9]at O;have ad:=b5.2 O;obtain⟨e0,U⟩:=aT _ O
    have ae:(p9 (mK G p c)).length<=1048576:=by
     have a:=((s4 O).1 _ (a6.2 ⟨e0,U,rfl⟩)).length_le;have b:=(Y e0 (lC.1 U).1).2.1;unfold gM at a;rw[jH]at a;omega
    have h2:=ih (p9 (mK G p c)) (mK G p c) (λe he=>Y e (lC.1 he).1);have h3:(gS ((p9 (mK G p c)).drop p.length)).length<=1048577:=by simp[gS]; omega
    rw[aF,a5,a5,aA,aP,ce];generalize (mK G p c).length=n at *;have e1:n*(1048582+f*3145743)=n*1048582+f*(n*3145743):=by rw[ck,bY]
    omega
  have af:=hk _ (λ_ h=>h);rw[qi];simp only[a5,aC];have h3:(kF (jZ G)).length=3:=rfl;generalize ((mV G p).map λc=>(mK G p c).length).sum=m at *;have e1:m*(1048582+f*3145743)=m*1048582+m*(f*3145743):=ck ..;have e2:(f+1)*(G.length*3145743)=G.length*3145743+G.length*(f*3145743):=by rw[ce,bY]; omega
  have e3:m*(f*3145743)<=G.length*(f*3145743):=bZ _ (by omega);omega
end
section
open Go.RowKit
variable {e:gu} {es gs ps:List (Nat×gu)} {ks:List Wd} {N a b c f g n:Nat} {bs ls path r rf:Wd}
abbrev sn(l:List (Nat×gu)):List gu:=l.map Prod.snd
def nR(N:Nat):Nat->Wd->List Wd->Wd->Wd->Option (List (Nat×gu)×Wd)
 |0,_,_,_,bs=>some ([],bs)
 |n+1,path,ks,last,bs=>(qd ks last bs).bind λx=>(mZ x.1 x.2).bind λy=>if gM y.1=path then(nR N n path (ks++[x.1]) x.1 y.2).bind λz=>some ((N-bs.length,y.1)::z.1,z.2)else none
def oG(node:Wd->List Wd->Wd->Option (Nat×List (Nat×gu)×Wd)):Nat->Wd->List Wd->Int->Wd->Option (Nat×List (Nat×gu)×Wd)
 |0,_,_,_,bs=>some (0,[],bs)
 |n+1,path,ks,last,bs=>(lX bs).bind λx=>if x.1≠[]/\last<((x.1.getD 0 0).toNat:Int)then
   (node (path++x.1) ks x.2).bind λy=>(oG node n path (ks++(sn y.2.1).map gu.name) ((x.1.getD 0 0).toNat:Int) y.2.2).bind λz=>some (max y.1 z.1,y.2.1++z.2.1,z.2.2)else none
def mY(N:Nat):Nat->Wd->List Wd->Wd->Option (Nat×List (Nat×gu)×Wd)
 |0,_,_,_=>none
 |f+1,path,ks,bs=>if path.length<=24 then
   (kO bs).bind λa=>(rdNum a.2).bind λb=>(nR N b.1 path ks [] b.2).bind λc=>(rdNum c.2).bind λd=>(oG (mY N f) d.1 path (ks++(sn c.1).map gu.name) (-1) d.2).bind λe=>
    if(a.1:Int)=max (jZ (sn c.1)) e.1/\(path=[]\/0<b.1\/1<d.1)then some (a.1,c.1++e.2.1,e.2.2)else none
  else none
def mX(N:Nat):Nat->List Wd->Wd->Wd->Option (List (Nat×gu)×Wd)
 |0,_,_,bs=>some ([],bs)
 |n+1,ks,last,bs=>(qd ks last bs).bind λx=>(mX N n (ks++[x.1]) x.1 x.2).bind λz=>some ((N-bs.length,⟨x.1,true,[],0,0⟩)::z.1,z.2)
def lN(N:Nat)(bs:Wd):Option (List (Nat×gu)×List (Nat×gu)):=
 (rdNum bs).bind λa=>(mX N a.1 [] [] a.2).bind λb=>(lX b.2).bind λc=>if c.1=[]then(mY N 26 [] ((sn b.1).map gu.name) c.2).bind λd=>
  if d.2.2=[]/\0<b.1.length+d.2.1.length/\a.1<=100/\d.2.1.length<=30 then some (b.1,d.2.1)else none else none
theorem vY(h:mX N (n+1) ks ls r=some (gs,rf)):∃O U gs',qd ks ls r=some (O,U)/\mX N n (ks++[O]) O U=some (gs',rf)/\gs=(N-r.length,⟨O,true,[],0,0⟩)::gs':=by
 rw[mX]at h;simp only[bV]at h;obtain⟨⟨O,U⟩,Y,⟨gs',r2⟩,h2,h3⟩:=h;cases h3;exact⟨O,U,gs',Y,h2,rfl⟩
theorem Fp(h:nR N (n+1) path ks ls r=some (es,rf)):∃U Y e r2 O,qd ks ls r=some (U,Y)/\mZ U Y=some (e,r2)/\gM e=path/\nR N n path (ks++[U]) U r2=some (O,rf)/\es=(N-r.length,e)::O:=by
 rw[nR]at h;simp only[bV]at h;obtain⟨⟨U,Y⟩,h1,⟨e,r2⟩,h2,h3⟩:=h;split at h3
 .rename_i hk;simp only[bV]at h3;obtain⟨⟨O,r4⟩,h4,h5⟩:=h3;cases h5;exact⟨U,Y,e,r2,O,h1,h2,hk,h4,rfl⟩
 .cases h3
theorem ET{node:Wd->List Wd->Wd->Option (Nat×List (Nat×gu)×Wd)}{la:Int}(h:oG node (n+1) path ks la r=some (g,es,rf)) :
  ∃c cs Y g1 O r2 g2 U,lX r=some (c::cs,Y)/\la<(c.toNat:Int)/\node (path++(c::cs)) ks Y=some (g1,O,r2)/\oG node n path (ks++(sn O).map gu.name) (c.toNat:Int) r2=some (g2,U,rf)/\g=max g1 g2/\es=O++U:=by
 rw[oG]at h;simp only[bV]at h;obtain⟨⟨lb,Y⟩,h1,h⟩:=h;split at h
 .rename_i hc;simp only[bV]at h;obtain⟨⟨g1,O,r2⟩,h2,⟨g2,U,r3⟩,h3,h4⟩:=h
  cases lb with
  |nil=>exact absurd rfl hc.1
  |cons c cs=>
   cases h4;exact⟨c,cs,Y,g1,O,r2,g2,U,h1,hc.2,h2,h3,rfl,rfl⟩
 .cases h
theorem Fq(h:mY N f path ks bs=some (g,es,r)):∃f',f=f'+1/\path.length<=24/\∃r0 nb U own Y O r3 gb below,kO bs=some (g,r0)/\rdNum r0=some (nb,U)/\nR N nb path ks [] U=some (own,Y)/\rdNum Y=some (O,r3)/\oG (mY N f') O path (ks++(sn own).map gu.name) (-1) r3=some (gb,below,r)/\(g:Int)=max (jZ (sn own)) gb/\(path=[]\/0<nb\/1<O)/\es=own++below:=by
 cases f with
 |zero=>cases h
 |succ f=>
  rw[mY]at h;split at h
  .rename_i hp;simp only[bV]at h;obtain⟨⟨wg,r0⟩,h1,⟨nb,U⟩,h2,⟨own,Y⟩,h3,⟨O,r3⟩,h4,⟨gb,below,r4⟩,h5,h6⟩:=h;split at h6
   .rename_i hc;cases h6;exact⟨f,rfl,hp,r0,nb,U,own,Y,O,r3,gb,below,h1,h2,h3,h4,h5,hc.1,hc.2,rfl⟩
   .cases h6
  .cases h
theorem Ha(h:lN N bs=some (gs,es)):∃n r r0 O g,rdNum bs=some (n,r)/\mX N n [] [] r=some (gs,r0)/\lX r0=some ([],O)/\mY N 26 [] ((sn gs).map gu.name) O=some (g,es,[])/\0<gs.length+es.length/\n<=100/\es.length<=30:=by
 unfold lN at h;simp only[bV]at h;obtain⟨⟨n,r⟩,Y,⟨gs',r0⟩,h2,⟨lb,O⟩,h3,h⟩:=h;split at h
 .rename_i hc;simp only[bV]at h;obtain⟨⟨g,aa,r2⟩,h4,h⟩:=h;split at h
  .rename_i U;cases h;obtain⟨e,U⟩:=U;subst hc e;exact⟨n,r,r0,O,g,Y,h2,h3,h4,U⟩
  .cases h
 .cases h
theorem yG:∀{n:Nat}{ks:List Wd}{ls r rf:Wd}{gs:List (Nat×gu)},mX N n ks ls r=some (gs,rf)->gs.length=n
 |0,_,_,_,_,_,h=>by cases h; rfl
 |n+1,_,_,_,_,_,h=>by
  obtain⟨_,_,_,_,O,rfl⟩:=vY h
  simp[yG O]
def rY(a b:Nat)(ps:List (Nat×gu)):Prop:=a<=b/\(∀p∈ps,a<=p.1/\p.1<b)/\ps.Pairwise λx y=>x.1<y.1
theorem rY.nil(h:a<=b):rY a b []:=⟨h,by simp,.nil⟩
theorem rY.append{qs:List (Nat×gu)}(h:rY a b ps)(Y:rY b c qs):rY a c (ps++qs):=by
 obtain⟨h1,O,h3⟩:=h;obtain⟨k1,U,k3⟩:=Y;refine⟨by omega,λp hp=>?_,be.2 ⟨h3,k3,λx hx y hy=>?_⟩⟩
 .rcases a9.1 hp with h|h
  .have:=O p h; omega
  .have:=U p h; omega
 .have:=O x hx; have:=U y hy; omega
theorem rY.one(h:a<b):rY a b [(a,e)]:=⟨by omega,by simp; omega,by simp⟩
theorem rY.from(h:rY b c ps)(U:a<=b):rY a c ps:=⟨by have:=h.1; omega,λp O=>by have:=h.2.1 p O; omega,h.2.2⟩
theorem zN(N:Nat):∀{n:Nat}{ks:List Wd}{ls r rf:Wd}{gs:List gu},xo n ks ls r=some (gs,rf)->r.length<=N->∃ps,mX N n ks ls r=some (ps,rf)/\sn ps=gs/\rf.length<=r.length/\rY (N-r.length) (N-rf.length) ps
 |0,_,_,_,_,_,h,_=>by cases h; exact⟨[],rfl,rfl,bW _,.nil (bW _)⟩
 |n+1,ks,ls,r,rf,gs,h,hN=>by
  rw[xo]at h
  simp only[bV]at h
  obtain⟨⟨U,Y⟩,O,⟨gs',r2⟩,h2,h3⟩:=h
  cases h3
  try dsimp only at *
  have hl:Y.length+1<=r.length:=by rw[(qG O).1]; simp[gS]
  obtain⟨ps,k1,k2,k3,k4⟩:=zN N h2 (by omega);refine⟨(N-r.length,⟨U,true,[],0,0⟩)::ps,?_,by simp[sn,<-k2],by omega,(rY.one (by omega)).append k4⟩;rw[mX,O,bU,k1];rfl
theorem H'{U O:Wd}(h:mZ U r=some (e,O)):O.length<=r.length:=by
 unfold mZ at h;simp only[bV]at h;obtain⟨⟨tx,r'⟩,Y,h⟩:=h;split at h
 .simp only[bV]at h;obtain⟨⟨wt,r3⟩,h2,h⟩:=h;split at h
  .simp only[bV]at h;obtain⟨⟨tg,r4⟩,h3,h⟩:=h;cases h;have e1:=(kM Y).1;have e2:=(mL h2).1;have e3:=(kz h3).1;rw[e1,e2,e3];simp;omega
  .cases h
 .cases h
theorem AH(N:Nat):∀{n:Nat}{path:Wd}{ks:List Wd}{ls r rf:Wd}{es:List gu},xm n path ks ls r=some (es,rf)->r.length<=N->∃ps,nR N n path ks ls r=some (ps,rf)/\sn ps=es/\rf.length<=r.length/\rY (N-r.length) (N-rf.length) ps
 |0,_,_,_,_,_,_,h,_=>by cases h; exact⟨[],rfl,rfl,bW _,.nil (bW _)⟩
 |n+1,path,ks,ls,r,rf,es,h,hN=>by
  rw[xm]at h
  simp only[bV]at h
  obtain⟨⟨nm,r1⟩,U,⟨e,r2⟩,Y,O⟩:=h
  split at O
  .rename_i hk;simp only[bV]at O;obtain⟨⟨aa,r4⟩,h4,h5⟩:=O;cases h5
   try dsimp only at *
   have hl:r1.length+1<=r.length:=by rw[(qG U).1]; simp[gS]
   have ab:=H' Y;obtain⟨ps,k1,k2,k3,k4⟩:=AH N h4 (by omega);refine⟨(N-r.length,e)::ps,?_,by simp[sn,<-k2],by omega,(rY.one (by omega)).append k4⟩;rw[nR,U,bU,Y,bU,if_pos hk,k1];rfl
  .cases O
def OC(N:Nat)(f:Nat):Prop:=∀(path:Wd)(ks:List Wd)(r rf:Wd)(g:Nat)(es:List gu),vc f path ks r=some (g,es,rf)->r.length<=N->∃ps,mY N f path ks r=some (g,ps,rf)/\sn ps=es/\rf.length<=r.length/\rY (N-r.length) (N-rf.length) ps
theorem AQ(U:OC N f):∀{n:Nat}{path:Wd}{ks:List Wd}{O:Int}{r rf:Wd}{g:Nat}{es:List gu},xP (vc f) n path ks O r=some (g,es,rf)->r.length<=N->∃ps,oG (mY N f) n path ks O r=some (g,ps,rf)/\sn ps=es/\rf.length<=r.length/\rY (N-r.length) (N-rf.length) ps
 |0,_,_,_,_,_,_,_,h,_=>by cases h; exact⟨[],rfl,rfl,bW _,.nil (bW _)⟩
 |n+1,path,ks,O,r,rf,g,es,h,hN=>by
  rw[xP]at h
  simp only[bV]at h
  obtain⟨⟨lb,r1⟩,Y,h⟩:=h
  split at h
  .rename_i hc;simp only[bV]at h;obtain⟨⟨g1,aa,r2⟩,h2,⟨g2,ab,r3⟩,h3,h4⟩:=h;cases h4
   try dsimp only at *
   have hl:r1.length<=r.length:=by rw[(kM Y).1]; simp
   obtain⟨ps,k1,k2,k3,k4⟩:=U _ _ _ _ _ _ h2 (by omega);obtain⟨qs,j1,j2,j3,j4⟩:=AQ U h3 (by omega);refine⟨ps++qs,?_,by simp[sn]at *; rw[k2,j2],by omega,(k4.append j4).from (by omega)⟩;rw[oG,Y,bU,if_pos hc,k1];simp only[k2,j1,bU]
  .cases h
theorem Ab(N:Nat):∀f,OC N f
 |0=>nofun
 |f+1=>λpath ks r rf g es h hN=>by
  rw[vc]at h
  split at h
  .rename_i hp
   simp only[bV]at h
   obtain⟨⟨wg,r0⟩,U,⟨nb,r1⟩,Y,⟨own,r2⟩,h3,⟨nc,r3⟩,h4,⟨gb,below,r4⟩,h5,O⟩:=h
   split at O
   .rename_i hc;cases O
    try dsimp only at *
    have l1:r0.length<=r.length:=by rw[(mL U).1]; simp
    have l2:r1.length<=r0.length:=by have:=(kz Y).1; rw[this]; simp
    obtain⟨ps,k1,k2,k3,k4⟩:=AH N h3 (by omega);have l3:r3.length<=r2.length:=by have:=(kz h4).1; rw[this]; simp
    obtain⟨qs,j1,j2,j3,j4⟩:=AQ (Ab N f) h5 (by omega);refine⟨ps++qs,?_,by simp[sn]at *; rw[k2,j2],by omega,(k4.append (j4.from (by omega))).from (by omega)⟩;rw[mY,if_pos hp,U,bU,Y,bU,k1,bU,h4];simp only[k2,j1,bU];rw[if_pos hc]
   .cases O
  .cases h
theorem DH{gs es:List gu}(h:LG bs=some (gs,es)):∃ps qs,lN bs.length bs=some (ps,qs)/\sn ps=gs/\sn qs=es/\rY 0 bs.length (ps++qs):=by
 unfold LG at h;simp only[bV]at h;obtain⟨⟨n,r⟩,Y,⟨gs',r0⟩,h2,⟨lb,r1⟩,h3,h⟩:=h;split at h
 .rename_i hc;simp only[bV]at h;obtain⟨⟨g,O,r2⟩,h4,h⟩:=h;split at h
  .rename_i hd;cases h
   try dsimp only at *
   have l1:r.length<=bs.length:=by have:=(kz Y).1; rw[this]; simp
   obtain⟨ps,k1,U,k3,k4⟩:=zN _ h2 (by omega);have l3:r1.length<=r0.length:=by rw[(kM h3).1]; simp
   obtain⟨qs,j1,j2,j3,j4⟩:=Ab bs.length 26 _ _ _ _ _ _ h4 (by omega);refine⟨ps,qs,?_,U,j2,?_⟩
   .have a1:ps.length=gs.length:=by rw[<-U]; simp
    have a2:qs.length=O.length:=by rw[<-j2]; simp
    unfold lN;rw[Y,bU,k1,bU,h3,bU,if_pos hc];simp only[U,j1,bU];rw[if_pos (by rw[a1,a2]; exact hd)]
   .have:=(k4.append (j4.from (by omega))).from (cc _);rw[hd.1]at this;exact this
  .cases h
 .cases h
end
section
open Go.RowKit
def kZ(a:Wd)(c:UInt8)(row:List Nat)(z:Nat):Nat->List Nat
 |0=>[z]
 |i+1=>kZ a c row z i++[min (min (row.getD i 0+(if a.getD i 0=c then 0 else 1)) (row.getD (i+1) 0+1)) ((kZ a c row z i).getD i 0+1)]
def nS(a s:Wd):Nat->List Nat
 |0=>aR (a.length+1)
 |k+1=>kZ a (s.getD k 0) (nS a s k) (k+1) a.length
def AY(a s:Wd)(k:Nat):Nat:=(nS a s k).getD a.length 0
theorem ni(a:Wd)(c:UInt8)(row:List Nat)(z:Nat):∀i,(kZ a c row z i).length=i+1:=by
 intro i
 induction i with
 |zero=>rfl
 |succ i O=>rw[kZ,a5,O]; rfl
theorem xa(a s:Wd)(k:Nat):(nS a s k).length=a.length+1:=by
 cases k with
 |zero=>simp[nS]
 |succ k=>rw[nS,ni]
theorem vF(a:Wd)(c:UInt8)(row:List Nat)(z m:Nat)(hz:z<=m)(U:∀x∈row,x+1<=m):∀i,i<row.length->∀x∈kZ a c row z i,x<=m:=by
 intro i
 induction i with
 |zero=>intro _ x O; simp[kZ]at O; omega
 |succ i Y=>
  intro hi x O;rcases a9.1 O with h|h
  .exact Y (by omega) x h
  .simp only[a0,List.not_mem_nil,or_false]at h;have h1:=U (row.getD _ 0) (by rw[ay,a7 hi]; exact aI hi);omega
theorem Hb(a s:Wd):∀k,∀x∈nS a s k,x<=a.length+k:=by
 intro k
 induction k with
 |zero=>intro x O; simp[nS]at O; omega
 |succ k U=>
  intro x O;exact vF a _ _ _ _ (by omega) (λy Y=>by have:=U y Y; omega) _ (by rw[xa]; omega) x O
def ns(mode:Nat)(q s:Wd):Bool:=
 if mode=0 then sW s q
 else if mode=1 then(aR s.length).any λi=>jy s i&&sW (s.drop i) q
 else(aR (s.length+1)).any λk=>decide (AY q s k<mode)
end
section
open Go.RowKit
theorem xV{x y:UInt8}:((x.toNat:Int)==(y.toNat:Int))=decide (x=y):=by
 rw[cn,beq_iff_eq,decide_eq_true_eq];constructor
 .intro h; exact cJ.1 (by omega)
 .intro h; rw[h]
end
section
open Go.RowKit
variable {n:Nat} {p:Nat->Bool}
theorem Q1(s:ByteArray)(n:Nat):(s.extract n s.size).data.toList=s.data.toList.drop n:=by
 simp;rw[bk (by simp)]
theorem any_none(h:∀i,i<n->p i=false):(aR n).any p=false:=by
 rw[br];intro x O;rw[h x (bp.1 O)]; simp
theorem any_some(i:Nat)(hi:i<n)(h:p i=true):(aR n).any p=true:=
 bu.2 ⟨i,bp.2 hi,h⟩
end
section
open Go.RowKit
def ja(x y:gu):Bool:=if x.gw=y.gw then(if gM x=gM y then cl x.name y.name else cl (gM x) (gM y))else decide (y.gw<x.gw)
end
section
open Go.RowKit
theorem Is(xs:List Wd)(j:Nat)(h:j<xs.length):(gr xs)[j]?=some (.string ⟨xs[j].toArray⟩):=kh xs j h
end
end Go.Proofs.YtocbogeoffeolaaGreatDoor
