import Derived.Below
import Derived.WalkKit
import Derived.WalkSpells
import Derived.Deep.Draws
import Derived.WalkSmall
import Derived.Test.YtocbogeoffeolaaGreatDoorProg
import Derived.WalkLawsBesides
import Derived.Deep.Light
import Derived.Deep.QuietTactic
import Derived.BigQuiet
import Derived.Deep.RegionWith
import Derived.Deep.RegionHeld
import Derived.Deep.CutRange
import Derived.Lib.FieldsP
import Derived.Laws.RangeString
import Derived.Lib.Bytealg
import Derived.Sort.Statements
import Derived.Shelf.SlSortCmp.Insertion
import Derived.Deep.RegionLaw
import Derived.Lib.ConvBytes
import Derived.Laws.IdiomStrings
import Derived.Maps.OwnSet
import Derived.Maps.RangeWalk
set_option linter.all false
set_option maxHeartbeats 8000000
set_option maxRecDepth 1000000
open List renaming getD_eq_getElem?_getD->ay,mem_filter->az,length_append->a0,mem_cons->a8,pairwise_cons->a9,getElem?_eq_getElem->aA,mem_append->aB,mem_map->aC,length_cons->aD,map_cons->aE,mem_singleton->aF,take_succ_eq_append_getElem->aG,flatMap_cons->aH,filter_append->aI,length_filter_le->aJ,exists_mem_of_ne_nil->aK,range->aL,length_nil->aM,getElem_mem->aN,cons_prefix_cons->aO,foldl_cons->aP,filter_filter->aQ,length_eq_zero_iff->aR,append_assoc->aS,nil_append->aT,map_append->aU,drop_eq_getElem_cons->aV,mem_flatMap->aW,sum_cons->aX,nodup_cons->aY,nil_prefix->aZ,append_nil->ba,take_of_length_le->bc,filter_eq_nil_iff->bd,pairwise_iff_getElem->be,nodup_append->bf,map_nil->bg,filter_congr->bh,takeWhile_append_dropWhile->bi,takeWhile_cons->bj,filter_sublist->bk,cons_append->bl,take_append_drop->bm,perm_ext_iff_of_nodup->bn,pairwise_append->bo,mem_range->bp,take_length->bq,filter_cons->br,filter_eq_self->bu,range_succ->bv,take_append_of_le_length->bw,mem_of_mem_take->bx,mem_of_mem_drop->bz,eq_nil_of_length_eq_zero->b0,take_succ_cons->bA,perm_singleton->bB,length_pos_iff->bC,foldl_append->bD,any_eq_false->bE,prefix_refl->bF,pairwise_singleton->bG,any_eq_true->bH,takeWhile_sublist->bI,dropWhile_sublist->bJ,length_map->bK,mem_append_right->bL,dropWhile_cons->bM,pairwise_map->bN,count_append->bO,not_mem_nil->bP,map_toArray->bQ,length_drop->bR,sum_append->bS,replicate->bT,getElem?_append_left->bU,findIdx?_eq_none_iff->bV,length_pos_of_mem->bW,mem_append_left->bX,length->bY,getElem_of_mem->bZ,getD_cons_zero->ca,getElem?_drop->cb,perm_middle->cc,length_take->cd,flatMap_nil->ce,flatMap_map->cf,ext_getElem->cg,prefix_nil->ch,take_take->ci,foldl_nil->cj,Nodup->ck
open Option renaming bind_eq_some_iff->cl,bind_some->cm,map_some->cn
open Nat renaming le_refl->cp,mul_le_mul_right->cq,mul_right_comm->cr,mul_left_comm->ct,zero_le->cu,lt_or_ge->cv,le_trans->cw,eq_zero_or_pos->cx,add_mul->cy,mul_assoc->cz,zero_add->c0,mul_lt_mul_of_pos_right->c4,mul_pos->c5,mul_add->c6,min_eq_left->c7,le_antisymm->c8
open Go.Op renaming bytesLess->c9
open Bool renaming and_eq_true->cA,eq_iff_iff->cB,or_eq_true->cC,or_eq_false_iff->cD,not_eq_true'->cE,eq_false_iff->cF,and_comm->cG,and_eq_false_imp->cH,false_eq_true->cI,false_or->cJ
open Go renaming maxLen->cK,TypeId->cL,wpList->cM,wpList_plain->cN,Calls->cO,run_append_own->cP,run_append_room->cQ,run_append_grow->cR,run_append_nil->cS,growslice_fits->cT,execOp->cU,cell_later->cV,run_convert_bytes_string->cW,madeCells->cX,run_underlying->cY,resolve->cZ,storeCells->da
open Option.some renaming injEq->db
open UInt8 renaming ofNat->dc,lt_iff_toNat_lt->dd,toNat_inj->de
open Int renaming tmod_eq_emod_of_nonneg->df,tdiv_eq_ediv_of_nonneg->dg,eq_ofNat_of_zero_le->di,emod_nonneg->dj
open ByteArray renaming ext->dk,size->dm,size_append->dq,data_append->dr
open Go.Builtin renaming append_->dt,firstCells->ee,zeroCells->ef,lenOf->eg,len_->ei
open Go.Lib renaming compareBytes->ej,spansFromP->en,closeSpans->eq,bytesWorld_size->er
open List.Pairwise renaming sublist->et,of_map->ev,imp_of_mem->ex
open Go.Result.ok renaming injEq->e5
open Go.World renaming setCell->e6,frozen?->e7,alloc_eq->e8,ownsRow->eC,cell?->fa,alloc->fb
open List.Perm renaming append_left->fd,eq_of_pairwise->ff,refl->fk,eq_nil->fm,append->fr
open Go.Value renaming ownBlock->fs
open Prod.mk renaming injEq->fB
open Go.IntKind renaming wrap_i64->ga
open Go.Addr renaming add_lit->gc,add->gd
open Go.Result renaming andThen->ge,andThen_ok->gg
open Array renaming getElem?_modify->gl,toList_inj->go
open Go.RowKit.Below renaming refl->gt,setCell->gv
open Classical renaming byContradiction->gx
open Go.Maps renaming string_keyed->g0,size->gA,has->gB
open Go.Proofs.Tryz renaming underlying60->h7,underlying9->h9,underlying5->h',ntmps45->hC,func45->hD
open Go.ByteArray renaming toList_eq->hE
open Go.RowKit renaming Hid->hI
open Go.Sem renaming run_pure->hJ,run_bind->hM
open Prod renaming fst->hO
namespace Go.Proofs.YtocbogeoffeolaaGreatDoor
open Go.Proofs.Tryz
section
open Go.RowKit
def fu(c:UInt8):Bool:=decide ((97<=c.toNat/\c.toNat<=122)\/(48<=c.toNat/\c.toNat<=57))
def oP(c:UInt8):Bool:=decide (32<=c.toNat/\c.toNat<=126)
def eA(l:List UInt8):Bool:=decide (l.length<=24)&&l.all oP
def rT(c:UInt8):UInt8:=if 65<=c.toNat/\c.toNat<=90 then c+32 else c
def dX(l:List UInt8):List UInt8:=l.map rT
def vZ(s:ByteArray)(k:Nat)(h:k<s.size):s.data.toList.take (k+1)=s.data.toList.take k++[s[k]]:=by
 rw[aG _];rfl
def fH(l:List UInt8):(dX l).length=l.length:=by simp[dX]
def zX(l:List UInt8)(c:UInt8):dX (l++[c])=dX l++[rT c]:=by simp[dX]
def fo(l:List UInt8):List Value:=l.map λc=>Value.int .u8 c.toNat
def qW(l:List UInt8):(fo l).length=l.length:=by simp[fo]
def Lt(c:UInt8)(h:65<=c.toNat/\c.toNat<=90):((rT c).toNat:Int)=(c.toNat:Int)+32:=by
 unfold rT;rw[if_pos h,UInt8.toNat_add];have:(32:UInt8).toNat=32:=rfl;omega
def KH(c:UInt8)(h:¬(65<=c.toNat/\c.toNat<=90)):rT c=c:=by
 unfold rT;rw[if_neg h]
def gI(l:List UInt8)(i:Nat):Bool:=fu (l.getD i 0)&&(decide (i=0) || !fu (l.getD (i-1) 0))
def vo(l:List UInt8)(i:Nat):List UInt8:=(l.drop i).takeWhile fu
def jX(l:List UInt8)(k:Nat):List (List UInt8):=((aL k).filter (gI l)).map (vo l)
def iQ(l:List UInt8):List (List UInt8):=jX l l.length
def dl(ws:List (List UInt8)):List Value:=ws.map λb=>Value.string ⟨b.toArray⟩
def dD(ws:List (List UInt8)):(dl ws).length=ws.length:=by simp[dl]
def nf(ws:List (List UInt8))(b:List UInt8):dl (ws++[b])=dl ws++[Value.string ⟨b.toArray⟩]:=by simp[dl]
def wj(l:List UInt8)(k:Nat)(h:gI l k=true):jX l (k+1)=jX l k++[vo l k]:=by
 simp[jX,bv,h]
def mL(l:List UInt8)(k:Nat)(h:gI l k=false):jX l (k+1)=jX l k:=by
 simp[jX,bv,h]
def Ko(l:List UInt8)(k:Nat):(jX l k).length<=k:=by
 unfold jX;have:=aJ (gI l) (aL k);simpa using this
def l5(s:ByteArray)(k:Nat)(h:k<s.size):s.data.toList.getD k 0=s[k]:=by
 rw[ay,aA _];rfl
def A3(l:List UInt8)(i too:Nat):Prop:=i<=too/\too<=l.length/\∀j,i<=j->j<too->fu (l.getD j 0)=true
def Bm(p:UInt8->Bool):∀(l:List UInt8)(n:Nat),n<=l.length->(∀j,j<n->p (l.getD j 0)=true)->(n=l.length\/p (l.getD n 0)=false)->l.takeWhile p=l.take n:=by
 intro l;induction l with
 |nil=>simp|cons c l Y=>
  intro n h fG O
  cases n with
  |zero=>
   rcases O with U|U
   simp at U;simp at U;simp[U]
  |succ n=>
   have U:=fG 0 (by omega);simp at U;rw[bj,U,bA];simp only[if_true];rw[Y n (by simpa using h) (λj hj=>by have:=fG (j+1) (by omega);simpa using this) ?_];rcases O with W|W
   left;simpa using W;right;simpa using W
def Iz(l:List UInt8)(i too:Nat)(h:A3 l i too)(O:too=l.length\/fu (l.getD too 0)=false):vo l i=(l.drop i).take (too-i):=by
 obtain⟨Y,h2,W⟩:=h;have U:∀j,(l.drop i).getD j 0=l.getD (i+j) 0:=by simp[ay,cb]
 refine Bm fu _ _ (by simp;omega) (λj hj=>?_) ?_;rw[U];exact W _ (by omega) (by omega);rcases O with h|h
 simp;omega;right;rw[U,show i+(too-i)=too by omega];exact h
def Gt(l:List UInt8)(k:Nat)(O:k<=l.length):A3 l k k:=⟨cp _,O,λ_ _ _=>by omega⟩
def yD(l:List UInt8)(k t:Nat)(h:A3 l k t)(W:t<l.length)(O:fu (l.getD t 0)=true):A3 l k (t+1):=
 ⟨by have:=h.1;omega,by omega,λj U Y=>by
   by_cases e:j=t;rw[e];exact O
   exact h.2.2 j U (by omega)⟩
def uW(f:ByteArray)(k t:Nat)(h:A3 f.data.toList k t)(O:t=f.size\/fu (f.data.toList.getD t 0)=false) :
  f.extract k t=⟨(vo f.data.toList k).toArray⟩:=by
 rw[Iz _ k t h (by simpa using O)];apply dk;apply go.1;simp
def D1(s:ByteArray)(k:Nat)(h:k<s.size):s[k]∈s.data.toList:=by
 exact aN _
def eO{a b:Bool}(h:a=b):Ending.returned (.bool a)=.returned (.bool b):=by rw[h]
def xW{a b:ByteArray}(h:a=b):Ending.returned (.string a)=.returned (.string b):=by rw[h]
def eI{k:IntKind}{a b:Int}(h:a=b):Ending.returned (.int k a)=.returned (.int k b):=by rw[h]
variable {v:Value} {w:World}
def fD{P:Program}(w:World){ops:Array Oper}{rest:List Oper}{o:Oper}{a:Act}{Q:Exit->Act->World->Prop}(ab:o.guard=none)(s x:Operand)(t:cL)
  (ho:o.op=.call {callee:=.builtin .append,args:=#[s,x],argTypes:=#[t,t]})
  (base:Nat) (e:cL) (i:TypeInfo) (z:Value) (bytes:Nat) (ht:P.underlying t=some (.slice e)) (hi:P.info? e=some i) (hz:i.zero=some z)
  (U:i.size=1) (ac:i.bytes=bytes) (ae:z.cells.size=1)
  (v:Value) (n:Nat) (xs:List Value) (hs:a.eval s=v) (aa:w.ownsRow base e 1 v n xs)
  (ad:Addr) (y:Value) (hx:a.eval x=.slice (some ad) 1 1) (W:w.cell? ad=some y) (h1:y.oneCell'=true)
  (O:(n+1)*bytes<=140737488355328) (af:n+1<=cK) (Y:base<=w.heap.size)
  (h:∀v' w',w'.ownsRow base e 1 v' (n+1) (xs++[y])->w.grownBy w' v.ownBlock->v'≠.slice none 0 0->cM P ops Q rest (a.put o.dst v') w'):cM P ops Q (o::rest) a w:=by
 refine wpList_append_own w ab s x t ho base e i z 1 bytes ht hi hz U ac ae (by decide) v n xs hs aa ad 1 1 [y] hx rfl ?_ ?_ af O Y ?_;intro j u hj;match j,hj with
 |0,hj=>simp at hj;subst hj;simpa[gd]using W|j+1,hj=>simp at hj
 intro u hu;simp at hu;subst hu;exact h1;intro v' w' h2 h3 h4;refine h v' w' h2 h3 ?_;intro he;have:=h4.1 he;simp at this
def iH{t:cL}:(w.alloc (.cells #[v] t)).cell? ⟨w.heap.size,0,none⟩=some v:=by
 rw[World.cell?_alloc_at _ _ _ _ rfl];rfl
def Aw:∀(l:List UInt8)(s:ByteArray),(l.map λc=>(c.toNat:Int)).foldl (λr n=>r.push (dc n.toNat)) s=⟨s.data++l.toArray⟩:=by
 intro l;induction l with
 |nil=>simp|cons c l O=>
  intro s;rw[aE,aP,O];simp
def zK{P:Program}{base u8 src O n:Nat}{l:List UInt8}(h:w.ownsRow base u8 1 v n (fo l))
  (Y:P.underlying src=some (.slice u8)) (he:P.underlying u8=some (.int .u8)) (hd:P.underlying O=some .string) :
  (convert src O v).run P w=.ok (.string ⟨l.toArray⟩) w:=by
 have h0:=h;obtain⟨U,h⟩:=h;rcases h with⟨rfl,rfl⟩|⟨g,cap,aa,rfl,_,hg,_,_,ab,ac⟩
 have:=by simpa[fo]using U
 subst this;rw[cW w src O u8 _ _ _ Y he hd];rfl;rw[cW w src O u8 _ _ _ Y he hd];have hn:n=l.length:=by rw[qW]at U;omega
 have W:=run_loadCells_list (P:=P) w _ _ (h0.cells rfl);rw[qW,<-hn]at W;have e:fo l=(l.map λc=>c.toNat).map (Value.int .u8):=by simp[fo]
 rw[e]at W;rw[run_bytesToString w _ _ _ _ W,Aw];simp
abbrev Wd:=List UInt8
def zD(t ws:List Wd)(k j:Nat):Bool:=decide ((t.drop k).take j=ws.take j)
def pU(t ws:List Wd)(k:Nat):Bool:=zD t ws k ws.length
def iK(t ws:List Wd)(k:Nat):Nat:=((aL k).filter (pU t ws)).length
def sC(t ws:List Wd):Nat:=iK t ws (t.length+1-ws.length)
def ig(O:List (List Wd))(ws:List Wd):Nat:=(O.map λt=>sC t ws).sum
def gG(O:List (List Wd)):Nat:=(O.map λt=>t.length+1).sum
def AV(t ws:List Wd)(k:Nat)(h:pU t ws k=true):iK t ws (k+1)=iK t ws k+1:=by
 simp[iK,bv,h]
def Eh(t ws:List Wd)(k:Nat)(h:pU t ws k=false):iK t ws (k+1)=iK t ws k:=by
 simp[iK,bv,h]
def Df(t ws:List Wd)(k:Nat):iK t ws k<=k:=by
 have:=aJ (pU t ws) (aL k);simpa[iK]using this
def Jc(t ws:List Wd):sC t ws<=t.length+1:=by
 have:=Df t ws (t.length+1-ws.length);unfold sC;omega
def J4(O:List (List Wd))(i:Nat)(h:i<O.length):gG (O.take (i+1))=gG (O.take i)+(O[i].length+1):=by
 unfold gG;rw[aG h,aU,bS];rfl
def LZ(O:List (List Wd))(ws:List Wd):ig O ws<=gG O:=by
 induction O with
 |nil=>simp[ig,gG]|cons t O U=>
  have h:=Jc t ws;simp only[ig,gG,aE,aX]at U⊢;omega
def Rd(w:World)(v:Value)(xs:List Value):Prop:=
 ∃a cap,v=.slice a xs.length cap/\xs.length<=cap/\cap<=cK/\∀j u,xs[j]?=some u->∃b off,a=some ⟨b,off,none⟩/\w.cell? ⟨b,off+j,none⟩=some u
def Rd.jk{w:World}{base e n:Nat}{v:Value}{xs:List Value}(h:w.ownsRow base e 1 v n xs):Rd w v xs:=by
 have U:=h;obtain⟨W,h⟩:=h;rcases h with⟨rfl,rfl⟩|⟨g,cap,Y,rfl,_,hg,hn,O,aa,ab⟩
 have:=by simpa using W
 subst this;exact⟨none,0,rfl,cp _,by omega,by simp⟩;have e:n=xs.length:=by omega
 refine⟨some _,cap,by rw[e],by omega,O,λj u hj=>⟨g,0,rfl,?_⟩⟩;have:=U.cells (g:=g) rfl j u hj
 have e2:(⟨g,0,none⟩:Addr).add j=⟨g,0+j,none⟩:=by
  unfold gd;split;rename_i h;rw[h];rfl
 rw[e2]at this;exact this
def gV(ws:List Wd)(j:Nat)(h:j<ws.length):(dl ws)[j]?=some (.string ⟨ws[j].toArray⟩):=by
 simp[dl,h]
variable {xs:List Value} {ws:List Wd} {b base cap e n:Nat} {a:Option Addr} {w':World}
def kL{P:Program}(w:World)(t O e:cL)(i:TypeInfo)(U:P.underlying t=some (.slice e))(hi:P.info? e=some i)(b:Option Addr)(n cap c:Nat)(h:n<=cap) :
  (dt #[t,t] O #[.slice b n cap,.slice none 0 c]).run P w=.ok (.slice b n cap) w:=by
 cases b<;>simp[dt,cY U,sizeOf,typeInfo,hi,eg,ee,h,da]
def dN(h:w.ownsRow base e 1 v n xs):∃a cap,v=.slice a n cap/\n<=cap:=by
 rcases h.2 with⟨rfl,rfl⟩|⟨g,cap,O,rfl,_,_,U,_⟩
 exact⟨none,0,rfl,cp _⟩;exact⟨_,cap,rfl,U⟩
def Bd{P:Program}(w:World)(base:Nat)(t ty e:cL)(i:TypeInfo)(z:Value)(bytes:Nat)(ht:P.underlying t=some (.slice e))(hi:P.info? e=some i)(hz:i.zero=some z)
  (W:i.size=1) (ab:i.bytes=bytes) (ac:z.cells.size=1)
  (v:Value) (n:Nat) (xs:List Value) (O:w.ownsRow base e 1 v n xs)
  (x:Value) (news:List Value) (hx:Rd w x news) (h1:∀u∈news,u.oneCell'=true)
  (U:(n+news.length)*bytes<=140737488355328) (ae:n+news.length<=cK) (Y:base<=w.heap.size) :
  ∃v' w',(dt #[t,t] ty #[v,x]).run P w=.ok v' w'/\w'.ownsRow base e 1 v' (n+news.length) (xs++news)/\w.grownBy w' v.ownBlock:=by
 obtain⟨a,cap,rfl,hc,hm,hr⟩:=hx
 cases a with
 |none=>
  have hn:news=[]:=by
   cases news with
   |nil=>rfl|cons u us=>obtain⟨b,off,he,_⟩:=hr 0 u rfl;simp at he
  subst hn;obtain⟨b,c,rfl,af⟩:=dN O;refine⟨_,w,kL w t ty e i ht hi b n c cap af,by simpa using O,World.grownBy.refl ..⟩
 |some ad=>
  by_cases hn:news=[];subst hn;obtain⟨v',w',h1,h2,h3,_⟩:=cP (P:=P) w base t ty e i z 1 bytes ht hi hz W ab ac (by decide) v n xs O ad 0 cap [] rfl (by simp) (by simp) (by simpa using ae) (by simpa using U) Y;exact⟨v',w',h1,h2,h3⟩
  obtain⟨b,off,he,_⟩:∃b off,some ad=some ⟨b,off,none⟩/\True:=by
   cases news with
   |nil=>exact absurd rfl hn|cons u us=>obtain⟨b,off,he,_⟩:=hr 0 u rfl;exact⟨b,off,he,trivial⟩
  simp only[db]at he;subst he
  obtain⟨v',w',h1,h2,h3,_⟩:=cP (P:=P) w base t ty e i z 1 bytes ht hi hz W ab ac (by decide) v n xs O _ _ cap news (by simp) (λj u hj=>by
   obtain⟨b',ag,he,aa⟩:=hr j u hj;obtain⟨rfl,rfl,_⟩:=he
   rw[gc];exact aa) h1 ae U Y
  exact⟨v',w',h1,h2,h3⟩
def qV{P:Program}(w:World)(base:Nat)(t ty e:cL)(i:TypeInfo)(z:Value)(bytes:Nat)(ht:P.underlying t=some (.slice e))(hi:P.info? e=some i)(hz:i.zero=some z)
  (O:i.size=1) (ac:i.bytes=bytes) (ah:z.cells.size=1)
  (v:Value) (n:Nat) (xs:List Value) (U:w.ownsRow base e 1 v n xs)
  (x:Value) (news:List Value) (hx:Rd w x news) (h1:∀u∈news,u.oneCell'=true)
  (W:(n+news.length)*bytes<=140737488355328) (ae:n+news.length<=cK) (ab:base<=w.heap.size) :
  ∃v' w',(dt #[t,t] ty #[v,x]).run P w=.ok v' w'/\w'.ownsRow base e 1 v' (n+news.length) (xs++news)/\w.grownBy w' v.ownBlock/\(v'.ownBlock=v.ownBlock\/v'.ownBlock=some w.heap.size):=by
 obtain⟨v',w',hr,h2,h3⟩:=Bd (P:=P) w base t ty e i z bytes ht hi hz O ac ah v n xs U x news hx h1 W ae ab;refine⟨v',w',hr,h2,h3,?_⟩;obtain⟨a,cap,rfl,hc,hm,ai⟩:=hx
 cases a with
 |none=>
  have hn:news=[]:=by
   cases news with
   |nil=>rfl|cons u us=>obtain⟨b,off,he,_⟩:=ai 0 u rfl;simp at he
  subst hn;obtain⟨b,c,rfl,aj⟩:=dN U;have:=kL (P:=P) w t ty e i ht hi b n c cap aj;simp only[aM]at hr;rw[this]at hr;simp only[e5]at hr;exact Or.inl (by rw[<-hr.1])
 |some ad=>
  have aa:∀j u,news[j]?=some u->w.cell? (ad.add j)=some u:=by
   intro j u hj;obtain⟨b,off,he,af⟩:=ai j u hj;simp only[db]at he;subst he;rw[gc];exact af
  have hl:news.length=news.length*i.size:=by rw[O];omega
  rcases U.2 with⟨rfl,rfl⟩|⟨g,c,ak,rfl,ao,hg,aj,ap,aq,al⟩
  by_cases am:news.length=0;have hn:=b0 am;subst hn;rcases h2.2 with⟨rfl,_⟩|⟨g',c',an,rfl,_,ar,_⟩
  exact Or.inl rfl;have:=cP (P:=P) w base t ty e i z 1 bytes ht hi hz O ac ah (by decide) _ 0 xs U ad 0 cap [] rfl (by simp) (by simp) (by simp) (by simp) ab;obtain⟨v2,w2,Y,_,_,h4⟩:=this;simp only[aM]at hr;rw[hr]at Y;simp only[e5]at Y;have:=h4.2 ⟨rfl,rfl⟩;rw[<-Y.1]at this;simp at this;have Y:=cS (P:=P) w t ty e i z ht hi hz ad _ cap news hl aa (by omega) (by simp only[cK]at ae;omega) (by rw[ac];simp only[c0]at W;omega);rw[Y]at hr;simp only[e5]at hr;exact Or.inr (by rw[<-hr.1];rfl);by_cases ag:n+news.length<=c;have Y:=cQ (P:=P) w t ty e i ht hi g n c ak hg ad _ cap news hl aa h1 ag (by rw[O];omega);rw[Y]at hr;simp only[e5]at hr;exact Or.inl (by rw[<-hr.1];rfl);have holds:=U.cells (g:=g) rfl;have Y:=cR (P:=P) w t ty e i z ht hi hz _ n c xs (by rw[O];exact U.1) holds ad _ cap news hl aa (by omega) (by simp only[cK]at ae;omega) (by rw[ac];exact cT (by omega) W);rw[Y]at hr;simp only[e5]at hr;exact Or.inr (by rw[<-hr.1];rfl)
def fM{P:Program}(w:World){ops:Array Oper}{rest:List Oper}{o:Oper}{a:Act}{Q:Exit->Act->World->Prop}(ab:o.guard=none)(s x:Operand)(t:cL)
  (ho:o.op=.call {callee:=.builtin .append,args:=#[s,x],argTypes:=#[t,t]})
  (base:Nat) (e:cL) (i:TypeInfo) (z:Value) (bytes:Nat) (ht:P.underlying t=some (.slice e)) (hi:P.info? e=some i) (hz:i.zero=some z)
  (U:i.size=1) (ac:i.bytes=bytes) (ad:z.cells.size=1)
  (v:Value) (n:Nat) (xs:List Value) (hs:a.eval s=v) (aa:w.ownsRow base e 1 v n xs)
  (y:Value) (news:List Value) (hx:a.eval x=y) (hy:Rd w y news) (h1:∀u∈news,u.oneCell'=true)
  (O:(n+news.length)*bytes<=140737488355328) (ae:n+news.length<=cK) (W:base<=w.heap.size)
  (h:∀Y w',w'.ownsRow base e 1 Y (n+news.length) (xs++news)->w.grownBy w' v.ownBlock->(Y.ownBlock=v.ownBlock\/Y.ownBlock=some w.heap.size)->cM P ops Q rest (a.put o.dst Y) w'):cM P ops Q (o::rest) a w:=by
 refine cN ab λ_ hK=>?_;obtain⟨Y,w',hr,h2,h3,h4⟩:=qV (P:=P) w base t o.type e i z bytes ht hi hz U ac ad v n xs aa y news hy h1 O ae W;unfold Oper.wp cU;simp only[ho,cZ,invoke,builtin,hM,hJ,gg,bQ,aE,bg,hs,hx,hr];exact hK _ _ (h Y w' h2 h3 h4)
def Rd.one{y:Value}(h:w.cell? ⟨b,0,none⟩=some y):Rd w (.slice (some ⟨b,0,none⟩) 1 1) [y]:=by
 refine⟨some _,1,rfl,cp _,by unfold cK;omega,λj u O=>⟨b,0,rfl,?_⟩⟩;match j,O with
 |0,O=>simp at O;subst O;exact h|j+1,O=>simp at O
def jJ:∀u∈dl ws,u.oneCell'=true:=by
 intro u O;simp only[dl,aC]at O;obtain⟨b,_,rfl⟩:=O;rfl
def Rd.take(h:Rd w (.slice a n cap) xs)(k:Nat)(hk:k<=xs.length):Rd w (.slice a k cap) (xs.take k):=by
 obtain⟨a',U,W,hc,hm,Y⟩:=h;obtain⟨rfl,rfl,rfl⟩:=W;have hl:(xs.take k).length=k:=by simp;omega
 refine⟨a,cap,by rw[hl],by omega,hm,λj u O=>Y j u ?_⟩;rw[List.getElem?_take]at O;split at O;exact O;simp at O
def Rd.QC(h:Rd w (.slice a n cap) (dl ws))(k:Nat)(O:k<=ws.length):Rd w (.slice a k cap) (dl (ws.take k)):=by
 have:=h.take k (by rw[dD];exact O);simpa[dl]using this
def Rd.drop(h:Rd w (.slice a n cap) xs)(k:Nat)(hk:k<=xs.length) :
  Rd w (.slice (if cap=k then a else a.map λx=>x.add k) (n-k) (cap-k)) (xs.drop k):=by
 obtain⟨a',W,Y,hc,hm,hr⟩:=h;obtain⟨rfl,rfl,rfl⟩:=Y;refine⟨if cap=k then a else a.map _,cap-k,by rw[bR],by simp;omega,by omega,λj u U=>?_⟩;rw[cb]at U;obtain⟨b,off,rfl,O⟩:=hr _ u U
 have aa:k+j<xs.length:=by
  by_cases h:k+j<xs.length;exact h;rw[List.getElem?_eq_none (by omega)]at U;simp at U
 refine⟨b,off+k,?_,by rw[Nat.add_assoc];exact O⟩;rw[if_neg (by omega)];simp[gc]
def Rd.yI(h:Rd w (.slice a n cap) (dl ws))(k:Nat)(O:k<=ws.length) :
  Rd w (.slice (if cap=k then a else a.map λx=>x.add k) (n-k) (cap-k)) (dl (ws.drop k)):=by
 have:=h.drop k (by rw[dD];exact O);simpa[dl]using this
def Rd.Fb{off:Nat}(h:Rd w (.slice (some ⟨b,off,none⟩) n cap) (dl ws))(k:Nat)(O:k<ws.length)(U:n<=cap)(W:n=ws.length) :
  Rd w (.slice (some ⟨b,off+k,none⟩) (n-k) (cap-k)) (dl (ws.drop k)):=by
 have:=h.yI k (by omega);rw[if_neg (by omega)]at this;simpa[gc]using this
def Rd.JI{c:Nat}(O:n=0)(U:c<=cK):Rd w (.slice a n c) []:=by
 subst O;exact⟨a,c,rfl,cu _,U,by simp⟩
def Rd.later(h:Rd w v xs)(U:∀a u,w.cell? a=some u->w'.cell? a=some u):Rd w' v xs:=by
 obtain⟨a,cap,W,Y,h2,hr⟩:=h;refine⟨a,cap,W,Y,h2,λj u hj=>?_⟩;obtain⟨b,off,e,O⟩:=hr j u hj;exact⟨b,off,e,U _ _ O⟩
def RJ{a:Addr}{u:Value}(h:w.cell? a=some u):a.block<w.heap.size:=by
 by_cases O:a.block<w.heap.size;exact O;unfold fa at h;rw[Array.getElem?_eq_none (by omega)]at h;simp at h
def Rd.below(h:Rd w v xs)(hb:Below w.heap.size w w'):Rd w' v xs:=
 h.later λ_ _ O=>cV hb O
def jW{O size:Nat}(h:w.ownsRow base e size v n xs)(hb:O<=base):w.ownsRow O e size v n xs:=by
 obtain⟨Y,U⟩:=h;refine⟨Y,?_⟩;rcases U with U|⟨g,cap,W,hv,hg,r⟩
 exact Or.inl U;exact Or.inr ⟨g,cap,W,hv,by omega,r⟩
variable {size:Nat}
def ii{w':World}(h:w.ownsRow base e size v n xs)(hb:∀k,v.ownBlock=some k->w'.heap[k]?=w.heap[k]?):w'.ownsRow base e size v n xs:=by
 obtain⟨Y,O⟩:=h;refine⟨Y,?_⟩;rcases O with O|⟨g,cap,U,rfl,W,hg,r⟩
 exact Or.inl O;exact Or.inr ⟨g,cap,U,rfl,W,by rw[hb g rfl];exact hg,r⟩
def uD{b1 b2 e1 e2 s1 s2 n1 n2:Nat}{v1 v2:Value}{x1 x2:List Value}(h1:w.ownsRow b1 e1 s1 v1 n1 x1)(h2:w.ownsRow b2 e2 s2 v2 n2 x2)(Y:e1≠e2)(k:Nat)(O:v1.ownBlock=some k)(U:v2.ownBlock=some k):False:=by
 rcases h1.2 with⟨rfl,_⟩|⟨g,cap,ac,rfl,_,hg,_⟩
 simp[fs]at O;rcases h2.2 with⟨rfl,_⟩|⟨g2,aa,ab,rfl,_,W,_⟩
 simp[fs]at U;simp only[fs,db]at O U;rw[O]at hg;rw[U,hg]at W;simp only[db,Obj.cells.injEq]at W;exact Y W.2.1
def jo(h:w.ownsRow base e size v n xs):∃a cap,v=.slice a n cap/\n<=cap:=by
 rcases h.2 with⟨rfl,rfl⟩|⟨g,cap,O,rfl,_,_,U,_⟩
 exact⟨none,0,rfl,cp _⟩;exact⟨_,cap,rfl,U⟩
variable {s:Nat}
def uc(w:World)(s:Nat)(v:Value)(n:Nat)(xs:List Value):Prop:=
 ∃a cap,v=.slice a n cap/\n<=cap/\cap<=cK/\xs.length=n*s/\∀j u,xs[j]?=some u->∃b off,a=some ⟨b,off,none⟩/\w.cell? ⟨b,off+j,none⟩=some u
def uc.jk{base e:Nat}(h:w.ownsRow base e s v n xs):uc w s v n xs:=by
 have W:=h;obtain⟨U,h⟩:=h;rcases h with⟨rfl,rfl⟩|⟨g,cap,Y,rfl,_,hg,hn,O,aa,ab⟩
 have:=b0 (by simpa using U);subst this;exact⟨none,0,rfl,cp _,by omega,by simp,by simp⟩;refine⟨some _,cap,rfl,hn,O,U,λj u hj=>⟨g,0,rfl,?_⟩⟩;have:=W.cells (g:=g) rfl j u hj;rwa [gc]at this
def uc.nil(w:World)(s:Nat):uc w s (.slice none 0 0) 0 []:=⟨none,0,rfl,cp _,by omega,by simp,by simp⟩
def uc.later{w':World}(h:uc w s v n xs)(U:∀a u,w.cell? a=some u->w'.cell? a=some u):uc w' s v n xs:=by
 obtain⟨a,cap,W,Y,h2,hl,hr⟩:=h;refine⟨a,cap,W,Y,h2,hl,λj u hj=>?_⟩;obtain⟨b,off,e,O⟩:=hr j u hj;exact⟨b,off,e,U _ _ O⟩
def qA{P:Program}(w:World)(base:Nat)(t ty e:cL)(i:TypeInfo)(z:Value)(size bytes:Nat)(ht:P.underlying t=some (.slice e))(hi:P.info? e=some i)(hz:i.zero=some z)
  (U:i.size=size) (ae:i.bytes=bytes) (ao:z.cells.size=size) (aj:0<size)
  (v:Value) (n:Nat) (xs:List Value) (O:w.ownsRow base e size v n xs)
  (x:Value) (m:Nat) (news:List Value) (hx:uc w size x m news) (h1:∀u∈news,u.oneCell'=true)
  (W:(n+m)*bytes<=140737488355328) (af:n+m<=cK) (ag:base<=w.heap.size) :
  ∃v' w',(dt #[t,t] ty #[v,x]).run P w=.ok v' w'/\w'.ownsRow base e size v' (n+m) (xs++news)/\w.grownBy w' v.ownBlock/\(v'.ownBlock=v.ownBlock\/(v'.ownBlock=some w.heap.size/\Below w.heap.size w w')):=by
 obtain⟨a,cap,rfl,hc,hm,hl,ak⟩:=hx;by_cases ap:m=0;subst ap;have hn:news=[]:=b0 (by simpa using hl);subst hn;obtain⟨b,c,rfl,ah⟩:=jo O
 have hr:(dt #[t,t] ty #[.slice b n c,.slice a 0 cap]).run P w=.ok (.slice b n c) w:=by
  cases a with
  |none=>exact kL (P:=P) w t ty e i ht hi b n c cap ah|some ad=>
   cases b<;>simp[dt,cY ht,sizeOf,typeInfo,hi,eg,ee,ah,da,loadCells,loadCellsFrom]
 exact⟨_,w,hr,by simpa using O,World.grownBy.refl _ _,Or.inl rfl⟩;have al:0<news.length:=by rw[hl];exact c5 (by omega) aj
 obtain⟨b,off,ha,_⟩:=ak 0 news[0] (aA al);subst ha
 have Y:∀j u,news[j]?=some u->w.cell? ((⟨b,off,none⟩:Addr).add j)=some u:=by
  intro j u hj;obtain⟨b',au,he,ai⟩:=ak j u hj;simp only[db,Addr.mk.injEq]at he;obtain⟨rfl,rfl,_⟩:=he;rw[gc];exact ai
 obtain⟨v',w',hr,h2,h3,_⟩:=cP (P:=P) w base t ty e i z size bytes ht hi hz U ae ao aj v n xs O ⟨b,off,none⟩ m cap news hl Y h1 af W ag;refine⟨v',w',hr,h2,h3,?_⟩;have ac:news.length=m*i.size:=by rw[U];exact hl
 rcases O.2 with⟨rfl,rfl⟩|⟨g,c,am,rfl,av,hg,ah,aw,aq,ar⟩
 have aa:=cS (P:=P) w t ty e i z ht hi hz ⟨b,off,none⟩ m cap news ac Y (by omega) (by simp only[cK]at af;omega) (by rw[ae];simp only[c0]at W;omega);rw[aa]at hr;simp only[e5]at hr;exact Or.inr ⟨by rw[<-hr.1];rfl,by rw[<-hr.2];exact((gt _ _).drew).alloc (cp _) _⟩;by_cases ab:n+m<=c;have an:n*i.size+news.length<=am.size:=by rw[ac,aq,U,<-cy];exact cq _ ab
 have aa:=cQ (P:=P) w t ty e i ht hi g n c am hg ⟨b,off,none⟩ m cap news ac Y h1 ab an;rw[aa]at hr;simp only[e5]at hr;exact Or.inl (by rw[<-hr.1];rfl);have holds:∀j u,xs[j]?=some u->w.cell? ((⟨g,0,none⟩:Addr).add j)=some u:=O.cells (g:=g) rfl;have aa:=cR (P:=P) w t ty e i z ht hi hz ⟨g,0,none⟩ n c xs (by rw[U];exact O.1) holds ⟨b,off,none⟩ m cap news ac Y (by omega) (by simp only[cK]at af;omega) (by rw[ae];exact cT (by omega) W);rw[aa]at hr;simp only[e5]at hr;exact Or.inr ⟨by rw[<-hr.1];rfl,by rw[<-hr.2];exact((gt _ _).drew).alloc (cp _) _⟩
def xC{P:Program}(w:World){ops:Array Oper}{rest:List Oper}{o:Oper}{a:Act}{Q:Exit->Act->World->Prop}(ab:o.guard=none)(s x:Operand)(t:cL)
  (ho:o.op=.call {callee:=.builtin .append,args:=#[s,x],argTypes:=#[t,t]})
  (base:Nat) (e:cL) (i:TypeInfo) (z:Value) (size bytes:Nat) (ht:P.underlying t=some (.slice e)) (hi:P.info? e=some i) (hz:i.zero=some z)
  (U:i.size=size) (ac:i.bytes=bytes) (ad:z.cells.size=size) (ae:0<size)
  (v:Value) (n:Nat) (xs:List Value) (hs:a.eval s=v) (aa:w.ownsRow base e size v n xs)
  (y:Value) (m:Nat) (news:List Value) (hx:a.eval x=y) (hy:uc w size y m news) (h1:∀u∈news,u.oneCell'=true)
  (O:(n+m)*bytes<=140737488355328) (af:n+m<=cK) (W:base<=w.heap.size)
  (h:∀Y w',w'.ownsRow base e size Y (n+m) (xs++news)->w.grownBy w' v.ownBlock->(Y.ownBlock=v.ownBlock\/(Y.ownBlock=some w.heap.size/\Below w.heap.size w w'))->cM P ops Q rest (a.put o.dst Y) w'):cM P ops Q (o::rest) a w:=by
 refine cN ab λ_ hK=>?_;obtain⟨Y,w',hr,h2,h3,h4⟩:=qA (P:=P) w base t o.type e i z size bytes ht hi hz U ac ad ae v n xs aa y m news hy h1 O af W;unfold Oper.wp cU;simp only[ho,cZ,invoke,builtin,hM,hJ,gg,bQ,aE,bg,hs,hx,hr];exact hK _ _ (h Y w' h2 h3 h4)
def Hu:(prog.info? 5).map (λi=>(i.zero,i.size,i.bytes))=some (some (.int .u8 0),1,1):=by kernel_rfl
structure dp where
 name:Wd
 gone:Bool
 text:Wd
 du:Int
 dE:Int
def qY(l:List dp)(x:Wd):Option Nat:=l.findIdx? λe=>e.name==x
def j5(later:List dp)(e:dp):Bool:=(qY later e.name).isNone
def dL(old later:List dp):List dp:=old.filter (j5 later)++later
def dv(l:List dp):List dp:=l.filter λe=>!e.gone
def uK:(prog.info? 9).map (λi=>(i.zero,i.size,i.bytes))=some (some (.string ⟨#[]⟩),1,16):=by kernel_rfl
def yM(out:List Wd)(x:Wd):Nat:=(out.takeWhile λy=>c9 y x).length
def vj(out:List Wd)(x:Wd):List Wd:=if out[yM out x]?=some x then out else out.take (yM out x)++([x]++out.drop (yM out x))
def yp(out:List Wd)(t:List Wd)(k:Nat):List Wd:=(t.take k).foldl vj out
def eV(O:List (List Wd)):List Wd:=O.foldl (λout t=>t.foldl vj out) []
def Vw(out:List Wd)(x:Wd):yM out x<=out.length:=(bI _).length_le
def Bo{α:Type}(p:α->Bool):∀(l:List α)(n:Nat)(O:n<=l.length),(∀j(h:j<n),p (l[j]'(by omega))=true)->(∀h:n<l.length,p l[n]=false)->(l.takeWhile p).length=n:=by
 intro l;induction l with
 |nil=>intro n O _ _;simp at O;simp[O]|cons c l ih=>
  intro n O U W
  cases n with
  |zero=>have:=W (by simp);simp at this;simp[this]|succ n=>
   have Y:=U 0 (by omega);simp at Y;rw[bj,Y];simp only[if_true,aD];rw[ih n (by simpa using O) (λj hj=>by have:=U (j+1) (by omega);simpa using this) (λhh=>by have:=W (by simpa using hh);simpa using this)]
def OJ(out:List Wd)(x:Wd):(vj out x).length<=out.length+1:=by
 unfold vj;split;omega;simp;omega
def Hh(O:List (List Wd))(i:Nat)(h:i<O.length):eV (O.take (i+1))=yp (eV (O.take i)) O[i] O[i].length:=by
 unfold eV yp;rw[aG h,bD,bq];rfl
def Bl(t:List Wd):∀out,(t.foldl vj out).length<=out.length+t.length:=by
 induction t with
 |nil=>simp|cons x t O=>intro out;have:=O (vj out x);have:=OJ out x;simp only[aP,aD];omega
def FK(out t:List Wd)(k:Nat):(yp out t k).length<=out.length+k:=by
 have:=Bl (t.take k) out;unfold yp;simp at this⊢;omega
def IX(O:List (List Wd))(i:Nat)(hi:i<=O.length):(eV (O.take i)).length<=gG (O.take i):=by
 induction i with
 |zero=>simp[eV]|succ i U=>
  rw[Hh O i (by omega),J4 O i (by omega)];have:=FK (eV (O.take i)) O[i] O[i].length;omega
def pe(O:List (List Wd)):Nat:=(O.map λt=>t.length).sum
def Vz(O:List (List Wd))(l:List Wd)(x:Wd):Nat:=ig O [l.getD (l.length-2) [],l.getD (l.length-1) [],x]
def Vx(O:List (List Wd))(l:List Wd)(x:Wd):Nat:=ig O [l.getD (l.length-1) [],x]
def rK(O:List (List Wd))(l:List Wd)(x:Wd):Nat×Nat:=
 if 1<l.length/\0<Vz O l x then(Vz O l x,ig O [l.getD (l.length-2) [],l.getD (l.length-1) []])
 else if 0<l.length/\0<Vx O l x then(4*Vx O l x,10*ig O [l.getD (l.length-1) []])
 else(16*ig O [x],100*pe O)
def NB(O:List (List Wd)):pe O<=gG O:=by
 induction O with
 |nil=>simp[pe,gG]|cons t O U=>simp only[pe,gG,aE,aX]at U⊢;omega
def Dg(ws:List Wd)(j:Nat)(h:j<ws.length):(dl ws)[j]?=some (.string ⟨(ws.getD j []).toArray⟩):=by
 rw[gV ws j h,ay,aA h];rfl
def Lr(n k:Int)(h:n=k)(O:0<=n)(U:n<=4611686018427387904):IntKind.i64.wrap n=k:=by
 rw[IntWalk.i64_in n (by omega),h]
abbrev Fr:=Nat×Nat
def vq(O:List Fr)(i j:Nat):Bool:=decide ((O.getD j (0,0)).1*(O.getD i (0,0)).2<(O.getD i (0,0)).1*(O.getD j (0,0)).2)
def gU(O:List Fr)(told:List Bool):Nat->Option Nat
 |0=>none|i+1=>if told.getD i false=true then gU O told i else
  match gU O told i with
  |none=>some i|some j=>if vq O i j=true then some i else some j
def yZ(O:List Fr):List Bool->Nat->List Nat
 |_,0=>[]
 |told,n+1=>match gU O told O.length with
  |none=>[]
  |some b=>b::yZ O (told.set b true) n
def Wi(O:List (List Wd))(l:List Wd):List Fr:=(eV O).map (rK O l)
def js(O:List (List Wd))(l:List Wd)(most:Nat):List Wd:=
 (yZ (Wi O l) (bT (eV O).length false) (min most (eV O).length)).map λi=>(eV O).getD i []
def CM(Y:List Fr)(told:List Bool):∀(i j:Nat),gU Y told i=some j->j<i/\told.getD j false=false:=by
 intro i;induction i with
 |zero=>intro j h;simp[gU]at h|succ i U=>
  intro j h;unfold gU at h;split at h;have:=U j h;exact⟨by omega,this.2⟩;rename_i W;split at h;simp at h;subst h;exact⟨by omega,by simpa using W⟩;rename_i j' O;split at h;simp at h;subst h;exact⟨by omega,by simpa using W⟩;simp at h;subst h;have:=U j' O;exact⟨by omega,this.2⟩
def wO(O:List Fr)(told:List Bool):∀(i:Nat),gU O told i=none->∀j,j<i->told.getD j false=true:=by
 intro i;induction i with
 |zero=>omega|succ i U=>
  intro h j Y;unfold gU at h;split at h;rename_i W;by_cases e:j=i;subst e;exact W;exact U h j (by omega);split at h;simp at h;split at h<;>simp at h
def F6(O:List Fr)(told:List Bool)(i:Nat)(h:told.getD i false=true):gU O told (i+1)=gU O told i:=by simp only[gU];rw[if_pos h]
def En(O:List Fr)(told:List Bool)(i:Nat)(h:told.getD i false=false)(U:gU O told i=none):gU O told (i+1)=some i:=by simp only[gU];rw[if_neg (by rw[h];simp),U]
def Bq(O:List Fr)(told:List Bool)(i j:Nat)(h:told.getD i false=false)(U:gU O told i=some j)(hb:vq O i j=true):gU O told (i+1)=some i:=by simp only[gU];rw[if_neg (by rw[h];simp),U];simp[hb]
def E6(O:List Fr)(told:List Bool)(i j:Nat)(h:told.getD i false=false)(U:gU O told i=some j)(hb:vq O i j=false):gU O told (i+1)=some j:=by simp only[gU];rw[U];simp[hb]
variable {c g m:Nat}
def e9(l:List Nat):List Value:=l.map λ(n:Nat)=>Value.int .i64 (n:Int)
def AG(l:List Nat):(e9 l).length=l.length:=by simp[e9]
def ja(l:List Nat)(j:Nat)(h:j<l.length):(e9 l)[j]?=some (.int .i64 (l.getD j 0)):=by
 simp[e9,ay,h]
def SY:(prog.info? 3).map (λi=>(i.zero,i.size,i.bytes))=some (some (.int .i64 0),1,8):=by kernel_rfl
def JY{w':World}(h:w.ownsRow base e 1 v n xs)(hb:Below w.heap.size w w'):w'.ownsRow base e 1 v n xs:=
 h.kept (row:=none) ⟨hb.os,hb.tape,hb.output,hb.size,λk O _=>hb.block k O⟩ (by cases v.ownBlock<;>simp)
def jy{a:Option Addr}(h:w.ownsRow base e 1 (.slice a m c) n xs)(k:Nat)(u:Value)(U:xs[k]?=some u):∃b off,a=some ⟨b,off,none⟩/\w.cell? ⟨b,off+k,none⟩=some u:=by
 obtain⟨Y,c',O,_,_,W⟩:=Rd.jk h;simp only[Value.slice.injEq]at O;rw[O.1];exact W k u U
def rD(h:w.ownsRow base e 1 (.slice (some ⟨g,0,none⟩) m c) n xs)(o:Nat):w.frozen? ⟨g,o,none⟩=false:=by
 rcases h.2 with⟨h,_⟩|⟨g',cap,O,U,_,W,_⟩
 simp at h;obtain⟨⟨rfl,_⟩,_⟩:=U;simp[e7,W]
def zv(h:w.ownsRow base e 1 (.slice (some ⟨g,0,none⟩) m c) n xs)(k:Nat)(v:Value)(hk:k<n) :
  (w.setCell ⟨g,k,none⟩ v).ownsRow base e 1 (.slice (some ⟨g,0,none⟩) m c) n (xs.set k v):=by
 obtain⟨W,Y⟩:=h;refine⟨by simpa using W,?_⟩;rcases Y with⟨h,_⟩|⟨g',cap,O,he,hb,hg,h3,h4,h5,h6⟩
 simp at h;have U:=he;obtain⟨⟨rfl,_⟩,rfl,rfl⟩:=U;refine Or.inr ⟨g,c,O.setIfInBounds k v,rfl,hb,?_,h3,h4,by simpa using h5,?_⟩;simp only[e6,gl,hg];simp;rw[Array.toList_setIfInBounds,List.take_set,h6]
def LB{b:Nat}{t:cL}(hb:b=w.heap.size):(w.alloc (.cells #[v] t)).cell? ⟨b,0,none⟩=some v:=by
 subst hb;exact iH
variable {cs:Array Value} {fz:Nat×Nat} {F G:Nat->Prop} {t:cL}
structure dw(F:Nat->Prop)(w w':World):Prop where
 os:w'.os=w.os
 tape:w'.tape=w.tape
 output:w'.output=w.output
 size:w.heap.size<=w'.heap.size
 block:∀k,k<w.heap.size->¬F k->w'.heap[k]?=w.heap[k]?
def QW(F:Nat->Prop)(w w':World):Nat->Prop:=λk=>F k\/(w.heap.size<=k/\k<w'.heap.size)
def dw.refl(F:Nat->Prop)(w:World):dw F w w:=⟨rfl,rfl,rfl,cp _,λ_ _ _=>rfl⟩
def dw.eQ(h:Below w.heap.size w w'):dw F w w':=⟨h.os,h.tape,h.output,h.size,λk O _=>h.block k O⟩
def dw.trans{a b c:World}(h:dw F a b)(k:dw G b c)(O:∀i,i<a.heap.size->G i->F i):dw F a c:=
 ⟨k.os.trans h.os,k.tape.trans h.tape,k.output.trans h.output,cw h.size k.size,λi hi hF=>by
   rw[k.block i (Nat.lt_of_lt_of_le hi h.size) (λU=>hF (O i hi U)),h.block i hi hF]⟩
def dw.mono(h:dw F w w')(hF:∀k,F k->G k):dw G w w':=⟨h.os,h.tape,h.output,h.size,λk O U=>h.block k O (λW=>U (hF k W))⟩
def eH(h:w.ownsRow base e 1 v n xs)(hb:∀k,v.ownBlock=some k->w'.heap[k]?=w.heap[k]?):w'.ownsRow base e 1 v n xs:=by
 obtain⟨Y,O⟩:=h;refine⟨Y,?_⟩;rcases O with O|⟨g,cap,U,rfl,W,hg,r⟩
 exact Or.inl O;exact Or.inr ⟨g,cap,U,rfl,W,by rw[hb g rfl];exact hg,r⟩
def dn(h:w.heap[b]?=some (.cells cs t fz))(o:Nat):w.cell? ⟨b,o,none⟩=cs[o]?:=by
 simp[fa,h]
def dO(h:w.heap[b]?=some (.cells cs t (0,0)))(o:Nat):w.frozen? ⟨b,o,none⟩=false:=by
 simp[e7,h]
def heap_set(h:w.heap[b]?=some (.cells cs t fz))(o:Nat)(v:Value):(w.setCell ⟨b,o,none⟩ v).heap[b]?=some (.cells (cs.setIfInBounds o v) t fz):=by
 simp[e6,gl,h]
def oX(h:w.heap[b]?=some (.cells cs t fz))(Y:w.ownsRow base e 1 v n xs)(O:t≠e):v.ownBlock≠some b:=by
 rcases Y.2 with⟨rfl,_⟩|⟨g,cap,aa,rfl,_,U,_⟩
 simp[fs];intro W;simp only[fs,db]at W;rw[W,h]at U;simp only[db,Obj.cells.injEq]at U;exact O U.2.1
def gq(l:List UInt8):Bool:=l.all fu&&decide (0<l.length)&&decide (l.length<=8)
def ic(ss:List (List dp)):Nat:=(ss.map λs=>s.length+1).sum
def mA(ss:List (List dp))(k:Nat):List dp:=(ss.take k).foldl dL []
def dP(ss:List (List dp))(O:List dp):List dp:=dv (dL (mA ss ss.length) O)
def C7(a b:List dp):(dL a b).length<=a.length+b.length:=by
 unfold dL;have:=aJ (j5 b) a;rw[a0];omega
def D6(ss:List (List dp))(k:Nat)(h:k<ss.length):mA ss (k+1)=dL (mA ss k) ss[k]:=by
 unfold mA;rw[aG h,bD];rfl
def yL(ss:List (List dp))(i:Nat)(h:i<ss.length):ic (ss.take (i+1))=ic (ss.take i)+(ss[i].length+1):=by
 unfold ic;rw[aG h,aU,bS];rfl
def Hb(ss:List (List dp))(i:Nat):ic (ss.take i)<=ic ss:=by
 have:ic ss=ic (ss.take i)+ic (ss.drop i):=by
  unfold ic;rw[<-bS,<-aU,bm]
 omega
def N1(ss:List (List dp)):ss.length<=ic ss:=by
 induction ss with
 |nil=>simp|cons t U O=>simp only[ic,aE,aX,aD]at O⊢;omega
def G9(ss:List (List dp))(k:Nat)(O:k<=ss.length):(mA ss k).length<=ic (ss.take k):=by
 induction k with
 |zero=>simp[mA]|succ k U=>
  rw[D6 ss k (by omega),yL ss k (by omega)];have:=C7 (mA ss k) ss[k];omega
def oR(r:Nat):Bool:=decide (128<=r) || !fu (dc r)
def Ha(c:UInt8)(h:c.toNat<128):oR c.toNat = !fu c:=by
 unfold oR;rw[decide_eq_false (by omega)];simp
def Ti(b:Wd):ByteArray:=⟨b.toArray⟩
structure VH(f:ByteArray)(pos:Nat)(st:Option Nat)(acc:List (Nat×Nat)):Prop where
 none:st=none->(acc.map λx=>f.extract x.1 x.2)=(jX f.data.toList pos).map Ti/\(pos=0\/fu (f.data.toList.getD (pos-1) 0)=false)
 some:∀a,st=some a->(acc.map λx=>f.extract x.1 x.2)++[Ti (vo f.data.toList a)]=(jX f.data.toList pos).map Ti/\a<pos/\A3 f.data.toList a pos
def CZ(l:List UInt8)(k:Nat)(h:fu (l.getD k 0)=false):gI l k=false:=by unfold gI;rw[h];rfl
def I8(l:List UInt8)(k:Nat)(h:fu (l.getD k 0)=true)(O:k=0\/fu (l.getD (k-1) 0)=false):gI l k=true:=by
 unfold gI;rw[h];rcases O with O|O
 simp[O];rw[O];simp
def NH(l:List UInt8)(k a:Nat)(O:a<k)(h:A3 l a k):gI l k=false:=by
 unfold gI;rw[h.2.2 (k-1) (by omega) (by omega),decide_eq_false (by omega)];simp
def EF(f:ByteArray)(hf:∀k(h:k<f.size),(f[k]'h).toNat<128):∀(g pos:Nat)(st:Option Nat)(acc:List (Nat×Nat)),VH f pos st acc->pos<=f.size->f.size<=pos+g->
  ((eq f (en oR f g pos st acc)).map λx=>f.extract x.1 x.2)=(iQ f.data.toList).map Ti:=by
 intro g;induction g with
 |zero=>
  intro pos st acc h h1 h2;obtain rfl:pos=f.size:=by omega
  have hw:iQ f.data.toList=jX f.data.toList f.size:=by unfold iQ;simp
  rw[hw]
  cases st with
  |none=>simpa[en,eq]using(h.none rfl).1|some a=>
   obtain⟨e,W,Y⟩:=h.some a rfl;simp only[en,eq,aU,aE,bg];rw[uW f a _ Y (Or.inl rfl)];exact e
 |succ g ih=>
  intro pos st acc h h1 h2;unfold en;by_cases O:pos<f.size;rw[if_pos O,decode_ascii f pos O (hf pos O),Ha _ (hf pos O)];have hg:=l5 f pos O;by_cases hl:fu (f[pos]'O)=true;rw[hl];have U:fu (f.data.toList.getD pos 0)=true:=by rw[hg];exact hl
  cases st with
  |none=>
   obtain⟨e,hp⟩:=h.none rfl;refine ih _ _ _ ⟨λh=>(by cases h),λa W=>?_⟩ (by omega) (by omega);obtain rfl:=by simpa using W
   have hs:=I8 _ _ U hp;rw[wj _ _ hs,aU,e];exact⟨rfl,by omega,yD _ _ _ (Gt _ _ (by simp;omega)) (by simpa using O) U⟩
  |some a=>
   obtain⟨e,W,Y⟩:=h.some a rfl;refine ih _ _ _ ⟨λh=>(by cases h),λb hb=>?_⟩ (by omega) (by omega);obtain rfl:=by simpa using hb
   rw[mL _ _ (NH _ _ _ W Y)];exact⟨e,by omega,yD _ _ _ Y (by simpa using O) U⟩
  have aa:=by simpa using hl
  rw[aa];have U:fu (f.data.toList.getD pos 0)=false:=by rw[hg];exact aa
  cases st with
  |none=>
   obtain⟨e,hp⟩:=h.none rfl;refine ih _ _ _ ⟨λ_=>?_,λa W=>(by cases W)⟩ (by omega) (by omega);rw[mL _ _ (CZ _ _ U)];exact⟨e,Or.inr (by simpa using U)⟩
  |some a=>
   obtain⟨e,W,Y⟩:=h.some a rfl;refine ih _ _ _ ⟨λ_=>?_,λa W=>(by cases W)⟩ (by omega) (by omega);rw[mL _ _ (CZ _ _ U),<-e,aU];refine⟨?_,Or.inr (by simpa using U)⟩;simp only[aE,bg];rw[uW f a pos Y (Or.inr U)];rfl
  rw[if_neg O];have:=ih pos st acc h h1 (by omega);rw[Lib.spansFromP_end _ _ _ _ _ _ O]at this;exact this
def E9(f:ByteArray)(O:∀k(h:k<f.size),(f[k]'h).toNat<128):Lib.goFieldsP oR f=(iQ f.data.toList).map Ti:=by
 refine EF f O _ 0 none [] ⟨λ_=>⟨by simp[jX],Or.inl rfl⟩,λa U=>(by cases U)⟩ (by omega) (by omega)
def Hs(ws:List Wd):(ws.map Ti).map Value.string=dl ws:=by simp[dl,Ti]
variable {l:List Wd} {x y:Wd}
def ir:∀x:Wd,c9 x x=false:=by
 intro x;induction x with
 |nil=>rfl|cons a x O=>simp[c9,O]
def G8{a b c:UInt8}(h:a<b)(k:b<c):a<c:=by
 rw[dd]at *;omega
def k9:∀x y z:Wd,c9 x y=true->c9 y z=true->c9 x z=true:=by
 intro x;induction x with
 |nil=>intro y z U O;cases z with
  |nil=>cases y<;>simp[c9]at O
  |cons=>rfl
 |cons a x W=>
  intro y z U O
  cases y with
  |nil=>simp[c9]at U|cons b y=>
   cases z with
   |nil=>simp[c9]at O|cons c z=>
    simp only[c9,cC,cA,decide_eq_true_eq,beq_iff_eq]at *;rcases U with U|⟨rfl,U⟩
    rcases O with O|⟨rfl,O⟩
    exact Or.inl (G8 U O);exact Or.inl U;rcases O with O|⟨rfl,O⟩
    exact Or.inl O;exact Or.inr ⟨rfl,W y z U O⟩
def iD:∀x y:Wd,c9 x y=true\/x=y\/c9 y x=true:=by
 intro x;induction x with
 |nil=>intro y;cases y with
  |nil=>exact Or.inr (Or.inl rfl)|cons=>exact Or.inl rfl
 |cons a x W=>
  intro y
  cases y with
  |nil=>exact Or.inr (Or.inr rfl)|cons b y=>
   simp only[c9,cC,cA,decide_eq_true_eq,beq_iff_eq];by_cases O:a<b;exact Or.inl (Or.inl O);by_cases U:b<a;exact Or.inr (Or.inr (Or.inl U))
   obtain rfl:a=b:=by
    apply de.1;rw[dd]at O U;omega
   rcases W y with h|h|h
   exact Or.inl (Or.inr ⟨rfl,h⟩);exact Or.inr (Or.inl (by rw[h]));exact Or.inr (Or.inr (Or.inr ⟨rfl,h⟩))
def BH(h:c9 x y=true):x≠y:=by
 intro e;subst e;rw[ir]at h;cases h
def qq(h:c9 x y=true):c9 y x=false:=by
 cases O:c9 y x with
 |false=>rfl|true=>have:=k9 _ _ _ h O;rw[ir]at this;cases this
abbrev mP(l:List Wd):Prop:=l.Pairwise λx y=>c9 x y=true
def mP.nodup(h:mP l):l.Nodup:=h.imp λO=>BH O
def R9(out:List Wd)(x:Wd):out.take (yM out x)=out.takeWhile λy=>c9 y x:=by
 unfold yM;induction out with
 |nil=>simp|cons a l O=>
  rw[bj];split;simp only[aD,bA,O];simp
def Lb(out:List Wd)(x:Wd):out.drop (yM out x)=out.dropWhile λy=>c9 y x:=by
 unfold yM;induction out with
 |nil=>simp|cons a l O=>
  rw[bj,bM];split;simp only[aD,List.drop_succ_cons,O];simp
def AX{p:Wd->Bool}:∀(l:List Wd),∀y∈l.takeWhile p,p y=true:=by
 intro l;induction l with
 |nil=>intro y h;simp at h|cons a l O=>
  intro y h;rw[bj]at h;split at h;rename_i U;rcases a8.1 h with rfl|h
  exact U;exact O y h;simp at h
def yE{p:Wd->Bool}:∀(l:List Wd)(y:Wd)(r:List Wd),l.dropWhile p=y::r->p y=false:=by
 intro l;induction l with
 |nil=>intro y r h;simp at h|cons a l O=>
  intro y r h;rw[bM]at h;split at h;exact O y r h;rename_i U;cases h;simpa using U
def Sp(out:List Wd)(x:Wd)(h:mP out):mP (vj out x)/\∀y,y∈vj out x↔(y=x\/y∈out):=by
 unfold vj;split
 rename_i W;refine⟨h,λy=>⟨Or.inr,λO=>?_⟩⟩;rcases O with rfl|O
 exact List.mem_of_getElem? W;exact O;rename_i W;have U:=bm (yM out x) out;have aa:out[yM out x]?=(out.drop (yM out x))[0]?:=by simp
 rw[aa]at W;rw[R9,Lb]at U⊢;rw[Lb]at W;have hA:=AX (p:=λy=>c9 y x) out;have hH:=yE (p:=λy=>c9 y x) out;generalize out.takeWhile _=A at *;generalize out.dropWhile _=B at *;subst U;obtain⟨sA,sB,ab⟩:=bo.1 h
 have hB:∀y∈B,c9 x y=true:=by
  cases B with
  |nil=>intro y O;simp at O|cons b B=>
   have h1:=hH b B rfl
   have Y:c9 x b=true:=by
    rcases iD x b with h|h|h
    exact h;subst h;simp at W;rw[h1]at h;cases h
   intro y O;rcases a8.1 O with rfl|O
   exact Y;exact k9 _ _ _ Y ((a9.1 sB).1 y O)
 refine⟨?_,λy=>?_⟩;refine bo.2 ⟨sA,?_,?_⟩;exact a9.2 ⟨hB,sB⟩;intro a ha b hb;rcases a8.1 hb with rfl|hb
 exact hA a ha;exact ab a ha b hb;simp only[aB,a8,bl,aT];constructor;rintro(h|h|h);exact Or.inr (Or.inl h);exact Or.inl h;exact Or.inr (Or.inr h);rintro(h|h|h);exact Or.inr (Or.inl h);exact Or.inl h;exact Or.inr (Or.inr h)
def DH(t:List Wd):∀out,mP out->mP (t.foldl vj out)/\∀y,y∈t.foldl vj out↔(y∈t\/y∈out):=by
 induction t with
 |nil=>intro out h;exact⟨h,by simp⟩|cons x t O=>
  intro out h;obtain⟨U,W⟩:=Sp out x h;obtain⟨Y,h4⟩:=O _ U;refine⟨Y,λy=>?_⟩;rw[aP,h4,W,a8];constructor;rintro(h|h|h);exact Or.inl (Or.inr h);exact Or.inl (Or.inl h);exact Or.inr h;rintro((h|h)|h);exact Or.inr (Or.inl h);exact Or.inl h;exact Or.inr (Or.inr h)
def BW(O:List (List Wd)):∀out,mP out->mP (O.foldl (λout t=>t.foldl vj out) out)/\∀y,y∈O.foldl (λout t=>t.foldl vj out) out↔((∃t∈O,y∈t)\/y∈out):=by
 induction O with
 |nil=>intro out h;exact⟨h,by simp⟩|cons t O U=>
  intro out h;obtain⟨W,Y⟩:=DH t out h;obtain⟨h3,h4⟩:=U _ W;refine⟨h3,λy=>?_⟩;rw[aP,h4,Y];simp only[a8,exists_eq_or_imp];constructor;rintro(h|h|h);exact Or.inl (Or.inr h);exact Or.inl (Or.inl h);exact Or.inr h;rintro((h|h)|h);exact Or.inr (Or.inl h);exact Or.inl h;exact Or.inr (Or.inr h)
def kI(O:List (List Wd)):mP (eV O):=(BW O [] List.Pairwise.nil).1
def kR(O:List (List Wd))(y:Wd):y∈eV O↔∃t∈O,y∈t:=by
 have:=(BW O [] List.Pairwise.nil).2 y;simpa[eV]using this
def xh(h:l.Nodup)(a:Wd):l.count a=if a∈l then 1 else 0:=by
 induction l with
 |nil=>simp|cons b l O=>
  obtain⟨U,W⟩:=aY.1 h;rw[List.count_cons,O W];by_cases e:b=a;subst e;simp[U];have Y:¬a=b:=λx=>e x.symm;simp[e,Y]
def D8{U:List Wd}(h:l.Nodup)(W:U.Nodup)(hm:∀a,a∈l↔a∈U):l.Perm U:=by
 rw[List.perm_iff_count];intro a;rw[xh h,xh W];by_cases O:a∈l;rw[if_pos O,if_pos ((hm a).1 O)];rw[if_neg O,if_neg (λx=>O ((hm a).2 x))]
def gr(kn:List Wd)(t:List Wd)(k:Nat):List Wd:=(t.take k).foldl (λu x=>if x∈kn\/x∈u then u else u++[x]) []
def zY(kn t:List Wd)(k:Nat)(h:k<t.length):gr kn t (k+1)=if t[k]∈kn\/t[k]∈gr kn t k then gr kn t k else gr kn t k++[t[k]]:=by
 unfold gr;rw[aG h,bD];rfl
def A5(kn t:List Wd):∀k,k<=t.length->(gr kn t k).Nodup/\(∀y,y∈gr kn t k↔(y∈t.take k/\y ∉ kn))/\(gr kn t k).length<=k:=by
 intro k;induction k with
 |zero=>simp[gr]|succ k Y=>
  intro hk;obtain⟨W,U,h3⟩:=Y (by omega);rw[zY kn t k (by omega),aG (by omega)];split
  rename_i O;refine⟨W,λy=>?_,by omega⟩;rw[U y,aB,aF];constructor;rintro⟨a,b⟩;exact⟨Or.inl a,b⟩;rintro⟨a|a,b⟩;exact⟨a,b⟩;subst a;rcases O with O|O
  exact absurd O b;exact(U _).1 O
  rename_i O;refine⟨?_,λy=>?_,by simp;omega⟩;rw[bf];refine⟨W,by simp,?_⟩;intro a ha b hb;simp at hb;subst hb;intro e;subst e;exact O (Or.inr ha);rw[aB,U y,aB,aF];constructor;rintro(⟨a,b⟩|a);exact⟨Or.inl a,b⟩;subst a;exact⟨Or.inr rfl,λx=>O (Or.inl x)⟩;rintro⟨a|a,b⟩;exact Or.inl ⟨a,b⟩;exact Or.inr a
def zc(kn:List Wd)(W:List (List Wd))(t:List Wd)(h:kn.Perm (eV W)):(kn++gr kn t t.length).Perm (eV (W++[t])):=by
 obtain⟨h1,h2,_⟩:=A5 kn t _ (cp _);have Y:=h.nodup_iff.2 (kI W).nodup;refine D8 ?_ (kI _).nodup ?_;rw[bf];refine⟨Y,h1,λa U b hb e=>?_⟩;subst e;exact((h2 _).1 hb).2 U;intro a;rw[aB,h2,kR,h.mem_iff,kR,bq];constructor;rintro(⟨t',O,U⟩|⟨U,_⟩);exact⟨t',by simp[O],U⟩;exact⟨t,by simp,U⟩;rintro⟨t',O,U⟩;rw[aB,aF]at O;rcases O with O|rfl
 exact Or.inl ⟨t',O,U⟩;by_cases hk:a∈kn;exact Or.inl ((kR W a).1 (h.mem_iff.1 hk));exact Or.inr ⟨U,λe=>hk (h.mem_iff.2 ((kR W a).2 e))⟩
variable {x y z:Fr} {K:List Wd} {sc:Wd->Fr}
def xQ(x y:Fr):Bool:=decide (y.1*x.2<x.1*y.2)
def N6(Y:0<z.2)(O:xQ x y=true)(h2:xQ y z=true):xQ x z=true:=by
 unfold xQ at *;simp only[decide_eq_true_eq]at *;have a1:=c4 O Y;by_cases hx:0<x.2;have a2:=c4 h2 hx;refine Nat.lt_of_mul_lt_mul_right (a:=y.2) ?_;have e1:z.1*x.2*y.2=z.1*y.2*x.2:=by rw[cr]
 have e2:y.1*z.2*x.2=y.1*x.2*z.2:=by rw[cr]
 have e3:x.1*z.2*y.2=x.1*y.2*z.2:=by rw[cr]
 omega;have U:x.2=0:=by omega
 have W:0<x.1:=by
  rcases cx x.1 with h|h
  rw[h]at O;simp at O;exact h
 rw[U];simpa using c5 W Y
def vz(Y:0<x.2)(O:0<y.2)(hz:0<z.2)(U:xQ y x=false)(W:xQ z y=false):xQ z x=false:=by
 unfold xQ at *;simp only[decide_eq_false_iff_not,Nat.not_lt]at *;have a1:y.1*x.2*z.2<=x.1*y.2*z.2:=cq _ U;have a2:z.1*y.2*x.2<=y.1*z.2*x.2:=cq _ W;refine Nat.le_of_mul_le_mul_right (c:=y.2) ?_ O;have e1:z.1*x.2*y.2=z.1*y.2*x.2:=by rw[cr]
 have e2:y.1*z.2*x.2=y.1*x.2*z.2:=by rw[cr]
 have e3:x.1*z.2*y.2=x.1*y.2*z.2:=by rw[cr]
 omega
def Qe(h:xQ x y=true):xQ y x=false:=by
 unfold xQ at *;simp only[decide_eq_true_eq,decide_eq_false_iff_not]at *;omega
def nd(sc:Wd->Fr)(x y:Wd):Bool:=xQ (sc x) (sc y) || (!xQ (sc y) (sc x)&&c9 x y)
def xr(sc:Wd->Fr)(x:Wd):nd sc x x=false:=by
 unfold nd;rw[ir];have:xQ (sc x) (sc x)=false:=by unfold xQ;simp
 rw[this];rfl
def tF(sc:Wd->Fr){x y z:Wd}(hx:0<(sc x).2)(hy:0<(sc y).2)(Y:0<(sc z).2)(U:nd sc x y=true)(O:nd sc y z=true):nd sc x z=true:=by
 unfold nd at *;simp only[cC,cA,cE]at *;rcases U with U|⟨U,aa⟩
 rcases O with O|⟨O,W⟩
 exact Or.inl (N6 Y U O)
 cases hh:xQ .. with
 |true=>exact Or.inl rfl|false=>
  have:=vz hy Y hx O hh;rw[this]at U;cases U
 rcases O with O|⟨O,W⟩
 cases hh:xQ .. with
 |true=>exact Or.inl rfl|false=>
  have:=vz Y hx hy hh U;rw[this]at O;cases O
 exact Or.inr ⟨vz hx hy Y U O,k9 _ _ _ aa W⟩
def Ai(sc:Wd->Fr)(x y:Wd):nd sc x y=true\/x=y\/nd sc y x=true:=by
 unfold nd;simp only[cC,cA,cE]
 cases O:xQ .. with
 |true=>exact Or.inl (Or.inl rfl)|false=>
  cases U:xQ .. with
  |true=>exact Or.inr (Or.inr (Or.inl rfl))|false=>
   rcases iD x y with h|h|h
   exact Or.inl (Or.inr ⟨rfl,h⟩);exact Or.inr (Or.inl h);exact Or.inr (Or.inr (Or.inr ⟨rfl,h⟩))
def LP(sc:Wd->Fr){x y:Wd}(h:nd sc x y=true):nd sc y x=false:=by
 unfold nd at *;simp only[cC,cA,cE,cD,Bool.and_eq_false_iff,Bool.not_eq_false']at *;rcases h with h|⟨h,O⟩
 exact⟨Qe h,Or.inl h⟩;exact⟨h,Or.inr (qq O)⟩
def Jg(O:mP K){i j:Nat}(h:i<j)(U:j<K.length):c9 (K[i]'(by omega)) K[j]=true:=be.1 O i j _ U h
def CY(i j:Nat)(hi:i<K.length)(O:j<K.length):vq (K.map sc) i j=xQ (sc K[i]) (sc K[j]):=by
 unfold vq xQ;simp[ay,hi,O]
def JK(hK:mP K)(hp:∀x∈K,0<(sc x).2)(told:List Bool):∀(m:Nat),m<=K.length->∀b,gU (K.map sc) told m=some b->∃hb:b<K.length,∀i(hi:i<K.length),i<m->told.getD i false=false->i≠b->nd sc K[b] K[i]=true:=by
 intro m;induction m with
 |zero=>intro _ b h;simp[gU]at h|succ m ih=>
  intro hm b h
  cases ht:told.getD m false with
  |true=>
   rw[F6 _ _ _ ht]at h;obtain⟨hb,hh⟩:=ih (by omega) b h;refine⟨hb,λi hi aa U Y=>?_⟩;by_cases e:i=m;subst e;rw[ht]at U;cases U;exact hh i hi (by omega) U Y
  |false=>
   cases O:gU _ told m with
   |none=>
    rw[En _ _ _ ht O]at h;obtain rfl:=by simpa using h
    refine⟨by omega,λi hi aa U Y=>?_⟩;have:=wO _ _ _ O i (by omega);rw[U]at this;cases this
   |some j=>
    obtain⟨hj,hh⟩:=ih (by omega) j O;have ab:=(CM _ _ _ _ O).1
    cases W:vq _ m j with
    |true=>
     rw[Bq _ _ _ _ ht O W]at h;obtain rfl:=by simpa using h
     refine⟨by omega,λi hi aa U Y=>?_⟩
     have h1:nd sc K[m] K[j]=true:=by
      rw[CY m j (by omega) hj]at W;unfold nd;rw[W];rfl
     by_cases e:i=j;subst e;exact h1;exact tF sc (hp _ (aN _)) (hp _ (aN _)) (hp _ (aN _)) h1 (hh i hi (by omega) U e)
    |false=>
     rw[E6 _ _ _ _ ht O W]at h;obtain rfl:=by simpa using h
     refine⟨hj,λi hi aa U Y=>?_⟩;by_cases e:i=m;subst e;rw[CY i j hi hj]at W;unfold nd;rw[W,Jg hK ab hi];simp;exact hh i hi (by omega) U Y
def Ea(hK:mP K)(hp:∀x∈K,0<(sc x).2):∀(k:Nat)(told:List Bool)(S:List Wd),told.length=K.length->S.Nodup->(S.Pairwise λx y=>nd sc x y=true)->
  (∀x,x∈S↔∃i,∃hi:i<K.length,told.getD i false=false/\K[i]=x)->(yZ (K.map sc) told k).map (λi=>K.getD i [])=S.take k:=by
 intro k;induction k with
 |zero=>simp[yZ]|succ k ih=>
  intro told S hl ag hs hm
  cases hb:gU (K.map sc) told (K.map sc).length with
  |none=>
   have fG:=wO _ _ _ hb
   have:S=[]:=by
    cases S with
    |nil=>rfl|cons x S=>
     obtain⟨i,hi,O,_⟩:=(hm x).1 (by simp);have:=fG i (by simpa using hi);rw[O]at this;cases this
   subst this;simp only[yZ,hb,bg,List.take_nil]
  |some b=>
   obtain⟨ac,U⟩:=JK hK hp told _ (by simp) b hb;have ah:=(CM _ _ _ _ hb).2;have ad:=(hm _).2 ⟨b,ac,ah,rfl⟩
   cases S with
   |nil=>simp at ad|cons x S=>
    obtain⟨ai,aj⟩:=a9.1 hs;obtain⟨ak,al⟩:=aY.1 ag;obtain⟨i0,ae,af,W⟩:=(hm x).1 (by simp)
    have ab:K[b]=x:=by
     rcases a8.1 ad with h|h
     exact h;by_cases e:i0=b;subst e;exact W;have O:=U i0 ae (by simpa using ae) af e;have Y:=ai _ h;rw[W]at O;rw[LP sc Y]at O;cases O
    simp only[yZ,hb,aE,bA];rw[ih _ S (by simpa using hl) al aj ?_];rw[<-ab,ay,aA ac];rfl;intro y
    have aa:∀i,(told.set b true).getD i false=if b=i then true else told.getD i false:=by
     intro i;by_cases e:b=i;subst e;simp[show b<told.length by omega];simp[e]
    constructor;intro hy;obtain⟨i,hi,O,Y⟩:=(hm y).1 (List.mem_cons_of_mem _ hy);refine⟨i,hi,?_,Y⟩;rw[aa];by_cases e:b=i;subst e;rw[ab]at Y;subst Y;exact absurd hy ak;rw[if_neg e];exact O;rintro⟨i,hi,O,Y⟩;rw[aa]at O;by_cases e:b=i;rw[if_pos e]at O;cases O;rw[if_neg e]at O;have am:=(hm y).2 ⟨i,hi,O,Y⟩;rcases a8.1 am with h|h
    have an:i≠b:=λx=>e x.symm;have:=U i hi (by simpa using hi) O an;rw[Y,h,ab,xr]at this;cases this;exact h
def A9(O:List (List Wd))(l:List Wd)(most:Nat)(S:List Wd)(W:∀x∈eV O,0<(rK O l x).2)(U:S.Perm (eV O))(Y:S.Pairwise λx y=>nd (rK O l) x y=true) :
  js O l most=S.take (min most (eV O).length):=by
 refine Ea (kI O) W _ _ S (by simp) (U.nodup_iff.2 (kI O).nodup) Y ?_;intro x;rw[U.mem_iff];constructor;intro h;obtain⟨i,hi,e⟩:=bZ h;exact⟨i,hi,by simp[ay,hi],e⟩;rintro⟨i,hi,_,e⟩;subst e;exact aN _
def jn(t:List Wd)(e:Nat):List (List Wd):=(aL (min e 3+1)).map λj=>(t.take e).drop (e-min e 3+j)
def jz(t:List Wd):Nat->List (List Wd)
 |0=>[]
 |e+1=>jz t e++jn t (e+1)
def fx(O:List (List Wd))(ws:List Wd):Nat:=if ws=[]then pe O else ig O ws
def Rs(t ws:List Wd):Nat:=if ws=[]then t.length else sC t ws
def Mi(O:List (List Wd))(t ws:List Wd):fx (O++[t]) ws=fx O ws+Rs t ws:=by
 unfold fx Rs;split;simp[pe];simp[ig]
def Ph(ws:List Wd):fx [] ws=0:=by unfold fx;split<;>simp[pe,ig]
def xS(n:Nat)(f:Nat->List Wd)(ws:List Wd)(k:Nat)(W:k<n)(h:∀j,j<n->f j=ws->j=k):((aL n).map f).count ws=if f k=ws then 1 else 0:=by
 have key:∀m,m<=n->((aL m).map f).count ws=if k<m/\f k=ws then 1 else 0:=by
  intro m;induction m with
  |zero=>simp|succ m Y=>
   intro hm;rw[bv,aU,bO,Y (by omega)];simp only[aE,bg,List.count_singleton];by_cases e:m=k;subst e;simp;have O:f m≠ws:=λhh=>e (h m (by omega) hh);simp only[beq_iff_eq,O,if_false];by_cases U:k<m;simp[U,show k<m+1 by omega];simp[U,show ¬k<m+1 by omega]
 rw[key n (cp _)];simp[W]
def IM(l:List (List Wd))(ws:List Wd)(h:∀x∈l,x≠ws):l.count ws=0:=by
 rw[List.count_eq_zero];intro hm;exact h ws hm rfl
def tc(t ws:List Wd)(e:Nat)(he:e<=t.length)(hw:ws.length<=3):(jn t e).count ws=if ws.length<=e/\(t.take e).drop (e-ws.length)=ws then 1 else 0:=by
 have O:∀j,((t.take e).drop (e-min e 3+j)).length=e-(e-min e 3+j):=by simp;omega
 by_cases U:ws.length<=e;unfold jn;rw[xS _ _ ws (min e 3-ws.length) (by omega)];rw[show e-min e 3+(min e 3-ws.length)=e-ws.length by omega];simp[U];intro j Y W;have:=O j;rw[W]at this;omega;rw[if_neg (by simp[U])];refine IM _ _ (λx hx=>?_);obtain⟨j,Y,rfl⟩:=aC.1 hx;intro W;have:=O j;rw[W]at this;omega
def JR(t ws:List Wd)(hw:ws.length<=3)(h1:ws≠[]):∀n,n<=t.length->(jz t n).count ws=iK t ws (n+1-ws.length):=by
 have W:1<=ws.length:=by cases ws with|nil=>exact absurd rfl h1|cons a b=>simp
 intro n;induction n with
 |zero=>rw[show 0+1-ws.length=0 by omega];simp[jz,iK]|succ n ih=>
  intro hn;simp only[jz];rw[bO,ih (by omega),tc t ws _ hn hw];by_cases O:ws.length<=n+1;rw[show n+1+1-ws.length=(n+1-ws.length)+1 by omega]
  have Y:pU t ws (n+1-ws.length)=decide ((t.take (n+1)).drop (n+1-ws.length)=ws):=by
   unfold pU zD;rw[bq,List.drop_take,show n+1-(n+1-ws.length)=ws.length by omega]
  by_cases U:(t.take (n+1)).drop (n+1-ws.length)=ws;rw[if_pos ⟨O,U⟩,AV _ _ _ (by rw[Y];exact decide_eq_true U)];rw[if_neg (λx=>U x.2),Eh _ _ _ (by rw[Y];exact decide_eq_false U)];omega;rw[if_neg (λx=>O x.1),show n+1+1-ws.length=0 by omega,show n+1-ws.length=0 by omega,Nat.add_zero]
def AJ(t:List Wd):∀n,n<=t.length->(jz t n).count []=n:=by
 intro n;induction n with
 |zero=>intro _;rfl|succ n O=>
  intro U;simp only[jz];rw[bO,O (by omega),tc t [] _ U (by simp),if_pos ⟨by simp,by simp⟩]
def PK(t ws:List Wd)(O:ws.length<=3):(jz t t.length).count ws=Rs t ws:=by
 unfold Rs;split;rename_i h;rw[h];exact AJ t _ (cp _);rename_i h;exact JR t ws O h _ (cp _)
def sE(O:List (List Wd))(ws:List Wd):fx O ws<=gG O:=by
 unfold fx;split;exact NB O;exact LZ O ws
def ox(t:List Wd)(e:Nat):(jn t e).length=min e 3+1:=by simp[jn]
def Ge(t:List Wd)(e j:Nat)(h:j<(jn t e).length):(jn t e)[j]=(t.take e).drop (e-min e 3+j):=by simp[jn]
def zU(t:List Wd):∀n,(jz t n).length<=4*n:=by
 intro n;induction n with
 |zero=>simp[jz]|succ n O=>simp only[jz,a0,ox];omega
variable {a p:Fr} {t:List Wd}
def rl(O:List (List Wd))(x:Wd):List Wd->Fr
 |[]=>(fx O [x]*4,fx O [])
 |[v]=>if fx O [v,x]=0 then(fx O [x]*4,fx O [])else(fx O [v,x]*10,fx O [v])|u::v::_=>if fx O [u,v,x]=0 then(if fx O [v,x]=0 then(fx O [x]*4,fx O [])else(fx O [v,x]*10,fx O [v]))else(fx O [u,v,x]*25,fx O [u,v])
def mU(l:List Wd):List Wd:=l.drop (l.length-2)
def MZ(l:List Wd):(mU l).length<=2:=by simp[mU];omega
def OI(l:List Wd):(l=[]/\mU l=[])\/(l.length=1/\mU l=[l.getD (l.length-1) []])\/(1<l.length/\mU l=[l.getD (l.length-2) [],l.getD (l.length-1) []]):=by
 unfold mU;match l with
 |[]=>exact Or.inl ⟨rfl,rfl⟩|[a]=>exact Or.inr (Or.inl ⟨rfl,rfl⟩)|a::b::r=>
  refine Or.inr (Or.inr ⟨by simp,?_⟩);have O:(a::b::r).length=r.length+2:=rfl;rw[O,show r.length+2-2=r.length by omega];have U:(a::b::r).drop _=(a::b::r)[r.length]'(by omega)::(a::b::r).drop _:=aV _;have W:(a::b::r).drop _=(a::b::r)[r.length+1]'(by simp)::(a::b::r).drop _:=aV _;have Y:(a::b::r).drop (r.length+2)=[]:=by simp
  rw[U,W,Y];simp only[ay];rw[aA _,aA _];rfl
def Iq(a p:Fr):Prop:=∃c d:Nat,(a=(c,d)/\p=(c*25,d))\/(a=(4*c,10*d)/\p=(c*10,d))\/(a=(16*c,100*d)/\p=(c*4,d))
def Iq.three(c d:Nat):Iq (c,d) (c*25,d):=⟨c,d,Or.inl ⟨rfl,rfl⟩⟩
def Iq.two(c d:Nat):Iq (4*c,10*d) (c*10,d):=⟨c,d,Or.inr (Or.inl ⟨rfl,rfl⟩)⟩
def Iq.one(c d:Nat):Iq (16*c,100*d) (c*4,d):=⟨c,d,Or.inr (Or.inr ⟨rfl,rfl⟩)⟩
def pY(O:List (List Wd))(l:List Wd)(x:Wd):Iq (rK O l x) (rl O x (mU l)):=by
 have Y:∀u v,fx O [u,v,x]=ig O [u,v,x]:=λu v=>by simp[fx]
 have n2:∀u v,fx O [u,v]=ig O [u,v]:=λu v=>by simp[fx]
 have n1:∀u,fx O [u]=ig O [u]:=λu=>by simp[fx]
 have n0:fx O []=pe O:=by simp[fx]
 unfold rK;rcases OI l with⟨rfl,e⟩|⟨h1,e⟩|⟨h2,e⟩
 exact Iq.one ..;rw[e,if_neg (by omega)];simp only[rl,n1,n2,n0];unfold Vx;by_cases U:ig O [l.getD (l.length-1) [],x]=0;rw[if_neg (by omega),if_pos U];exact Iq.one ..;rw[if_pos (by omega),if_neg U];exact Iq.two ..;rw[e];simp only[rl,n1,n2,Y,n0];unfold Vz Vx;by_cases U:ig O [l.getD (l.length-2) [],l.getD (l.length-1) [],x]=0;rw[if_neg (by omega),if_pos U];by_cases W:ig O [l.getD (l.length-1) [],x]=0;rw[if_neg (by omega),if_pos W];exact Iq.one ..;rw[if_pos (by omega),if_neg W];exact Iq.two ..;rw[if_pos (by omega),if_neg U];exact Iq.three ..
def mE(c g d:Nat):c*g*d=g*(c*d):=by rw[Nat.mul_comm c g,cz]
def ww(a b c d:Nat):a*c*(b*d)=a*b*(c*d):=Nat.mul_mul_mul_comm a c b d
def Qa{b q:Fr}(W:Iq a p)(U:Iq b q):xQ p q=xQ a b:=by
 unfold xQ;rw[decide_eq_decide];obtain⟨c,d,⟨rfl,rfl⟩|⟨rfl,rfl⟩|⟨rfl,rfl⟩⟩:=W;obtain⟨O,d',⟨rfl,rfl⟩|⟨rfl,rfl⟩|⟨rfl,rfl⟩⟩:=U;simp only[mE];omega;simp only;rw[mE O 10,mE c 25,cz 4,ct c 10];omega;simp only;rw[mE O 4,mE c 25,cz 16,ct c _];omega;obtain⟨O,d',⟨rfl,rfl⟩|⟨rfl,rfl⟩|⟨rfl,rfl⟩⟩:=U;simp only;rw[mE O 25,mE c 10,cz 4,ct O 10];omega;simp only;rw[mE O 10,mE c 10,ww 4 10,ww 4 10];omega;simp only;rw[mE O 4,mE c 10,ww 16 10,ww 4 _];omega;obtain⟨O,d',⟨rfl,rfl⟩|⟨rfl,rfl⟩|⟨rfl,rfl⟩⟩:=U;simp only;rw[mE O 25,mE c 4,cz 16,ct O _];omega;simp only;rw[mE O 10,mE c 4,ww 4 _,ww 16 10];omega;simp only;rw[mE O 4,mE c 4,ww 16 _,ww 16 100];omega
def Re(h:Iq a p):0<p.2↔0<a.2:=by
 obtain⟨c,d,⟨rfl,rfl⟩|⟨rfl,rfl⟩|⟨rfl,rfl⟩⟩:=h<;>simp
def O5(t ws:List Wd)(x:Wd)(k:Nat)(h:pU t (ws++[x]) k=true):pU t ws k=true:=by
 unfold pU zD at *;simp only[decide_eq_true_eq,bq]at *;have:=congrArg (List.take ws.length) h;rw[ci]at this;simpa using this
def wP(h:0<sC t ws):∃k,k+ws.length<=t.length/\pU t ws k=true:=by
 obtain⟨k,O⟩:=List.exists_mem_of_length_pos h;obtain⟨U,W⟩:=az.1 O;have:=bp.1 U;exact⟨k,by omega,W⟩
def xv{k:Nat}(O:k+ws.length<=t.length)(h:pU t ws k=true):0<sC t ws:=by
 exact bW (az.2 ⟨bp.2 (by omega),h⟩)
def tI{α:Type}(f:α->Nat):∀(l:List α),0<(l.map f).sum↔∃x∈l,0<f x:=by
 intro l;induction l with
 |nil=>simp|cons a l O=>
  simp only[aE,aX,a8,exists_eq_or_imp];constructor;intro h;by_cases U:0<f a;exact Or.inl U;exact Or.inr (O.1 (by omega));rintro(h|h);omega;have:=O.2 h;omega
def AF(O:List (List Wd))(ws:List Wd)(x:Wd)(h:0<ig O (ws++[x])):0<ig O ws:=by
 unfold ig at *;rw[tI]at *;obtain⟨t,U,W⟩:=h;obtain⟨k,Y,h2⟩:=wP W;simp at Y;exact⟨t,U,xv (by omega) (O5 _ _ _ _ h2)⟩
def MI(U:List (List Wd))(x:Wd):0<ig U [x]↔∃t∈U,x∈t:=by
 unfold ig;rw[tI];constructor;rintro⟨t,O,W⟩;obtain⟨k,h1,h2⟩:=wP W;refine⟨t,O,?_⟩;unfold pU zD at h2;simp only[aD,aM,decide_eq_true_eq]at h2;have:x∈(t.drop k).take (0+1):=by rw[h2];simp
 exact bz (bx this);rintro⟨t,O,Y⟩;obtain⟨k,hk,e⟩:=bZ Y;refine⟨t,O,xv (k:=k) (by simp;omega) ?_⟩;unfold pU zD;simp only[aD,aM,decide_eq_true_eq];rw[aV hk,e];rfl
def Cv(O:List (List Wd))(l:List Wd)(x:Wd)(W:x∈eV O):0<(rK O l x).2:=by
 unfold rK;split;rename_i h;exact AF O _ x h.2;split;rename_i h;have:=AF O [_] x h.2;omega;obtain⟨t,Y,U⟩:=(kR O x).1 W
 have:0<pe O:=by
  unfold pe;rw[tI];exact⟨t,Y,bW U⟩
 omega
def R6(O:List (List Wd))(l:List Wd)(x:Wd)(U:x∈eV O):0<(rl O x (mU l)).2:=(Re (pY O l x)).2 (Cv O l x U)
def MF(O:List (List Wd))(x:Wd):fx O [x]=0↔x ∉ eV O:=by
 have h:=MI O x;rw[kR];have e:fx O [x]=ig O [x]:=by simp[fx]
 constructor;intro U W;have:=h.2 W;omega;intro W;rcases cx _ with U|U
 exact U;exact absurd (h.1 U) W
def Tj(O:List (List Wd))(x:Wd)(l:List Wd):(rl O x l).1<=25*gG O/\(rl O x l).2<=gG O:=by
 have h:=sE O;match l with
 |[]=>have:=h [x];have:=h [];simp only[rl];omega|[v]=>
  have:=h [x];have:=h [];have:=h [v,x];have:=h [v];simp only[rl];split<;>simp only<;>omega
 |u::v::_=>
  have:=h [x];have:=h [];have:=h [v,x];have:=h [v];have:=h [u,v,x];have:=h [u,v];simp only[rl];split;split<;>simp only<;>omega;omega
open Go.Sort Go.Shelf
def AP(O:List (List Wd))(l:List Wd)(x:Wd):Fr:=if x∈eV O then rl O x (mU l)else(0,1)
def IV(O:List (List Wd))(l:List Wd)(x:Wd)(h:x∈eV O):AP O l x=rl O x (mU l):=by unfold AP;rw[if_pos h]
def sD(O:List (List Wd))(l:List Wd)(x:Wd):0<(AP O l x).2:=by
 unfold AP;split;rename_i h;exact R6 O l x h;exact Nat.one_pos
def PM(O:List (List Wd))(l:List Wd)(x:Wd):(AP O l x).1<=25*gG O/\(AP O l x).2<=gG O+1:=by
 unfold AP;split;have:=Tj O x (mU l);omega;omega
def Ad(a b:Nat):Int:=if a<b then -1 else if b<a then 1 else 0
def Uz(sc:Wd->Fr)(x y:Wd):Int:=if Ad ((sc y).1*(sc x).2) ((sc x).1*(sc y).2)≠0 then Ad ((sc y).1*(sc x).2) ((sc x).1*(sc y).2)else ej x y
def RL:∀x y:Wd,(ej x y<0)↔c9 x y=true:=by
 intro x;induction x with
 |nil=>intro y;cases y<;>simp[ej,c9]
 |cons a x Y=>
  intro y
  cases y with
  |nil=>simp[ej,c9]|cons b y=>
   unfold ej c9;by_cases O:a<b;simp[O];by_cases U:b<a
   have W:a≠b:=by
    intro e;subst e;exact O U
   simp[O,U,W]
   have he:a=b:=by
    apply de.1;rw[dd]at O U;omega
   subst he;simp[O,Y]
def EA(sc:Wd->Fr)(x y:Wd):ltOf (Uz sc) x y=nd sc x y:=by
 unfold ltOf Uz nd xQ Ad;by_cases O:(sc y).1*(sc x).2<(sc x).1*(sc y).2;simp[O];by_cases U:(sc x).1*(sc y).2<(sc y).1*(sc x).2;simp[O,U];simp only[O,U,if_false,ne_eq,not_true_eq_false,decide_false,cJ,Bool.not_false,Bool.true_and];rw[cB,decide_eq_true_eq];exact RL x y
def RN(O:List (List Wd))(l:List Wd):SWO (ltOf (Uz (AP O l))) where
 irrefl x:=by rw[EA];exact xr _ x
 trans x y z h1 h2:=by rw[EA]at *;exact tF _ (sD O l x) (sD O l y) (sD O l z) h1 h2
 ntrans x y z h1 h2:=by
  rw[EA]at *
  cases U:nd (AP O l) x z with
  |false=>rfl|true=>
   rcases Ai (AP O l) x y with h|h|h
   rw[h1]at h;cases h;subst h;rw[h2]at U;cases U;have:=tF _ (sD O l y) (sD O l x) (sD O l z) h U;rw[h2]at this;cases this
def O4(O:List (List Wd))(l:List Wd)(x y:Wd)(U:x∈eV O)(W:y∈eV O):nd (AP O l) x y=nd (rK O l) x y:=by
 unfold nd;rw[IV O l x U,IV O l y W,Qa (pY O l x) (pY O l y),Qa (pY O l y) (pY O l x)]
def yT(O:List (List Wd))(l kn:List Wd)(most:Nat)(d':Array Wd)(hk:kn.Perm (eV O))(hp:PermIn 0 kn.toArray.size kn.toArray d')(hs:SortedIn (ltOf (Uz (AP O l))) 0 kn.toArray.size d') :
  js O l most=d'.toList.take (min most kn.length):=by
 obtain⟨p1,_,p3⟩:=hp
 have eL:=by
  have e1:d'.extract 0 kn.toArray.size=d':=by
   rw[<-p1];simp
  have e2:kn.toArray.extract 0 kn.toArray.size=kn.toArray:=by simp
  rw[e1,e2]at p3;exact p3.trans hk
 rw[A9 O l most _ (λx hx=>Cv O l x hx) eL ?_,hk.length_eq];rw[be];intro i j hi hj W;have aa:d'.toList.length=kn.toArray.size:=by simpa using p1
 have h:=hs i j (cu _) W (by omega);rw[EA]at h
 have gi:d'[i]! = d'.toList[i]:=by
  rw[getElem!_pos d' i _];rfl
 have gj:d'[j]! = d'.toList[j]:=by
  rw[getElem!_pos d' j _];rfl
 rw[gi,gj]at h;have mi:=eL.mem_iff.1 (aN hi);have mj:=eL.mem_iff.1 (aN hj);rw[O4 O l _ _ mj mi]at h;have Y:=eL.nodup_iff.2 (kI O).nodup;rcases Ai .. with U|U|U
 exact U;exfalso;have:=be.1 Y i j hi hj W;exact this U;rw[h]at U;cases U
end
section
open Go.RowKit
variable {l m:List dp} {S T:List Wd} {α:Type} {q:Wd}
def dG(e:dp):Wd:=dX e.text
def rk(s p:Wd):Bool:=decide (p <+: s)
def nR(s p:Wd):rk s p=true↔p <+: s:=by simp[rk]
def KM(s p:Wd):rk s p=(decide (p.length<=s.length)&&(s.take p.length==p)):=by
 rw[cB,nR,cA,decide_eq_true_iff,beq_iff_eq,List.prefix_iff_eq_take];constructor;intro h;refine⟨?_,h.symm⟩;have:=congrArg bY h;simp at this;omega;intro h;exact h.2.symm
def tL:Wd->Wd->Wd
 |a::u,b::bs=>if a=b then a::tL u bs else []|_,_=>[]
def se:∀a b:Wd,tL a b <+: a
 |[],b=>by cases b<;>exact bF _
 |a::u,[]=>aZ|a::u,b::bs=>by
  unfold tL;split;exact aO.2 ⟨rfl,se u bs⟩;exact aZ
def qv:∀a b:Wd,tL a b <+: b
 |[],b=>by cases b<;>exact aZ
 |a::u,[]=>bF _|a::u,b::bs=>by
  unfold tL;split;rename_i h;subst h;exact aO.2 ⟨rfl,qv u bs⟩;exact aZ
def sF:∀(a b r:Wd),r <+: a->r <+: b->r <+: tL a b
 |[],b,r,h,_=>by have:=ch.1 h;subst this;exact aZ
 |a::u,[],r,_,h=>by have:=ch.1 h;subst this;exact aZ
 |a::u,b::bs,[],_,_=>aZ|a::u,b::bs,c::r,U,W=>by
  have g1:=aO.1 U;have O:=aO.1 W;unfold tL;rw[if_pos (g1.1.symm.trans O.1)];exact aO.2 ⟨g1.1,sF u bs r g1.2 O.2⟩
def Nt:List Wd->Wd
 |[]=>[]
 |a::u=>u.foldl tL a
def tu(q:Wd)(S:List Wd):Prop:=(∀s∈S,q <+: s)/\∀r:Wd,(∀s∈S,r <+: s)->r <+: q
def KI:∀(u:List Wd)(a:Wd),tu (u.foldl tL a) (a::u)
 |[],a=>⟨λs O=>by simp at O;subst O;exact bF _,λr h=>h a (by simp)⟩
 |b::u,a=>by
  have U:=KI u (tL a b)
  refine⟨λs O=>?_,λr h=>?_⟩;have W:=U.1 (tL a b) (by simp);simp only[a8]at O;rcases O with rfl|rfl|O
  exact W.trans (se ..);exact W.trans (qv ..);exact U.1 s (by simp[O]);refine U.2 r (λs O=>?_);simp only[a8]at O;rcases O with rfl|O
  exact sF _ _ _ (h a (by simp)) (h b (by simp));exact h s (by simp[O])
def xX(h:S≠[]):tu (Nt S) S:=by
 cases S with
 |nil=>exact absurd rfl h|cons a u=>exact KI u a
def tu.one{p:Wd}(O:tu p S)(U:tu q S):p=q:=
 (U.2 p O.1).eq_of_length (c8 (U.2 p O.1).length_le (O.2 q U.1).length_le)
def KN(h:S≠[])(O:tu q S):Nt S=q:=(xX h).one O
def tu.congr(h:∀s,s∈S↔s∈T)(U:tu q S):tu q T:=
 ⟨λs O=>U.1 s ((h s).2 O),λr W=>U.2 r (λs O=>W s ((h s).1 O))⟩
def IR(h:∀s,s∈S↔s∈T):Nt S=Nt T:=by
 by_cases e:S=[];subst e
 have:T=[]:=by
  cases T with
  |nil=>rfl|cons a T=>exact absurd ((h a).2 (by simp)) (by simp)
 rw[this]
 exact((xX e).congr h).one (xX (λO=>by
  subst O
  cases S with
  |nil=>exact e rfl|cons a S=>exact absurd ((h a).1 (by simp)) (by simp)))
def Cc(a b:dp):Bool:=c9 a.name b.name
def uP(out:List dp)(x:dp):List dp:=out.takeWhile (λy=>Cc y x)++x::out.dropWhile (λy=>Cc y x)
def eW(l:List dp):List dp:=l.foldl uP []
def lA(l:List dp):Prop:=l.Pairwise λa b=>Cc b a=false
def jm(l:List dp):Prop:=l.Pairwise λa b=>Cc a b=true
def Gz(q:α->Bool)(A B:List α)(O:∀a∈A,q a=true)(U:∀b∈B,q b=false):(A++B).takeWhile q=A/\(A++B).dropWhile q=B:=by
 induction A with
 |nil=>
  cases B with
  |nil=>simp|cons b B=>have:=U b (by simp);simp[this]
 |cons a A W=>
  have Y:=O a (by simp);have:=W (λx hx=>O x (by simp[hx]));simp[Y,this.1,this.2]
def QI{p:α->Bool}:∀(l:List α)(y:α),y∈l.takeWhile p->p y=true:=by
 intro l;induction l with
 |nil=>intro y h;simp at h|cons a l O=>
  intro y h;rw[bj]at h;split at h;rename_i U;rcases a8.1 h with rfl|h
  exact U;exact O y h;simp at h
def K3{p:α->Bool}:∀(l:List α)(y:α)(r:List α),l.dropWhile p=y::r->p y=false:=by
 intro l;induction l with
 |nil=>intro y r h;simp at h|cons a l O=>
  intro y r h;rw[bM]at h;split at h;exact O y r h;rename_i U;cases h;simpa using U
def Sl{x y z:dp}(U:Cc y x=false)(W:Cc z y=false):Cc z x=false:=by
 unfold Cc at *
 cases h:c9 .. with
 |false=>rfl|true=>
  rcases iD .. with O|O|O
  rw[k9 _ _ _ O h]at U;cases U;rw[O,h]at U;cases U;rw[O]at W;cases W
def BK(out:List dp)(x:dp)(h:lA out):∃A B,out=A++B/\uP out x=A++x::B/\(∀a∈A,Cc a x=true)/\∀b∈B,Cc b x=false:=by
 refine⟨out.takeWhile _,out.dropWhile _,(bi).symm,rfl,λa U=>QI out a U,λb hb=>?_⟩;have W:lA (out.dropWhile (λy=>Cc y x)):=et (bJ _) h;have Y:=K3 (p:=λy=>Cc y x) out;generalize out.dropWhile _=B at *
 cases B with
 |nil=>simp at hb|cons c B=>
  have O:=Y c B rfl;simp only[a8]at hb;rcases hb with rfl|hb
  exact O;exact Sl O (List.rel_of_pairwise_cons W hb)
def As(out:List dp)(x:dp)(h:lA out):lA (uP out x):=by
 obtain⟨A,B,rfl,U,W,Y⟩:=BK out x h;rw[U];unfold lA at *;rw[bo]at h⊢;refine⟨h.1,a9.2 ⟨λb hb=>Y b hb,h.2.1⟩,λa O b hb=>?_⟩;simp only[a8]at hb;rcases hb with rfl|hb
 exact qq (W a O);exact h.2.2 a O b hb
def DQ(l:List dp):∀out,lA out->lA (l.foldl uP out):=by
 induction l with
 |nil=>intro out h;exact h|cons x l O=>intro out h;exact O _ (As out x h)
def Dz(l:List dp):lA (eW l):=DQ l [] List.Pairwise.nil
def Qp(out:List dp)(x:dp):(uP out x).Perm (x::out):=by
 refine cc.trans (List.Perm.cons x ?_);rw[bi]
def JQ(l:List dp):∀out,(l.foldl uP out).Perm (l++out):=by
 induction l with
 |nil=>intro out;exact fk _|cons x l O=>
  intro out;refine(O _).trans ?_;refine(fd l (Qp out x)).trans ?_;exact cc
def fL(l:List dp):(eW l).Perm l:=by have:=JQ l [];rw[ba]at this;exact this
def nz{e:dp}:e∈eW l↔e∈l:=(fL l).mem_iff
def Ms(l:List dp):(eW l).length=l.length:=(fL l).length_eq
def IC(p:dp->Bool)(out:List dp)(x:dp)(h:lA out):(uP out x).filter p=if p x=true then uP (out.filter p) x else out.filter p:=by
 obtain⟨A,B,rfl,W,Y,h4⟩:=BK out x h;rw[W];have hA:∀a∈A.filter p,(λy=>Cc y x) a=true:=λa O=>Y a (az.1 O).1;have hB:∀a∈B.filter p,(λy=>Cc y x) a=false:=λa O=>h4 a (az.1 O).1;have U:=Gz _ _ _ hA hB;rw[aI,aI,br];split;unfold uP;rw[U.1,U.2];rfl
def Er(p:dp->Bool)(l:List dp):∀out,lA out->(l.foldl uP out).filter p=(l.filter p).foldl uP (out.filter p):=by
 induction l with
 |nil=>intro out _;rfl|cons x l O=>
  intro out h;rw[aP,O _ (As out x h),IC p out x h,br];split;rfl;rfl
def lE(p:dp->Bool)(l:List dp):(eW l).filter p=eW (l.filter p):=Er p l [] List.Pairwise.nil
def Sf(out:List dp)(x:dp)(h:∀a∈out,Cc a x=true):uP out x=out++[x]:=by
 have:=Gz _ out [] h (by simp);rw[ba]at this;unfold uP;rw[this.1,this.2]
def Dv(l:List dp):∀out,jm (out++l)->l.foldl uP out=out++l:=by
 induction l with
 |nil=>simp|cons x l O=>
  intro out h;have U:=(bo.1 h).2.2;rw[aP,Sf out x (λa W=>U a W x (by simp)),O];simp;simpa using h
def uF(l:List dp)(h:jm l):eW l=l:=by simpa[eW]using Dv l [] (by simpa using h)
def Mb(h:lA l)(U:(l.map dp.name).Nodup):jm l:=by
 rw[ck,bN]at U;refine(h.and U).imp ?_;rintro a b ⟨W,Y⟩;unfold Cc at *;rcases iD .. with O|O|O
 exact O;exact absurd O Y;rw[O]at W;cases W
def ni(l:List dp)(O:(l.map dp.name).Nodup):jm (eW l):=
 Mb (Dz l) (((fL l).map _).nodup_iff.2 O)
def jm.nodup(h:jm l):(l.map dp.name).Nodup:=by
 rw[ck,bN];exact h.imp (λh=>BH h)
def Jm(O:jm l)(hm:jm m)(h:l.Perm m):l=m:=by
 refine ff (le:=λa b=>Cc a b=true) ?_ O hm h;intro a b _ _ U h2;have:=qq U;unfold Cc at h2;rw[h2]at this;cases this
def GA(O:(l.map dp.name).Nodup)(h:l.Perm m):eW l=eW m:=
 Jm (ni l O) (ni m ((h.map _).nodup_iff.1 O)) (((fL l).trans h).trans (fL m).symm)
variable {p s:Wd}
def u8(n:Int):UInt8:=dc (n % 256).toNat
def dC(s:Wd):Wd:=u8 s.length::s
def eR(n:Int):Wd:=[u8 (n.tdiv 65536),u8 ((n.tdiv 256).tmod 256),u8 (n.tmod 256)]
def ku(e:dp):Wd:=dC e.name++(dC e.text++(eR e.du++[u8 e.dE]))
def fP(l:List dp):Int:=l.foldl (λg e=>if g<e.du then e.du else g) 0
def Uh(l:List dp)(p:Wd):List dp:=l.filter λe=>rk (dG e) p
def jG(l:List dp)(p:Wd):List dp:=l.filter λe=>dG e==p
def jg(G:List dp)(p:Wd)(c:UInt8):List dp:=G.filter λe=>rk (dG e) (p++[c])
def lJ:List UInt8:=(aL 256).map dc
def iY(G:List dp)(p:Wd):List UInt8:=lJ.filter λc=>!(jg G p c).isEmpty
def jS(H:List dp):Wd:=Nt (H.map dG)
def jr:Nat->Wd->List dp->Wd
 |0,_,_=>[]
 |f+1,p,G=>eR (fP G)++(u8 (jG G p).length::((jG G p).flatMap ku++(u8 (iY G p).length::(iY G p).flatMap λc=>dC ((jS (jg G p c)).drop p.length)++jr f (jS (jg G p c)) (jg G p c))))
def jq(p s:Wd)(c:UInt8):p++[c] <+: s↔p <+: s/\p.length<s.length/\s.getD p.length 0=c:=by
 constructor;rintro⟨t,rfl⟩;simp[ay];rintro⟨⟨t,rfl⟩,O,U⟩
 cases t with
 |nil=>simp at O|cons d t=>
  subst U;exact⟨t,by simp⟩
def zI(h:p <+: s)(U:s≠p):p.length<s.length:=by
 rcases cv .. with O|O
 exact O;exact absurd (h.eq_of_length (c8 h.length_le O)).symm U
def uZ(h:p <+: s)(i:Nat)(hi:i<p.length):s.getD i 0=p.getD i 0:=by
 obtain⟨t,rfl⟩:=h;rw[ay,ay,bU hi]
def Lh{e:dp}:e∈Uh l p↔e∈l/\p <+: dG e:=by simp[Uh,nR]
def tG(l:List dp)(p:Wd)(c:UInt8):jg l p c=Uh l (p++[c]):=rfl
def o8{H:List dp}(h:H≠[]):tu (jS H) (H.map dG):=xX (by simpa using h)
def Gp(h:Uh l p≠[]):p <+: jS (Uh l p):=
 (o8 h).2 p (λs O=>by
  obtain⟨e,U,rfl⟩:=aC.1 O
  exact(Lh.1 U).2)
def uQ(i:Nat)(h:i<lJ.length):lJ[i]=dc i:=by simp[lJ]
def E0:lJ.length=256:=by simp[lJ]
def sy{c:UInt8}(h:c∈iY l p):Uh l (p++[c])≠[]:=by
 have:=(az.1 h).2;rw[tG]at this;intro e;rw[e]at this;simp at this
def qC{O:Type}{f g:α->List O}:∀{l:List α},(∀a∈l,f a=g a)->l.flatMap f=l.flatMap g
 |[],_=>rfl|a::l,h=>by rw[aH,aH,h a (by simp),qC (λx U=>h x (by simp[U]))]
variable {n:Nat} {bs nm r:Wd}
def qy(n:Nat)(bs:Wd):Option (Wd×Wd):=if n<=bs.length then some (bs.take n,bs.drop n)else none
def rdNum:Wd->Option (Nat×Wd)
 |[]=>none|b::r=>some (b.toNat,r)
def iI(bs:Wd):Option (Wd×Wd):=(rdNum bs).bind λx=>qy x.1 x.2
def gh:Wd->Option (Nat×Wd)
 |a::b::c::r=>some (a.toNat*65536+b.toNat*256+c.toNat,r)|_=>none
def lL(O:List Wd)(last bs:Wd):Option (Wd×Wd):=
 (iI bs).bind λx=>if gq x.1=true/\c9 last x.1=true/\x.1 ∉ O then some x else none
def ji(nm bs:Wd):Option (dp×Wd):=
 (iI bs).bind λx=>if eA x.1=true/\x.1≠[]then(gh x.2).bind λy=>if y.1<=1000000 then(rdNum y.2).bind λz=>some (⟨nm,false,x.1,y.1,z.1⟩,z.2)else none else none
def oY:Nat->Wd->List Wd->Wd->Wd->Option (List dp×Wd)
 |0,_,_,_,bs=>some ([],bs)|n+1,path,O,last,bs=>(lL O last bs).bind λx=>(ji x.1 x.2).bind λy=>if dG y.1=path then(oY n path (O++[x.1]) x.1 y.2).bind λz=>some (y.1::z.1,z.2)else none
def oV(node:Wd->List Wd->Wd->Option (Nat×List dp×Wd)):Nat->Wd->List Wd->Int->Wd->Option (Nat×List dp×Wd)
 |0,_,_,_,bs=>some (0,[],bs)|n+1,path,O,last,bs=>(iI bs).bind λx=>if x.1≠[]/\last<((x.1.getD 0 0).toNat:Int)then
   (node (path++x.1) O x.2).bind λy=>(oV node n path (O++y.2.1.map dp.name) ((x.1.getD 0 0).toNat:Int) y.2.2).bind λz=>some (max y.1 z.1,y.2.1++z.2.1,z.2.2)else none
def lC:Nat->Wd->List Wd->Wd->Option (Nat×List dp×Wd)
 |0,_,_,_=>none|f+1,path,O,bs=>if path.length<=24 then
   (gh bs).bind λa=>(rdNum a.2).bind λb=>(oY b.1 path O [] b.2).bind λc=>(rdNum c.2).bind λd=>(oV (lC f) d.1 path (O++c.1.map dp.name) (-1) d.2).bind λe=>
    if(a.1:Int)=max (fP c.1) e.1/\(path=[]\/0<b.1\/1<d.1)then some (a.1,c.1++e.2.1,e.2.2)else none
  else none
def oU:Nat->List Wd->Wd->Wd->Option (List dp×Wd)
 |0,_,_,bs=>some ([],bs)|n+1,O,last,bs=>(lL O last bs).bind λx=>(oU n (O++[x.1]) x.1 x.2).bind λz=>some (⟨x.1,true,[],0,0⟩::z.1,z.2)
def pH(bs:Wd):Option (List dp×List dp):=
 (rdNum bs).bind λa=>(oU a.1 [] [] a.2).bind λb=>(iI b.2).bind λc=>if c.1=[]then(lC 26 [] (b.1.map dp.name) c.2).bind λd=>
  if d.2.2=[]/\0<b.1.length+d.2.1.length/\a.1<=100/\d.2.1.length<=30 then some (b.1,d.2.1)else none else none
def Lp(b:UInt8):u8 (b.toNat:Int)=b:=by
 have h:=b.toNat_lt;unfold u8;rw[show((b.toNat:Int) % 256).toNat=b.toNat by omega];simp
def tN(n:Nat)(h:n<256):(u8 (n:Int)).toNat=n:=by
 unfold u8;simp;omega
def fA(h:rdNum bs=some (n,r)):bs=u8 n::r/\n<256:=by
 cases bs with
 |nil=>simp[rdNum]at h|cons b t=>
  obtain⟨rfl,rfl⟩:=h;exact⟨by rw[Lp],b.toNat_lt⟩
def rY(n:Nat)(h:n<256)(r:Wd):rdNum (u8 n::r)=some (n,r):=by simp[rdNum,tN n h]
def fW{t:Wd}(h:iI bs=some (t,r)):bs=dC t++r/\t.length<256:=by
 unfold iI at h
 cases O:rdNum bs with
 |none=>rw[O]at h;simp at h|some x=>
  obtain⟨n,b⟩:=x;obtain⟨rfl,U⟩:=fA O;rw[O]at h;simp only[cm,qy]at h;split at h;obtain⟨rfl,rfl⟩:=h;have W:(b.take n).length=n:=by simp;omega
  refine⟨?_,by omega⟩;unfold dC;rw[W,bl,bm];simp at h
def mX(t r:Wd)(h:t.length<256):iI (dC t++r)=some (t,r):=by
 unfold iI dC;rw[bl,rY _ h];simp[qy]
def wq(n:Nat)(h:n<16777216):eR (n:Int)=[u8 ((n / 65536:Nat):Int),u8 ((n / 256 % 256:Nat):Int),u8 ((n % 256:Nat):Int)]:=by
 rfl
def iJ(h:gh bs=some (n,r)):bs=eR n++r/\n<16777216:=by
 match bs,h with
 |a::b::c::t,h=>
  obtain⟨rfl,rfl⟩:=h;have O:=a.toNat_lt;have hb:=b.toNat_lt;have U:=c.toNat_lt;refine⟨?_,by omega⟩;rw[wq _ (by omega)];rw[show(a.toNat*65536+b.toNat*256+c.toNat) / 65536=a.toNat by omega,show(a.toNat*65536+b.toNat*256+c.toNat) / 256 % 256=b.toNat by omega,show(a.toNat*65536+b.toNat*256+c.toNat) % 256=c.toNat by omega,Lp,Lp,Lp];rfl
 |[],h=>simp[gh]at h|[_],h=>simp[gh]at h|[_,_],h=>simp[gh]at h
def rE(n:Nat)(h:n<16777216)(r:Wd):gh (eR n++r)=some (n,r):=by
 rw[wq n h];simp only[bl,aT,gh];rw[tN _ (by omega),tN _ (by omega),tN _ (by omega)];congr 2;omega
def xq(l:List dp):∀g:Int,0<=g->l.foldl (λg e=>if g<e.du then e.du else g) g=max g (fP l)/\0<=fP l:=by
 induction l with
 |nil=>simp[fP];omega|cons e l O=>
  intro g hg;have U:=O (if g<e.du then e.du else g) (by split<;>omega);have W:=O (if 0<e.du then e.du else 0) (by split<;>omega);have Y:fP (e::l)=l.foldl .. := rfl;rw[Y,aP,U.1,W.1];constructor;split<;>split<;>omega;split<;>omega
def nZ(l:List dp):0<=fP l:=(xq l 0 (by omega)).2
def li(e:dp)(l:List dp):fP (e::l)=max (max 0 e.du) (fP l):=by
 have:=(xq l (if 0<e.du then e.du else 0) (by split<;>omega)).1;rw[show fP (e::l)=l.foldl .. from rfl,this];split<;>omega
def jK(l m:List dp):fP (l++m)=max (fP l) (fP m):=by
 induction l with
 |nil=>have:=nZ m;simp only[aT];rw[show fP []=0 from rfl];omega|cons e l O=>rw[bl,li,li];omega
def CO{l m:List dp}(h:l.Perm m):fP l=fP m:=by
 induction h with
 |nil=>rfl|cons e _ O=>rw[li,li,O]|swap a b l=>simp only[li];omega|trans _ _ U W=>rw[U,W]
def tC(e:dp):Prop:=e.gone=false/\gq e.name=true/\eA e.text=true/\e.text≠[]/\0<=e.du/\e.du<=1000000/\0<=e.dE/\e.dE<=255
def lh{O:List Wd}{last:Wd}(h:lL O last bs=some (nm,r)):bs=dC nm++r/\gq nm=true/\c9 last nm=true/\nm ∉ O:=by
 obtain⟨x,U,h⟩:=cl.1 h;split at h;rename_i W;simp only[db]at h;subst h;exact⟨(fW U).1,W⟩;simp at h
def Dq{e:dp}(h:ji nm bs=some (e,r)):e.name=nm/\bs=dC e.text++(eR e.du++(u8 e.dE::r))/\(gq nm=true->tC e):=by
 obtain⟨x,U,h⟩:=cl.1 h;split at h;rename_i O;obtain⟨y,W,h⟩:=cl.1 h;split at h;obtain⟨z,Y,h⟩:=cl.1 h;obtain⟨rfl,rfl⟩:=h;have h1:=fW U;have h2:=iJ W;have h3:=fA Y;refine⟨rfl,?_,λhn=>⟨rfl,hn,O.1,O.2,by simp,by simp;omega,by simp,by simp;omega⟩⟩;rw[h1.1,h2.1,h3.1];simp at h;simp at h
def Gl:∀(n:Nat)(path:Wd)(W:List Wd)(last bs:Wd)(es:List dp)(rest:Wd),oY n path W last bs=some (es,rest)->
  es.length=n/\bs=es.flatMap ku++rest/\(∀e∈es,tC e/\dG e=path/\e.name ∉ W/\c9 last e.name=true)/\jm es:=by
 intro n;induction n with
 |zero=>
  intro path W last bs es rest h;simp only[oY,db,fB]at h;obtain⟨rfl,rfl⟩:=h;exact⟨rfl,rfl,nofun,List.Pairwise.nil⟩
 |succ n ih=>
  intro path W last bs es rest h;obtain⟨x,hx,h⟩:=cl.1 h;obtain⟨y,hy,h⟩:=cl.1 h;split at h;rename_i hk;obtain⟨z,hz,h⟩:=cl.1 h;obtain⟨rfl,rfl⟩:=h;obtain⟨h1,h2,Y,h4⟩:=ih _ _ _ _ _ _ hz;have O:=lh hx;have U:=Dq hy;refine⟨by simp[h1],?_,?_,?_⟩;rw[O.1,U.2.1,h2,<-U.1];simp[ku];intro e hm;simp only[a8]at hm;rcases hm with rfl|hm
  rw[U.1];exact⟨U.2.2 O.2.1,hk,O.2.2.2,O.2.2.1⟩;obtain⟨g1,g2,g3,g4⟩:=Y e hm;exact⟨g1,g2,λhc=>g3 (by simp[hc]),k9 _ _ _ O.2.2.1 g4⟩;refine a9.2 ⟨λe hm=>?_,h4⟩;unfold Cc;rw[U.1];exact(Y e hm).2.2.2;simp at h
variable {es:List dp} {c:UInt8} {path:Wd}
def Part(f:Nat)(path:Wd)(x:UInt8×List dp):Wd:=dC ((jS x.2).drop path.length)++jr f (jS x.2) (eW x.2)
def SN(node:Wd->List Wd->Wd->Option (Nat×List dp×Wd))(f:Nat):Prop:=
 ∀(path:Wd)(O:List Wd)(bs:Wd)(g:Nat)(es:List dp)(rest:Wd),node path O bs=some (g,es,rest)->
  (∀e∈es,tC e/\path <+: dG e/\e.name ∉ O)/\(es.map dp.name).Nodup/\(g:Int)=fP es/\(path≠[]->es≠[]/\jS es=path)/\bs=jr f path (eW es)++rest
def K6(O:List (UInt8×List dp)):Prop:=O.Pairwise λa b=>a.1.toNat<b.1.toNat
def AK(path:Wd)(O:List (UInt8×List dp)):Prop:=∀x∈O,x.2≠[]/\∀e∈x.2,path++[x.1] <+: dG e
def l9(O:List (UInt8×List dp)):List dp:=O.flatMap λx=>x.2
def nodup_append{m:List dp}(O:(l.map dp.name).Nodup)(U:(m.map dp.name).Nodup)(W:∀e∈m,e.name ∉ l.map dp.name):((l++m).map dp.name).Nodup:=by
 rw[aU,bf];refine⟨O,U,λa Y b hb=>?_⟩;obtain⟨e,he,rfl⟩:=aC.1 hb;intro h;subst h;exact W e he Y
def Fh{node:Wd->List Wd->Wd->Option (Nat×List dp×Wd)}{f:Nat}(hN:SN node f):∀(n:Nat)(path:Wd)(ks:List Wd)(last:Int)(bs:Wd)(g:Nat)(es:List dp)(rest:Wd),
  oV node n path ks last bs=some (g,es,rest)->∃Y:List (UInt8×List dp),Y.length=n/\es=l9 Y/\K6 Y/\AK path Y/\(∀x∈Y,last<(x.1.toNat:Int))/\bs=Y.flatMap (Part f path)++rest/\
   (∀e∈es,tC e/\e.name ∉ ks)/\(es.map dp.name).Nodup/\(g:Int)=fP es:=by
 intro n;induction n with
 |zero=>
  intro path ks last bs g es rest h;simp only[oV,db,fB]at h;obtain⟨rfl,rfl,rfl⟩:=h;exact⟨[],rfl,rfl,List.Pairwise.nil,nofun,nofun,rfl,nofun,by simp,rfl⟩
 |succ n ih=>
  intro path ks last bs g es rest h;obtain⟨⟨t,r⟩,O,h⟩:=cl.1 h;split at h;rename_i hc;obtain⟨⟨gy,ey,ry⟩,hy,h⟩:=cl.1 h;obtain⟨⟨gz,ez,rz⟩,hz,h⟩:=cl.1 h;simp only[db,fB]at h hc;obtain⟨rfl,rfl,rfl⟩:=h;obtain⟨a1,a2,a3,a4,a5⟩:=hN _ _ _ _ _ _ hy;obtain⟨Y,b1,b2,b3,b4,b5,b6,b7,b8,b9⟩:=ih _ _ _ _ _ _ _ hz;obtain⟨ht,W⟩:=hc
  cases t with
  |nil=>exact absurd rfl ht|cons c t=>
   simp only[ca]at W b5;have aa:path++c::t≠[]:=by simp
   obtain⟨a6,a7⟩:=a4 aa;refine⟨(c,ey)::Y,by simp[b1],by rw[b2];rfl,?_,?_,?_,?_,?_,?_,?_⟩;exact a9.2 ⟨λx O=>by have:=b5 x O;show c.toNat<x.1.toNat;omega,b3⟩;intro x O;simp only[a8]at O;rcases O with rfl|O
   exact⟨a6,λe U=>List.IsPrefix.trans (⟨t,by simp⟩) (a1 e U).2.1⟩;exact b4 x O;intro x O;simp only[a8]at O;rcases O with rfl|O
   exact W;have:=b5 x O;omega;have ab:r=jr f _ _++ry:=a5;have ac:ry=Y.flatMap _++rz:=b6;rw[(fW O).1,ab,ac,aH];unfold Part;rw[a7];simp;intro e U;rw[aB]at U;rcases U with U|U
   exact⟨(a1 e U).1,(a1 e U).2.2⟩;exact⟨(b7 e U).1,λhk=>(b7 e U).2 (by simp[hk])⟩;exact nodup_append a2 b8 (λe U hm=>(b7 e U).2 (bL _ hm));rw[jK];omega
  simp at h
def Ah(h:∀e∈l,¬path++[c] <+: dG e):jg l path c=[]:=by
 unfold jg;rw[bd];intro e O hb;exact h e O ((nR ..).1 hb)
def Sz(h:∀e∈l,path++[c] <+: dG e):jg l path c=l:=by
 unfold jg;rw[bu];intro e O;exact(nR ..).2 (h e O)
def JZ(l m:List dp)(path:Wd)(c:UInt8):jg (l++m) path c=jg l path c++jg m path c:=by unfold jg;rw[aI]
def rJ{s:Wd}{d:UInt8}(O:path++[c] <+: s)(U:path++[d] <+: s):c=d:=by
 rw[<-((jq ..).1 O).2.2,((jq ..).1 U).2.2]
def QE(path:Wd):∀(O:List (UInt8×List dp)),AK path O->∀c,(∀x∈O,x.1≠c)->jg (l9 O) path c=[]:=by
 intro O W c Y;refine Ah λe he hp=>?_;obtain⟨x,U,hm⟩:=aW.1 he;exact Y x U (rJ ((W x U).2 e hm) hp)
def Oq(path:Wd):∀(O:List (UInt8×List dp)),K6 O->AK path O->∀x∈O,jg (l9 O) path x.1=x.2:=by
 intro O;induction O with
 |nil=>intro _ _ x U;simp at U|cons y O ih=>
  intro hH hU x U;have W:=a9.1 hH;have Y:AK path O:=λz hz=>hU z (by simp[hz]);rw[show l9 _=y.2++l9 O from rfl,JZ];simp only[a8]at U;rcases U with rfl|U
  rw[Sz (hU x (by simp)).2,QE path O Y _ (λz hz e=>by have:=W.1 z hz;rw[e]at this;omega),ba];rw[Ah _,ih W.2 Y x U,aT];intro e he hp;have:=rJ ((hU y (by simp)).2 e he) hp;have h2:=W.1 x U;rw[this]at h2;omega
def uG:lJ.Pairwise λa b=>a.toNat<b.toNat:=by
 rw[be];intro i j hi O U;rw[uQ,uQ];rw[E0]at hi O;simp;omega
def BE(c:UInt8):c∈lJ:=by
 exact aC.2 ⟨c.toNat,bp.2 c.toNat_lt,by simp⟩
def jQ{cs:List UInt8}(h:cs.Pairwise λa b=>a.toNat<b.toNat):cs.Nodup:=h.imp (λh e=>by rw[e]at h;omega)
def DN(p:UInt8->Bool)(cs:List UInt8)(h:cs.Pairwise λa b=>a.toNat<b.toNat)(U:∀c,p c=true↔c∈cs):lJ.filter p=cs:=by
 have O:=uG.filter p;refine ff (le:=λa b=>a.toNat<b.toNat) (λa b _ _ O W=>by omega) O h ?_;rw[bn (jQ O) (jQ h)];intro c;rw[az,<-U c];exact⟨λh=>h.2,λh=>⟨BE c,h⟩⟩
def Pz(h:∀e∈l,dG e≠path):jG l path=[]:=by
 unfold jG;rw[bd];intro e O hb;exact h e O (beq_iff_eq.1 hb)
def RS(h:∀e∈l,dG e=path):jG l path=l:=by
 unfold jG;rw[bu];intro e O;exact beq_iff_eq.2 (h e O)
def Qv{O:List (UInt8×List dp)}(h:AK path O):∀e∈l9 O,dG e≠path:=by
 intro e U W;obtain⟨x,Y,hm⟩:=aW.1 U;have:=((jq ..).1 ((h x Y).2 e hm)).2.1;rw[W]at this;omega
def Sr(h:∀e∈l,dG e=path)(c:UInt8):jg l path c=[]:=
 Ah λe O U=>by have:=((jq ..).1 U).2.1;rw[h e O]at this;omega
def yV(f:Nat)(path:Wd)(own:List dp)(O:List (UInt8×List dp))(h1:jm own)(h2:∀e∈own,dG e=path)(Y:K6 O)(W:AK path O) :
  jr (f+1) path (eW (own++l9 O))=eR (fP (own++l9 O))++(u8 own.length::(own.flatMap ku++(u8 O.length::O.flatMap (Part f path)))):=by
 have e1:jG (eW (own++l9 O)) path=own:=by
  rw[jG,lE,aI];have a:=RS h2;have b:=Pz (Qv W);unfold jG at a b;rw[a,b,ba,uF own h1]
 have e2:∀c,jg (eW (own++l9 O)) path c=eW (jg (l9 O) path c):=by
  intro c;unfold jg;rw[lE,aI];have a:=Sr h2 c;unfold jg at a;rw[a,aT]
 have e3:iY (eW (own++l9 O)) path=O.map (·.1):=by
  refine DN _ _ (bN.2 Y) (λc=>?_);rw[e2,aC];constructor;intro h;refine gx λaa=>?_;rw[QE path O W c (λx U e=>aa ⟨x,U,e⟩)]at h;simp[eW]at h;rintro⟨x,U,rfl⟩;rw[Oq path O Y W x U];have:=(W x U).1;have hl:=Ms x.2
  cases hq:eW _ with
  |nil=>rw[hq]at hl;cases h:x.2 with
   |nil=>exact absurd h this|cons a b=>rw[h]at hl;simp at hl
  |cons a b=>rfl
 rw[jr,e1,e3,CO (fL _),bK,cf];congr 4;refine qC λx U=>?_;rw[e2,Oq path O Y W x U];unfold Part
 have:jS (eW _)=jS x.2:=IR λs=>by
  rw[aC,aC];exact⟨λ⟨e,h,k⟩=>⟨e,nz.1 h,k⟩,λ⟨e,h,k⟩=>⟨e,nz.2 h,k⟩⟩
 rw[this]
def N7(h0:∀e∈es,path <+: dG e)(h:(∃e∈es,dG e=path)\/∃a∈es,∃b∈es,∃c d:UInt8,c≠d/\path++[c] <+: dG a/\path++[d] <+: dG b):es≠[]/\jS es=path:=by
 have W:es≠[]:=by
  rcases h with⟨e,U,_⟩|⟨e,U,_⟩<;>exact List.ne_nil_of_mem U
 refine⟨W,KN (by simpa using W) ⟨λs hs=>?_,λr hr=>?_⟩⟩;obtain⟨e,U,rfl⟩:=aC.1 hs;exact h0 e U;have O:=λe U=>hr _ (aC.2 ⟨e,U,rfl⟩);rcases h with⟨e,U,hk⟩|⟨a,ha,b,hb,c,d,aa,h1,h2⟩
 rw[<-hk];exact O e U;rcases cv .. with Y|Y
 have g1:=((jq ..).1 h1).2.2;have g2:=((jq ..).1 h2).2.2;rw[uZ (O a ha) _ Y]at g1;rw[uZ (O b hb) _ Y]at g2;exact absurd (g1.symm.trans g2) aa;exact List.prefix_of_prefix_length_le (O a ha) (h0 a ha) Y
def GW:∀f:Nat,SN (lC f) f:=by
 intro f;induction f with
 |zero=>intro path ks bs g es rest h;simp[lC]at h|succ f ih=>
  intro path ks bs g es rest h;unfold lC at h;split at h;obtain⟨⟨a,ra⟩,ha,h⟩:=cl.1 h;obtain⟨⟨b,rb⟩,hb,h⟩:=cl.1 h;obtain⟨⟨own,rc⟩,hc,h⟩:=cl.1 h;obtain⟨⟨d,rd⟩,hd,h⟩:=cl.1 h;obtain⟨⟨gk,ek,re⟩,W,h⟩:=cl.1 h;split at h;rename_i O;simp only[db,fB]at h O hb hc hd W;obtain⟨rfl,rfl,rfl⟩:=h;obtain⟨o1,o2,Y,o4⟩:=Gl _ _ _ _ _ _ _ hc;obtain⟨hs,k1,k2,k3,k4,_,k5,k6,k7,k8⟩:=Fh ih _ _ _ _ _ _ _ _ W
  have U:∀e∈own++ek,path <+: dG e:=by
   intro e hm;rw[aB]at hm;rcases hm with hm|hm
   rw[(Y e hm).2.1];exact bF _;rw[k2]at hm;obtain⟨x,hx,hm⟩:=aW.1 hm;exact List.IsPrefix.trans (List.prefix_append _ _) ((k4 x hx).2 e hm)
  refine⟨λe hm=>⟨?_,U e hm,?_⟩,?_,?_,?_,?_⟩;rw[aB]at hm;rcases hm with hm|hm
  exact(Y e hm).1;exact(k6 e hm).1;rw[aB]at hm;rcases hm with hm|hm
  exact(Y e hm).2.2.1;exact λhk=>(k6 e hm).2 (by simp[hk]);exact nodup_append o4.nodup k7 (λe W hm=>(k6 e W).2 (bL _ hm));rw[jK,O.1,k8];intro hp;refine N7 U ?_;rcases O.2 with h|h|h
  exact absurd h hp
  cases own with
  |nil=>simp at o1;omega|cons e own=>exact Or.inl ⟨e,by simp,(Y e (by simp)).2.1⟩
  match hs,k1 with
  |[],k1=>simp at k1;omega|[_],k1=>simp at k1;omega|x::y::ad,k1=>
   have hx:=k4 x (by simp);have hy:=k4 y (by simp);have ac:=(a9.1 k3).1 y (by simp);obtain⟨e1,aa⟩:=aK _ hx.1;obtain⟨e2,ab⟩:=aK _ hy.1;refine Or.inr ⟨e1,?_,e2,?_,x.1,y.1,λh=>by rw[h]at ac;omega,hx.2 e1 aa,hy.2 e2 ab⟩;rw[k2];simp[l9,aa];rw[k2];simp[l9,ab]
  have b1:=(iJ ha).1;have b2:=(fA hb).1;have b3:=o2;have b4:=(fA hd).1;have b5:=k5;have b6:a=fP (own++l9 hs):=by rw[jK,O.1,k8,k2]
  rw[k2,yV f path own hs o4 (λe W=>(Y e W).2.1) k3 k4,b1,b2,b3,b4,b5,<-b6,o1,k1];simp;simp at h;simp at h
def wB:∀(n:Nat)(U:List Wd)(last bs:Wd)(es:List dp)(rest:Wd),oU n U last bs=some (es,rest)->
  es.length=n/\bs=es.flatMap (λe=>dC e.name)++rest/\(∀e∈es,e=⟨e.name,true,[],0,0⟩/\gq e.name=true/\e.name ∉ U/\c9 last e.name=true)/\jm es:=by
 intro n;induction n with
 |zero=>
  intro U last bs es rest h;simp only[oU,db,fB]at h;obtain⟨rfl,rfl⟩:=h;exact⟨rfl,rfl,nofun,List.Pairwise.nil⟩
 |succ n Y=>
  intro U last bs es rest h;obtain⟨x,hx,h⟩:=cl.1 h;obtain⟨z,hz,h⟩:=cl.1 h;obtain⟨rfl,rfl⟩:=h;obtain⟨h1,h2,W,h4⟩:=Y _ _ _ _ _ hz;have O:=lh hx;refine⟨by simp[h1],?_,?_,?_⟩;rw[O.1,h2];simp;intro e hm;simp only[a8]at hm;rcases hm with rfl|hm
  exact⟨rfl,O.2.1,O.2.2.2,O.2.2.1⟩;obtain⟨g1,g2,g3,g4⟩:=W e hm;exact⟨g1,g2,λhc=>g3 (by simp[hc]),k9 _ _ _ O.2.2.1 g4⟩;exact a9.2 ⟨λe hm=>(W e hm).2.2.2,h4⟩
def dK(l:List dp):Wd:=u8 ((eW l).filter λe=>e.gone).length::(((eW l).filter λe=>e.gone).flatMap (λe=>dC e.name)++(dC []++jr 26 [] ((eW l).filter λe=>!e.gone)))
def NN(e:dp):Prop:=tC e\/(e=⟨e.name,true,[],0,0⟩/\gq e.name=true)
structure kz(l:List dp):Prop where
 each:∀e∈l,NN e
 nodup:(l.map dp.name).Nodup
 some:l≠[]
 gone:(l.filter λe=>e.gone).length<=100
 there:(l.filter λe=>!e.gone).length<=30
def zA{gs:List dp}(h:pH bs=some (gs,es)):kz (gs++es)/\bs=dK (gs++es)/\(∀e∈gs,e.gone=true)/\∀e∈es,e.gone=false:=by
 obtain⟨⟨n,ra⟩,ha,h⟩:=cl.1 h;obtain⟨⟨gs',rb⟩,hb,h⟩:=cl.1 h;obtain⟨⟨t,rc⟩,hc,h⟩:=cl.1 h;split at h;rename_i ht;obtain⟨⟨g,W,rd⟩,hd,h⟩:=cl.1 h;split at h
 rename_i O;simp only[db,fB]at h O ht hb hc hd;obtain⟨rfl,rfl⟩:=h;subst ht;obtain⟨g1,g2,Y,g4⟩:=wB _ _ _ _ _ _ hb;obtain⟨n1,n2,n3,n4,n5⟩:=GW 26 _ _ _ _ _ _ hd;have hg:∀e∈gs',e.gone=true:=λe U=>by rw[(Y e U).1]
 have U:=λe U=>(n1 e U).1.1;have f1:=bu.2 hg;have f2:W.filter (λe=>e.gone)=[]:=bd.2 (λe h=>by rw[U e h];simp);have f3:gs'.filter (λe=>!e.gone)=[]:=bd.2 (λe h=>by rw[hg e h];simp);have f4:W.filter (λe=>!e.gone)=W:=bu.2 (λe h=>by rw[U e h];rfl);refine⟨⟨?_,?_,?_,?_,?_⟩,?_,hg,U⟩;intro e hm;rw[aB]at hm;rcases hm with hm|hm
 exact Or.inr ⟨(Y e hm).1,(Y e hm).2.1⟩;exact Or.inl (n1 e hm).1;exact nodup_append g4.nodup n2 (λe U=>(n1 e U).2.2);intro e;have:=congrArg bY e;rw[a0,aM]at this;omega;rw[aI,f1,f2,ba,g1];exact O.2.2.1;rw[aI,f3,f4];exact O.2.2.2;have b1:=(fA ha).1;have b2:=g2;have b3:=(fW hc).1;have b4:=n5;have b5:=O.1;unfold dK;rw[lE,lE,aI,aI,f1,f2,f3,f4,ba,uF gs' g4,g1,b1,b2,b3,b4,b5];simp;simp at h;simp at h
def kM(bs:Wd):Option (List dp):=if 4000<bs.length then none else(pH bs).map λx=>x.1++x.2
def s9(bs:Wd):kM bs=if 4000<bs.length then none else(pH bs).map λx=>x.1++x.2:=rfl
variable {e:dp} {G:List dp}
def fZ(h:gq s=true):0<s.length/\s.length<=8:=by
 unfold gq at h;simp only[cA,decide_eq_true_eq]at h;exact⟨h.1.2,h.2⟩
def kg(h:eA s=true):s.length<=24:=by
 unfold eA at h;simp only[cA,decide_eq_true_eq]at h;exact h.1
def xd(h:gq s=true):c9 [] s=true:=by
 have:=(fZ h).1
 cases s with
 |nil=>simp at this|cons a s=>rfl
def oy(h:tC e):(dG e).length<=24/\0<(dG e).length:=by
 have O:=kg h.2.2.1;have U:=h.2.2.2.1;unfold dG;rw[fH];refine⟨O,?_⟩
 cases W:e.text with
 |nil=>exact absurd W U|cons a b=>simp
def uN{O:List Wd}{last nm:Wd}(r:Wd)(U:gq nm=true)(W:c9 last nm=true)(Y:nm ∉ O):lL O last (dC nm++r)=some (nm,r):=by
 unfold lL;rw[mX nm r (by have:=(fZ U).2;omega)];simp[U,W,Y]
def FX(e:dp)(h:tC e)(r:Wd):ji e.name (dC e.text++(eR e.du++(u8 e.dE::r)))=some (e,r):=by
 obtain⟨U,h2,O,W,h5,h6,Y,h8⟩:=h;obtain⟨nm,gn,tx,wt,tg⟩:=e;simp only at U h2 O W h5 h6 Y h8;subst U;obtain⟨n,rfl⟩:=di h5;obtain⟨m,rfl⟩:=di Y;have hw:n<=1000000:=by omega
 unfold ji;rw[mX tx _ (by have:=kg O;omega)];simp only[cm,O,W,ne_eq,not_false_eq_true,and_self,if_true];rw[rE n (by omega)];simp only[cm,hw,if_true];rw[rY m (by omega)];rfl
def Fa(path:Wd):∀(es:List dp)(U:List Wd)(last rest:Wd),(∀e∈es,tC e/\dG e=path/\e.name ∉ U/\c9 last e.name=true)->jm es->oY es.length path U last (es.flatMap ku++rest)=some (es,rest):=by
 intro es;induction es with
 |nil=>intro U last rest _ _;rfl|cons e es Y=>
  intro U last rest h hr;obtain⟨a1,a2,a3,a4⟩:=h e (by simp);have O:=a9.1 hr
  have e1:(e::es).flatMap ku++rest=dC e.name++(dC e.text++(eR e.du++(u8 e.dE::(es.flatMap ku++rest)))):=by
   simp[ku]
  rw[e1,aD,oY,uN _ a1.2.1 a4 a3];simp only[cm];rw[FX e a1];simp only[cm,a2,if_true];rw[Y _ _ _ (λx W=>?_) O.2];rfl;obtain⟨b1,b2,b3,b4⟩:=h x (by simp[W]);refine⟨b1,b2,?_,O.1 x W⟩;intro hm;simp only[aB,aF]at hm;rcases hm with hm|hm
  exact b3 hm;exact BH (O.1 x W) hm.symm
def Hx:∀(es:List dp)(U:List Wd)(last rest:Wd),(∀e∈es,e=⟨e.name,true,[],0,0⟩/\gq e.name=true/\e.name ∉ U/\c9 last e.name=true)->jm es->oU es.length U last (es.flatMap (λe=>dC e.name)++rest)=some (es,rest):=by
 intro es;induction es with
 |nil=>intro U last rest _ _;rfl|cons e es Y=>
  intro U last rest h hr;obtain⟨a1,a2,a3,a4⟩:=h e (by simp);have O:=a9.1 hr;rw[aH,aS,aD,oU,uN _ a2 a4 a3];simp only[cm];rw[Y _ _ _ (λx W=>?_) O.2];simp only[cm];rw[<-a1];obtain⟨b1,b2,b3,b4⟩:=h x (by simp[W]);refine⟨b1,b2,?_,O.1 x W⟩;intro hm;simp only[aB,aF]at hm;rcases hm with hm|hm
  exact b3 hm;exact BH (O.1 x W) hm.symm
def Nx(h:(G.map dp.name).Nodup):G.Nodup:=ev _ (λa b O e=>O (by rw[e])) h
def iy{p:Wd}:e∈jg G p c↔e∈G/\p++[c] <+: dG e:=Lh
def lI(G:List dp)(p:Wd):(iY G p).Pairwise λa b=>a.toNat<b.toNat:=uG.filter _
def pJ{p:Wd}:c∈iY G p↔∃e∈G,p++[c] <+: dG e:=by
 unfold iY;rw[az];constructor;rintro⟨_,h⟩
 cases O:jg G p c with
 |nil=>rw[O]at h;simp at h|cons e t=>
  have:=iy.1 (show e∈jg G p c by rw[O];simp);exact⟨e,this⟩
 rintro⟨e,U,W⟩;refine⟨BE c,?_⟩;have:=iy.2 ⟨U,W⟩
 cases O:jg G p c with
 |nil=>rw[O]at this;simp at this|cons e t=>rfl
def Kh{p:Wd}(h:G.Nodup):∀(cs:List UInt8),cs.Nodup->(cs.flatMap (jg G p)).Nodup:=by
 intro cs;induction cs with
 |nil=>simp|cons c cs U=>
  intro W;have O:=aY.1 W;rw[aH,bf];refine⟨h.filter _,U O.2,λa Y b hb e=>?_⟩;subst e;obtain⟨d,hd,hb⟩:=aW.1 hb;have:=rJ (iy.1 Y).2 (iy.1 hb).2;subst this;exact O.1 hd
def Jw{p:Wd}(h:G.Nodup)(U:∀e∈G,p <+: dG e):(jG G p++(iY G p).flatMap (jg G p)).Perm G:=by
 rw[bn _ h];intro e;rw[aB];constructor;rintro(h|h);exact(az.1 h).1;obtain⟨c,_,h⟩:=aW.1 h;exact(iy.1 h).1;intro O;by_cases W:dG e=p;exact Or.inl (az.2 ⟨O,beq_iff_eq.2 W⟩);have:=(jq ..).2 ⟨U e O,zI (U e O) W,rfl⟩;exact Or.inr (aW.2 ⟨_,pJ.2 ⟨e,O,this⟩,iy.2 ⟨O,this⟩⟩);rw[bf];refine⟨h.filter _,Kh h _ (jQ (lI G p)),λa Y b hb e=>?_⟩;subst e;obtain⟨c,_,hb⟩:=aW.1 hb;have h1:=beq_iff_eq.1 (az.1 Y).2;have h2:=((jq ..).1 (iy.1 hb).2).2.1;rw[h1]at h2;omega
def Ag(h:(G.map dp.name).Nodup){a b:dp}(O:a∈G)(hb:b∈G)(U:a.name=b.name):a=b:=by
 induction G with
 |nil=>simp at O|cons x G W=>
  rw[aE,aY]at h;simp only[a8]at O hb;rcases O with rfl|O<;>rcases hb with rfl|hb
  rfl;exact absurd (aC.2 ⟨b,hb,U.symm⟩) h.1;exact absurd (aC.2 ⟨a,O,U⟩) h.1;exact W h.2 O hb
def KQ{l:List dp}(h:∀e∈l,e.du<=1000000):fP l<=1000000:=by
 induction l with
 |nil=>simp[fP]|cons e l O=>
  have W:=h e (by simp);have Y:=O (λx U=>h x (by simp[U]));rw[li];omega
def SR(node:Wd->List Wd->Wd->Option (Nat×List dp×Wd))(f:Nat):Prop:=
 ∀(path:Wd)(O:List Wd)(G:List dp)(rest:Wd),jm G->(∀e∈G,tC e/\path <+: dG e/\e.name ∉ O)->G.length<=255->(path=[]\/(G≠[]/\jS G=path))->26<=f+path.length->
  ∃es,node path O (jr f path G++rest)=some ((fP G).toNat,es,rest)/\es.Perm G
def Gr{node:Wd->List Wd->Wd->Option (Nat×List dp×Wd)}{f:Nat}(hN:SR node f)(path:Wd)(G:List dp)(hG:jm G)(ag:∀e∈G,tC e)(hl:G.length<=255)(hf:25<=f+path.length) :
  ∀(cs:List UInt8)(ks:List Wd)(last:Int)(rest:Wd),(cs.Pairwise λa b=>a.toNat<b.toNat)->(∀c∈cs,c∈iY G path/\last<(c.toNat:Int))->(∀e∈cs.flatMap (jg G path),e.name ∉ ks)->
   ∃es,oV node cs.length path ks last (cs.flatMap (λc=>dC ((jS (jg G path c)).drop path.length)++jr f (jS (jg G path c)) (jg G path c))++rest)=some ((fP (cs.flatMap (jg G path))).toNat,es,rest)/\es.Perm (cs.flatMap (jg G path)):=by
 intro cs;induction cs with
 |nil=>intro ks last rest _ _ _;exact⟨[],rfl,fk _⟩|cons c cs ih=>
  intro ks last rest hr hc hk;have aa:=a9.1 hr;obtain⟨ah,ai⟩:=hc c (by simp);have U:=sy ah;rw[<-tG]at U;have Y:=Gp (l:=G) (p:=path++[c]) (by rw[<-tG];exact U);rw[<-tG]at Y;have aj:=o8 U;have ak:jm (jg G path c):=hG.filter _;have ab:∀e∈jg G path c,tC e/\jS (jg G path c) <+: dG e/\e.name ∉ ks:=λe O=>⟨ag e (iy.1 O).1,aj.1 _ (aC.2 ⟨e,O,rfl⟩),hk e (by rw[aH];exact bX _ O)⟩;have al:(jg G path c).length<=255:=cw (aJ _ _) hl;obtain⟨t,ht⟩:=Y;obtain⟨e0,ad⟩:=aK _ U;have ap:(jS (jg G path c)).length<=24:=cw (ab e0 ad).2.1.length_le (oy (ab e0 ad).1).1
  have ae:∀e∈cs.flatMap (jg G path),e.name ∉ (jg G path c).map dp.name:=by
   intro e O hm;obtain⟨d,hd,O⟩:=aW.1 O;obtain⟨x,hx,am⟩:=aC.1 hm;have:=Ag hG.nodup (iy.1 hx).1 (iy.1 O).1 am;subst this;have:=rJ (iy.1 hx).2 (iy.1 O).2;have h3:=aa.1 d hd;rw[this]at h3;omega
  have an:∀e∈cs.flatMap (jg G path),e.name ∉ ks:=λe O=>hk e (by rw[aH];exact bL _ O);have ac:(jS (jg G path c)).drop path.length=c::t:=by rw[<-ht];simp
  have W:path++c::t=jS (jg G path c):=by rw[<-ht];simp
  have aq:path.length+1<=(jS (jg G path c)).length:=by rw[<-W];simp
  obtain⟨e1,h1,af⟩:=hN _ ks _ _ ak ab al (Or.inr ⟨U,rfl⟩) (by omega)
  obtain⟨e2,h2,ao⟩:=ih _ c.toNat rest aa.2 (λd hd=>⟨(hc d (by simp[hd])).1,by have:=aa.1 d hd;omega⟩) (λe O hm=>by
   rw[aB]at hm;rcases hm with hm|hm
   exact an e O hm
   exact ae e O ((af.map _).mem_iff.1 hm))
  refine⟨e1++e2,?_,?_⟩;rw[aH,aH,aD,oV,ac,aS,aS,mX _ _ (by have:=congrArg bY W;simp at this;simp;omega)];simp only[cm,ca,ne_eq,reduceCtorEq,not_false_eq_true,ai,and_self,if_true,W];rw[h1];simp only[cm];rw[h2];simp only[cm,db,fB,and_true];rw[jK];omega;exact af.append ao
def GN:∀f:Nat,SR (lC f) f:=by
 intro f;induction f with
 |zero=>
  intro path ks G rest hr hm hl hp hf;rcases hp with rfl|⟨U,hs⟩
  simp at hf;obtain⟨e,O⟩:=aK _ U;have:=(hm e O).2.1.length_le;have:=(oy (hm e O).1).1;omega
 |succ f ih=>
  intro path ks G rest hr hm hl hp hf
  have ai:path.length<=24:=by
   rcases hp with rfl|⟨U,hs⟩
   simp;obtain⟨e,O⟩:=aK _ U;exact cw (hm e O).2.1.length_le (oy (hm e O).1).1
  have eL:=Jw (Nx hr.nodup) (λe O=>(hm e O).2.1);have ac:=eL.length_eq;rw[a0]at ac
  have ad:∀e∈jG G path,tC e/\dG e=path/\e.name ∉ ks/\c9 [] e.name=true:=λe O=>by
   have h:=az.1 O;exact⟨(hm e h.1).1,beq_iff_eq.1 h.2,(hm e h.1).2.2,xd (hm e h.1).1.2.1⟩
  have ao:fP G<=1000000:=KQ (λe O=>(hm e O).1.2.2.2.2.2.1);have ap:=nZ G
  have aq:(iY G path).length<=((iY G path).flatMap (jg G path)).length:=by
   rw[List.length_flatMap]
   have:∀cs:List UInt8,(∀c∈cs,c∈iY G path)->cs.length<=(cs.map λc=>(jg G path c).length).sum:=by
    intro cs;induction cs with
    |nil=>intro _;simp|cons c cs aj=>
     intro h;have h1:=aj (λd hd=>h d (by simp[hd]));have h2:=sy (h c (by simp));rw[<-tG]at h2;have h3:=bC.2 h2;simp only[aD,aE,aX];omega
   exact this _ (λ_ h=>h)
  obtain⟨es,hk,ak⟩:=Gr ih path G hr (λe O=>(hm e O).1) hl (by omega) (iY G path) (ks++(jG G path).map dp.name) (-1) rest (lI G path) (λc hc=>⟨hc,by omega⟩) (λe O W=>by
   obtain⟨c,hc,O⟩:=aW.1 O;have aa:=iy.1 O;rw[aB]at W;rcases W with W|W
   exact(hm e aa.1).2.2 W;obtain⟨x,Y,al⟩:=aC.1 W;have ae:=az.1 Y;have:=Ag hr.nodup ae.1 aa.1 al;subst this;have h1:=beq_iff_eq.1 ae.2;have h2:=((jq _ _ _).1 aa.2).2.1
   rw[h1]at h2;omega)
  refine⟨jG G path++es,?_,(fd _ ak).trans eL⟩;have hG:((fP G).toNat:Int)=fP G:=by omega
  have e1:jr (f+1) path G++rest=eR (((fP G).toNat:Nat):Int)++(u8 ((jG G path).length:Int)::((jG G path).flatMap ku++(u8 ((iY G path).length:Int)::((iY G path).flatMap (λc=>dC ((jS (jg G path c)).drop path.length)++jr f (jS (jg G path c)) (jg G path c))++rest)))):=by
   rw[hG,jr];simp
  have an:fP G=max (fP (jG G path)) (fP ((iY G path).flatMap (jg G path))):=by rw[<-jK,CO eL]
  have ar:=nZ (jG G path);have au:=nZ ((iY G path).flatMap (jg G path))
  have af:path=[]\/0<(jG G path).length\/1<(iY G path).length:=by
   rcases hp with h|⟨U,hs⟩
   exact Or.inl h;refine Or.inr (gx λag=>?_);have ho:jG G path=[]:=aR.1 (by omega);have ah:=o8 U;rw[hs]at ah;obtain⟨e,O⟩:=aK _ U
   have am:∀x∈G,dG x≠path:=λx Y hk=>by
    have:x∈jG G path:=az.2 ⟨Y,beq_iff_eq.2 hk⟩;rw[ho]at this;simp at this
   have hb:∀x∈G,path++[(dG x).getD path.length 0] <+: dG x:=λx Y=>(jq _ _ _).2 ⟨(hm x Y).2.1,zI (hm x Y).2.1 (am x Y),rfl⟩
   have ab:∀x∈G,(dG x).getD path.length 0=(dG e).getD path.length 0:=by
    intro x Y;have i1:=pJ.2 ⟨x,Y,hb x Y⟩;have i2:=pJ.2 ⟨e,O,hb e O⟩;match hh:iY G path with
    |[]=>rw[hh]at i1;simp at i1|[d]=>rw[hh]at i1 i2;simp only[aF]at i1 i2;rw[i1,i2]|d::d2::ds=>rw[hh]at ag;simp at ag
   have:=ah.2 (path++[(dG e).getD _ 0]) (λs hs=>by
    obtain⟨x,Y,rfl⟩:=aC.1 hs
    rw[<-ab x Y];exact hb x Y)
   have:=this.length_le;simp at this;omega
  rw[e1,lC,if_pos ai,rE _ (by omega)];simp only[cm];rw[rY _ (by omega)];simp only[cm];rw[Fa path _ ks [] _ ad (hr.filter _)];simp only[cm];rw[rY _ (by omega)];simp only[cm];rw[hk];simp only[cm];rw[if_pos ⟨by omega,af⟩]
def tV{l:List dp}(h:kz l):∃gs es,pH (dK l)=some (gs,es)/\(gs++es).Perm l:=by
 obtain⟨h1,h2,h3,h4,h5⟩:=h;have hR:=ni l h2;have hp:=fL l;have aa:=hp.filter (λe=>e.gone);have ab:=hp.filter (λe=>!e.gone);have O:((eW l).filter (λe=>e.gone)++(eW l).filter _).Perm l:=(List.filter_append_perm ..).trans hp;have ai:=aa.length_eq;have aj:=ab.length_eq;have ac:jm ((eW l).filter λe=>e.gone):=hR.filter _;have ad:jm ((eW l).filter λe=>!e.gone):=hR.filter _
 have ae:∀e∈(eW l).filter (λe=>e.gone),e=⟨e.name,true,[],0,0⟩/\gq _=true/\e.name ∉ ([])/\c9 [] _=true:=λe he=>by
  have hm:=az.1 he;rcases h1 e (nz.1 hm.1)with U|U
  rw[U.1]at hm;simp at hm;exact⟨U.1,U.2,by simp,xd U.2⟩
 have af:∀e∈(eW l).filter (λe=>!e.gone),tC e/\([]) <+: dG e/\e.name ∉ ((eW l).filter λe=>e.gone).map _:=λe he=>by
  have hm:=az.1 he;rcases h1 e (nz.1 hm.1)with U|U
  refine⟨U,aZ,λhx=>?_⟩;obtain⟨x,hx,hn⟩:=aC.1 hx;have W:=az.1 hx;have:=Ag hR.nodup W.1 hm.1 hn;subst this;have a:=W.2;have b:=hm.2;simp[a]at b;rw[U.1]at hm;simp at hm
 unfold dK;generalize (eW l).filter _=gs at *;generalize (eW l).filter _=es at *;obtain⟨ag,hn,Y⟩:=GN 26 [] _ es [] ad af (by omega) (Or.inl rfl) (by simp);refine⟨gs,ag,?_,(fd _ Y).trans O⟩;have ak:=Y.length_eq;have ah:=O.length_eq;rw[a0]at ah;have al:=bC.2 h3;rw[ba]at hn;unfold pH;rw[rY _ (by omega)];simp only[cm];rw[Hx gs [] [] _ ae ac];simp only[cm];rw[mX [] _ (by simp)];simp only[cm,if_true];rw[hn];simp only[cm];rw[if_pos ⟨trivial,by omega,by omega,by omega⟩]
variable {x:Wd}
def vC(h:qY l x=none):x ∉ l.map dp.name:=by
 unfold qY at h;rw[bV]at h;intro hm;obtain⟨e,O,U⟩:=aC.1 hm;have:=h e O;rw[U]at this;simp at this
def qD(h:x ∉ l.map dp.name):qY l x=none:=by
 unfold qY;rw[bV];intro e O;rw[beq_eq_false_iff_ne];intro U;exact h (aC.2 ⟨e,O,U⟩)
def KV(e:dp):Prop:=e.name.length<=1048576/\e.text.length<=1048576/\(-9223372036854775808<=e.du/\e.du<=9223372036854775807)/\-9223372036854775808<=e.dE/\e.dE<=9223372036854775807
def NV{e:dp}(h:KV e):(ku e).length<=2097160:=by
 have O:=h.1;have U:=h.2.1;simp[ku,dC,eR];omega
def Ps(m:List dp)(h:∀e∈m,KV e):(m.flatMap ku).length<=m.length*2097160:=by
 induction m with
 |nil=>simp|cons e m O=>
  have W:=NV (h e (by simp));have Y:=O (λx U=>h x (by simp[U]));rw[aH,a0,aD];omega
def FR(p:Wd)(e:dp)(c:UInt8):Nat:=if rk (dG e) (p++[c])=true then 1 else 0
def EI(p:Wd)(e:dp):∀(cs:List UInt8),(∀c∈cs,rk (dG e) (p++[c])=false)->(cs.map (FR p e)).sum=0:=by
 intro cs;induction cs with
 |nil=>intro _;rfl|cons c cs O=>
  intro h;have U:=h c (by simp);rw[aE,aX,O (λd W=>h d (by simp[W]))];simp[FR,U]
def Rv(p:Wd)(e:dp):∀(cs:List UInt8),cs.Nodup->(cs.map (FR p e)).sum<=1:=by
 intro cs;induction cs with
 |nil=>simp|cons c cs W=>
  intro h;have U:=aY.1 h;rw[aE,aX]
  cases hb:rk (dG e) (p++[c])with
  |false=>have:=W U.2;simp only[FR,hb];simpa using this|true=>
   rw[EI p e cs (λd Y=>?_)];simp[FR,hb];rw[cF];intro O;have:=rJ ((nR ..).1 hb) ((nR ..).1 O);subst this;exact U.1 Y
def Sa(p:Wd)(cs:List UInt8)(e:dp)(G:List dp):(cs.map λc=>(jg (e::G) p c).length).sum=(cs.map (FR p e)).sum+(cs.map λc=>(jg G p c).length).sum:=by
 induction cs with
 |nil=>rfl|cons c cs O=>
  simp only[aE,aX,O]
  have:(jg (e::G) p c).length=FR p e c+(jg G p c).length:=by
   unfold jg FR;rw[br];split;simp;omega;simp
  omega
def Db(p:Wd)(cs:List UInt8)(W:cs.Nodup):∀G:List dp,(jG G p).length+(cs.map λc=>(jg G p c).length).sum<=G.length:=by
 intro G;induction G with
 |nil=>
  have:∀cs:List UInt8,(cs.map λc=>(jg [] p c).length).sum=0:=by
   intro cs;induction cs with
   |nil=>rfl|cons c cs U=>rw[aE,aX,U];rfl
  rw[this];simp[jG]
 |cons e G U=>
  rw[Sa];by_cases O:dG e=p
  have Y:=EI p e cs (λc _=>by
   rw[cF];intro hb;have:=((jq ..).1 ((nR ..).1 hb)).2.1
   rw[O]at this;omega)
  have h1:(jG (e::G) p).length=(jG G p).length+1:=by
   unfold jG;rw[br,if_pos (beq_iff_eq.2 O)];rfl
  rw[aD];omega;have Y:=Rv p e cs W
  have h1:(jG (e::G) p).length=(jG G p).length:=by
   unfold jG;rw[br,if_neg (by simpa using O)]
  rw[aD];omega
def Q1:∀(f:Nat)(p:Wd)(G:List dp),(∀e∈G,KV e)->(jr f p G).length<=f*(G.length*3145743)+5:=by
 intro f;induction f with
 |zero=>simp[jr]|succ f ih=>
  intro p G W;have ab:=Ps (jG G p) (λe Y=>W e (az.1 Y).1);have ac:=Db p _ (jQ (lI G p)) G
  have hk:∀cs:List UInt8,(∀c∈cs,c∈iY G p)->(cs.flatMap λc=>dC ((jS (jg G p c)).drop p.length)++jr f (jS (jg G p c)) (jg G p c)).length<=(cs.map λc=>(jg G p c).length).sum*(1048582+f*3145743):=by
   intro cs;induction cs with
   |nil=>simp|cons c cs aa=>
    intro hc;have h1:=aa (λd hd=>hc d (by simp[hd]));have O:=sy (hc c (by simp));rw[<-tG]at O;have ad:=bC.2 O;obtain⟨e0,U⟩:=aK _ O
    have ae:(jS (jg G p c)).length<=1048576:=by
     have a:=((o8 O).1 _ (aC.2 ⟨e0,U,rfl⟩)).length_le;have b:=(W e0 (iy.1 U).1).2.1;unfold dG at a;rw[fH]at a;omega
    have h2:=ih (jS (jg G p c)) (jg G p c) (λe Y=>W e (iy.1 Y).1);have h3:(dC ((jS (jg G p c)).drop p.length)).length<=1048577:=by simp[dC];omega
    rw[aH,a0,a0,aE,aX,cy];generalize (jg G p c).length=n at *;have e1:n*(1048582+f*3145743)=n*1048582+f*(n*3145743):=by rw[c6,ct]
    omega
  have af:=hk _ (λ_ h=>h);rw[jr];simp only[a0,aD];have h3:(eR (fP G)).length=3:=rfl;generalize ((iY G p).map λc=>(jg G p c).length).sum=m at *;have e1:m*(1048582+f*3145743)=m*1048582+m*(f*3145743):=c6 ..;have e2:(f+1)*(G.length*3145743)=G.length*3145743+G.length*(f*3145743):=by rw[cy,ct];omega
  have e3:m*(f*3145743)<=G.length*(f*3145743):=cq _ (by omega);omega
def tO(O:List (List Wd))(s:List UInt8):Nat×List (List Wd):=
 if eA s=true/\s≠[]then
  if 60<(eV (O++[iQ (dX s)])).length then(4,O)else(0,O++[iQ (dX s)])
 else(2,O)
def bytes_eta(s:ByteArray):s=⟨s.data.toList.toArray⟩:=by simp
def j8(O:List dp)(ss:List (List dp))(name text:Wd)(du dE:Int):Nat×List dp:=
 if gq name=true then
  if eA text=true/\text≠[]then
   if du<0\/1000000<du\/dE<0\/255<dE then(3,O)
   else if 30<=(dP ss O).length/\qY (dP ss O) name=none then(4,O)
   else(0,dL O [⟨name,false,text,du,dE⟩])
  else(2,O)
 else(1,O)
def lu(O:List dp)(ss:List (List dp))(name:Wd):Nat×List dp:=
 if gq name=true then
  if qY (dP ss O) name=none then(5,O)
  else if 100<=O.length-(dv O).length then(4,O)
  else(0,dL O [⟨name,true,[],0,0⟩])
 else(1,O)
def fi(O:List dp)(ss:List (List dp)):List dp:=if ss.length=0 then dv O else O
def dW(O:List dp)(ss:List (List dp)):Nat×List dp×List (List dp):=
 if O.length=0 then(5,O,ss)else if 6<=ss.length then(4,O,ss)
 else(0,[],if 0<(fi O ss).length then ss++[fi O ss]else ss)
def Ve(s:ByteArray)(n:Nat):s.extract 0 n=⟨(s.data.toList.take n).toArray⟩:=by
 apply dk;apply go.1;simp
def Qo(n:Int):((u8 n).toNat:Int)=n % 256:=by
 unfold u8;have:(dc (n % 256).toNat).toNat=(n % 256).toNat % 256:=by simp
 omega
def Nk(a:List UInt8)(s:ByteArray):(⟨a.toArray⟩:ByteArray)++s=⟨(a++s.data.toList).toArray⟩:=by
 apply dk;simp
def iX(n:Int):fo [u8 n]=[.int .u8 (n % 256)]:=by simp only[fo,aE,bg,Qo]
def rA{w:World}{l:List UInt8}(cs:Array Value)(n:Nat)(h:cs.toList=fo l)(U:cs.size=n)(hm:n<=cK) :
  (convert 60 9 (.slice (some ⟨w.heap.size,0,none⟩) n n)).run prog (w.alloc (.cells cs 5))=.ok (.string ⟨l.toArray⟩) (w.alloc (.cells cs 5)):=by
 have O:=World.ownsRow_lit (base:=w.heap.size) (size:=1) (e:=5) w cs n (cp _) hm (by omega);rw[h]at O;exact zK O h7 h' h9
def iO{B:Nat}{a w:World}(h:Below B a w)(q:Nat):Below B a (w.drewN q):=⟨h.os,h.tape,h.output,h.size,h.block⟩
variable {ss:List (List dp)} {vs:List Value} {E:Value->List dp->Prop}
def Zip(E:Value->List dp->Prop)(vs:List Value)(ss:List (List dp)):Prop:=vs.length=ss.length/\∀i(h:i<ss.length),∃u,vs[i]?=some u/\E u ss[i]
def Zip.nil(E:Value->List dp->Prop):Zip E [] []:=⟨rfl,λi h=>by simp at h⟩
def Zip.one{u:Value}{l:List dp}(h:E u l):Zip E [u] [l]:=⟨rfl,λi hi=>by
 have:i=0:=by simp at hi;omega
 subst this
 exact⟨u,rfl,h⟩⟩
def Zip.append{vt:List Value}{st:List (List dp)}(U:Zip E vs ss)(h2:Zip E vt st):Zip E (vs++vt) (ss++st):=by
 refine⟨by rw[a0,a0,U.1,h2.1],λi hi=>?_⟩;by_cases O:i<ss.length;obtain⟨u,W,Y⟩:=U.2 i O;exact⟨u,by rw[bU (by rw[U.1];exact O)];exact W,by rw[List.getElem_append_left O];exact Y⟩;have NO:i-ss.length<st.length:=by rw[a0]at hi;omega
 obtain⟨u,W,Y⟩:=h2.2 (i-ss.length) NO;refine⟨u,?_,?_⟩;rw[List.getElem?_append_right (by rw[U.1];omega),U.1];exact W;rw[List.getElem_append_right (by omega)];exact Y
def Zip.mono{E':Value->List dp->Prop}(h:Zip E vs ss)(O:∀u l,E u l->E' u l):Zip E' vs ss:=⟨h.1,λi hi=>by
 obtain⟨u,U,W⟩:=h.2 i hi
 exact⟨u,U,O u _ W⟩⟩
def jc(ss:List (List dp))(n:Nat):List dp:=if n=0 then dv (dL (ss.getD n []) (ss.getD (n+1) []))else dL (ss.getD n []) (ss.getD (n+1) [])
def eZ(ss:List (List dp))(n:Int):Nat×List (List dp):=
 if n<0\/(ss.length:Int)-1<=n then(6,ss)
 else if 100<(jc ss n.toNat).length-(dv (jc ss n.toNat)).length then(4,ss)
 else(0,ss.take n.toNat++((if 0<(jc ss n.toNat).length then [jc ss n.toNat]else [])++ss.drop (n.toNat+2)))
def EE(a b:dp):Prop:=c9 (dG a) (dG b)=true\/(dG a=dG b/\c9 a.name b.name=true)
def gK(l:List dp):Prop:=l.Pairwise EE
def fh(d:Nat)(e:dp):UInt8:=(dG e).getD d 0
def jb(L:List dp)(d:Nat):Nat:=(L.takeWhile λe=>(dG e).length==d).length
def runs(d:Nat):List dp->List (List dp)
 |[]=>[]
 |e::l=>match runs d l with
  |[]=>[[e]]
  |[]::gs=>[e]::gs|(x::g)::gs=>if fh d e=fh d x then(e::x::g)::gs else [e]::(x::g)::gs
def io(C:List dp):Wd:=match C with
 |[]=>[]
 |e::C=>tL (dG e) (dG ((e::C).getLast (by simp)))
def gS:Nat->Nat->List dp->Wd
 |0,_,_=>[]
 |f+1,d,L=>eR (fP L)++(u8 (jb L d)::((L.take (jb L d)).flatMap ku++(u8 (runs d (L.drop (jb L d))).length::(runs d (L.drop (jb L d))).flatMap λC=>dC ((io C).drop d)++gS f (io C).length C)))
def Ev{a b:dp}(h:EE a b):c9 (dG b) (dG a)=false:=by
 rcases h with h|h
 exact qq h;rw[h.1];exact ir _
def Ln:∀(r a b c:Wd),r <+: a->r <+: c->c9 b a=false->c9 c b=false->r <+: b
 |[],_,_,_,_,_,_,_=>aZ
 |x::r,[],_,_,h,_,_,_=>by simp at h
 |x::r,_::_,_,[],_,h,_,_=>by simp at h
 |x::r,y::a,[],z::c,_,_,O,_=>by simp[c9]at O
 |x::r,y::a,w::b,z::c,h1,h2,O,U=>by
  have g1:=aO.1 h1
  have g2:=aO.1 h2;simp only[c9,cD,cH,decide_eq_false_iff_not,beq_iff_eq]at O U;obtain⟨W,Y⟩:=g1;obtain⟨aa,ab⟩:=g2;subst W;subst aa
  have e:w=x:=by
   have a1:=O.1;have a2:=U.1;apply de.1;simp only[dd]at a1 a2;omega
  subst e;exact aO.2 ⟨rfl,Ln r a b c Y ab (O.2 rfl) (U.2 rfl)⟩
def Oi:∀(C:List dp),C≠[]->gK C->jS C=io C:=by
 intro C W Y
 cases C with
 |nil=>exact absurd rfl W|cons e C=>
  refine KN (by simp) ⟨λs h=>?_,λr U=>?_⟩;obtain⟨x,O,rfl⟩:=aC.1 h;have hl:=se (dG e) (dG ((e::C).getLast (by simp)));have U:=qv (dG e) (dG ((e::C).getLast (by simp)))
  have ha:x=e\/EE e x:=by
   simp only[a8]at O;rcases O with rfl|O
   exact Or.inl rfl;exact Or.inr ((a9.1 Y).1 x O)
  have hb:x=(e::C).getLast (by simp)\/EE x ((e::C).getLast (by simp)):=by
   obtain⟨i,hi,rfl⟩:=List.mem_iff_getElem.1 O;rw[List.getLast_eq_getElem];by_cases h:i=(e::C).length-1;simp[h];right;exact be.1 Y i _ hi _ (by omega)
  have h1:c9 (dG x) (dG e)=false:=by
   rcases ha with rfl|h
   exact ir _;exact Ev h
  have h2:c9 (dG ((e::C).getLast (by simp))) (dG x)=false:=by
   rcases hb with h|h
   rw[<-h];exact ir _;exact Ev h
  exact Ln _ _ _ _ hl U h1 h2;exact sF _ _ _ (U _ (aC.2 ⟨e,by simp,rfl⟩)) (U _ (aC.2 ⟨_,List.getLast_mem _,rfl⟩))
def OT{p s:Wd}(h:p <+: s)(U:s≠p):c9 p s=true:=by
 rcases iD p s with O|O|O
 exact O;exact absurd O.symm U;exfalso;obtain⟨t,rfl⟩:=h;clear U;induction p with
 |nil=>cases t<;>simp[c9]at O
 |cons a p W=>
  simp only[bl,c9,cC,decide_eq_true_eq,cA,beq_self_eq_true,true_and]at O;rcases O with O|O
  simp at O;exact W O
def RO{p a b:Wd}(W:p <+: a)(hb:p <+: b)(O:p.length<a.length)(U:p.length<b.length)(h:c9 b a=false):(a.getD p.length 0).toNat<=(b.getD p.length 0).toNat:=by
 obtain⟨s,rfl⟩:=W;obtain⟨t,rfl⟩:=hb;induction p with
 |nil=>
  cases s with
  |nil=>simp at O|cons x s=>
   cases t with
   |nil=>simp at U|cons y t=>
    simp only[aT,c9,cD,decide_eq_false_iff_not,dd]at h;simp;omega
 |cons x p Y=>
  simp only[bl,c9,cD,cH,decide_eq_false_iff_not,beq_self_eq_true,true_implies]at h;have:=Y (by simpa using O) (by simpa using U) h.2;simpa using this
def yA{p:Wd}{L:List dp}(hL:gK L)(W:∀e∈L,p <+: dG e):(∀e∈L.take (jb L p.length),dG e=p)/\∀e∈L.drop (jb L p.length),dG e≠p:=by
 have e1:L.take (jb L p.length)=L.takeWhile λe=>(dG e).length==p.length:=by
  unfold jb;conv=>lhs;arg 2;rw[<-bi (p:=λe=>(dG e).length==p.length) (l:=L)]
  rw[List.take_left]
 have e2:L.drop (jb L p.length)=L.dropWhile λe=>(dG e).length==p.length:=by
  unfold jb;conv=>lhs;arg 2;rw[<-bi (p:=λe=>(dG e).length==p.length) (l:=L)]
  rw[List.drop_left]
 rw[e1,e2];refine⟨λe O=>?_,λe O Y=>?_⟩;have h1:=QI L e O;have h2:=W e ((bI _).mem O);exact(h2.eq_of_length (by simpa using(beq_iff_eq.1 h1).symm)).symm;have hs:gK (L.dropWhile λe=>(dG e).length==p.length):=et (bJ _) hL;have hm:∀e∈L.dropWhile (λe=>(dG e).length==p.length),p <+: dG e:=λe O=>W e ((bJ _).mem O);have hd:=K3 (p:=λe=>(dG e).length==p.length) L;generalize L.dropWhile _=B at *
 cases B with
 |nil=>simp at O|cons b B=>
  have hb:=hd b B rfl;have U:dG b≠p:=λh=>by rw[h]at hb;simp at hb
  simp only[a8]at O;rcases O with rfl|O
  exact U Y;have:=Ev ((a9.1 hs).1 e O);rw[Y,OT (hm b (by simp)) U]at this;cases this
def Ay(p:Wd):∀(L:List dp),gK L->(∀e∈L,p <+: dG e/\dG e≠p)->∃W:List (UInt8×List dp),runs p.length L=W.map (·.2)/\K6 W/\AK p W/\l9 W=L/\(∀x∈W,gK x.2)/\∀x∈W,∃e g,x.2=e::g/\x.1=fh p.length e:=by
 intro L;induction L with
 |nil=>intro _ _;exact⟨[],rfl,List.Pairwise.nil,λ_ h=>by simp at h,rfl,λ_ h=>by simp at h,λ_ h=>by simp at h⟩|cons e L ih=>
  intro hL hp;have aa:=a9.1 hL;obtain⟨W,h1,h2,h3,h4,h5,h6⟩:=ih aa.2 (λx U=>hp x (by simp[U]));have ab:p++[fh p.length e] <+: dG e:=(jq _ _ _).2 ⟨(hp e (by simp)).1,zI (hp e (by simp)).1 (hp e (by simp)).2,rfl⟩
  cases W with
  |nil=>
   refine⟨[(fh p.length e,[e])],?_,bG _ _,?_,?_,?_,?_⟩;rw[runs,h1];rfl;intro x U;simp at U;subst U;exact⟨by simp,λy Y=>by simp at Y;subst Y;exact ab⟩;simp only[l9,ce]at h4;rw[<-h4];rfl;intro x U;simp at U;subst U;exact bG _ _;intro x U;simp at U;subst U;exact⟨e,[],rfl,rfl⟩
  |cons y W=>
   obtain⟨x,g,Y,ac⟩:=h6 y (by simp);obtain⟨yc,yg⟩:=y;simp only at Y ac;subst Y;subst ac;have ad:runs p.length L=(x::g)::W.map (·.2):=h1;by_cases hb:fh p.length e=fh p.length x;refine⟨(fh p.length e,e::x::g)::W,?_,?_,?_,?_,?_,?_⟩;rw[runs,ad];simp[hb];have:=a9.1 h2;exact a9.2 ⟨λz O=>by have:=this.1 z O;rw[hb];exact this,this.2⟩;intro z O;simp only[a8]at O;rcases O with rfl|O
   refine⟨by simp,λw hw=>?_⟩;rcases a8.1 hw with rfl|hw
   exact ab;show p++[fh p.length e] <+: dG w;rw[hb];exact(h3 (fh _ x,x::g) (by simp)).2 w hw;exact h3 z (by simp[O]);rw[<-h4];rfl;intro z O;simp only[a8]at O;rcases O with rfl|O
   refine a9.2 ⟨λw hw=>aa.1 w ?_,h5 (fh p.length x,x::g) (by simp)⟩;rw[<-h4];exact bX _ hw;exact h5 z (by simp[O]);intro z O;simp only[a8]at O;rcases O with rfl|O
   exact⟨e,x::g,rfl,rfl⟩;exact h6 z (by simp[O]);refine⟨(fh p.length e,[e])::(fh p.length x,x::g)::W,?_,?_,?_,?_,?_,?_⟩;rw[runs,ad];simp[hb];have U:x∈L:=by rw[<-h4];simp[l9]
   have ae:(fh p.length e).toNat<(fh p.length x).toNat:=by
    have a1:=hp e (by simp);have a2:=hp x (by simp[U]);have:=RO a1.1 a2.1 (zI a1.1 a1.2) (zI a2.1 a2.2) (Ev (aa.1 x U));have af:(fh _ e).toNat≠(fh _ x).toNat:=λh=>hb (de.1 h);unfold fh at *;omega
   refine a9.2 ⟨λz O=>?_,h2⟩;simp only[a8]at O;rcases O with rfl|O
   exact ae;have:=(a9.1 h2).1 z O;exact Nat.lt_trans ae this;intro z O;rw[a8]at O;rcases O with rfl|O
   exact⟨by simp,λy Y=>by simp at Y;subst Y;exact ab⟩;exact h3 z O;rw[<-h4];rfl;intro z O;rw[a8]at O;rcases O with rfl|O
   exact bG ..;exact h5 z O;intro z O;rw[a8]at O;rcases O with rfl|O
   exact⟨e,[],rfl,rfl⟩;exact h6 z O
def GB{p:Wd}{l:List dp}(h:gK l)(O:∀e∈l,dG e=p):jm l:=by
 refine ex (fun {a b} ha hb h=>?_) h;rcases h with h|h
 rw[O a ha,O b hb,ir]at h;cases h;exact h.2
def Ru:∀(f:Nat)(p:Wd)(L:List dp),gK L->(∀e∈L,p <+: dG e)->gS f p.length L=jr f p (eW L):=by
 intro f;induction f with
 |zero=>intro p L _ _;rfl|succ f ih=>
  intro p L hL hp;obtain⟨h1,h2⟩:=yA hL hp;have aa:gK (L.drop (jb L p.length)):=et (List.drop_sublist ..) hL;have ab:gK (L.take (jb L p.length)):=et (List.take_sublist ..) hL;obtain⟨hs,r1,r2,r3,r4,r5,r6⟩:=Ay p _ aa (λe he=>⟨hp e (bz he),h2 e he⟩);have O:L.take (jb L p.length)++l9 hs=L:=by rw[r4,bm]
  have hb:=yV f p _ hs (GB ab h1) h1 r2 r3;rw[O]at hb
  have U:(L.take (jb L p.length)).length=jb L p.length:=by
   have:jb L p.length<=L.length:=(bI _).length_le;simp;omega
  rw[hb,gS,r1,bK,U,cf];congr 4;refine qC λx hx=>?_;have W:=(r3 x hx).1;have Y:=Oi _ W (r5 x hx);unfold Part;rw[Y,ih _ _ (r5 x hx) (λe he=>?_)];rw[<-Y];exact(o8 W).1 _ (aC.2 ⟨e,he,rfl⟩)
end
section
open Go.RowKit
variable {e:dp} {a b l:List dp} {x:Wd}
def names(l:List dp):List Wd:=l.map dp.name
def iw:j5 l e=true↔e.name ∉ names l:=by
 unfold j5 names;constructor;intro h;refine vC ?_
 cases O:qY l _ with
 |none=>rfl|some i=>rw[O]at h;simp at h
 intro h;rw[qD h];rfl
def lP:e∈dL a b↔(e∈a/\e.name ∉ names b)\/e∈b:=by
 unfold dL;rw[aB,az,iw]
def pX:x∈names l↔∃e∈l,e.name=x:=by unfold names;rw[aC]
def JF:x∈names (dL a b)↔x∈names a\/x∈names b:=by
 rw[pX,pX,pX];constructor;rintro⟨e,O,rfl⟩;rcases lP.1 O with h|h
 exact Or.inl ⟨e,h.1,rfl⟩;exact Or.inr ⟨e,h,rfl⟩;rintro(⟨e,O,rfl⟩|⟨e,O,rfl⟩);by_cases h:e.name∈names b;obtain⟨f,U,W⟩:=pX.1 h;exact⟨f,lP.2 (Or.inr U),W⟩;exact⟨e,lP.2 (Or.inl ⟨O,h⟩),rfl⟩;exact⟨e,lP.2 (Or.inr O),rfl⟩
def qw(O:(a.map dp.name).Nodup)(hb:(b.map dp.name).Nodup):((dL a b).map dp.name).Nodup:=by
 unfold dL;rw[aU,bf];refine⟨O.sublist (bk.map _),hb,?_⟩;intro x U y W e;subst e;obtain⟨f,Y,rfl⟩:=aC.1 U;exact(iw.1 (az.1 Y).2) W
def nh(O:(a.map dp.name).Nodup):((dv a).map dp.name).Nodup:=O.sublist (bk.map _)
def Fo{c:List dp}(h:∀x,x∈names b↔x∈names c)(e:dp):j5 b e=j5 c e:=by
 rw[cB,iw,iw,h]
def C9{O U:List dp}(Y:a.Perm O)(W:b.Perm U):(dL a b).Perm (dL O U):=by
 refine fr ?_ W;have:a.filter _=a.filter _:=bh λe _=>Fo (λx=>(W.map _).mem_iff) e;rw[this];exact Y.filter _
def wz(h:a.Perm b):(dv a).Perm (dv b):=h.filter _
def qj(a b c:List dp):dL (dL a b) c=dL a (dL b c):=by
 have h:∀e,j5 (dL b c) e=(j5 b e&&j5 c e):=by
  intro e;rw[cB,cA,iw,iw,iw,JF];exact not_or
 unfold dL at h⊢;rw[aI,aQ,aS];congr 1;refine bh λe _=>?_;rw[h e,cG]
def lV(a:List dp):dL [] a=a:=by simp[dL]
def jZ(a:List dp):dL a []=a:=by
 unfold dL;rw[ba,bu];intro e _;exact iw.2 (by simp[names])
def nV(a b:List dp):dv (dL (dv a) b)=dv (dL a b):=by
 unfold dv dL;rw[aI,aI,aQ,aQ];congr 1;rw[aQ];refine bh λe _=>?_;cases e.gone<;>simp
def kA(a:List dp):dv (dv a)=dv a:=by
 unfold dv;rw[aQ];refine bh λe _=>?_;cases e.gone<;>simp
def Fz(L:List (List dp)):∀a:List dp,dv (L.foldl dL (dv a))=dv (L.foldl dL a):=by
 induction L with
 |nil=>intro a;exact kA a|cons b L O=>
  intro a;rw[aP,aP,<-O _,nV,O]
def eu(L:List (List dp)):List dp:=L.foldl dL []
def lW(L M:List (List dp)):eu (L++M)=M.foldl dL (eu L):=by unfold eu;rw[bD]
def ew(L:List (List dp))(b:List dp):eu (L++[b])=dL (eu L) b:=by rw[lW];rfl
def zm(ss:List (List dp))(k:Nat):mA ss k=eu (ss.take k):=rfl
def fl(ss:List (List dp))(O:List dp):dP ss O=dv (eu (ss++[O])):=by
 unfold dP;rw[ew,zm,bq]
def lB(a b:List dp):(dv b).length<=(dv (dL a b)).length:=by
 unfold dL dv;rw[aI,a0];omega
def pP(a:List dp):(dv a).length<=a.length:=aJ ..
def jM(l:List dp):l.length-(dv l).length=(l.filter λe=>e.gone).length:=by
 have h:∀l,(l.filter λe=>e.gone).length+(dv l).length=l.length:=by
  intro l;unfold dv;induction l with
  |nil=>rfl|cons e l O=>
   cases h:e.gone<;>simp[h]<;>omega
 have:=h l;omega
structure Inv(buf:List dp)(ss:List (List dp)):Prop where
 each:∀e∈buf,NN e
 nodup:(buf.map dp.name).Nodup
 gone:(buf.filter λe=>e.gone).length<=100
 iB:∀s∈ss,kz s
 qg:ss.length<=6
 there:∀k,k<=ss.length->(dv (eu (ss.take k))).length<=30
 all:(dP ss buf).length<=30
def KL:Inv [] []:=⟨nofun,List.Pairwise.nil,by simp,nofun,by simp,λk _=>by simp[eu,dv],by simp[dP,mA,dL,dv]⟩
def tj(O:List dp)(e:dp):((dL O [e]).filter λe=>e.gone).length<=(O.filter λe=>e.gone).length+(if e.gone then 1 else 0):=by
 unfold dL
 have U:(O.filter λx=>x.gone&&j5 [e] x).length<=(O.filter λx=>x.gone).length:=by
  rw[show(O.filter _)=(O.filter λx=>x.gone).filter _ by rw[aQ];exact bh λx _=>cG ..];exact aJ ..
 cases h:e.gone<;>simp[h]<;>omega
def Inv.Hm{O:List dp}{ss:List (List dp)}(h:Inv O ss)(W:NN e)(Y:((dL O [e]).filter λe=>e.gone).length<=100)(ha:(dP ss (dL O [e])).length<=30):Inv (dL O [e]) ss where
 each:=λx hx=>by
  rcases lP.1 hx with U|U
  exact h.each x U.1;simp only[aF]at U;subst U;exact W
 nodup:=qw h.nodup (by simp);gone:=Y;iB:=h.iB;qg:=h.qg;there:=h.there;all:=ha
def rm(ss:List (List dp))(O:List dp)(e:dp):dP ss (dL O [e])=dv (dL (eu (ss++[O])) [e]):=by
 rw[fl,ew,ew,qj]
def qm(T:List dp)(e:dp):dv (dL T [e])=(dv T).filter (j5 [e])++dv [e]:=by
 unfold dv dL;rw[aI,aQ,aQ];congr 1;exact bh λx _=>cG ..
def KY{O:List dp}{ss:List (List dp)}(h:Inv O ss)(name text:Wd)(du dE:Int):Inv (j8 O ss name text du dE).2 ss:=by
 unfold j8;split;rename_i hn;split;rename_i ht;split;exact h;split;exact h;rename_i hm;refine h.Hm (Or.inl ⟨rfl,hn,ht.1,ht.2,by simp;omega,by simp;omega,by simp;omega,by simp;omega⟩) ?_ ?_;have:=tj O ⟨name,false,text,du,dE⟩;have:=h.gone;simp only[cI,if_false]at *;omega;rw[rm,qm,a0];have e1:(dv [(⟨name,false,text,du,dE⟩)]).length=1:=rfl;have ha:=h.all;rw[fl]at ha hm;generalize dv _=T at *;by_cases U:30<=T.length;have W:=λW=>hm ⟨U,W⟩
 have Y:name∈names T:=by
  by_cases hc:name∈names T;exact hc;exact absurd (qD hc) W
 obtain⟨x,hx,aa⟩:=pX.1 Y
 have:(T.filter (j5 [⟨name,false,text,du,dE⟩])).length<T.length:=by
  rw[List.length_filter_lt_length_iff_exists];refine⟨x,hx,?_⟩;rw[iw];simp[names,aa]
 omega;have:=aJ (j5 [⟨name,false,text,du,dE⟩]) T;omega;exact h;exact h
def K8{O:List dp}{ss:List (List dp)}(h:Inv O ss)(name:Wd):Inv (lu O ss name).2 ss:=by
 unfold lu;split;rename_i U;split;exact h;split;exact h;rename_i W;rw[jM]at W;refine h.Hm (Or.inr ⟨rfl,U⟩) ?_ ?_;have:=tj O ⟨name,true,[],0,0⟩;simp only[if_true]at this;omega;rw[rm,qm,a0];have e1:(dv [(⟨name,true,[],0,0⟩)]).length=0:=rfl;have Y:=h.all;rw[fl]at Y;have:=aJ (j5 [⟨name,true,[],0,0⟩]) (dv (eu (ss++[O])));omega;exact h
def tD(l:List dp):((dv l).filter λe=>e.gone)=[]:=by
 rw[bd];intro e O;have:=(az.1 O).2;simpa using this
def zb(U:∀e∈l,NN e)(W:(l.map dp.name).Nodup)(O:0<l.length)(Y:(l.filter λe=>e.gone).length<=100)(h5:(dv l).length<=30):kz l:=
 ⟨U,W,λe=>by rw[e]at O;simp at O,Y,h5⟩
def BJ{W:List dp}{ss:List (List dp)}(h:Inv W ss):Inv (dW W ss).2.1 (dW W ss).2.2:=by
 unfold dW;split;exact h;split;exact h
 have U:∀O,(∀s∈O,kz s)->O.length<=6->(∀k,k<=O.length->(dv _).length<=30)->Inv [] O:=λO g1 g2 g3=>
  ⟨nofun,List.Pairwise.nil,by simp,g1,g2,g3,by
    rw[fl,ew,jZ];have:=g3 _ (cp _);rw[bq]at this
    exact this⟩
 have fG:=h.all;rw[fl,ew]at fG;have Y:=cw (lB ..) fG;split;rename_i hpos;refine U _ ?_ (by simp;omega) ?_;intro s hs;rcases aB.1 hs with h1|h1
 exact h.iB s h1;simp only[aF]at h1;subst h1;unfold fi at hpos⊢;split
 rename_i h0;rw[if_pos h0]at hpos;refine zb (λe he=>h.each e (az.1 he).1) (nh h.nodup) hpos ?_ ?_;rw[tD];simp;rw[kA];exact Y;rename_i h0;rw[if_neg h0]at hpos;exact zb h.each h.nodup hpos h.gone Y;intro k hk;by_cases aa:k<=ss.length;rw[bw aa];exact h.there k aa;rw[bc (by simp;omega),ew];unfold fi;split;rename_i h0;have:=aR.1 h0;subst this;show(dv (dL [] _)).length<=30;rw[lV,kA];exact Y;exact fG;exact U ss h.iB h.qg h.there
def xe(L M:List (List dp))(a b:List dp):eu (L++[dL a b]++M)=eu (L++[a,b]++M):=by
 rw[lW _ M,lW _ M,ew];rw[show L++[a,b]=(L++[a])++[b] by simp,ew,ew,qj]
def I4(n:Nat)(a b:List dp):List dp:=if n=0 then dv (dL a b)else dL a b
def pM(n:Nat)(a b:List dp):List (List dp):=if 0<(I4 n a b).length then [I4 n a b]else []
def K5{n:Nat}{s:List dp}(h:s∈pM n a b):s=I4 n a b/\0<s.length:=by
 unfold pM at h;split at h;rename_i O;simp only[aF]at h;subst h;exact⟨rfl,O⟩;simp at h
def uv(L X:List (List dp))(a b:List dp):dv (eu (L++(pM L.length a b++X)))=dv (eu (L++([a,b]++X))):=by
 unfold pM I4;by_cases O:L.length=0;have:=aR.1 O;subst this;simp only[aM,if_true,aT]
 have U:eu ([a,b]++X)=X.foldl dL (dL a b):=by
  show X.foldl dL _=_;rw[lV]
 rw[U,<-Fz X _];split;show dv (X.foldl dL _)=_;rw[lV];have:dv (dL a b)=[]:=aR.1 (by omega);rw[this];rfl;rw[if_neg O];split;rw[<-aS,<-aS,xe];have W:dL a b=[]:=aR.1 (by omega);have e:=xe L X a b;rw[W]at e
 have Y:eu (L++[[]]++X)=eu (L++([]++X)):=by
  rw[lW,ew,jZ,aT,lW]
 rw[<-Y,e,aS]
def C8(ss:List (List dp))(n:Nat)(h:n+1<ss.length):ss=ss.take n++([ss.getD n [],ss.getD (n+1) []]++ss.drop (n+2)):=by
 have O:ss.getD n []=ss[n]:=by rw[ay,aA _];rfl
 have U:ss.getD (n+1) []=ss[n+1]:=by rw[ay,aA _];rfl
 rw[O,U]
 have W:ss.drop n=ss[n]::ss[n+1]::ss.drop (n+2):=by
  rw[aV _,aV _]
 have:=bm n ss;rw[W]at this;exact this.symm
def AM(ss:List (List dp))(n:Nat):(if 0<(jc ss n).length then [jc ss n]else [])=pM n (ss.getD n []) (ss.getD (n+1) []):=rfl
def wK(ss:List (List dp))(n:Nat)(h:n+1<ss.length)(Y:List (List dp)):dv (eu ((ss.take n++(pM n (ss.getD n []) (ss.getD (n+1) [])++ss.drop (n+2)))++Y))=dv (eu (ss++Y)):=by
 have O:(ss.take n).length=n:=by simp;omega
 have e:=uv (ss.take n) (ss.drop (n+2)++Y) (ss.getD n []) (ss.getD (n+1) []);rw[O]at e;conv=>rhs;rw[C8 ss n h]
 simp only[aS]at e⊢;exact e
def Lc(n:Nat)(a b:List dp):(pM n a b).length<=1:=by unfold pM;split<;>simp
def pO{α:Type}(A B:List α)(k:Nat)(h:A.length<=k):(A++B).take k=A++B.take (k-A.length):=by
 rw[List.take_append,bc h]
def Da{O:List dp}{ss:List (List dp)}(h:Inv O ss)(n:Int):Inv O (eZ ss n).2:=by
 unfold eZ;split;exact h;split;exact h;rename_i hn hg;obtain⟨m,rfl⟩:∃m:Nat,n=(m:Int):=⟨n.toNat,by omega⟩;have hm:m+1<ss.length:=by omega
 rw[Int.toNat_natCast]at *;rw[AM]at *;show Inv O (ss.take m++(pM m (ss.getD m []) (ss.getD (m+1) [])++ss.drop (m+2)));have aa:=C8 ss m hm;have af:=wK ss m hm [O]
 have U:ss.getD m []∈ss/\ss.getD (m+1) []∈ss:=by
  rw[ay,ay,aA (by omega),aA hm];exact⟨aN _,aN _⟩
 have hA:kz (ss.getD m []):=h.iB _ U.1;have hB:kz (ss.getD (m+1) []):=h.iB _ U.2;change ¬100<(I4 m (ss.getD m []) (ss.getD (m+1) [])).length-(dv (I4 m (ss.getD m []) (ss.getD (m+1) []))).length at hg;clear U;generalize ss.getD m []=A at *;generalize ss.getD (m+1) []=B at *;have ah:=Lc m A B
 have ab:(dv (dL A B)).length<=30:=by
  have W:=h.there (m+2) (by omega)
  have e:ss.take (m+2)=ss.take m++[A,B]:=by
   conv=>lhs;rw[aa]
   rw[pO _ _ _ (by simp;omega)];have:(ss.take m).length=m:=by simp;omega
   rw[this,show m+2-m=2 by omega];simp
  rw[e,show ss.take m++[A,B]=(ss.take m++[A])++[B] by simp,ew,ew,qj]at W;exact cw (lB _ _) W
 refine⟨h.each,h.nodup,h.gone,?_,?_,?_,?_⟩;intro s hs;rcases aB.1 hs with h1|h1
 exact h.iB s (bx h1);rcases aB.1 h1 with h1|h1
 obtain⟨h1,ac⟩:=K5 h1;rw[<-h1,jM]at hg;unfold I4 at h1
 have ad:∀e∈s,e∈dL (A) (B):=by
  intro e Y;rw[h1]at Y;split at Y;exact(az.1 Y).1;exact Y
 have ae:=qw hA.nodup hB.nodup;refine zb (λe Y=>?_) ?_ ac (by omega) ?_;rcases lP.1 (ad e Y)with W|W
 exact hA.each e W.1;exact hB.each e W;rw[h1];split;exact nh ae;exact ae;rw[h1];split;rw[kA];exact ab;exact ab;exact h.iB s (bz h1);have:=h.qg;simp only[a0,cd,bR];omega;intro k hk;by_cases ag:k<=m;rw[bw (by simp;omega),ci,c7 ag];exact h.there k (by omega);have e0:(ss.take m).length=m:=by simp;omega
 rw[pO _ _ _ (by omega),e0,pO _ _ _ (by omega)];have e:=uv (ss.take m) ((ss.drop (m+2)).take (k-m-(pM m A B).length)) (A) (B);rw[e0]at e;rw[e]
 have e4:ss.take m++([A,B]++(ss.drop (m+2)).take (k-m-(pM m A B).length))=ss.take (m+2+(k-m-(pM m A B).length)):=by
  conv=>rhs;rw[aa]
  rw[pO _ _ _ (by omega),pO _ _ _ (by simp;omega)];simp;omega
 rw[e4];refine h.there _ ?_;simp only[a0,cd,bR]at hk;omega;rw[fl,af,<-fl];exact h.all
def gC(O:List dp)(ss:List (List dp))(bs:Wd):Nat×List (List dp):=
 match kM bs with
 |none=>(7,ss)
 |some l=>if 0<O.length then(3,ss)else if 6<ss.length+1\/30<(dP (ss++[l]) []).length then(4,ss)else(0,ss++[l])
def sw{bs:Wd}(h:kM bs=some l):kz l/\dK l=bs:=by
 rw[s9]at h;split at h;simp at h;obtain⟨x,O,rfl⟩:=Option.map_eq_some_iff.1 h;have:=zA O;exact⟨this.1,this.2.1.symm⟩
def Qc{O:List dp}{ss:List (List dp)}(h:Inv O ss)(bs:Wd):Inv O (gC O ss bs).2:=by
 unfold gC;split;exact h;rename_i l hl;split;exact h;split;exact h;have Y:O=[]:=aR.1 (by omega);subst Y
 have ht:=by
  have:(dP (ss++[l]) []).length<=30:=by omega
  rw[fl,ew,jZ]at this;exact this
 refine⟨h.each,h.nodup,h.gone,?_,by simp;omega,?_,by show(dP (ss++[l]) []).length<=30;omega⟩;intro s hs;rcases aB.1 hs with W|W
 exact h.iB s W;simp only[aF]at W;subst W;exact(sw hl).1;intro k hk;by_cases U:k<=ss.length;rw[bw U];exact h.there k U;rw[bc (by simp;omega)];exact ht
def uL(h:tC e):e.name.length<=8/\e.text.length<=24:=by
 refine⟨(fZ h.2.1).2,?_⟩;have:=(oy h).1;unfold dG at this;rw[fH]at this;exact this
def IG(h:tC e):(ku e).length<=38:=by
 have O:=uL h;simp[ku,dC,eR];omega
def Kf(m:List dp)(h:∀e∈m,tC e):(m.flatMap ku).length<=m.length*38:=by
 induction m with
 |nil=>simp|cons e m O=>
  have W:=IG (h e (by simp));have Y:=O λe U=>h e (by simp[U]);rw[aH,a0,aD];omega
def JB:∀(f:Nat)(p:Wd)(G:List dp),(∀e∈G,tC e)->p.length<=24->(jr f p G).length<=5+G.length*(38+7*(24-p.length)):=by
 intro f;induction f with
 |zero=>simp[jr]|succ f ih=>
  intro p G hG hp;have ad:=Kf (jG G p) (λe he=>hG e (az.1 he).1);have W:=Db p _ (jQ (lI G p)) G
  have hk:∀cs:List UInt8,(∀c∈cs,c∈iY G p)->(cs.flatMap λc=>dC ((jS (jg G p c)).drop p.length)++jr f (jS (jg G p c)) (jg G p c)).length<=(cs.map λc=>(jg G p c).length).sum*(38+7*(24-p.length)):=by
   intro cs;induction cs with
   |nil=>simp|cons c cs ab=>
    intro hc;have h1:=ab (λd hd=>hc d (by simp[hd]));have O:=sy (hc c (by simp));have U:=(Gp O).length_le;rw[<-tG]at O U;have Y:=bC.2 O;obtain⟨e0,aa⟩:=aK _ O
    have ac:(jS (jg G p c)).length<=24:=by
     have a:=((o8 O).1 _ (aC.2 ⟨e0,aa,rfl⟩)).length_le;have b:=uL (hG e0 (iy.1 aa).1);unfold dG at a;rw[fH]at a;omega
    have h2:=ih _ (jg G p c) (λe he=>hG e (iy.1 he).1) ac;have h3:(dC ((jS (jg G p c)).drop p.length)).length=1+((jS (jg G p c)).length-p.length):=by simp[dC];omega
    rw[aH,a0,a0,aE,aX,cy];simp only[a0,aD,aM]at U;generalize (jg G p c).length=n at *;generalize (jS _).length=s at *;have e1:n*(38+7*(24-p.length))=n*(38+7*(24-s))+n*(7*(s-p.length)):=by rw[<-c6];congr 1;omega
    have e2:7*(s-p.length)<=n*(7*(s-p.length)):=Nat.le_mul_of_pos_left _ Y;omega
  have ae:=hk _ (λ_ h=>h);rw[jr];simp only[a0,aD];have h3:(eR (fP G)).length=3:=rfl;generalize ((iY G p).map λc=>(jg G p c).length).sum=m at *;generalize (jG G p).length=x at *;have e1:x*38<=x*(38+7*(24-p.length)):=Nat.mul_le_mul_left _ (by omega);have e2:(x+m)*(38+7*(24-p.length))<=G.length*(38+7*(24-p.length)):=cq _ W;rw[cy]at e2;omega
def Jh(l:List dp)(h:∀e∈l,e.name.length<=8):(l.flatMap λe=>dC e.name).length<=l.length*9:=by
 induction l with
 |nil=>simp|cons e l O=>
  have W:=h e (by simp);have Y:=O λe U=>h e (by simp[U]);rw[aH,a0,aD];have:(dC e.name).length=e.name.length+1:=by simp[dC]
  omega
def T5(h:NN e):e.name.length<=8:=by
 rcases h with h|h
 have:=uL h;omega;exact(fZ h.2).2
def UC(h:NN e)(O:e.gone=false):tC e:=by
 rcases h with h|h
 exact h;rw[h.1]at O;cases O
def tM{l:List dp}(h:kz l)(hl:l.length<=12):(dK l).length<=4000:=by
 have U:=fL l;have W:=U.length_eq;have h1:=Jh ((eW l).filter λe=>e.gone) λe O=>T5 (h.each e (U.mem_iff.1 (az.1 O).1));have Y:=JB 26 [] ((eW l).filter λe=>!e.gone) (λe O=>UC (h.each e (U.mem_iff.1 (az.1 O).1)) (by simpa using(az.1 O).2)) (by simp);have h3:=aJ (λe=>e.gone) (eW l);have h4:=aJ (λe=>!e.gone) (eW l);unfold dK;rw[aD,a0,a0];have h5:(dC []).length=1:=rfl;simp only[aM]at Y;omega
def Cn(e:dp)(g:Wd):List dp:=if g=[]then [e]else [e,⟨g,true,[],0,0⟩]
def Q3(e:dp):jS [e]=dG e:=by
 simp[jS,Nt]
def ME{c:UInt8}{k:Wd}(h:dG e=c::k):iY [e] []=[c]:=by
 have O:(iY [e] []).Perm [c]:=by
  rw[bn (jQ (lI ..)) (by simp)];intro d;rw[pJ];simp[h]
 exact bB.1 O
def LU(h:tC e)(f:Nat):jr (f+1) (dG e) [e]=eR e.du++(1::(ku e++[0])):=by
 have W:jG [e] (dG e)=[e]:=by simp[jG]
 have Y:iY [e] (dG e)=[]:=by
  rw[List.eq_nil_iff_forall_not_mem];intro c O;rw[pJ]at O;obtain⟨x,U,hp⟩:=O;simp only[aF]at U;subst U;have:=hp.length_le;simp at this;omega
 have hm:fP [e]=e.du:=by
  unfold fP;simp only[aP,cj];have:=h.2.2.2.2.1;split<;>omega
 rw[jr,W,Y,hm];simp[u8]
def Nr(h:tC e)(f:Nat):jr (f+2) [] [e]=eR e.du++(0::1::(dC (dG e)++(eR e.du++(1::(ku e++[0]))))):=by
 obtain⟨c,k,O⟩:∃c k,dG e=c::k:=by
  have:=(oy h).2
  cases U:dG e with
  |nil=>rw[U]at this;simp at this|cons c k=>exact⟨c,k,rfl⟩
 have W:jG [e] []=[]:=by simp[jG,O]
 have Y:jg [e] [] c=[e]:=by simp[jg,rk,O]
 have hm:fP [e]=e.du:=by
  unfold fP;simp only[aP,cj];have:=h.2.2.2.2.1;split<;>omega
 rw[jr,W,ME O,hm];simp only[ce,aT,aH,ba,aM,aD,List.drop_zero,Y,Q3];rw[LU h f];simp[u8]
variable {ss xs:List (List dp)} {g:Wd}
def pE(xs:List (List dp)):dP xs []=dv (eu xs):=by rw[fl,ew,jZ]
def Kk(h:(eu xs).Perm (eu ss)):(dP xs []).Perm (dP ss []):=by
 rw[pE,pE];exact h.filter _
def xc{s:List dp}(h:kz s)(U:s.length<=12):∃l,kM (dK s)=some l/\l.Perm s/\dK l=dK s:=by
 obtain⟨gs,es,O,W⟩:=tV h;refine⟨gs++es,?_,W,(zA O).2.1.symm⟩;rw[s9,if_neg (by have:=tM h U;omega),O];rfl
def MN{U:List dp}{i:Nat}(W:Inv U ss)(hi:i<ss.length)(hx:xs.length=i)(hp:(eu xs).Perm (eu (ss.take i)))(O:(ss.getD i []).length<=12) :
  ∃l,gC [] xs (dK (ss.getD i []))=(0,xs++[l])/\dK l=dK (ss.getD i [])/\(eu (xs++[l])).Perm (eu (ss.take (i+1))):=by
 have hg:ss.getD i []=ss[i]:=by rw[ay,aA hi];rfl
 rw[hg]at O⊢;obtain⟨l,h1,h2,h3⟩:=xc (W.iB _ (aN hi)) O
 have Y:(eu (xs++[l])).Perm (eu (ss.take (i+1))):=by
  rw[ew,aG hi,ew];exact C9 hp h2
 refine⟨l,?_,h3,Y⟩;have hf:=W.qg;have ht:=W.there (i+1) (by omega)
 have hl:(dP (xs++[l]) []).length<=30:=by
  rw[pE,(show(dv _).Perm _ from Y.filter _).length_eq];exact ht
 unfold gC;rw[h1];simp only[aM];rw[if_neg (by omega),if_neg (by omega)]
def O7(bs:Wd):gC [] [] bs=(7,[])\/∃l,gC [] [] bs=(0,[l])/\dK l=bs:=by
 unfold gC
 cases h:kM bs with
 |none=>exact .inl rfl|some l=>
  obtain⟨O,U⟩:=sw h;refine .inr ⟨l,?_,U⟩
  have W:(dP ([]++[l]) []).length<=30:=by
   rw[pE];exact O.there
  simp only[aM];rw[if_neg (by omega),if_neg (by omega)];rfl
def QH(h:tC e)(W:g=[]\/(gq g=true/\g≠e.name)):kz (Cn e g):=by
 unfold Cn;split;refine⟨λx O=>?_,by simp,by simp,by simp[h.1],by simp[h.1]⟩;simp only[aF]at O;rw[O];exact .inl h
 rename_i Y;have U:=W.resolve_left Y;refine⟨λx O=>?_,?_,by simp,by simp[h.1],by simp[h.1]⟩;simp only[a8,bP,or_false]at O;rcases O with rfl|rfl
 exact .inl h;exact .inr ⟨rfl,U.1⟩;simp only[aE,bg,aY,aF,bP,not_false_eq_true,List.nodup_nil,and_true];exact λx=>U.2 x.symm
def Og(h:tC e)(g:Wd):dK (Cn e g)=(if g=[]then [0]else 1::dC g)++(0::(eR e.du++(0::1::(dC (dG e)++(eR e.du++(1::(ku e++[0]))))))):=by
 have O:=fL (Cn e g)
 have W:((eW (Cn e g)).filter λe=>!e.gone)=[e]:=by
  refine bB.1 ((O.filter _).trans ?_);unfold Cn;split<;>simp[h.1]
 have Y:((eW (Cn e g)).filter λe=>e.gone)=if g=[]then []else [⟨g,true,[],0,0⟩]:=by
  split;rename_i U;refine List.perm_nil.1 ((O.filter _).trans ?_);simp[Cn,U,h.1];rename_i U;refine bB.1 ((O.filter _).trans ?_);simp[Cn,U,h.1]
 unfold dK;rw[W,Y,Nr h 24];split<;>simp[u8,dC]
def EZ(h:tC e)(U:g=[]\/(gq g=true/\g≠e.name)):∃l,gC [] [] (dK (Cn e g))=(0,[l])/\dK l=dK (Cn e g)/\dP [l] []=[e]:=by
 obtain⟨l,W,Y,h3⟩:=xc (QH h U) (by unfold Cn;split<;>simp)
 have O:dP [l] []=[e]:=by
  rw[pE];refine bB.1 ((show(dv _).Perm (dv _)from Y.filter _).trans ?_);unfold Cn dv;split<;>simp[h.1]
 refine⟨l,?_,h3,O⟩;unfold gC;rw[W];simp only[aM,aT,O];rfl
def GJ(O:List dp)(ss:List (List dp)):(dW (dW O ss).2.1 (dW O ss).2.2).1=4\/((dW (dW O ss).2.1 (dW O ss).2.2).1=5/\(dW (dW O ss).2.1 (dW O ss).2.2).2.1=[]):=by
 by_cases U:O.length=0;have hb:=aR.1 U;have e:dW O ss=(5,O,ss):=by unfold dW;rw[if_pos U]
 rw[e];rw[e];exact .inr ⟨rfl,hb⟩;by_cases W:6<=ss.length;have e:dW O ss=(4,O,ss):=by unfold dW;rw[if_neg U,if_pos W]
 rw[e];rw[e];exact .inl rfl;have e:(dW O ss).2.1=[]:=by unfold dW;rw[if_neg U,if_neg W]
 rw[e];exact .inr ⟨rfl,rfl⟩
def pk(c:Int)(n:Nat):Nat:=((if c<0 then -(c+1)else c) % (n:Int)).toNat
def kD(c:Int)(n:Nat)(O:0<n):pk c n<n:=by
 unfold pk;have U:=Int.emod_lt_of_pos (if c<0 then -(c+1)else c) (show(0:Int)<n by omega);omega
def gH(c:Int)(n:Nat)(w:World)(h0 : -9223372036854775808<=c)(h1:c<=9223372036854775807)(hn:0<n)(U:n<=1000000):cO prog 15 #[.int .i64 c,.int .i64 (n:Int)] w λe w'=>e=.returned (.int .i64 (pk c n:Nat))/\w=w':=by
 have W:¬((n:Int)=0):=by omega
 have Y:¬((n:Int) = -1):=by omega
 by_cases O:c<0
 .have e:((pk c n):Int)=(-(c+1)).tmod n:=by
   unfold pk;rw[if_pos O,df (by omega)];have:=dj (-(c+1)) (show(n:Int)≠0 by omega);omega
  rw[e];go_wp2;go_ret;refine⟨?_,rfl⟩;show Ending.returned (.int _ _)=_;rw[Int.neg_tmod]
 have e:((pk c n):Int)=c.tmod n:=by
  unfold pk;rw[if_neg O,df (by omega)];have:=dj c (show(n:Int)≠0 by omega);omega
 go_wp2;go_ret;refine⟨?_,rfl⟩;show Ending.returned (.int _ _)=_;rw[df (by omega)]
def iR(a:Wd)(c:UInt8)(row:List Nat)(z:Nat):Nat->List Nat
 |0=>[z]
 |i+1=>iR a c row z i++[min (min (row.getD i 0+(if a.getD i 0=c then 0 else 1)) (row.getD (i+1) 0+1)) ((iR a c row z i).getD i 0+1)]
def lU(a s:Wd):Nat->List Nat
 |0=>aL (a.length+1)|k+1=>iR a (s.getD k 0) (lU a s k) (k+1) a.length
def Fl(a s:Wd)(k:Nat):Nat:=(lU a s k).getD a.length 0
def kU(a:Wd)(c:UInt8)(row:List Nat)(z:Nat):∀i,(iR a c row z i).length=i+1:=by
 intro i;induction i with
 |zero=>rfl|succ i O=>rw[iR,a0,O];rfl
def we(a s:Wd)(k:Nat):(lU a s k).length=a.length+1:=by
 cases k with
 |zero=>simp[lU]|succ k=>rw[lU,kU]
def uT(a:Wd)(c:UInt8)(row:List Nat)(z m:Nat)(Y:z<=m)(U:∀x∈row,x+1<=m):∀i,i<row.length->∀x∈iR a c row z i,x<=m:=by
 intro i;induction i with
 |zero=>intro _ x O;simp[iR]at O;omega|succ i W=>
  intro hi x O;rcases aB.1 O with h|h
  exact W (by omega) x h;simp only[a8,bP,or_false]at h;have h1:=U (row.getD _ 0) (by rw[ay,aA hi];exact aN hi);omega
def Hd(a s:Wd):∀k,∀x∈lU a s k,x<=a.length+k:=by
 intro k;induction k with
 |zero=>intro x O;simp[lU]at O;omega|succ k U=>
  intro x O;exact uT a _ _ _ _ (by omega) (λy W=>by have:=U y W;omega) _ (by rw[we];omega) x O
def kw(mode:Nat)(q s:Wd):Bool:=
 if mode=0 then rk s q
 else if mode=1 then(aL s.length).any λi=>gI s i&&rk (s.drop i) q
 else(aL (s.length+1)).any λk=>decide (Fl q s k<mode)
end
section
def mZ(a b:Wd):(⟨a.toArray⟩:ByteArray)++⟨b.toArray⟩=⟨(a++b).toArray⟩:=by
 apply dk;simp
def qu(w:World)(o:Obj):(w.alloc o).heap[w.heap.size]?=some o:=by simp[fb,-e8]
open Go.RowKit
def tr(k:Nat):Wd:=[dc (97+k)]
def vR(c:Int)(w:World)(Y : -9223372036854775808<=c)(h1:c<=9223372036854775807):cO prog 23 #[.int .i64 c] w λe w'=>e=.returned (.string ⟨(tr (pk c 12)).toArray⟩)/\w=w':=by
 have U:=gH c 12 w Y h1 (by omega) (by omega);have O:=kD c 12 (by omega);obtain⟨k,W⟩:∃k,k=pk c 12:=⟨_,rfl⟩;rw[<-W]at U O⊢;clear W;go_enter func23,ntmps23;go_wp2_with fail;refine U.mono ?_;rintro e w1 ⟨rfl,rfl⟩;rcases(by omega:k=0\/k=1\/k=2\/k=3\/k=4\/k=5\/k=6\/k=7\/k=8\/k=9\/k=10\/k=11)with rfl|rfl|rfl|rfl|rfl|rfl|rfl|rfl|rfl|rfl|rfl|rfl
 all_goals
  go_wp2;go_ret;exact⟨rfl,rfl⟩
def w6:Nat->Wd
 |0=>[110,101,119]
 |1=>[89,111,114,107]
 |2=>[110,101,119,97,114,107]
 |3=>[110,101]
 |4=>[89,111,45,121,111]
 |_=>[107,57]
def Bi(n:Nat):Wd:=
 if n<6 then w6 n else if n<42 then w6 ((n-6) / 6)++[32]++w6 ((n-6) % 6)
 else w6 ((n-42) / 36)++[45]++w6 ((n-42) / 6 % 6)++[32]++w6 ((n-42) % 6)
def wk:Array Value:=#[.string ⟨#[110,101,119]⟩,.string ⟨#[89,111,114,107]⟩,.string ⟨#[110,101,119,97,114,107]⟩,.string ⟨#[110,101]⟩,.string ⟨#[89,111,45,121,111]⟩,.string ⟨#[107,57]⟩]
def IJ(i:Nat)(h:i<6):wk[i]?=some (.string ⟨(w6 i).toArray⟩):=by
 rcases(by omega:i=0\/i=1\/i=2\/i=3\/i=4\/i=5)with rfl|rfl|rfl|rfl|rfl|rfl<;>rfl
def zh(i:Nat):(w6 i).length<=6:=by unfold w6;split<;>simp
def Cb(c:Int)(w:World)(h0 : -9223372036854775808<=c)(h1:c<=9223372036854775807):cO prog 45 #[.int .i64 c] w λe w'=>e=.returned (.string ⟨(Bi (pk c 258)).toArray⟩)/\Below w.heap.size w w':=by
 have aa:=kD c 258 (by omega);obtain⟨n,Y⟩:∃n,n=pk c 258:=⟨_,rfl⟩;have hb:Below w.heap.size w (w.alloc (.cells wk 9)):=(gt _ _).alloc (cp _) _;have HB:hI _:=hb
 have HC:hI (∀i,i<6->(w.alloc (.cells wk 9)).cell? ⟨w.heap.size,i,none⟩=some (.string ⟨(w6 i).toArray⟩)):=λi hi=>by
  rw[dn (cs:=wk) (t:=9) (fz:=(0,0)) (by simp[fb,-e8])];exact IJ i hi
 have hp:=gH c 258 (w.alloc (.cells wk 9)) h0 h1 (by omega) (by omega);rw[<-Y]at hp aa⊢;clear Y hb;unfold wk at HB HC hp;by_cases U:n<6
 .have g1:((n:Nat):Int)<6:=by omega
  have W:Bi n=w6 n:=by unfold Bi;rw[if_pos U]
  have hc:=HC.out n U;rw[W];go_enter hD,hC;go_wp2_with fail;refine hp.mono ?_;rintro e w1 ⟨rfl,rfl⟩;clear hp;go_wp2;go_ret;exact⟨rfl,HB.out⟩
 have g1:¬((n:Nat):Int)<6:=by omega
 by_cases O:n<42
 .obtain⟨i,j,hi,hj,Y⟩:∃i j,i<6/\j<6/\n=6+6*i+j:=⟨(n-6) / 6,(n-6) % 6,by omega,by omega,by omega⟩
  have W:Bi n=w6 i++[32]++w6 j:=by
   unfold Bi;rw[if_neg U,if_pos O,show(n-6) / 6=i by omega,show(n-6) % 6=j by omega]
  have ab:=HC.out i hi;have ac:=HC.out j hj;have zi:(⟨(w6 i).toArray⟩:ByteArray).size<=6:=by have:=zh i;simpa[dm]using this
  have zj:(⟨(w6 j).toArray⟩:ByteArray).size<=6:=by have:=zh j;simpa[dm]using this
  rw[W];have g3:(⟨(w6 i++[32]++w6 j).toArray⟩:ByteArray)=⟨(w6 i).toArray⟩++⟨#[32]⟩++⟨(w6 j).toArray⟩:=by rw[<-mZ,<-mZ]
  rw[g3];clear g3;generalize (⟨(w6 i).toArray⟩:ByteArray)=si at *;generalize (⟨(w6 j).toArray⟩:ByteArray)=sj at *;have g4:(n:Int)-6<36:=by omega
  have g5:((n:Int)-6).tdiv 6=(i:Nat):=by rw[dg (by omega)];omega
  have g6:((n:Int)-6).tmod 6=(j:Nat):=by rw[df (by omega)];omega
  have m1:(i:Int)<6:=by omega
  have m2:(j:Int)<6:=by omega
  have k1:IntKind.i64.wrap ((i:Int))=i:=by simp only[ga];omega
  have k2:IntKind.i64.wrap ((j:Int))=j:=by simp only[ga];omega
  clear W Y O U;go_enter hD,hC;go_wp2_with fail;refine hp.mono ?_;rintro e w1 ⟨rfl,rfl⟩;clear hp;generalize w.alloc _=wa at *;go_wp2;go_quiet (fail);go_wp2;go_ret;exact⟨rfl,iO HB.out _⟩
 obtain⟨i,j,l,hi,hj,hl,Y⟩:∃i j l,i<6/\j<6/\l<6/\n=42+36*i+6*j+l:=⟨(n-42) / 36,(n-42) / 6 % 6,(n-42) % 6,by omega,by omega,by omega,by omega⟩
 have W:Bi n=w6 i++[45]++w6 j++[32]++w6 l:=by
  unfold Bi;rw[if_neg U,if_neg O,show(n-42) / 36=i by omega,show(n-42) / 6 % 6=j by omega,show(n-42) % 6=l by omega]
 have ab:=HC.out i hi;have ac:=HC.out j hj;have jP:=HC.out l hl;have zi:(⟨(w6 i).toArray⟩:ByteArray).size<=6:=by have:=zh i;simpa[dm]using this
 have zj:(⟨(w6 j).toArray⟩:ByteArray).size<=6:=by have:=zh j;simpa[dm]using this
 have zl:(⟨(w6 l).toArray⟩:ByteArray).size<=6:=by have:=zh l;simpa[dm]using this
 rw[W];have g3:(⟨(w6 i++[45]++w6 j++[32]++w6 l).toArray⟩:ByteArray)=⟨(w6 i).toArray⟩++⟨#[45]⟩++⟨(w6 j).toArray⟩++⟨#[32]⟩++⟨(w6 l).toArray⟩:=by rw[<-mZ,<-mZ,<-mZ,<-mZ]
 rw[g3];clear g3;generalize (⟨(w6 i).toArray⟩:ByteArray)=si at *;generalize (⟨(w6 j).toArray⟩:ByteArray)=sj at *;generalize (⟨(w6 l).toArray⟩:ByteArray)=sl at *;have g4:¬(n:Int)-6<36:=by omega
 have g6:((n:Int)-6-36).tdiv 36=(i:Nat):=by rw[dg (by omega)];omega
 have g7:((n:Int)-6-36).tdiv 6=((6*i+j:Nat):Int):=by rw[dg (by omega)];omega
 have g8:(6*(i:Int)+(j:Int)).tmod 6=(j:Nat):=by rw[df (by omega)];omega
 have g9:((n:Int)-6-36).tmod 6=(l:Nat):=by rw[df (by omega)];omega
 have m1:(i:Int)<6:=by omega
 have m2:(j:Int)<6:=by omega
 have k1:IntKind.i64.wrap ((i:Int))=i:=by simp only[ga];omega
 have k2:IntKind.i64.wrap ((j:Int))=j:=by simp only[ga];omega
 have m3:(l:Int)<6:=by omega
 have k3:IntKind.i64.wrap ((l:Int))=l:=by simp only[ga];omega
 have k4:IntKind.i64.wrap (6*(i:Int)+(j:Int))=6*(i:Int)+(j:Int):=by simp only[ga];omega
 clear W Y O U;go_enter hD,hC;go_wp2_with fail;refine hp.mono ?_;rintro e w1 ⟨rfl,rfl⟩;clear hp;generalize w.alloc _=wa at *;go_wp2;go_quiet (fail);go_wp2;go_ret;exact⟨rfl,iO HB.out _⟩
def na(c:UInt8)(w:World) :
  cO prog 98 #[.int .u8 c.toNat] w λe w'=>e=.returned (.bool (fu c))/\w=w':=by
 go_wp2
 all_goals
  go_ret;refine⟨eO ?_,rfl⟩;unfold fu;rw[cB];simp only[decide_eq_true_eq,cC,true_iff,false_iff,cI];omega
def rI(s:ByteArray)(w:World)(hs:s.size<=cK) :
  cO prog 48 #[.string s] w λe w'=>e=.returned (.bool (eA s.data.toList))/\w=w':=by
 unfold cK at hs;by_cases aa:s.size<=24
 .have hd:decide (24<(s.size:Int))=false:=by simp;omega
  go_enter func48,ntmps48;go_wp2;go_loop [9] (λi=>∃k:Nat,k<=s.size/\i=.int .i64 k/\(s.data.toList.take k).all oP=true) (λi=>s.size-(intOf i).toNat)
  case atStart=>exact⟨0,cu _,rfl,rfl⟩
  case round=>
   obtain⟨k,hk,rfl,fG⟩:=hrel;have HA:hI _:=fG;clear fG;by_cases U:k<s.size
   .have W:=vZ s k U;have HS:hI _:=W;clear W;by_cases O:oP s[k]=true
    .have HP:hI _:=O;have Y:32<=(s[k].toNat:Int):=by simp[oP]at O;omega
     have h2:(s[k].toNat:Int)<=126:=by simp[oP]at O;omega
     clear O;go_wp2;go_round
     case rel=>exact⟨k+1,by omega,by go_num,by rw[HS.out,List.all_append,HA.out];simp[HP.out]⟩
     case measure=>simp[intOf];omega
    have HP:hI _:=O;have Y:(s[k].toNat:Int)<32\/126<(s[k].toNat:Int):=by simp[oP]at O;omega
    clear O;rcases Y with Y|Y
    all_goals
     go_wp2;go_ret;refine⟨eO ?_,rfl⟩;symm;rw[cF];intro hq;apply HP.out;simp only[eA,cA]at hq;exact List.all_eq_true.1 hq.2 _ (D1 s k U)
   go_wp2;go_ret;refine⟨eO ?_,rfl⟩;have e:s.data.toList.take k=s.data.toList:=bc (by simp;omega);have:=HA.out;rw[e]at this;simp[eA,this];exact aa
 go_enter func48,ntmps48;go_wp2;go_ret;refine⟨eO ?_,rfl⟩;simp[eA];omega
def qH(s:ByteArray)(w:World)(Y:s.size<=cK) :
  cO prog 65 #[.string s] w λe w'=>e=.returned (.bool (decide (eA s.data.toList=true/\s.data.toList≠[])))/\w=w':=by
 by_cases O:s.data.toList=[]
 .have U:s=⟨#[]⟩:=by
   apply dk;apply go.1;exact O
  subst U;go_wp2;go_ret;exact⟨eO (by simp),rfl⟩
 have W:s.toList.isEmpty=false:=by
  rw[hE]
  cases h:s.data.toList with
  |nil=>exact absurd h O|cons a l=>rfl
 have HQ:hI (decide (eA s.data.toList=true/\s.data.toList≠[])=eA s.data.toList):=by
  rw[cB,decide_eq_true_eq];exact⟨λh=>h.1,λh=>⟨h,O⟩⟩
 go_enter func65,ntmps65;go_wp2_with fail;refine(rI _ _ Y).mono ?_;rintro e w' ⟨rfl,rfl⟩;go_wp2;go_ret;exact⟨eO (by rw[HQ.out]),rfl⟩
def sM(w:World)(g:Nat)(l:List UInt8):Prop:=∀j(h:j<l.length),w.cell? ⟨g,j,none⟩=some (.int .u8 l[j].toNat)/\w.frozen? ⟨g,j,none⟩=false
def sM.set{w:World}{g:Nat}{l:List UInt8}(h:sM w g l)(k:Nat)(c:UInt8)(v:Value)(W:v=.int .u8 c.toNat):sM (w.setCell ⟨g,k,none⟩ v) g (l.set k c):=by
 subst W;intro j Y;have O:j<l.length:=by simpa using Y
 obtain⟨U,h2⟩:=h j O;refine⟨?_,by rw[World.frozen?_setCell];exact h2⟩;by_cases e:k=j;subst e;rw[World.cell?_setCell_same _ _ _ U];simp;rw[World.cell?_setCell_other _ _ _ _ (by intro hh;simp at hh),U];simp[e]
def iS(l:List UInt8)(k:Nat):List UInt8:=dX (l.take k)++l.drop k
def tR(l:List UInt8)(k:Nat):(iS l k).length=l.length:=by simp[iS,dX];omega
def yB(l:List UInt8)(k:Nat)(h:k<l.length):(iS l k)[k]'(by rw[tR];exact h)=l[k]:=by
 unfold iS;simp[dX,c7 (Nat.le_of_lt h)]
def HJ(l:List UInt8)(k:Nat)(h:k<l.length):iS l (k+1)=(iS l k).set k (rT l[k]):=by
 unfold iS;rw[aG h,zX];have O:(dX (l.take k)).length=k:=by rw[fH];simp;omega
 rw[List.set_append_right _ _ (by omega),O,Nat.sub_self,aS];rw[aV h];rfl
def I'(l:List UInt8):iS l l.length=dX l:=by simp[iS]
def Im(l:List UInt8):iS l 0=l:=by simp[iS,dX]
def drawn_setCell(w:World)(a:Addr)(v:Value):(w.setCell a v).drawn=w.drawn:=by
 unfold e6;split <;>(try split) <;>(try split)<;>rfl
def tH(s:ByteArray)(w:World)(hs:s.size<=1099511627776) :
  cO prog 50 #[.string s] w λe w'=>e=.returned (.string ⟨(dX s.data.toList).toArray⟩)/\Below w.heap.size w w'/\w.drawn<=w'.drawn:=by
 have ab:=Lib.run_convert_string_bytes (P:=prog) w 9 60 5 s h9 h7 h';go_enter func50,ntmps50;obtain⟨W0,O⟩:∃W0,Lib.bytesWorld w 5 s=W0:=⟨_,rfl⟩
 have hb0:Below w.heap.size w W0:=by
  subst O;exact⟨rfl,rfl,rfl,by rw[er];omega,λk hk=>Lib.bytesWorld_at_old w _ s k hk⟩
 have hd0:w.drawn<=W0.drawn:=by subst O;exact Nat.le_succ _
 have hz0:w.heap.size<W0.heap.size:=by subst O;rw[er];omega
 have hA0:sM W0 w.heap.size (iS s.data.toList 0):=by
  rw[Im];intro j hj;have ac:j<s.size:=by simpa using hj
  subst O;refine⟨?_,?_⟩;rw[Lib.bytesWorld_cell w _ s j ac,ay,aA hj];rfl;simp[e7,Lib.bytesWorld_at_new];intro h;simp[Lib.bytesCells]at h;omega
 rw[O]at ab;clear O;go_wp2;go_loopw [10] (λi wr=>∃k:Nat,k<=s.size/\i=.int .i64 k/\sM wr w.heap.size (iS s.data.toList k)/\Below w.heap.size w wr/\w.heap.size<wr.heap.size/\w.drawn<=wr.drawn) (λi _=>s.size-(intOf i).toNat)
 case atStart=>exact⟨0,cu _,rfl,hA0,hb0,hz0,hd0⟩
 case round=>
  obtain⟨k,hk,rfl,hA,hb,hz,hd⟩:=hrel;have HD:hI (w.drawn<=wr.drawn):=hd;clear hd;by_cases ad:k<s.size
  .have W:k<s.data.toList.length:=by simpa using ad
   obtain⟨hc,hf⟩:=hA k (by rw[tR];exact W);rw[yB _ _ W]at hc;have HE:hI (iS s.data.toList (k+1)=(iS s.data.toList k).set k (rT s.data.toList[k])):=HJ _ _ W;have HG:hI (s.data.toList.length=s.size):=by show _=_;simp
   have aa:hI ((iS s.data.toList k)[k]'(by rw[tR];exact W)=s.data.toList[k]):=yB _ _ W;have HA:hI (sM wr w.heap.size (iS s.data.toList k)):=hA;generalize s.data.toList[k]=c at *;clear hA;by_cases U:65<=c.toNat/\c.toNat<=90
   .have h1:65<=(c.toNat:Int):=by omega
    have h2:(c.toNat:Int)<=90:=by omega
    have HL:hI (((rT c).toNat:Int)=(c.toNat:Int)+32):=Lt _ U;clear U;go_wp2;go_roundw
    case rel=>exact⟨k+1,by omega,by go_num,by rw[HE.out];exact HA.out.set k _ _ (by rw[HL.out];go_num),gv hb (cp _) _,by simpa[e6]using hz,by rw[drawn_setCell];exact HD.out⟩
    case measure=>simp[intOf];omega
   have HL:hI (rT c=c):=KH _ U;have ae:(c.toNat:Int)<65\/90<(c.toNat:Int):=by omega
   have HS:hI (iS s.data.toList (k+1)=iS s.data.toList k):=by
    show _=_;rw[HE.out,HL.out,<-aa.out];simp
   clear U;rcases ae with h1|h1
   all_goals
    go_wp2;go_roundw
    case rel=>exact⟨k+1,by omega,by go_num,by rw[HS.out];exact HA.out,hb,hz,HD.out⟩
    case measure=>simp[intOf];omega
  have ek:k=s.size:=by omega
  subst ek;have W:(dX s.data.toList).length=s.size:=by rw[fH];simp
  have e1:iS s.data.toList s.size=dX s.data.toList:=by
   have:s.size=s.data.toList.length:=by simp
   rw[this,I']
  rw[e1]at hA
  have Y:=run_convert_bytes_back (P:=prog) wr 60 9 5 ⟨w.heap.size,0,none⟩ (grownCap w s.size 0 5) (dX s.data.toList) h7 h' h9 (λj hj=>by
   have:=(hA j hj).1
   have e2:(⟨w.heap.size,0,none⟩:Addr).add j=⟨w.heap.size,j,none⟩:=by
    unfold gd;split;rename_i h;rw[h];simp
   rw[e2];exact this)
  rw[W]at Y;clear W e1;go_wp2;go_ret;exact⟨rfl,hb,HD.out⟩
def pW(s:ByteArray)(w:World)(O:s.size<=1099511627776) :
  cO prog 50 #[.string s] w λe w'=>e=.returned (.string ⟨(dX s.data.toList).toArray⟩)/\Below w.heap.size w w':=(tH s w O).mono λ_ _ h=>⟨h.1,h.2.1⟩
def vr(O:List (List Wd))(s:List UInt8)(most:Int):List Wd×Nat:=
 if most<1\/20<most then([],3)else if eA s=true then(js O (iQ (dX s)) most.toNat,0)else([],2)
def NL(w:World):Prop:=w.cell? ⟨0,0,none⟩=some (.int .u64 4)/\w.cell? ⟨0,1,none⟩=some (.int .u64 10)/\w.cell? ⟨0,2,none⟩=some (.int .u64 25)
def NL.below{w w':World}(h:NL w)(hb:Below w.heap.size w w'):NL w':=⟨cV hb h.1,cV hb h.2.1,cV hb h.2.2⟩
open Go.Maps
variable {D:DataW Value} {m:List (Wd×Value)} {r:Nat} {row:Option Nat} {e t:cL} {w':World}
def lF(v:Value):Option (DataW Value×List MemPlace):=some (.held v,[])
structure PB(D:DataW Value)(l:List (Wd×Value)):Prop where
 nodup:(l.map hO).Nodup
 short:∀p∈l,p.1.length<=cK
 size:gA D=l.length
 has:∀x:Wd,gB D (.string x)=l.any λp=>p.1==x
 at_:∀p∈l,∀z,D.atKey (.string p.1) z=.held p.2
def dM(P:Program)(k:cL)(w:World)(B:Nat)(l:List (Wd×Value)):Prop:=∃D:DataW Value,w.ownsMap P k lF B l.length D/\PB D l
def rV(l:List (Wd×Value))(x:Wd)(v:Value):List (Wd×Value):=(l.filter λp=>p.1 != x)++[(x,v)]
def ER{α:Type}{l m:List α}(h:l.Perm m)(f:α->Bool):l.any f=m.any f:=by
 rw[cB];simp only[bH];exact⟨λ⟨x,O,U⟩=>⟨x,h.mem_iff.1 O,U⟩,λ⟨x,O,U⟩=>⟨x,h.mem_iff.2 O,U⟩⟩
def PB.perm{l:List (Wd×Value)}(h:PB D l)(O:l.Perm m):PB D m where
 nodup:=(O.map hO).nodup_iff.1 h.nodup
 short:=λp hm=>h.short p (O.mem_iff.2 hm);size:=by rw[h.size,O.length_eq]
 has:=λx=>by rw[h.has x,ER O]
 at_:=λp hm=>h.at_ p (O.mem_iff.2 hm)
def Ak{P:Program}{k:cL}{w:World}{B n:Nat}{R:Value->Option (DataW Value×List MemPlace)}(h:w.ownsMap P k R B n D):w.ownsMap P k R B (gA D) D:=by
 obtain⟨es,clock,hb,F,_,rfl⟩:=h;exact⟨es,clock,hb,F,by simp[gA,length_sorted],rfl⟩
section
variable {P:Program} {k:cL} {w:World} {B:Nat} {l:List (Wd×Value)}
def dM.perm(h:dM P k w B l)(O:l.Perm m):dM P k w B m:=by
 obtain⟨D,U,W⟩:=h;exact⟨D,by rw[<-O.length_eq];exact U,W.perm O⟩
def dM.lt(h:dM P k w B l):B<w.heap.size:=by
 obtain⟨D,O,_⟩:=h;exact O.lt
def dM.nodup(h:dM P k w B l):(l.map hO).Nodup:=by
 obtain⟨D,_,O⟩:=h;exact O.nodup
def dM.stay(h:dM P k w B l)(hb:w'.heap[B]?=w.heap[B]?):dM P k w' B l:=by
 obtain⟨D,⟨es,clock,O,U⟩,W⟩:=h;exact⟨D,⟨es,clock,hb.trans O,U⟩,W⟩
def dM.below(h:dM P k w B l)(hb:Below w.heap.size w w'):dM P k w' B l:=h.stay (hb.block B h.lt)
def dM.kept(h:dM P k w B l)(U:w.grownBy w' row)(O:some B≠row):dM P k w' B l:=h.stay (U.block B h.lt O)
def dM.made(w:World):dM P k (w.alloc (.map #[] 0)) w.heap.size []:=
 ⟨.map [],World.ownsMap_made ..,⟨List.Pairwise.nil,nofun,rfl,λ_=>rfl,nofun⟩⟩
def Lm(O:P.underlying k=some .string)(x:Wd)(U:x.length<=cK):keyOf P k (.string ⟨x.toArray⟩)=some (.string x):=by
 have:=WideMaps.keyOf_string_mk (P:=P) (k:=k) O (s:=⟨x.toArray⟩) (by show x.toArray.size<=cK;simpa using U);simpa using this
def mS(l:List (Wd×Value))(x:Wd)(z:Value):Value:=match l.find? λp=>p.1==x with
 |some p=>p.2|none=>z
def dM.look{z:Value}(h:dM P k w B l)(hk:P.underlying k=some .string)(ht:P.underlying t=some (.map k e))(hz:(zeroValue e).run P w=.ok z w)(x:Wd)(hx:x.length<=cK) :
  (Instr.lookup t (.map (some B)) (.string ⟨x.toArray⟩) false).run P w=.ok (mS l x z) w/\(Instr.lookup t (.map (some B)) (.string ⟨x.toArray⟩) true).run P w=.ok (.tuple #[mS l x z,.bool (l.any λp=>p.1==x)]) w:=by
 obtain⟨D,h1,O⟩:=h;have K:=g0 hk;have gu:=Lm hk x hx;obtain⟨v1,p1,r1,U⟩:=h1.lookup K ht hz (zd:=.held z) (zp:=[]) rfl gu;obtain⟨v2,p2,r2,W⟩:=h1.look_ok K ht hz (zd:=.held z) (zp:=[]) rfl gu
 have Y:D.atKey (.string x) (.held z)=.held (mS l x z):=by
  unfold mS
  cases hf:l.find? _ with
  |none=>
   have:gB D (.string x)=false:=by
    rw[O.has x,bE];intro p hp;simpa using List.find?_eq_none.1 hf p hp
   exact atKey_of_not_has this _
  |some p=>
   have hp:=List.mem_of_find?_eq_some hf;have he:=by simpa using List.find?_some hf
   have:=O.at_ p hp (.held z);rw[he]at this;exact this
 rw[Y]at U W;simp only[lF,db,fB,DataW.held.injEq]at U W;rw[r1,r2,U.1,W.1,O.has x];exact⟨rfl,rfl⟩
def dM.len(h:dM P k w B l)(U:P.underlying t=some (.map k e))(O:cL):(ei #[t] O #[.map (some B)]).run P w=.ok (.int .i64 (l.length:Nat)) w:=by
 obtain⟨D,W,Y⟩:=h;rw[W.len U O,Y.size]
def FO(l:List (Wd×Value))(x y:Wd)(U:y≠x):(l.filter λp=>p.1 != x).any (λp=>p.1==y)=l.any λp=>p.1==y:=by
 rw[cB];simp only[bH,az,beq_iff_eq,bne_iff_ne];constructor;rintro⟨p,⟨W,_⟩,O⟩;exact⟨p,W,O⟩;rintro⟨p,W,O⟩;exact⟨p,⟨W,by rw[O];exact U⟩,O⟩
def Pa(x:Wd):∀(l:List (Wd×Value)),(l.map hO).Nodup->(l.filter λp=>p.1 != x).length+(if l.any (λp=>p.1==x)then 1 else 0)=l.length:=by
 intro l;induction l with
 |nil=>intro _;rfl|cons p l W=>
  intro O;rw[aE,aY]at O;have h:=W O.2;by_cases e:p.1=x
  have U:l.any (λp=>p.1==x)=false:=by
   rw[bE];intro q Y;simp only[beq_iff_eq];intro e2;exact O.1 (aC.2 ⟨q,Y,by rw[e2,e]⟩)
  rw[U]at h;simp[e]at h⊢;exact h;rw[br,List.any_cons];simp only[bne_iff_ne,ne_eq,e,not_false_eq_true,if_true,aD];have:(p.1==x)=false:=by simpa using e
  rw[this,cJ];omega
def dM.put(h:dM P k w B l)(hk:P.underlying k=some .string)(ht:P.underlying t=some (.map k e))(hn:l.length<cK)(x:Wd)(hx:x.length<=cK)(v:Value) :
  ∃w',(Instr.mapUpdate t (.map (some B)) (.string ⟨x.toArray⟩) v).run P w=.ok () w'/\dM P k w' B (rV l x v)/\w.grownBy w' (some B)/\w'.heap.size=w.heap.size:=by
 obtain⟨D,h1,O⟩:=h;have K:=g0 hk;have gu:=Lm hk x hx;obtain⟨w',hr,ho,U⟩:=h1.store K ht hn gu (d:=.held v) (ps:=[]) (val:=v) rfl;have hT:=h1.tidy K
 have W:gA (D.put (.string x) (.held v))=(rV l x v).length:=by
  rw[size_put hT,O.has x,O.size];have:=Pa x l O.nodup;unfold rV;rw[a0,List.length_singleton];split at this<;>rename_i hh;rw[if_pos hh];omega;rw[if_neg hh];omega
 refine⟨w',hr,⟨_,by rw[<-W];exact Ak ho,⟨?_,?_,W,?_,?_⟩⟩,U.grown,?_⟩;unfold rV;rw[aU,aE,bg,bf];refine⟨O.nodup.sublist ((bk).map _),by simp,?_⟩;intro a ha b hb;simp only[aF]at hb;subst hb;obtain⟨p,Y,rfl⟩:=aC.1 ha;have:=(az.1 Y).2;simpa using this;intro p Y;rcases aB.1 Y with h|h
 exact O.short p (az.1 h).1;simp only[aF]at h;subst h;exact hx;intro y;unfold rV;rw[List.any_append];by_cases e:y=x;subst e;rw[has_put_same h1.isMap (show WideAt.IsKeyLit (.string y)from trivial)];simp;rw[has_put_other (by simpa using e),O.has y,FO l x y e];have:(x==y)=false:=by simpa using λh=>e h.symm
 simp[this];intro p Y z;rcases aB.1 Y with h|h
 have hm:=az.1 h;have ab:=by simpa using hm.2
 rw[atKey_put_other (by simpa using ab)];exact O.at_ p hm.1 z;simp only[aF]at h;subst h;rw[atKey_put_same h1.isMap (show WideAt.IsKeyLit (.string x)from trivial)];obtain⟨es,clock,ac,aa,_,rfl⟩:=U;simp[ChangeMaps.setBlock]
def eF(P:Program)(k:cL)(w:World)(B r:Nat)(l rest:List (Wd×Value)):Prop:=
 (rest.map hO).Nodup/\(∀p∈rest,p∈l)/\∃D left cnt,w.ranges P k lF B r l.length D left cnt/\PB D l/\∀x:Wd,left (.string x)=rest.any λp=>p.1==x
def eF.owns{rest:List (Wd×Value)}(h:eF P k w B r l rest):dM P k w B l:=by
 obtain⟨_,_,D,left,cnt,O,U,_⟩:=h;exact⟨D,O.owns,U⟩
def eF.lt{rest:List (Wd×Value)}(h:eF P k w B r l rest):r<w.heap.size:=by
 obtain⟨_,_,D,left,cnt,O,U,_⟩:=h;exact O.lt
def eF.kept{rest:List (Wd×Value)}(h:eF P k w B r l rest)(O:w.grownBy w' row)(U:some B≠row)(W:some r≠row):eF P k w' B r l rest:=by
 obtain⟨a,b,D,left,cnt,Y,h2,h3⟩:=h;exact⟨a,b,D,left,cnt,Y.kept O U W,h2,h3⟩
def eF.jT(O:w'.heap[B]?=w.heap[B]?)(U:w'.heap[r]?=w.heap[r]?):w'.rangeLeft B r=w.rangeLeft B r:=by
 unfold World.rangeLeft;rw[O,U]
def dM.range(h:dM P k w B l)(U:P.underlying k=some .string)(W:P.underlying t=some (.map k e)) :
  ∃w',(Instr.range t (.map (some B))).run P w=.ok (.pointer (some ⟨w.heap.size,0,none⟩)) w'/\eF P k w' B w.heap.size l l/\w.grownBy w' none/\w'.heap.size=w.heap.size+1:=by
 obtain⟨D,Y,O⟩:=h;obtain⟨w',hr,r1,r2,r3⟩:=Y.range (g0 U) W;exact⟨w',hr,⟨O.nodup,λ_ h=>h,D,_,_,r1,O,O.has⟩,r2,r3⟩
def Ls(U:P.underlying k=some .string){key:Value}{O:Lit}(h:keyOf P k key=some O):∃x:Wd,key=.string ⟨x.toArray⟩/\O=.string x:=by
 cases key<;>simp[keyOf,U,mapKey]at h;rename_i s;refine⟨s.data.toList,?_,h.2.symm⟩;simp
def Sv:∀{l:List (Wd×Value)},(l.map hO).Nodup->∀{a b:Wd×Value},a∈l->b∈l->a.1=b.1->a=b:=by
 intro l;induction l with
 |nil=>intro _ a b h;simp at h|cons c l W=>
  intro O a b U hb e;rw[aE,aY]at O;rcases a8.1 U with ea|U
  rcases a8.1 hb with eb|hb
  rw[ea,eb];exact absurd (aC.2 ⟨b,hb,by rw[<-e,ea]⟩) O.1;rcases a8.1 hb with eb|hb
  exact absurd (aC.2 ⟨a,U,by rw[e,eb]⟩) O.1;exact W O.2 U hb e
def eF.next{rest:List (Wd×Value)}(h:eF P k w B r l rest)(hk:P.underlying k=some .string)(ty:cL) :
  (rest=[]/\(Instr.next (.pointer (some ⟨r,0,none⟩)) false ty).run P w=.ok (.tuple #[.bool false]) w)\/
  ∃p O w',rest.Perm (p::O)/\(Instr.next (.pointer (some ⟨r,0,none⟩)) false ty).run P w=.ok (.tuple #[.bool true,.string ⟨p.1.toArray⟩,p.2]) w'/\eF P k w' B r l O/\w'.rangeLeft B r<w.rangeLeft B r/\
   w.grownBy w' (some r)/\w'.heap.size=w.heap.size/\(Instr.entry (.pointer (some ⟨r,0,none⟩))).run P w'=.ok (.tuple #[.string ⟨p.1.toArray⟩,p.2]) w':=by
 obtain⟨hn,U,D,left,cnt,h1,h2,h3⟩:=h;rcases h1.next (g0 hk) ty with⟨_,hl,hr⟩|⟨key,v,kl,y,w',aa,gu,ad,hv,ae,hr,ab,af,hg,hs,ag⟩
 left;refine⟨?_,hr⟩
 cases rest with
 |nil=>rfl|cons p rest=>
  have:=hl (.string p.1);rw[h3]at this;simp at this
 right;obtain⟨x,rfl,rfl⟩:=Ls hk gu;have hx:=ad;rw[h3,bH]at hx;obtain⟨p,hp,Y⟩:=hx;have Y:=by simpa using Y
 subst Y
 have ah:=by
  have e1:=h2.at_ p (U p hp) (.held v);rw[ae]at e1;simp only[lF,db]at hv;rw[<-hv]at e1;simpa using e1
 subst ah;refine⟨p,rest.filter λq=>q.1 != p.1,w',?_,hr,⟨?_,?_,D,_,aa,ab,h2,λx=>?_⟩,?_,hg,hs,ag⟩;have ac:rest.Nodup:=ev _ (λa b ai e=>ai (by rw[e])) hn;rw[bn ac];intro q;simp only[a8,az,bne_iff_ne];constructor;intro W;by_cases e:q.1=p.1;left;exact Sv hn W hp e;right;exact⟨W,e⟩;rintro(rfl|⟨W,_⟩);exact hp;exact W;rw[aY];refine⟨λh=>?_,ac.sublist bk⟩;have:=(az.1 h).2;simp at this;exact hn.sublist (bk.map _);exact λq W=>U q (az.1 W).1;rw[h3];by_cases e:x=p.1;subst e;have:(Lit.string p.1).sameKey (.string p.1)=true:=by simp[Lit.sameKey]
 rw[this];simp only[Bool.not_true,Bool.and_false];symm;rw[bE];intro q W;have:=(az.1 W).2;simpa using this;have:(Lit.string x).sameKey (.string p.1)=false:=by simp[Lit.sameKey,e]
 rw[this,FO rest _ x e];simp;rw[ab.left_eq,h1.left_eq];exact af
end
section
variable {P:Program} {k:cL} {B:Nat} {l:List (Wd×Value)} (w:World) {ops:Array Oper} {rest:List Oper} {o:Oper} {a:Act} {Q:Exit->Act->World->Prop}
def Bh(Y:o.guard=none)(m:Operand)(t:cL)(U:o.op=Op.range t m)(e:cL)(hk:P.underlying k=some .string)(ht:P.underlying t=some (.map k e))
  (hm:a.eval m=.map (some B)) (h:dM P k w B l)
  (hK:∀w',eF P k w' B w.heap.size l l->w.grownBy w' none->w'.heap.size=w.heap.size+1->cM P ops Q rest (a.put o.dst (.pointer (some ⟨w.heap.size,0,none⟩))) w') :
  cM P ops Q (o::rest) a w:=by
 refine cN Y λK' W=>?_;obtain⟨w',O,r1,r2,r3⟩:=h.range hk ht;unfold Oper.wp;simp[cU,U,hm,O,ge];exact W _ _ (hK w' r1 r2 r3)
def D3(hg:o.guard=none)(it:Operand)(Y:o.op=Op.next it false)(hk:P.underlying k=some .string)(r:Nat)(left:List (Wd×Value))
  (aa:a.eval it=.pointer (some ⟨r,0,none⟩)) (h:eF P k w B r l left)
  (W:left=[]->cM P ops Q rest (a.put o.dst (.tuple #[.bool false])) w)
  (hMore:∀p O w',left.Perm (p::O)->eF P k w' B r l O->w'.rangeLeft B r<w.rangeLeft B r->w.grownBy w' (some r)->w'.heap.size=w.heap.size->(Instr.entry (.pointer (some ⟨r,0,none⟩))).run P w'=.ok (.tuple #[.string ⟨p.1.toArray⟩,p.2]) w'->
    cM P ops Q rest (a.put o.dst (.tuple #[.bool true,.string ⟨p.1.toArray⟩,p.2])) w') :
  cM P ops Q (o::rest) a w:=by
 refine cN hg λK' ab=>?_;unfold Oper.wp;rcases h.next hk o.type with⟨h0,U⟩|⟨p,O,w',hp,U,ac,ad,ae,af,ag⟩
 simp[cU,Y,aa,U,ge];exact ab _ _ (W h0);simp[cU,Y,aa,U,ge];exact ab _ _ (hMore p O w' hp ac ad ae af ag)
def jB(Y:o.guard=none)(m x v:Operand)(t:cL)(U:o.op=Op.mapUpdate t m x v)(e:cL)(hk:P.underlying k=some .string)(ht:P.underlying t=some (.map k e))
  (hm:a.eval m=.map (some B)) (h:dM P k w B l) (hn:l.length<cK) (y:Wd) (hy:y.length<=cK) (hx:a.eval x=.string ⟨y.toArray⟩) (u:Value) (hv:a.eval v=u)
  (hK:∀w',dM P k w' B (rV l y u)->w.grownBy w' (some B)->w'.heap.size=w.heap.size->cM P ops Q rest (a.put o.dst undef) w') :
  cM P ops Q (o::rest) a w:=by
 refine cN Y λK' W=>?_;obtain⟨w',O,r1,r2,r3⟩:=h.put hk ht hn y hy u;unfold Oper.wp;simp[cU,U,hm,hx,hv,O,ge];exact W _ _ (hK w' r1 r2 r3)
end
end
section
open Go.RowKit
variable {e:dp} {ps:List (Nat×dp)} {N a b c f:Nat} {r:Wd}
abbrev sn(l:List (Nat×dp)):List dp:=l.map Prod.snd
def im(N:Nat):Nat->Wd->List Wd->Wd->Wd->Option (List (Nat×dp)×Wd)
 |0,_,_,_,bs=>some ([],bs)|n+1,path,O,last,bs=>(lL O last bs).bind λx=>(ji x.1 x.2).bind λy=>if dG y.1=path then(im N n path (O++[x.1]) x.1 y.2).bind λz=>some ((N-bs.length,y.1)::z.1,z.2)else none
def iC(node:Wd->List Wd->Wd->Option (Nat×List (Nat×dp)×Wd)):Nat->Wd->List Wd->Int->Wd->Option (Nat×List (Nat×dp)×Wd)
 |0,_,_,_,bs=>some (0,[],bs)|n+1,path,O,last,bs=>(iI bs).bind λx=>if x.1≠[]/\last<((x.1.getD 0 0).toNat:Int)then
   (node (path++x.1) O x.2).bind λy=>(iC node n path (O++(sn y.2.1).map dp.name) ((x.1.getD 0 0).toNat:Int) y.2.2).bind λz=>some (max y.1 z.1,y.2.1++z.2.1,z.2.2)else none
def fj(N:Nat):Nat->Wd->List Wd->Wd->Option (Nat×List (Nat×dp)×Wd)
 |0,_,_,_=>none|f+1,path,O,bs=>if path.length<=24 then
   (gh bs).bind λa=>(rdNum a.2).bind λb=>(im N b.1 path O [] b.2).bind λc=>(rdNum c.2).bind λd=>(iC (fj N f) d.1 path (O++(sn c.1).map dp.name) (-1) d.2).bind λe=>
    if(a.1:Int)=max (fP (sn c.1)) e.1/\(path=[]\/0<b.1\/1<d.1)then some (a.1,c.1++e.2.1,e.2.2)else none
  else none
def ix(N:Nat):Nat->List Wd->Wd->Wd->Option (List (Nat×dp)×Wd)
 |0,_,_,bs=>some ([],bs)|n+1,O,last,bs=>(lL O last bs).bind λx=>(ix N n (O++[x.1]) x.1 x.2).bind λz=>some ((N-bs.length,⟨x.1,true,[],0,0⟩)::z.1,z.2)
def ij(N:Nat)(bs:Wd):Option (List (Nat×dp)×List (Nat×dp)):=
 (rdNum bs).bind λa=>(ix N a.1 [] [] a.2).bind λb=>(iI b.2).bind λc=>if c.1=[]then(fj N 26 [] ((sn b.1).map dp.name) c.2).bind λd=>
  if d.2.2=[]/\0<b.1.length+d.2.1.length/\a.1<=100/\d.2.1.length<=30 then some (b.1,d.2.1)else none else none
def wm(N:Nat):∀(n:Nat)(O:List Wd)(U r:Wd),oU n O U r=(ix N n O U r).map λz=>(sn z.1,z.2)
 |0,_,_,_=>rfl|n+1,O,U,r=>by
  rw[oU,ix]
  cases lL O U r with
  |none=>rfl|some x=>
   simp only[cm,wm N n];cases ix N n .. <;> rfl
def CD(N:Nat):∀(n:Nat)(path:Wd)(O:List Wd)(U r:Wd),oY n path O U r=(im N n path O U r).map λz=>(sn z.1,z.2)
 |0,_,_,_,_=>rfl|n+1,path,O,U,r=>by
  rw[oY,im]
  cases lL O U r with
  |none=>rfl|some x=>
   simp only[cm]
   cases ji .. with
   |none=>rfl|some y=>
    simp only[cm,CD N n];split
    cases im N n path .. <;> rfl;rfl
def CW(W:∀path O r,lC f path O r=(fj N f path O r).map λz=>(z.1,sn z.2.1,z.2.2)):∀(n:Nat)(path:Wd)(O:List Wd)(U:Int)(r:Wd),oV (lC f) n path O U r=(iC (fj N f) n path O U r).map λz=>(z.1,sn z.2.1,z.2.2)
 |0,_,_,_,_=>rfl|n+1,path,O,U,r=>by
  rw[oV,iC]
  cases iI r with
  |none=>rfl|some x=>
   simp only[cm,W,CW W n];split
   cases fj N f _ O _ with
   |none=>rfl|some y=>
    simp only[cn,cm];cases iC _ n path .. <;> simp[sn]
   rfl
def CB(N:Nat):∀(f:Nat)(path:Wd)(O:List Wd)(r:Wd),lC f path O r=(fj N f path O r).map λz=>(z.1,sn z.2.1,z.2.2)
 |0,_,_,_=>rfl|f+1,path,O,r=>by
  rw[lC,fj];split
  cases gh r with
  |none=>rfl|some a=>
   simp only[cm]
   cases rdNum _ with
   |none=>rfl|some b=>
    simp only[cm,CD N]
    cases im N _ path O [] _ with
    |none=>rfl|some c=>
     simp only[cn,cm]
     cases rdNum _ with
     |none=>rfl|some d=>
      simp only[cm,CW (CB N f)]
      cases iC _ _ path .. with
      |none=>rfl|some e=>
       simp only[cn,cm];split<;>simp[sn]
  rfl
def Od(N:Nat)(bs:Wd):pH bs=(ij N bs).map λz=>(sn z.1,sn z.2):=by
 unfold pH ij
 cases rdNum bs with
 |none=>rfl|some a=>
  simp only[cm,wm N]
  cases ix N _ [] [] _ with
  |none=>rfl|some b=>
   simp only[cn,cm]
   cases iI _ with
   |none=>rfl|some c=>
    simp only[cm,CB N];split
    cases fj N 26 [] .. with
    |none=>rfl|some d=>
     simp only[cn,cm,bK];split<;>rfl
    rfl
def Fq{n:Nat}{O:List Wd}{U W:Wd}{gs:List (Nat×dp)}(h:ix N n O U r=some (gs,W)):gs.length=n:=by
 have e:=wm N n O U r;rw[h]at e;have:=(wB _ _ _ _ _ _ e).1;rw[bK]at this;omega
def qk(a b:Nat)(ps:List (Nat×dp)):Prop:=a<=b/\(∀p∈ps,a<=p.1/\p.1<b)/\ps.Pairwise λx y=>x.1<y.1
def qk.nil(h:a<=b):qk a b []:=⟨h,by simp,.nil⟩
def qk.append{qs:List (Nat×dp)}(h:qk a b ps)(W:qk b c qs):qk a c (ps++qs):=by
 obtain⟨h1,O,Y⟩:=h;obtain⟨k1,U,k3⟩:=W;refine⟨by omega,λp hp=>?_,bo.2 ⟨Y,k3,λx hx y hy=>?_⟩⟩;rcases aB.1 hp with h|h
 have:=O p h;omega;have:=U p h;omega;have:=O x hx;have:=U y hy;omega
def qk.one(h:a<b):qk a b [(a,e)]:=⟨by omega,by simp;omega,by simp⟩
def qk.from(h:qk b c ps)(U:a<=b):qk a c ps:=⟨by have:=h.1;omega,λp O=>by have:=h.2.1 p O;omega,h.2.2⟩
def zO(N:Nat):∀{n:Nat}{U:List Wd}{W r O:Wd}{gs:List dp},oU n U W r=some (gs,O)->r.length<=N->∃ps,ix N n U W r=some (ps,O)/\sn ps=gs/\O.length<=r.length/\qk (N-r.length) (N-O.length) ps
 |0,_,_,_,_,_,h,_=>by cases h;exact⟨[],rfl,rfl,cp _,.nil (cp _)⟩
 |n+1,U,W,r,O,gs,h,hN=>by
  rw[oU]at h
  simp only[cl]at h
  obtain⟨⟨nm,r1⟩,Y,⟨gs',r2⟩,h2,h3⟩:=h
  cases h3
  try dsimp only at *
  have hl:r1.length+1<=r.length:=by rw[(lh Y).1];simp[dC]
  obtain⟨ps,k1,k2,k3,k4⟩:=zO N h2 (by omega);refine⟨(N-r.length,⟨nm,true,[],0,0⟩)::ps,?_,by simp[sn,<-k2],by omega,(qk.one (by omega)).append k4⟩;rw[ix,Y,cm,k1];rfl
def Ig{nm O:Wd}(h:ji nm r=some (e,O)):O.length<=r.length:=by
 unfold ji at h;simp only[cl]at h;obtain⟨⟨tx,r'⟩,U,h⟩:=h;split at h;simp only[cl]at h;obtain⟨⟨wt,r3⟩,W,h⟩:=h;split at h;simp only[cl]at h;obtain⟨⟨tg,r4⟩,Y,h⟩:=h;cases h;have e1:=(fW U).1;have e2:=(iJ W).1;have e3:=(fA Y).1;rw[e1,e2,e3];simp;omega
 cases h
 cases h
def Ar(N:Nat):∀{n:Nat}{path:Wd}{W:List Wd}{Y r O:Wd}{es:List dp},oY n path W Y r=some (es,O)->r.length<=N->∃ps,im N n path W Y r=some (ps,O)/\sn ps=es/\O.length<=r.length/\qk (N-r.length) (N-O.length) ps
 |0,_,_,_,_,_,_,h,_=>by cases h;exact⟨[],rfl,rfl,cp _,.nil (cp _)⟩
 |n+1,path,W,Y,r,O,es,h,hN=>by
  rw[oY]at h
  simp only[cl]at h
  obtain⟨⟨nm,r1⟩,h1,⟨e,r2⟩,h2,U⟩:=h
  split at U
  .rename_i hk;simp only[cl]at U;obtain⟨⟨aa,r4⟩,h4,h5⟩:=U;cases h5
   try dsimp only at *
   have hl:r1.length+1<=r.length:=by rw[(lh h1).1];simp[dC]
   have ab:=Ig h2;obtain⟨ps,k1,k2,k3,k4⟩:=Ar N h4 (by omega);refine⟨(N-r.length,e)::ps,?_,by simp[sn,<-k2],by omega,(qk.one (by omega)).append k4⟩;rw[im,h1,cm,h2,cm,if_pos hk,k1];rfl
  cases U
def Pb(N:Nat)(f:Nat):Prop:=∀(path:Wd)(U:List Wd)(r O:Wd)(g:Nat)(es:List dp),lC f path U r=some (g,es,O)->r.length<=N->∃ps,fj N f path U r=some (g,ps,O)/\sn ps=es/\O.length<=r.length/\qk (N-r.length) (N-O.length) ps
def ze(Y:Pb N f):∀{n:Nat}{path:Wd}{U:List Wd}{W:Int}{r O:Wd}{g:Nat}{es:List dp},oV (lC f) n path U W r=some (g,es,O)->r.length<=N->∃ps,iC (fj N f) n path U W r=some (g,ps,O)/\sn ps=es/\O.length<=r.length/\qk (N-r.length) (N-O.length) ps
 |0,_,_,_,_,_,_,_,h,_=>by cases h;exact⟨[],rfl,rfl,cp _,.nil (cp _)⟩
 |n+1,path,U,W,r,O,g,es,h,hN=>by
  rw[oV]at h
  simp only[cl]at h
  obtain⟨⟨lb,r1⟩,h1,h⟩:=h
  split at h
  .rename_i hc;simp only[cl]at h;obtain⟨⟨g1,aa,r2⟩,h2,⟨g2,ab,r3⟩,h3,h4⟩:=h;cases h4
   try dsimp only at *
   have hl:r1.length<=r.length:=by rw[(fW h1).1];simp
   obtain⟨ps,k1,k2,k3,k4⟩:=Y _ _ _ _ _ _ h2 (by omega);obtain⟨qs,j1,j2,j3,j4⟩:=ze Y h3 (by omega);refine⟨ps++qs,?_,by simp[sn]at *;rw[k2,j2],by omega,(k4.append j4).from (by omega)⟩;rw[iC,h1,cm,if_pos hc,k1];simp only[k2,j1,cm]
  cases h
def Ao(N:Nat):∀f,Pb N f
 |0=>nofun
 |f+1=>λpath ks r rf g es h hN=>by
  rw[lC]at h
  split at h
  .rename_i hp
   simp only[cl]at h
   obtain⟨⟨wg,r0⟩,U,⟨nb,r1⟩,W,⟨own,r2⟩,h3,⟨nc,r3⟩,Y,⟨gb,below,r4⟩,h5,O⟩:=h
   split at O
   .rename_i hc;cases O
    try dsimp only at *
    have l1:r0.length<=r.length:=by rw[(iJ U).1];simp
    have l2:r1.length<=r0.length:=by have:=(fA W).1;rw[this];simp
    obtain⟨ps,k1,k2,k3,k4⟩:=Ar N h3 (by omega);have l3:r3.length<=r2.length:=by have:=(fA Y).1;rw[this];simp
    obtain⟨qs,j1,j2,j3,j4⟩:=ze (Ao N f) h5 (by omega);refine⟨ps++qs,?_,by simp[sn]at *;rw[k2,j2],by omega,(k4.append (j4.from (by omega))).from (by omega)⟩;rw[fj,if_pos hp,U,cm,W,cm,k1,cm,Y];simp only[k2,j1,cm];rw[if_pos hc]
   cases O
  cases h
def Nu{bs:Wd}{gs es:List dp}(h:pH bs=some (gs,es)):∃ps qs,ij bs.length bs=some (ps,qs)/\sn ps=gs/\sn qs=es/\qk 0 bs.length (ps++qs):=by
 unfold pH at h;simp only[cl]at h;obtain⟨⟨n,r⟩,W,⟨gs',r0⟩,h2,⟨lb,r1⟩,Y,h⟩:=h;split at h
 .rename_i hc;simp only[cl]at h;obtain⟨⟨g,O,r2⟩,h4,h⟩:=h;split at h
  .rename_i hd;cases h
   try dsimp only at *
   have l1:r.length<=bs.length:=by have:=(fA W).1;rw[this];simp
   obtain⟨ps,k1,U,k3,k4⟩:=zO _ h2 (by omega);have l3:r1.length<=r0.length:=by rw[(fW Y).1];simp
   obtain⟨qs,j1,j2,j3,j4⟩:=Ao bs.length 26 _ _ _ _ _ _ h4 (by omega);refine⟨ps,qs,?_,U,j2,?_⟩;have a1:ps.length=gs.length:=by rw[<-U];simp
   have a2:qs.length=O.length:=by rw[<-j2];simp
   unfold ij;rw[W,cm,k1,cm,Y,cm,if_pos hc];simp only[U,j1,cm];rw[if_pos (by rw[a1,a2];exact hd)];have:=(k4.append (j4.from (by omega))).from (cu _);rw[hd.1]at this;exact this
  cases h
 cases h
def wI{x y:UInt8}:((x.toNat:Int)==(y.toNat:Int))=decide (x=y):=by
 rw[cB,beq_iff_eq,decide_eq_true_eq];constructor;intro h;exact de.1 (by omega);intro h;rw[h]
variable {n:Nat} {p:Nat->Bool}
def Q2(s:ByteArray)(n:Nat):(s.extract n s.size).data.toList=s.data.toList.drop n:=by
 simp;rw[bc (by simp)]
def any_none(h:∀i,i<n->p i=false):(aL n).any p=false:=by
 rw[bE];intro x O;rw[h x (bp.1 O)];simp
def any_some(i:Nat)(hi:i<n)(h:p i=true):(aL n).any p=true:=
 bH.2 ⟨i,bp.2 hi,h⟩
def fy(x y:dp):Bool:=if x.du=y.du then(if dG x=dG y then c9 x.name y.name else c9 (dG x) (dG y))else decide (y.du<x.du)
def om(n:Nat):Wd:=if h:n<=9 then [48+dc n]else om (n / 10)++[48+dc (n % 10)]
termination_by n
decreasing_by omega
def pG{n:Nat}(h:n<=9):om n=[48+dc n]:=by rw[om,dif_pos h]
def n9{n:Nat}(h:¬n<=9):om n=om (n / 10)++[48+dc (n % 10)]:=by rw[om,dif_neg h]
def Pr(d:Nat)(h:d<=9):(⟨#[48,49,50,51,52,53,54,55,56,57]⟩:ByteArray).extract d (d+1)=⟨#[48+dc d]⟩:=by
 have O:d=0\/d=1\/d=2\/d=3\/d=4\/d=5\/d=6\/d=7\/d=8\/d=9:=by omega
 rcases O with rfl|rfl|rfl|rfl|rfl|rfl|rfl|rfl|rfl|rfl<;>decide +kernel
def Fg:∀(k n:Nat),n<10 ^ k->1<=k->(om n).length<=k:=by
 intro k;induction k with
 |zero=>omega|succ k U=>
  intro n h _;by_cases O:n<=9;rw[pG O];simp;rw[n9 O]
  have W:1<=k:=by
   rcases cx k with e|e
   subst e;omega;exact e
  have:=U (n / 10) (by omega) W;simp;omega
variable {x y:dp} {l:List dp} {told:List Nat} {ok:Nat->Bool}
def uM(x:dp):fy x x=false:=by
 unfold fy;rw[if_pos rfl,if_pos rfl,ir]
def oJ{z:dp}(U:fy x y=true)(O:fy y z=true):fy x z=true:=by
 unfold fy at *;by_cases a:x.du=y.du;rw[if_pos a]at U;by_cases b:y.du=z.du;rw[if_pos b]at O;rw[if_pos (a.trans b)];by_cases c:dG x=dG y;rw[if_pos c]at U;by_cases d:dG y=dG z;rw[if_pos d]at O;rw[if_pos (c.trans d)];exact k9 _ _ _ U O;rw[if_neg d]at O;rw[if_neg (λe=>d (c.symm.trans e)),c];exact O;rw[if_neg c]at U;by_cases d:dG y=dG z;rw[if_neg (λe=>c (e.trans d.symm)),<-d];exact U;rw[if_neg d]at O;have W:=k9 _ _ _ U O;rw[if_neg (BH W)];exact W;rw[if_neg b]at O;rw[if_neg (λe=>b (a.symm.trans e)),a];exact O;rw[if_neg a,decide_eq_true_eq]at U;by_cases b:y.du=z.du;rw[if_neg (λe=>a (e.trans b.symm)),decide_eq_true_eq];omega;rw[if_neg b,decide_eq_true_eq]at O;rw[if_neg (by omega),decide_eq_true_eq];omega
def FD(h:x.name≠y.name):fy x y=true\/fy y x=true:=by
 unfold fy;by_cases a:x.du=y.du;rw[if_pos a,if_pos a.symm];by_cases c:dG x=dG y;rw[if_pos c,if_pos c.symm];rcases iD .. with O|O|O
 exact Or.inl O;exact absurd O h;exact Or.inr O;rw[if_neg c,if_neg (λe=>c e.symm)];rcases iD .. with O|O|O
 exact Or.inl O;exact absurd O c;exact Or.inr O;rw[if_neg a,if_neg (λe=>a e.symm),decide_eq_true_eq,decide_eq_true_eq];omega
def Ju(h:fy x y=true):fy y x=false:=by
 rw[cF];intro O;have:=oJ h O;rw[uM]at this;cases this
def kJ:dp:=⟨[],false,[],0,0⟩
def uC(l:List dp)(ok:Nat->Bool):Nat->Option Nat
 |0=>none|k+1=>match uC l ok k with
  |none=>if ok k=true then some k else none|some b=>if ok k=true/\fy (l.getD k kJ) (l.getD b kJ)=true then some k else some b
def q9(l:List dp)(ok:Nat->Bool):Nat->List Nat->List Nat
 |0,_=>[]
 |n+1,told=>match uC l (λi=>ok i && !told.contains i) l.length with
  |none=>[]
  |some b=>b::q9 l ok n (told++[b])
def yX:∀k,uC l ok k=none->∀i,i<k->ok i=false:=by
 intro k;induction k with
 |zero=>omega|succ k U=>
  intro h i hi;rw[uC]at h
  cases hb:uC l ok k with
  |none=>
   rw[hb]at h;simp only at h;split at h
   cases h;rename_i W;rcases cv i k with O|O
   exact U hb i O;have e:i=k:=by omega
   subst e;simpa using W
  |some b=>
   rw[hb]at h;simp only at h;split at h<;>cases h
def Iv(hn:(l.map dp.name).Nodup):∀k b,k<=l.length->uC l ok k=some b->b<k/\ok b=true/\∀i,i<k->ok i=true->i≠b->fy (l.getD b kJ) (l.getD i kJ)=true:=by
 have Y:∀i j,i<l.length->j<l.length->i≠j->(l.getD i kJ).name≠(l.getD j kJ).name:=λi j hi hj h e=>by
  rw[ay,ay,aA hi,aA hj]at e;exact h ((List.getElem_inj (h₀:=by simpa using hi) (h₁:=by simpa using hj) hn).1 (by simpa using e))
 intro k;induction k with
 |zero=>intro b _ h;cases h
 |succ k ih=>
  intro b hk h;rw[uC]at h
  cases hb:uC l ok k with
  |none=>
   rw[hb]at h;simp only at h;split at h
   rename_i O;simp only[db]at h;subst h;refine⟨by omega,O,λi hi U W=>?_⟩;have:=yX k hb i (by omega);rw[this]at U;cases U
   cases h
  |some c=>
   rw[hb]at h;simp only at h;obtain⟨c1,c2,c3⟩:=ih c (by omega) hb;split at h
   rename_i O;simp only[db]at h;subst h;refine⟨by omega,O.1,λi hi U W=>?_⟩;by_cases e:i=c;subst e;exact O.2;exact oJ O.2 (c3 i (by omega) U e)
   rename_i O;simp only[db]at h;subst h;refine⟨by omega,c2,λi hi U W=>?_⟩;rcases cv i k with h3|h3
   exact c3 i h3 U W;have e:i=k:=by omega
   subst e;rcases FD (Y i c (by omega) (by omega) W)with h4|h4
   exact absurd ⟨U,h4⟩ O;exact h4
def nU(l:List dp)(ok:Nat->Bool)(told:List Nat):List Nat:=(aL l.length).filter λi=>ok i && !told.contains i
def GR{i:Nat}:i∈nU l ok told↔i<l.length/\(ok i && !told.contains i)=true:=by
 unfold nU;rw[az,bp]
def L'{b:Nat}(hb:b∈nU l ok told):(nU l ok told).Perm (b::nU l ok (told++[b])):=by
 have U:(nU l ok told).Nodup:=ck.sublist bk List.nodup_range
 have e:nU l ok (told++[b])=(nU l ok told).erase b:=by
  rw[U.erase_eq_filter];unfold nU;rw[aQ];refine bh λi _=>?_;rw[cB];simp only[cA,cE,bne_iff_ne,List.contains_eq_mem,aB,aF,decide_eq_false_iff_not];constructor;rintro⟨W,O⟩;exact⟨λh=>O (Or.inr h),W,λh=>O (Or.inl h)⟩;rintro⟨W,O,Y⟩;exact⟨O,λh=>h.elim Y W⟩
 rw[e];exact List.perm_cons_erase hb
def AY(l:List dp)(hn:(l.map dp.name).Nodup)(ok:Nat->Bool):∀(n:Nat)(told:List Nat)(S:List dp),S.Pairwise (λx y=>fy x y=true)->S.Perm ((nU l ok told).map λi=>l.getD i kJ)->(q9 l ok n told).map (λi=>l.getD i kJ)=S.take n:=by
 intro n;induction n with
 |zero=>simp[q9]|succ n ih=>
  intro told S hs W;rw[q9]
  cases hb:uC l .. with
  |none=>
   have Y:=yX _ hb
   have hc:nU l ok told=[]:=by
    unfold nU;rw[bd];intro i hi;rw[Y i (bp.1 hi)];simp
   rw[hc]at W;have:=fm W;subst this;simp
  |some b=>
   obtain⟨b1,b2,b3⟩:=Iv hn _ b (cp _) hb;have AQ:=GR.2 ⟨b1,b2⟩;have aa:=(L' AQ).map (λi=>l.getD i kJ);have O:=W.trans aa
   cases S with
   |nil=>exact absurd O.symm.eq_nil (by simp)|cons h S'=>
    have hh:h=l.getD b kJ:=by
     refine gx λU=>?_
     have m1:l.getD b kJ∈S':=by
      have:l.getD b kJ∈h::S':=O.mem_iff.2 (by simp);rcases a8.1 this with e|e
      exact absurd e.symm U;exact e
     have a1:=(a9.1 hs).1 _ m1;have m2:h∈(nU l ok told).map _:=W.mem_iff.1 (by simp);obtain⟨i,hi,e⟩:=aC.1 m2;have NO:=GR.1 hi;have ab:i≠b:=λe2=>U (by rw[<-e,e2]);have a2:=b3 i NO.1 NO.2 ab;rw[e]at a2;rw[Ju a1]at a2;cases a2
    subst hh;simp only[aE,bA];rw[ih _ S' (a9.1 hs).2 ((List.perm_cons _).1 O)]
def oZ(t e:Nat):Bool:=e &&& t==t
def fN(e:dp):Wd:=e.name++(32::(om e.du.toNat++(32::e.text)))
def rp(mode dE:Nat)(q:Wd)(e:dp):Bool:=oZ dE e.dE.toNat&&kw mode (dX q) (dG e)
def rG(l:List dp)(mode:Int)(q:Wd)(dE most:Int):List Wd×Nat:=
 if mode<0\/3<mode\/dE<0\/255<dE\/most<1\/20<most then([],3)
 else if eA q=true then((q9 l (λi=>rp mode.toNat dE.toNat q (l.getD i kJ)) most.toNat []).map (λi=>fN (l.getD i kJ)),0)else([],2)
def uB{l S:List dp}(U:(l.map dp.name).Nodup){mode dE most:Int}{q:Wd}(W:S.Pairwise (λx y=>fy x y=true))(Y:S.Perm (l.filter λe=>rp mode.toNat dE.toNat q e)) :
  (q9 l (λi=>rp mode.toNat dE.toNat q (l.getD i kJ)) most.toNat []).map (λi=>fN (l.getD i kJ))=(S.take most.toNat).map fN:=by
 have hc:(nU l (λi=>rp mode.toNat dE.toNat q (l.getD i kJ)) []).map (λi=>l.getD i kJ)=l.filter λe=>rp mode.toNat dE.toNat q e:=by
  unfold nU
  have O:(λi=>rp mode.toNat dE.toNat q (l.getD i kJ) && !([]).contains i)=(λe=>rp mode.toNat dE.toNat q e) ∘ λi=>l.getD i kJ:=by
   funext i;simp
  rw[O,<-List.filter_map];congr 1;apply cg;simp;intro i O h2;simp[ay,h2]
 have h:=AY l U _ most.toNat [] S W (by rw[hc];exact Y);have e:(λi=>fN _)=fN ∘ λi=>l.getD i kJ:=rfl;rw[e,<-List.map_map,h]
def FI(s p:ByteArray)(w:World) :
  cO prog 267 #[.string s,.string p] w λe w'=>e=.returned (.bool (rk s.data.toList p.data.toList))/\w=w':=by
 by_cases h:p.size<=s.size
 .go_wp2;go_ret;rw[KM,hE,hE];simp[h]
 go_wp2;go_ret;rw[KM];simp[h]
def yr(s p:ByteArray)(w:World) :
  cO prog 240 #[.string s,.string p] w λe w'=>e=.returned (.bool (rk s.data.toList p.data.toList))/\w=w':=by
 go_enter func240,ntmps240;go_wp2_with fail;refine(FI s p w).mono ?_;rintro e w' ⟨rfl,rfl⟩;go_wp2;go_ret;exact⟨rfl,rfl⟩
def y6(s:ByteArray)(k:Nat)(w:World)(hs:s.size<=1099511627776)(hk:k<s.size) :
  cO prog 268 #[.string s,.int .i64 k] w λe w'=>e=.returned (.bool (gI s.data.toList k))/\w=w':=by
 have e1:=l5 s k hk;have ac:(k:Int)<(s.size:Int):=by omega
 obtain⟨Y,O⟩:∃Y,Y=fu s[k]:=⟨_,rfl⟩;have U:=na s[k] w;rw[<-O]at U;by_cases h0:k=0
 .subst h0
  have HF:hI (gI s.data.toList 0=Y):=by
   show _=_;unfold gI;rw[e1,<-O];simp
  clear e1 O;go_enter func268,ntmps268;go_wp2_with fail;refine U.mono ?_;rintro e w' ⟨rfl,rfl⟩;clear U
  cases Y with
  |false=>
   go_wp2;go_ret;exact⟨eO HF.out.symm,rfl⟩
  |true=>
   go_wp2;go_ret;exact⟨eO HF.out.symm,rfl⟩
 have ad:((k:Int)==0)=false:=by rw[beq_eq_false_iff_ne];omega
 have ab:k-1<s.size:=by omega
 have e2:=l5 s (k-1) ab;obtain⟨b2,W⟩:∃b2,b2=fu s[k-1]:=⟨_,rfl⟩;have aa:=na s[k-1] w;rw[<-W]at aa
 have HF:hI (gI s.data.toList k=(Y && !b2)):=by
  show _=_;unfold gI;rw[e1,e2,<-O,<-W];simp[h0]
 have ae:(k:Int)-1=((k-1:Nat):Int):=by omega
 have af:(k:Int)-1<(s.size:Int):=by omega
 have ag:(0:Int)<=k-1:=by omega
 clear e1 e2 O W;go_enter func268,ntmps268;go_wp2_with fail;refine U.mono ?_;rintro e w' ⟨rfl,rfl⟩
 cases Y with
 |false=>
  go_wp2;go_ret;exact⟨eO (by rw[HF.out];rfl),rfl⟩
 |true=>
  go_wp2_with fail;refine aa.mono ?_;rintro e w' ⟨rfl,rfl⟩;go_wp2;go_ret;exact⟨eO (by rw[HF.out];rfl),rfl⟩
def Ex(U O:ByteArray)(w:World)(hs:O.size<=1048576) :
  cO prog 241 #[.string U,.string O] w λe w'=>e=.returned (.bool (kw 1 U.data.toList O.data.toList))/\w=w':=by
 have HF:hI (kw 1 U.data.toList O.data.toList=(aL O.size).any λi=>gI O.data.toList i&&rk (O.data.toList.drop i) U.data.toList):=by
  show _=_;unfold kw;simp
 go_enter func241,ntmps241;go_wp2;go_loopw [8] (λiv wr=>∃i:Nat,i<=O.size/\iv=.int .i64 i/\(∀j,j<i->(gI O.data.toList j&&rk (O.data.toList.drop j) U.data.toList)=false)/\w=wr) (λi _=>O.size-(intOf i).toNat)
 case atStart=>exact⟨0,cu _,rfl,λj hj=>by omega,rfl⟩
 case round=>
  obtain⟨i,hi,rfl,ad,rfl⟩:=hrel;have W:hI _:=ad;clear ad;by_cases ae:i<O.size
  .have ai:(i:Int)<(O.size:Int):=by omega
   have aj:(i:Int)<=(O.size:Int):=by omega
   obtain⟨b1,Y⟩:∃b1,b1=gI O.data.toList i:=⟨_,rfl⟩;obtain⟨b2,aa⟩:∃b2,b2=rk (O.data.toList.drop i) U.data.toList:=⟨_,rfl⟩;have ab:=y6 O i w (by omega) ae;have ac:=yr (O.extract i O.size) U w;rw[<-Y]at ab;rw[Q2,<-aa]at ac;have af:hI _:=Y;have ag:hI _:=aa;clear Y aa;go_wp2_with fail;refine ab.mono ?_;rintro e w3 ⟨rfl,rfl⟩;clear ab
   cases b1 with
   |false=>
    go_wp2;go_roundw
    case rel=>exact⟨i+1,by omega,by go_num,λj hj=>by
     rcases cv j i with h|h
     exact W.out j h;have e:j=i:=by omega
     subst e;rw[<-af.out];rfl,trivial⟩
    case measure=>simp[intOf];omega
   |true=>
    go_wp2_with fail;refine ac.mono ?_;rintro e w4 ⟨rfl,rfl⟩;clear ac
    cases b2 with
    |false=>
     go_wp2;go_roundw
     case rel=>exact⟨i+1,by omega,by go_num,λj hj=>by
      rcases cv j i with h|h
      exact W.out j h;have e:j=i:=by omega
      subst e;rw[<-ag.out];simp,trivial⟩
     case measure=>simp[intOf];omega
    |true=>
     have HY:hI (kw 1 U.data.toList O.data.toList=true):=by
      show _=_;rw[HF.out];exact any_some i ae (by rw[<-af.out,<-ag.out];rfl)
     go_wp2;go_ret;exact⟨eO HY.out.symm,rfl⟩
  have ah:i=O.size:=by omega
  subst ah
  have HY:hI (kw 1 U.data.toList O.data.toList=false):=by
   exact any_none W.out
  go_wp2;go_ret;exact⟨eO HY.out.symm,rfl⟩
def BM(n:Nat):(cX #[Value.int .i64 0] n).toList=e9 (bT n 0):=by
 apply cg;simp[cX,e9];simp[cX,e9,Nat.mod_one]
def lN(n i:Nat):List Nat:=aL i++bT (n-i) 0
def JA{n i:Nat}(h:i<=n):(lN n i).length=n:=by simp[lN];omega
def G5{n i:Nat}(h:i<n):(e9 (lN n i)).set i (.int .i64 (i:Int))=e9 (lN n (i+1)):=by
 have e:n-i=(n-(i+1))+1:=by omega
 have O:lN n (i+1)=(lN n i).set i i:=by
  unfold lN;rw[e,List.replicate_succ,bv];simp
 rw[O];unfold e9;rw[List.map_set]
def I0(n:Nat):lN n n=aL n:=by simp[lN]
def xM(O:ByteArray)(w:World)(hq:O.size<=1048576) :
  cO prog 269 #[.string O] w λe w'=>∃g,e=.returned (.slice (some ⟨g,0,none⟩) (O.size+1) (O.size+1))/\w'.ownsRow w.heap.size 3 1 (.slice (some ⟨g,0,none⟩) (O.size+1) (O.size+1)) (O.size+1) (e9 (aL (O.size+1)))/\Below w.heap.size w w':=by
 obtain⟨i3,ae,af,ag,hy2⟩:=info_parts SY;go_enter func269,ntmps269;go_wp2_with (at_make;go_must (refine wpList_make_full _ rfl _ _ 26 rfl w.heap.size 3 i3 (.int .i64 0) 1 underlying26 ae af ag .i64 .i64 _ _ (O.size+1) rfl rfl rfl rfl ?m1 ?m2 ?m3 ?_))
 case m1=>rw[hy2];omega
 case m2=>unfold cK;omega
 case m3=>exact cp _
 intro w5 aa ab;have HB5:hI (Below w.heap.size w w5):=(gt _ _).grown ab (cp _) (by simp)
 have HT5:hI (w5.ownsRow w.heap.size 3 1 (.slice (some ⟨w.heap.size,0,none⟩) (O.size+1) (O.size+1)) (O.size+1) (e9 (lN (O.size+1) 0))):=by
  show eC _ _ _ _ _ _ _;have e:(cX #[Value.int .i64 0] (O.size+1)).toList=e9 (lN (O.size+1) 0):=by rw[BM];simp[lN]
  rw[<-e];exact aa
 clear aa ab;generalize hg:w.heap.size=g at *;have ac:hI _:=hg;clear hg;go_wp2;go_loopw [11] (λiv wr=>∃i:Nat,i<=O.size+1/\iv=.int .i64 i/\wr.ownsRow g 3 1 (.slice (some ⟨g,0,none⟩) (O.size+1) (O.size+1)) (O.size+1) (e9 (lN (O.size+1) i))/\Below g w wr) (λi _=>O.size+1-(intOf i).toNat)
 case atStart=>exact⟨0,cu _,rfl,HT5.out,HB5.out⟩
 case round=>
  obtain⟨i,hi,rfl,U,W⟩:=hrel;by_cases Y:i<O.size+1
  .have aj:(i:Int)<(O.size:Int)+1:=by omega
   obtain⟨bt,ot,ad,ah⟩:=jy U i _ (ja _ i (by rw[JA hi];exact Y));simp only[db,Addr.mk.injEq]at ad;obtain⟨rfl,rfl,_⟩:=ad;rw[c0]at ah;have ak:=rD U i
   have HO6:hI ((wr.setCell ⟨g,i,none⟩ (.int .i64 i)).ownsRow g 3 1 (.slice (some ⟨g,0,none⟩) (O.size+1) (O.size+1)) (O.size+1) (e9 (lN (O.size+1) (i+1)))):=by
    show eC _ _ _ _ _ _ _;rw[<-G5 Y];exact zv U i _ Y
   have HB6:hI (Below g w (wr.setCell ⟨g,i,none⟩ (.int .i64 i))):=by exact gv W (cp _) _
   clear U W;go_wp2;go_roundw
   case rel=>exact⟨i+1,by omega,by go_num,HO6.out,HB6.out⟩
   case measure=>simp[intOf];omega
  have ai:i=O.size+1:=by omega
  subst ai
  have HO6:hI (wr.ownsRow g 3 1 (.slice (some ⟨g,0,none⟩) (O.size+1) (O.size+1)) (O.size+1) (e9 (aL (O.size+1)))):=by
   rw[<-I0];exact U
  have HB6:hI _:=W;go_wp2;go_ret;exact⟨g,rfl,by rw[ac.out];exact HO6.out,by rw[ac.out];exact HB6.out⟩
variable {cs cs':Array Value} {f:Nat×Nat} {e e':cL} {F:Value->Prop} {w:World}
def kq(F:Value->Prop)(w:World)(v:Value):Prop:=∀g cs e f,v.ownBlock=some g->w.heap[g]?=some (.cells cs e f)->∀u∈cs.toList,F u
def Ku(F:Value->Prop)(w:World)(n c:Nat):kq F w (.slice none n c):=nofun
def kq.stay{w':World}{v:Value}(h:kq F w v)(U:∀g,v.ownBlock=some g->w'.heap[g]?=w.heap[g]?):kq F w' v:=λg cs e f O W=>h g cs e f O (by rw[<-U g O];exact W)
def tv{O:Array Value}{k:Nat}{u:Value}(h:u∈(ef O k).toList):u∈O.toList:=by
 unfold ef at h;simp at h;obtain⟨i,hi,rfl⟩:=h
 have U:0<O.size:=by
  rcases cx O.size with h|h
  rw[h]at hi;simp at hi;exact h
 have hm:i % O.size<O.size:=Nat.mod_lt _ U;rw[getElem!_pos O _ hm];simp
def L0(h:(w.drew.alloc (.cells cs e)).heap[w.heap.size]?=some (.cells cs' e' f)):cs'=cs:=by
 have O:(w.heap.push _)[w.heap.size]?=some _:=h;simp at O;exact O.1.symm
def Js{g:Nat}{O:Array Value}{f':Nat×Nat}(U:w.heap[g]?=some (.cells O e f))(h:(w.setRow g cs).heap[g]?=some (.cells cs' e' f')):cs'=cs:=by
 unfold World.setRow at h;simp only[gl,if_true,U,cn,db,Obj.cells.injEq]at h;exact h.1.symm
def Kd{P:Program}{base:Nat}{t ty:cL}{i:TypeInfo}{z:Value}{size bytes:Nat}(ht:P.underlying t=some (.slice e))(hi:P.info? e=some i)(hz:i.zero=some z)
  (U:i.size=size) (ak:i.bytes=bytes) (au:z.cells.size=size) (ap:0<size)
  {v:Value} {n:Nat} {xs:List Value} (aa:w.ownsRow base e size v n xs)
  {x:Value} {m:Nat} {news:List Value} (hx:uc w size x m news) (h1:∀u∈news,u.oneCell'=true)
  (Y:(n+m)*bytes<=140737488355328) (al:n+m<=cK) (aq:0<m) {v':Value} {w':World} (hr:(dt #[t,t] ty #[v,x]).run P w=.ok v' w')
  (hF:kq F w v) (hN:∀u∈news,F u) (hZ:∀u∈z.cells.toList,F u):kq F w' v':=by
 obtain⟨a,cap,rfl,hc,hm,hl,am⟩:=hx;have an:0<news.length:=by rw[hl];exact c5 aq ap
 obtain⟨b,off,ha,_⟩:=am 0 _ (aA an);subst ha
 have W:∀j u,news[j]?=some u->w.cell? ((⟨b,off,none⟩:Addr).add j)=some u:=by
  intro j u hj;obtain⟨b',ar,he,ah⟩:=am j u hj;obtain⟨rfl,rfl,_⟩:=he;rw[gc];exact ah
 have ag:news.length=m*i.size:=by rw[U];exact hl
 rcases aa.2 with⟨rfl,rfl⟩|⟨g,c,ab,rfl,av,hg,aw,ax,ai,aj⟩
 have ac:=cS (P:=P) w t ty e i z ht hi hz _ m cap news ag W (by omega) (by simp only[cK]at al;omega) (by rw[ak];simp only[c0]at Y;omega);rw[ac]at hr;obtain⟨rfl,rfl⟩:=hr;intro g cs e' f hg ai u O;simp only[fs,db]at hg;subst hg;have:=L0 ai;subst this;simp at O;rcases O with O|O
 exact hN u O;exact hZ u (tv (by simpa using O));by_cases ad:n+m<=c;have ao:n*i.size+news.length<=ab.size:=by rw[ag,ai,U,<-cy];exact cq _ ad
 have ac:=cQ (P:=P) w t ty e i ht hi g n c ab hg _ m cap news ag W h1 ad ao;rw[ac]at hr;obtain⟨rfl,rfl⟩:=hr;intro g' cs e' f ae af u O;simp only[fs,db]at ae;subst ae;have:=Js hg af;subst this;simp at O;rcases O with O|O|O
 exact hF g ab e _ rfl hg u (bx O);exact hN u O;exact hF g ab e _ rfl hg u (bz O);have holds:=aa.cells (g:=g) rfl;have ac:=cR (P:=P) w t ty e i z ht hi hz _ n c xs (by rw[U];exact aa.1) holds _ m cap news ag W (by omega) (by simp only[cK]at al;omega) (by rw[ak];exact cT (by omega) Y);rw[ac]at hr;obtain⟨rfl,rfl⟩:=hr;intro g' cs e' f ae af u O;simp only[fs,db]at ae;subst ae;have:=L0 af;subst this;simp at O;rcases O with O|O|O
 rw[<-aj]at O;exact hF g ab e _ rfl hg u (bx O);exact hN u O;exact hZ u (tv (by simpa using O))
def vX{P:Program}(w:World){ops:Array Oper}{rest:List Oper}{o:Oper}{a:Act}{Q:Exit->Act->World->Prop}(ae:o.guard=none)(s x:Operand)(t:cL)
  (ho:o.op=.call {callee:=.builtin .append,args:=#[s,x],argTypes:=#[t,t]})
  (base:Nat) (e:cL) (i:TypeInfo) (z:Value) (size bytes:Nat) (ht:P.underlying t=some (.slice e)) (hi:P.info? e=some i) (hz:i.zero=some z)
  (U:i.size=size) (aa:i.bytes=bytes) (ab:z.cells.size=size) (ac:0<size)
  (v:Value) (n:Nat) (xs:List Value) (hs:a.eval s=v) (W:w.ownsRow base e size v n xs)
  (y:Value) (m:Nat) (news:List Value) (hx:a.eval x=y) (hy:uc w size y m news) (h1:∀u∈news,u.oneCell'=true)
  (O:(n+m)*bytes<=140737488355328) (ad:n+m<=cK) (Y:base<=w.heap.size) (af:0<m) (hF:kq F w v) (hN:∀u∈news,F u) (hZ:∀u∈z.cells.toList,F u)
  (h:∀v' w',w'.ownsRow base e size v' (n+m) (xs++news)->w.grownBy w' v.ownBlock->kq F w' v'->cM P ops Q rest (a.put o.dst v') w'):cM P ops Q (o::rest) a w:=by
 refine cN ae λ_ hK=>?_;obtain⟨v',w',hr,h2,h3,h4⟩:=qA (P:=P) w base t o.type e i z size bytes ht hi hz U aa ab ac v n xs W y m news hy h1 O ad Y;have h5:=Kd ht hi hz U aa ab ac W hy h1 O ad af hr hF hN hZ;unfold Oper.wp cU;simp only[ho,cZ,invoke,builtin,hM,hJ,gg,bQ,aE,bg,hs,hx,hr];exact hK _ _ (h v' w' h2 h3 h5)
def G0(xs:List Wd)(j:Nat)(h:j<xs.length):(dl xs)[j]?=some (.string ⟨xs[j].toArray⟩):=gV xs j h
def EQ(N:Nat)(w:World)(hN:N<=16777215) :
  cO prog 62 #[.int .i64 N] w λe w'=>e=.returned (.string ⟨(om N).toArray⟩)/\w=w':=by
 go_wp2;go_loopw [0,3] (λnv sv wr=>∃(n:Nat)(O:ByteArray),n<=N/\nv=.int _ n/\sv=.string O/\om N=om n++O.data.toList/\O.size+n<=16777216/\wr=w) (λn _ _=>(intOf n).toNat)
 case atStart=>exact⟨N,⟨#[]⟩,cp _,rfl,rfl,by simp,by show 0+N<=_;omega,rfl⟩
 case round=>
  obtain⟨n,O,hn,rfl,rfl,hd,aa,rfl⟩:=hrel;have Y:hI _:=hd;by_cases W:n<=9
  .have ab:=Pr n W
   have U:hI (⟨#[48+dc n]⟩++O=(⟨(om N).toArray⟩)):=by
    rw[Y.out,pG W];apply dk;simp[dr]
   go_wp2;go_ret;exact⟨xW U.out,rfl⟩
  have U:hI (om N=om (n / 10)++((⟨#[48,49,50,51,52,53,54,55,56,57]⟩:ByteArray).extract (n % 10) (n % 10+1)++O).data.toList/\((⟨#[48,49,50,51,52,53,54,55,56,57]⟩:ByteArray).extract (n % 10) (n % 10+1)++O).size+n / 10<=16777216):=by
   rw[Pr _ (by omega)];refine⟨?_,?_⟩;rw[Y.out,n9 W];simp[dr];rw[dq];show 1+O.size+n / 10<=_;omega
  go_wp2;exact⟨⟨n / 10,_,by omega,by simp,rfl,U.out.1,U.out.2,trivial⟩,by simp[intOf];omega⟩
def LG(s:ByteArray)(w:World)(hs:s.size<=1000) :
  cO prog 56 #[.string s] w λe w'=>e=.returned (.string ⟨(dX s.data.toList).toArray⟩)/\Below w.heap.size w w':=by
 go_enter func56,ntmps56;go_wp2;go_loopw [3,4] (λv i wr=>∃(k:Nat)(U:ByteArray),k<=s.size/\U.size=k/\i=.int .i64 k/\v=.string U/\U=⟨(dX (s.data.toList.take k)).toArray⟩/\Below w.heap.size w wr) (λ_ i _=>s.size-(intOf i).toNat)
 case atStart=>exact⟨0,⟨#[]⟩,cu _,rfl,rfl,rfl,rfl,gt _ _⟩
 case round=>
  obtain⟨k,U,hk,ab,rfl,rfl,ht,O⟩:=hrel;have HT:hI _:=ht;clear ht;by_cases Y:k<s.size
  .have HE:hI (U++⟨#[rT s[k]]⟩=⟨(dX (s.data.toList.take (k+1))).toArray⟩/\(U++⟨#[rT s[k]]⟩).size=k+1):=by
    refine⟨?_,by rw[dq];show U.size+1=_;omega⟩;rw[vZ s k Y,zX,HT.out];exact mZ _ [_]
   have HB:hI (∀o,Below w.heap.size w (wr.alloc o)):=λo=>O.alloc O.size _;have hj:¬(9223372036854775807<U.size+1):=by omega
   clear O;by_cases W:65<=s[k].toNat/\s[k].toNat<=90
   .have h1:65<=(s[k].toNat:Int):=by omega
    have h2:(s[k].toNat:Int)<=90:=by omega
    have HL:hI (((rT s[k]).toNat:Int)=(s[k].toNat:Int)+32):=Lt _ W;have hc:=rA (w:=wr) (l:=[rT s[k]]) #[.int .u8 ((s[k].toNat:Int)+32)] 1 (by rw[<-HL.out];rfl) rfl (by unfold cK;omega);clear W;generalize rT s[k]=lb at *;go_wp2;go_roundw
    case rel=>exact⟨k+1,_,by omega,HE.out.2,by go_num,rfl,HE.out.1,HB.out _⟩
    case measure=>simp[intOf];omega
   have HL:hI (rT s[k]=s[k]):=KH _ W;have aa:(s[k].toNat:Int)<65\/90<(s[k].toNat:Int):=by omega
   have hc:=rA (w:=wr) (l:=[s[k]]) #[.int .u8 (s[k].toNat:Int)] 1 rfl rfl (by unfold cK;omega);rw[HL.out]at HE;clear W;rcases aa with h1|h1
   all_goals
    go_wp2;go_roundw
    case rel=>exact⟨k+1,_,by omega,HE.out.2,by go_num,rfl,HE.out.1,HB.out _⟩
    case measure=>simp[intOf];omega
  have HF:hI (U=⟨(dX s.data.toList).toArray⟩):=by
   show _=_;rw[HT.out,bc (by simp;omega)]
  have HB:hI _:=O;go_wp2;go_ret;exact⟨xW HF.out,HB.out⟩
def MB(e:dp)(b:Bool):Value:=.agg #[.string ⟨e.name.toArray⟩,.string ⟨e.text.toArray⟩,.int .i64 e.du,.int .i64 e.dE,.bool b]
def MP(x:dp)(b:Bool)(w:World)(hn:x.name.length<=1000)(hx:x.text.length<=1000)(U:0<=x.du)(W:x.du<=1000000) :
  cO prog 28 #[MB x b] w λe w'=>e=.returned (.string ⟨(fN x).toArray⟩)/\Below w.heap.size w w':=by
 rcases x with⟨n,g,t,wt,a⟩;simp only at hn hx U W;obtain⟨N,rfl⟩:∃N:Nat,wt=N:=⟨wt.toNat,by omega⟩;have HD:hI (∀y,cO _ 62 _ y λe w'=>e=.returned _/\w'=y):=λy=>(EQ N y (by omega)).mono λe w' h=>⟨h.1,h.2.symm⟩;have aa:=Fg 7 N (by omega) (by omega)
 have HE:hI (⟨(fN ⟨n,g,t,N,a⟩).toArray⟩=(⟨n.toArray⟩:ByteArray)++⟨#[32]⟩++⟨(om N).toArray⟩++⟨#[32]⟩++⟨t.toArray⟩):=by
  show _=_;rw[mZ];simp[fN]
 unfold MB;rw[HE.out];have zn:(⟨n.toArray⟩:ByteArray).size<=1000:=by show n.toArray.size<=_;simpa using hn
 have zt:(⟨t.toArray⟩:ByteArray).size<=1000:=by show t.toArray.size<=_;simpa using hx
 generalize (⟨n.toArray⟩:ByteArray)=nb at *;generalize (⟨t.toArray⟩:ByteArray)=tb at *;obtain⟨Y,O⟩:∃Y,Y=w.alloc (.cells #[.string nb,.string tb,.int .i64 N,.int .i64 a,.bool b] 36):=⟨_,rfl⟩;have HB:hI (Below w.heap.size w Y):=by rw[O];exact(gt ..).alloc (cp _) _
 go_enter func28,ntmps28;go_wp2_with fail;rw[<-O];go_quiet (first|(exact cO.quiet_of_same (HD.out _)));go_wp2;go_ret;exact⟨rfl,iO HB.out _⟩
end
end Go.Proofs.YtocbogeoffeolaaGreatDoor
