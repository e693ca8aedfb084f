import Derived.Below
import Derived.WalkKit
import Derived.WalkSpells
import Derived.Test.YtocbogeoffeolaaGreatDoorProg
import Derived.WalkLawsBesides
import Derived.Deep.Draws
import Derived.WalkSmall
import Derived.Deep.QuietTactic
import Derived.BigQuiet
import Derived.Deep.Light
import Derived.Deep.RegionWith
import Derived.Deep.RegionHeld
import Derived.Deep.CutRange
import Derived.Lib.FieldsP
import Derived.Laws.RangeString
import Derived.Lib.Bytealg
import Derived.Sort.Statements
import Derived.Shelf.SlSortCmp.Insertion
import Derived.Lib.ConvBytes
import Derived.Laws.IdiomStrings
import Derived.Deep.RegionLaw
import Derived.Maps.OwnSet
import Derived.Maps.RangeWalk
set_option linter.all false
set_option maxHeartbeats 8000000
set_option maxRecDepth 1000000
open List renaming getD_eq_getElem?_getD->a7,mem_filter->a8,getElem?_eq_getElem->a9,mem_cons->aA,length_append->aB,length_cons->aC,pairwise_cons->aD,take_succ_eq_append_getElem->aE,mem_map->aF,map_cons->aG,mem_append->aH,mem_singleton->aI,range->aJ,filter_append->aK,nil_append->aL,flatMap_cons->aM,length_filter_le->aN,cons_prefix_cons->aO,filter_filter->aP,length_eq_zero_iff->aQ,getElem_mem->aR,cons_append->aS,append_assoc->aT,getElem?_append_left->aU,drop_eq_getElem_cons->aV,nil_prefix->aW,map_append->aX,length_nil->aY,foldl_cons->aZ,sum_cons->ba,mem_flatMap->bc,pairwise_iff_getElem->bd,exists_mem_of_ne_nil->be,nodup_cons->bf,filter_congr->bg,takeWhile_append_dropWhile->bh,takeWhile_cons->bi,filter_sublist->bj,take_length->bk,mem_range->bl,take_of_length_le->bm,map_nil->bn,take_append_drop->bo,nodup_append->bp,pairwise_append->bq,filter_cons->br,range_succ->bu,append_nil->bv,filter_eq_nil_iff->bw,mem_of_mem_take->bx,mem_of_mem_drop->bz,eq_nil_of_length_eq_zero->b0,take_succ_cons->b5,perm_ext_iff_of_nodup->b6,foldl_append->b7,any_eq_false->b8,pairwise_singleton->b9,length_take->bA,any_eq_true->bB,takeWhile_sublist->bC,dropWhile_sublist->bD,length_pos_iff->bE,filter_eq_self->bF,dropWhile_cons->bG,pairwise_map->bH,count_append->bI,prefix_refl->bJ,map_toArray->bK,length_drop->bL,take_append_of_le_length->bM,sum_append->bN,replicate->bO,getElem?_append_right->bP,findIdx?_eq_none_iff->bQ,length_pos_of_mem->bR,mem_append_left->bS,length->bT,getElem_of_mem->bU,getElem?_drop->bV,size_toArray->bW,perm_middle->bX,flatMap_map->bY,ext_getElem->bZ,all_eq_true->ca,prefix_nil->cb,length_map->cc,take_zero->cd,take_take->ce,Nodup->cf
open Nat renaming le_refl->cg,zero_le->ch,mul_right_comm->ci,lt_or_ge->cj,mul_left_comm->ck,mul_le_mul_right->cl,le_trans->cm,eq_zero_or_pos->cn,mul_assoc->cp,zero_add->cq,add_mul->cr,mul_lt_mul_of_pos_right->ct,mul_pos->cu,lt_of_lt_of_le->cv,testBit_and->cw,min_eq_left->cx,le_antisymm->cy,mul_add->cz
open Option renaming bind_some->c0,bind_eq_some_iff->c4
open Bool renaming eq_iff_iff->c5,and_eq_true->c6,or_eq_true->c7,or_eq_false_iff->c8,not_eq_true'->c9,eq_false_iff->cA,false_eq_true->cB,and_comm->cC,and_eq_false_imp->cD,false_or->cE
open Go renaming maxLen->cF,TypeId->cG,Calls->cH,cell_later->cI,wpList->cJ,wpList_plain->cK,run_append_own->cL,run_append_room->cM,run_append_grow->cN,run_append_nil->cO,growslice_fits->cP,execOp->cQ,run_convert_bytes_string->cR,madeCells->cS,run_underlying->cT,resolve->cU,storeCells->cV
open Go.Op renaming bytesLess->cW
open Option.some renaming injEq->cX
open UInt8 renaming ofNat->cY,lt_iff_toNat_lt->cZ,toNat_inj->da
open Go.ByteArray renaming toList_eq->dc
open Int renaming tmod_eq_emod_of_nonneg->de,tdiv_eq_ediv_of_nonneg->df,eq_ofNat_of_zero_le->dg,emod_nonneg->di
open ByteArray renaming size->dj,ext->dk,data_append->dm,size_eq_zero_iff->dr,size_append->dt
open Go.Builtin renaming append_->ee,firstCells->ef,zeroCells->eg,lenOf->ei,len_->ej
open Go.World renaming setCell->en,alloc_eq->eq,frozen?->er,alloc->et,drewN_drewN->ev,ownsRow->ex,cell?->ez
open Go.Lib renaming compareBytes->e5,spansFromP->e6,closeSpans->e7,bytesWorld_size->e8
open Go.IntKind renaming wrap_i64->eC
open List.Pairwise renaming sublist->fa,of_map->fb,imp_of_mem->fd
open Go.Result.ok renaming injEq->ff
open List.Perm renaming append_left->fk,eq_of_pairwise->fm,refl->fr,eq_nil->fs,append->ft
open Go.Value renaming ownBlock->fB
open Go.RowKit renaming Hid->ga
open Array renaming toList_inj->gc,getElem?_modify->gd
open Go.Addr renaming add_lit->ge,add->gg
open Go.Result renaming andThen->gl,andThen_ok->go
open Go.Proofs.Tryz renaming underlying60->gt,ntmps87->gv,underlying9->gx,underlying5->gy,func87->g0,ntmps45->gA,func45->gB
open Go.RowKit.Below renaming refl->h9,setCell->h'
open Classical renaming byContradiction->hC
open Go.Maps renaming string_keyed->hD,size->hE,has->hI
open Go.Sem renaming run_pure->hJ,run_bind->hM
open Prod renaming fst->hO
namespace Go.Proofs.YtocbogeoffeolaaGreatDoor
open Go.Proofs.Tryz
section
open Go.RowKit
def eB(c:UInt8):Bool:=decide ((97<=c.toNat/\c.toNat<=122)\/(48<=c.toNat/\c.toNat<=57))
def oA(c:UInt8):Bool:=decide (32<=c.toNat/\c.toNat<=126)
def eu(l:List UInt8):Bool:=decide (l.length<=24)&&l.all oA
def qP(c:UInt8):UInt8:=if 65<=c.toNat/\c.toNat<=90 then c+32 else c
def dO(l:List UInt8):List UInt8:=l.map qP
theorem uP(s:ByteArray)(k:Nat)(h:k<s.size):s.data.toList.take (k+1)=s.data.toList.take k++[s[k]]:=by
 rw[aE _];rfl
theorem fx(l:List UInt8):(dO l).length=l.length:=by simp[dO]
theorem zS(l:List UInt8)(c:UInt8):dO (l++[c])=dO l++[qP c]:=by simp[dO]
def fD(l:List UInt8):List Value:=l.map λc=>Value.int .u8 c.toNat
theorem qo(l:List UInt8):(fD l).length=l.length:=by simp[fD]
theorem JE(c:UInt8)(h:65<=c.toNat/\c.toNat<=90):((qP c).toNat:Int)=(c.toNat:Int)+32:=by
 unfold qP;rw[if_pos h,UInt8.toNat_add];have:(32:UInt8).toNat=32:=rfl;omega
theorem JU(c:UInt8)(h:¬(65<=c.toNat/\c.toNat<=90)):qP c=c:=by
 unfold qP;rw[if_neg h]
def eE(l:List UInt8)(i:Nat):Bool:=eB (l.getD i 0)&&(decide (i=0) || !eB (l.getD (i-1) 0))
def va(l:List UInt8)(i:Nat):List UInt8:=(l.drop i).takeWhile eB
def jF(l:List UInt8)(k:Nat):List (List UInt8):=((aJ k).filter (eE l)).map (va l)
def iN(l:List UInt8):List (List UInt8):=jF l l.length
def dn(ws:List (List UInt8)):List Value:=ws.map λb=>Value.string ⟨b.toArray⟩
theorem dD(ws:List (List UInt8)):(dn ws).length=ws.length:=by simp[dn]
theorem kZ(ws:List (List UInt8))(b:List UInt8):dn (ws++[b])=dn ws++[Value.string ⟨b.toArray⟩]:=by simp[dn]
theorem uF(l:List UInt8)(k:Nat)(h:eE l k=true):jF l (k+1)=jF l k++[va l k]:=by
 simp[jF,bu,h]
theorem mC(l:List UInt8)(k:Nat)(h:eE l k=false):jF l (k+1)=jF l k:=by
 simp[jF,bu,h]
theorem II(l:List UInt8)(k:Nat):(jF l k).length<=k:=by
 unfold jF;have:=aN (eE l) (aJ k);simpa using this
theorem j6(s:ByteArray)(k:Nat)(h:k<s.size):s.data.toList.getD k 0=s[k]:=by
 rw[a7,a9 _];rfl
def Aa(l:List UInt8)(i too:Nat):Prop:=i<=too/\too<=l.length/\∀j,i<=j->j<too->eB (l.getD j 0)=true
theorem Aw(p:UInt8->Bool):∀(l:List UInt8)(n:Nat),n<=l.length->(∀j,j<n->p (l.getD j 0)=true)->(n=l.length\/p (l.getD n 0)=false)->l.takeWhile p=l.take n:=by
 intro l;induction l with
 |nil=>simp|cons c l Y=>
  intro n h fy O
  cases n with
  |zero=>
   rcases O with U|U
   simp at U;simp at U;simp[U]
  |succ n=>
   have U:=fy 0 (by omega);simp at U;rw[bi,U,b5];simp only[if_true];rw[Y n (by simpa using h) (λj hj=>by have:=fy (j+1) (by omega);simpa using this) ?_];rcases O with W|W
   left;simpa using W;right;simpa using W
theorem GQ(l:List UInt8)(i too:Nat)(h:Aa l i too)(O:too=l.length\/eB (l.getD too 0)=false):va l i=(l.drop i).take (too-i):=by
 obtain⟨Y,h2,W⟩:=h;have U:∀j,(l.drop i).getD j 0=l.getD (i+j) 0:=by simp[a7,bV]
 refine Aw eB _ _ (by simp;omega) (λj hj=>?_) ?_;rw[U];exact W _ (by omega) (by omega);rcases O with h|h
 simp;omega;right;rw[U,show i+(too-i)=too by omega];exact h
theorem G6(l:List UInt8)(k:Nat)(O:k<=l.length):Aa l k k:=⟨cg _,O,λ_ _ _=>by omega⟩
theorem xG(l:List UInt8)(k t:Nat)(h:Aa l k t)(W:t<l.length)(O:eB (l.getD t 0)=true):Aa l k (t+1):=
 ⟨by have:=h.1;omega,by omega,λj U Y=>by
   by_cases e:j=t;rw[e];exact O
   exact h.2.2 j U (by omega)⟩
theorem tV(f:ByteArray)(k t:Nat)(h:Aa f.data.toList k t)(O:t=f.size\/eB (f.data.toList.getD t 0)=false) :
  f.extract k t=⟨(va f.data.toList k).toArray⟩:=by
 rw[GQ _ k t h (by simpa using O)];apply dk;apply gc.1;simp
theorem Di(s:ByteArray)(k:Nat)(h:k<s.size):s[k]∈s.data.toList:=by
 exact aR _
theorem dM{a b:Bool}(h:a=b):Ending.returned (.bool a)=.returned (.bool b):=by rw[h]
theorem K0{a b:ByteArray}(h:a=b):Ending.returned (.string a)=.returned (.string b):=by rw[h]
theorem eR{k:IntKind}{a b:Int}(h:a=b):Ending.returned (.int k a)=.returned (.int k b):=by rw[h]
variable {v:Value} {w:World}
theorem fp{P:Program}(w:World){ops:Array Oper}{rest:List Oper}{o:Oper}{a:Act}{Q:Exit->Act->World->Prop}(ab:o.guard=none)(s x:Operand)(t:cG)
  (ho:o.op=.call {callee:=.builtin .append,args:=#[s,x],argTypes:=#[t,t]})
  (base:Nat) (e:cG) (i:TypeInfo) (z:Value) (bytes:Nat) (ht:P.underlying t=some (.slice e)) (hi:P.info? e=some i) (hz:i.zero=some z)
  (U:i.size=1) (ac:i.bytes=bytes) (ae:z.cells.size=1)
  (v:Value) (n:Nat) (xs:List Value) (hs:a.eval s=v) (aa:w.ownsRow base e 1 v n xs)
  (ad:Addr) (y:Value) (hx:a.eval x=.slice (some ad) 1 1) (W:w.cell? ad=some y) (h1:y.oneCell'=true)
  (O:(n+1)*bytes<=140737488355328) (af:n+1<=cF) (Y:base<=w.heap.size)
  (h:∀v' w',w'.ownsRow base e 1 v' (n+1) (xs++[y])->w.grownBy w' v.ownBlock->v'≠.slice none 0 0->cJ P ops Q rest (a.put o.dst v') w'):cJ P ops Q (o::rest) a w:=by
 refine wpList_append_own w ab s x t ho base e i z 1 bytes ht hi hz U ac ae (by decide) v n xs hs aa ad 1 1 [y] hx rfl ?_ ?_ af O Y ?_;intro j u hj;match j,hj with
 |0,hj=>simp at hj;subst hj;simpa[gg]using W|j+1,hj=>simp at hj
 intro u hu;simp at hu;subst hu;exact h1;intro v' w' h2 h3 h4;refine h v' w' h2 h3 ?_;intro he;have:=h4.1 he;simp at this
theorem iz{t:cG}:(w.alloc (.cells #[v] t)).cell? ⟨w.heap.size,0,none⟩=some v:=by
 rw[World.cell?_alloc_at _ _ _ _ rfl];rfl
theorem Jm:∀(l:List UInt8)(s:ByteArray),(l.map λc=>(c.toNat:Int)).foldl (λr n=>r.push (cY n.toNat)) s=⟨s.data++l.toArray⟩:=by
 intro l;induction l with
 |nil=>simp|cons c l O=>
  intro s;rw[aG,aZ,O];simp
theorem zK{P:Program}{base u8 src O n:Nat}{l:List UInt8}(h:w.ownsRow base u8 1 v n (fD l))
  (Y:P.underlying src=some (.slice u8)) (he:P.underlying u8=some (.int .u8)) (hd:P.underlying O=some .string) :
  (convert src O v).run P w=.ok (.string ⟨l.toArray⟩) w:=by
 have h0:=h;obtain⟨U,h⟩:=h;rcases h with⟨rfl,rfl⟩|⟨g,cap,aa,rfl,_,hg,_,_,ab,ac⟩
 have:=by simpa[fD]using U
 subst this;rw[cR w src O u8 _ _ _ Y he hd];rfl;rw[cR w src O u8 _ _ _ Y he hd];have hn:n=l.length:=by rw[qo]at U;omega
 have W:=run_loadCells_list (P:=P) w _ _ (h0.cells rfl);rw[qo,<-hn]at W;have e:fD l=(l.map λc=>c.toNat).map (Value.int .u8):=by simp[fD]
 rw[e]at W;rw[run_bytesToString w _ _ _ _ W,Jm];simp
theorem FJ:(prog.info? 5).map (λi=>(i.zero,i.size,i.bytes))=some (some (.int .u8 0),1,1):=by kernel_rfl
theorem tW:(prog.info? 9).map (λi=>(i.zero,i.size,i.bytes))=some (some (.string ⟨#[]⟩),1,16):=by kernel_rfl
abbrev Wd:=List UInt8
def zr(t ws:List Wd)(k j:Nat):Bool:=decide ((t.drop k).take j=ws.take j)
def oY(t ws:List Wd)(k:Nat):Bool:=zr t ws k ws.length
def iH(t ws:List Wd)(k:Nat):Nat:=((aJ k).filter (oY t ws)).length
def rM(t ws:List Wd):Nat:=iH t ws (t.length+1-ws.length)
def gY(O:List (List Wd))(ws:List Wd):Nat:=(O.map λt=>rM t ws).sum
def gu(O:List (List Wd)):Nat:=(O.map λt=>t.length+1).sum
theorem AJ(t ws:List Wd)(k:Nat)(h:oY t ws k=true):iH t ws (k+1)=iH t ws k+1:=by
 simp[iH,bu,h]
theorem Ck(t ws:List Wd)(k:Nat)(h:oY t ws k=false):iH t ws (k+1)=iH t ws k:=by
 simp[iH,bu,h]
theorem Da(t ws:List Wd)(k:Nat):iH t ws k<=k:=by
 have:=aN (oY t ws) (aJ k);simpa[iH]using this
theorem Ja(t ws:List Wd):rM t ws<=t.length+1:=by
 have:=Da t ws (t.length+1-ws.length);unfold rM;omega
theorem Ii(O:List (List Wd))(i:Nat)(h:i<O.length):gu (O.take (i+1))=gu (O.take i)+(O[i].length+1):=by
 unfold gu;rw[aE h,aX,bN];rfl
theorem Lz(O:List (List Wd))(ws:List Wd):gY O ws<=gu O:=by
 induction O with
 |nil=>simp[gY,gu]|cons t O U=>
  have h:=Ja t ws;simp only[gY,gu,aG,ba]at U⊢;omega
def Rd(w:World)(v:Value)(xs:List Value):Prop:=
 ∃a cap,v=.slice a xs.length cap/\xs.length<=cap/\cap<=cF/\∀j u,xs[j]?=some u->∃b off,a=some ⟨b,off,none⟩/\w.cell? ⟨b,off+j,none⟩=some u
theorem Rd.jb{w:World}{base e n:Nat}{v:Value}{xs:List Value}(h:w.ownsRow base e 1 v n xs):Rd w v xs:=by
 have U:=h;obtain⟨W,h⟩:=h;rcases h with⟨rfl,rfl⟩|⟨g,cap,Y,rfl,_,hg,hn,O,aa,ab⟩
 have:=by simpa using W
 subst this;exact⟨none,0,rfl,cg _,by omega,by simp⟩;have e:n=xs.length:=by omega
 refine⟨some _,cap,by rw[e],by omega,O,λj u hj=>⟨g,0,rfl,?_⟩⟩;have:=U.cells (g:=g) rfl j u hj
 have e2:(⟨g,0,none⟩:Addr).add j=⟨g,0+j,none⟩:=by
  unfold gg;split;rename_i h;rw[h];rfl
 rw[e2]at this;exact this
theorem gU(ws:List Wd)(j:Nat)(h:j<ws.length):(dn ws)[j]?=some (.string ⟨ws[j].toArray⟩):=by
 simp[dn,h]
def zO(out:List Wd)(x:Wd):Nat:=(out.takeWhile λy=>cW y x).length
def uH(out:List Wd)(x:Wd):List Wd:=if out[zO out x]?=some x then out else out.take (zO out x)++([x]++out.drop (zO out x))
def xx(out:List Wd)(t:List Wd)(k:Nat):List Wd:=(t.take k).foldl uH out
def eJ(O:List (List Wd)):List Wd:=O.foldl (λout t=>t.foldl uH out) []
theorem U3(out:List Wd)(x:Wd):zO out x<=out.length:=(bC _).length_le
theorem Ao{α:Type}(p:α->Bool):∀(l:List α)(n:Nat)(O:n<=l.length),(∀j(h:j<n),p (l[j]'(by omega))=true)->(∀h:n<l.length,p l[n]=false)->(l.takeWhile p).length=n:=by
 intro l;induction l with
 |nil=>intro n O _ _;simp at O;simp[O]|cons c l ih=>
  intro n O U W
  cases n with
  |zero=>have:=W (by simp);simp at this;simp[this]|succ n=>
   have Y:=U 0 (by omega);simp at Y;rw[bi,Y];simp only[if_true,aC];rw[ih n (by simpa using O) (λj hj=>by have:=U (j+1) (by omega);simpa using this) (λhh=>by have:=W (by simpa using hh);simpa using this)]
theorem PV(out:List Wd)(x:Wd):(uH out x).length<=out.length+1:=by
 unfold uH;split;omega;simp;omega
theorem G'(O:List (List Wd))(i:Nat)(h:i<O.length):eJ (O.take (i+1))=xx (eJ (O.take i)) O[i] O[i].length:=by
 unfold eJ xx;rw[aE h,b7,bk];rfl
theorem AA(t:List Wd):∀out,(t.foldl uH out).length<=out.length+t.length:=by
 induction t with
 |nil=>simp|cons x t O=>intro out;have:=O (uH out x);have:=PV out x;simp only[aZ,aC];omega
theorem EQ(out t:List Wd)(k:Nat):(xx out t k).length<=out.length+k:=by
 have:=AA (t.take k) out;unfold xx;simp at this⊢;omega
theorem I7(O:List (List Wd))(i:Nat)(hi:i<=O.length):(eJ (O.take i)).length<=gu (O.take i):=by
 induction i with
 |zero=>simp[eJ]|succ i U=>
  rw[G' O i (by omega),Ii O i (by omega)];have:=EQ (eJ (O.take i)) O[i] O[i].length;omega
variable {xs:List Value} {ws:List Wd} {b base cap e n:Nat} {a:Option Addr} {w':World}
theorem kg{P:Program}(w:World)(t O e:cG)(i:TypeInfo)(U:P.underlying t=some (.slice e))(hi:P.info? e=some i)(b:Option Addr)(n cap c:Nat)(h:n<=cap) :
  (ee #[t,t] O #[.slice b n cap,.slice none 0 c]).run P w=.ok (.slice b n cap) w:=by
 cases b<;>simp[ee,cT U,sizeOf,typeInfo,hi,ei,ef,h,cV]
theorem dK(h:w.ownsRow base e 1 v n xs):∃a cap,v=.slice a n cap/\n<=cap:=by
 rcases h.2 with⟨rfl,rfl⟩|⟨g,cap,O,rfl,_,_,U,_⟩
 exact⟨none,0,rfl,cg _⟩;exact⟨_,cap,rfl,U⟩
theorem Av{P:Program}(w:World)(base:Nat)(t ty e:cG)(i:TypeInfo)(z:Value)(bytes:Nat)(ht:P.underlying t=some (.slice e))(hi:P.info? e=some i)(hz:i.zero=some z)
  (W:i.size=1) (ab:i.bytes=bytes) (ac:z.cells.size=1)
  (v:Value) (n:Nat) (xs:List Value) (O:w.ownsRow base e 1 v n xs)
  (x:Value) (news:List Value) (hx:Rd w x news) (h1:∀u∈news,u.oneCell'=true)
  (U:(n+news.length)*bytes<=140737488355328) (ae:n+news.length<=cF) (Y:base<=w.heap.size) :
  ∃v' w',(ee #[t,t] ty #[v,x]).run P w=.ok v' w'/\w'.ownsRow base e 1 v' (n+news.length) (xs++news)/\w.grownBy w' v.ownBlock:=by
 obtain⟨a,cap,rfl,hc,hm,hr⟩:=hx
 cases a with
 |none=>
  have hn:news=[]:=by
   cases news with
   |nil=>rfl|cons u us=>obtain⟨b,off,he,_⟩:=hr 0 u rfl;simp at he
  subst hn;obtain⟨b,c,rfl,af⟩:=dK O;refine⟨_,w,kg w t ty e i ht hi b n c cap af,by simpa using O,World.grownBy.refl ..⟩
 |some ad=>
  by_cases hn:news=[];subst hn;obtain⟨v',w',h1,h2,h3,_⟩:=cL (P:=P) w base t ty e i z 1 bytes ht hi hz W ab ac (by decide) v n xs O ad 0 cap [] rfl (by simp) (by simp) (by simpa using ae) (by simpa using U) Y;exact⟨v',w',h1,h2,h3⟩
  obtain⟨b,off,he,_⟩:∃b off,some ad=some ⟨b,off,none⟩/\True:=by
   cases news with
   |nil=>exact absurd rfl hn|cons u us=>obtain⟨b,off,he,_⟩:=hr 0 u rfl;exact⟨b,off,he,trivial⟩
  simp only[cX]at he;subst he
  obtain⟨v',w',h1,h2,h3,_⟩:=cL (P:=P) w base t ty e i z 1 bytes ht hi hz W ab ac (by decide) v n xs O _ _ cap news (by simp) (λj u hj=>by
   obtain⟨b',ag,he,aa⟩:=hr j u hj;obtain⟨rfl,rfl,_⟩:=he
   rw[ge];exact aa) h1 ae U Y
  exact⟨v',w',h1,h2,h3⟩
theorem qn{P:Program}(w:World)(base:Nat)(t ty e:cG)(i:TypeInfo)(z:Value)(bytes:Nat)(ht:P.underlying t=some (.slice e))(hi:P.info? e=some i)(hz:i.zero=some z)
  (O:i.size=1) (ac:i.bytes=bytes) (ah:z.cells.size=1)
  (v:Value) (n:Nat) (xs:List Value) (U:w.ownsRow base e 1 v n xs)
  (x:Value) (news:List Value) (hx:Rd w x news) (h1:∀u∈news,u.oneCell'=true)
  (W:(n+news.length)*bytes<=140737488355328) (ae:n+news.length<=cF) (ab:base<=w.heap.size) :
  ∃v' w',(ee #[t,t] ty #[v,x]).run P w=.ok v' w'/\w'.ownsRow base e 1 v' (n+news.length) (xs++news)/\w.grownBy w' v.ownBlock/\(v'.ownBlock=v.ownBlock\/v'.ownBlock=some w.heap.size):=by
 obtain⟨v',w',hr,h2,h3⟩:=Av (P:=P) w base t ty e i z bytes ht hi hz O ac ah v n xs U x news hx h1 W ae ab;refine⟨v',w',hr,h2,h3,?_⟩;obtain⟨a,cap,rfl,hc,hm,ai⟩:=hx
 cases a with
 |none=>
  have hn:news=[]:=by
   cases news with
   |nil=>rfl|cons u us=>obtain⟨b,off,he,_⟩:=ai 0 u rfl;simp at he
  subst hn;obtain⟨b,c,rfl,aj⟩:=dK U;have:=kg (P:=P) w t ty e i ht hi b n c cap aj;simp only[aY]at hr;rw[this]at hr;simp only[ff]at hr;exact Or.inl (by rw[<-hr.1])
 |some ad=>
  have aa:∀j u,news[j]?=some u->w.cell? (ad.add j)=some u:=by
   intro j u hj;obtain⟨b,off,he,af⟩:=ai j u hj;simp only[cX]at he;subst he;rw[ge];exact af
  have hl:news.length=news.length*i.size:=by rw[O];omega
  rcases U.2 with⟨rfl,rfl⟩|⟨g,c,ak,rfl,ao,hg,aj,ap,aq,al⟩
  by_cases am:news.length=0;have hn:=b0 am;subst hn;rcases h2.2 with⟨rfl,_⟩|⟨g',c',an,rfl,_,ar,_⟩
  exact Or.inl rfl;have:=cL (P:=P) w base t ty e i z 1 bytes ht hi hz O ac ah (by decide) _ 0 xs U ad 0 cap [] rfl (by simp) (by simp) (by simp) (by simp) ab;obtain⟨v2,w2,Y,_,_,h4⟩:=this;simp only[aY]at hr;rw[hr]at Y;simp only[ff]at Y;have:=h4.2 ⟨rfl,rfl⟩;rw[<-Y.1]at this;simp at this;have Y:=cO (P:=P) w t ty e i z ht hi hz ad _ cap news hl aa (by omega) (by simp only[cF]at ae;omega) (by rw[ac];simp only[cq]at W;omega);rw[Y]at hr;simp only[ff]at hr;exact Or.inr (by rw[<-hr.1];rfl);by_cases ag:n+news.length<=c;have Y:=cM (P:=P) w t ty e i ht hi g n c ak hg ad _ cap news hl aa h1 ag (by rw[O];omega);rw[Y]at hr;simp only[ff]at hr;exact Or.inl (by rw[<-hr.1];rfl);have holds:=U.cells (g:=g) rfl;have Y:=cN (P:=P) w t ty e i z ht hi hz _ n c xs (by rw[O];exact U.1) holds ad _ cap news hl aa (by omega) (by simp only[cF]at ae;omega) (by rw[ac];exact cP (by omega) W);rw[Y]at hr;simp only[ff]at hr;exact Or.inr (by rw[<-hr.1];rfl)
theorem fc{P:Program}(w:World){ops:Array Oper}{rest:List Oper}{o:Oper}{a:Act}{Q:Exit->Act->World->Prop}(ab:o.guard=none)(s x:Operand)(t:cG)
  (ho:o.op=.call {callee:=.builtin .append,args:=#[s,x],argTypes:=#[t,t]})
  (base:Nat) (e:cG) (i:TypeInfo) (z:Value) (bytes:Nat) (ht:P.underlying t=some (.slice e)) (hi:P.info? e=some i) (hz:i.zero=some z)
  (U:i.size=1) (ac:i.bytes=bytes) (ad:z.cells.size=1)
  (v:Value) (n:Nat) (xs:List Value) (hs:a.eval s=v) (aa:w.ownsRow base e 1 v n xs)
  (y:Value) (news:List Value) (hx:a.eval x=y) (hy:Rd w y news) (h1:∀u∈news,u.oneCell'=true)
  (O:(n+news.length)*bytes<=140737488355328) (ae:n+news.length<=cF) (W:base<=w.heap.size)
  (h:∀Y w',w'.ownsRow base e 1 Y (n+news.length) (xs++news)->w.grownBy w' v.ownBlock->(Y.ownBlock=v.ownBlock\/Y.ownBlock=some w.heap.size)->cJ P ops Q rest (a.put o.dst Y) w'):cJ P ops Q (o::rest) a w:=by
 refine cK ab λ_ hK=>?_;obtain⟨Y,w',hr,h2,h3,h4⟩:=qn (P:=P) w base t o.type e i z bytes ht hi hz U ac ad v n xs aa y news hy h1 O ae W;unfold Oper.wp cQ;simp only[ho,cU,invoke,builtin,hM,hJ,go,bK,aG,bn,hs,hx,hr];exact hK _ _ (h Y w' h2 h3 h4)
theorem Rd.one{y:Value}(h:w.cell? ⟨b,0,none⟩=some y):Rd w (.slice (some ⟨b,0,none⟩) 1 1) [y]:=by
 refine⟨some _,1,rfl,cg _,by unfold cF;omega,λj u O=>⟨b,0,rfl,?_⟩⟩;match j,O with
 |0,O=>simp at O;subst O;exact h|j+1,O=>simp at O
theorem kD:∀u∈dn ws,u.oneCell'=true:=by
 intro u O;simp only[dn,aF]at O;obtain⟨b,_,rfl⟩:=O;rfl
theorem Rd.take(h:Rd w (.slice a n cap) xs)(k:Nat)(hk:k<=xs.length):Rd w (.slice a k cap) (xs.take k):=by
 obtain⟨a',U,W,hc,hm,Y⟩:=h;obtain⟨rfl,rfl,rfl⟩:=W;have hl:(xs.take k).length=k:=by simp;omega
 refine⟨a,cap,by rw[hl],by omega,hm,λj u O=>Y j u ?_⟩;rw[List.getElem?_take]at O;split at O;exact O;simp at O
theorem Rd.Ou(h:Rd w (.slice a n cap) (dn ws))(k:Nat)(O:k<=ws.length):Rd w (.slice a k cap) (dn (ws.take k)):=by
 have:=h.take k (by rw[dD];exact O);simpa[dn]using this
theorem Rd.drop(h:Rd w (.slice a n cap) xs)(k:Nat)(hk:k<=xs.length) :
  Rd w (.slice (if cap=k then a else a.map λx=>x.add k) (n-k) (cap-k)) (xs.drop k):=by
 obtain⟨a',W,Y,hc,hm,hr⟩:=h;obtain⟨rfl,rfl,rfl⟩:=Y;refine⟨if cap=k then a else a.map _,cap-k,by rw[bL],by simp;omega,by omega,λj u U=>?_⟩;rw[bV]at U;obtain⟨b,off,rfl,O⟩:=hr _ u U
 have aa:k+j<xs.length:=by
  by_cases h:k+j<xs.length;exact h;rw[List.getElem?_eq_none (by omega)]at U;simp at U
 refine⟨b,off+k,?_,by rw[Nat.add_assoc];exact O⟩;rw[if_neg (by omega)];simp[ge]
theorem Rd.xT(h:Rd w (.slice a n cap) (dn ws))(k:Nat)(O:k<=ws.length) :
  Rd w (.slice (if cap=k then a else a.map λx=>x.add k) (n-k) (cap-k)) (dn (ws.drop k)):=by
 have:=h.drop k (by rw[dD];exact O);simpa[dn]using this
theorem Rd.FF{off:Nat}(h:Rd w (.slice (some ⟨b,off,none⟩) n cap) (dn ws))(k:Nat)(O:k<ws.length)(U:n<=cap)(W:n=ws.length) :
  Rd w (.slice (some ⟨b,off+k,none⟩) (n-k) (cap-k)) (dn (ws.drop k)):=by
 have:=h.xT k (by omega);rw[if_neg (by omega)]at this;simpa[ge]using this
theorem Rd.Hw{c:Nat}(O:n=0)(U:c<=cF):Rd w (.slice a n c) []:=by
 subst O;exact⟨a,c,rfl,ch _,U,by simp⟩
theorem Rd.later(h:Rd w v xs)(U:∀a u,w.cell? a=some u->w'.cell? a=some u):Rd w' v xs:=by
 obtain⟨a,cap,W,Y,h2,hr⟩:=h;refine⟨a,cap,W,Y,h2,λj u hj=>?_⟩;obtain⟨b,off,e,O⟩:=hr j u hj;exact⟨b,off,e,U _ _ O⟩
theorem QB{a:Addr}{u:Value}(h:w.cell? a=some u):a.block<w.heap.size:=by
 by_cases O:a.block<w.heap.size;exact O;unfold ez at h;rw[Array.getElem?_eq_none (by omega)]at h;simp at h
theorem Rd.below(h:Rd w v xs)(hb:Below w.heap.size w w'):Rd w' v xs:=
 h.later λ_ _ O=>cI hb O
theorem jH{O size:Nat}(h:w.ownsRow base e size v n xs)(hb:O<=base):w.ownsRow O e size v n xs:=by
 obtain⟨Y,U⟩:=h;refine⟨Y,?_⟩;rcases U with U|⟨g,cap,W,hv,hg,r⟩
 exact Or.inl U;exact Or.inr ⟨g,cap,W,hv,by omega,r⟩
def oy(O:List (List Wd)):Nat:=(O.map λt=>t.length).sum
def U8(O:List (List Wd))(l:List Wd)(x:Wd):Nat:=gY O [l.getD (l.length-2) [],l.getD (l.length-1) [],x]
def U0(O:List (List Wd))(l:List Wd)(x:Wd):Nat:=gY O [l.getD (l.length-1) [],x]
def ri(O:List (List Wd))(l:List Wd)(x:Wd):Nat×Nat:=
 if 1<l.length/\0<U8 O l x then(U8 O l x,gY O [l.getD (l.length-2) [],l.getD (l.length-1) []])
 else if 0<l.length/\0<U0 O l x then(4*U0 O l x,10*gY O [l.getD (l.length-1) []])
 else(16*gY O [x],100*oy O)
theorem Li(O:List (List Wd)):oy O<=gu O:=by
 induction O with
 |nil=>simp[oy,gu]|cons t O U=>simp only[oy,gu,aG,ba]at U⊢;omega
theorem CW(ws:List Wd)(j:Nat)(h:j<ws.length):(dn ws)[j]?=some (.string ⟨(ws.getD j []).toArray⟩):=by
 rw[gU ws j h,a7,a9 h];rfl
theorem Kl(n k:Int)(h:n=k)(O:0<=n)(U:n<=4611686018427387904):IntKind.i64.wrap n=k:=by
 rw[IntWalk.i64_in n (by omega),h]
abbrev Fr:=Nat×Nat
def vi(O:List Fr)(i j:Nat):Bool:=decide ((O.getD j (0,0)).1*(O.getD i (0,0)).2<(O.getD i (0,0)).1*(O.getD j (0,0)).2)
def gR(O:List Fr)(told:List Bool):Nat->Option Nat
 |0=>none|i+1=>if told.getD i false=true then gR O told i else
  match gR O told i with
  |none=>some i|some j=>if vi O i j=true then some i else some j
def zB(O:List Fr):List Bool->Nat->List Nat
 |_,0=>[]
 |told,n+1=>match gR O told O.length with
  |none=>[]
  |some b=>b::zB O (told.set b true) n
def Vd(O:List (List Wd))(l:List Wd):List Fr:=(eJ O).map (ri O l)
def iJ(O:List (List Wd))(l:List Wd)(most:Nat):List Wd:=
 (zB (Vd O l) (bO (eJ O).length false) (min most (eJ O).length)).map λi=>(eJ O).getD i []
theorem AN(Y:List Fr)(told:List Bool):∀(i j:Nat),gR Y told i=some j->j<i/\told.getD j false=false:=by
 intro i;induction i with
 |zero=>intro j h;simp[gR]at h|succ i U=>
  intro j h;unfold gR at h;split at h;have:=U j h;exact⟨by omega,this.2⟩;rename_i W;split at h;simp at h;subst h;exact⟨by omega,by simpa using W⟩;rename_i j' O;split at h;simp at h;subst h;exact⟨by omega,by simpa using W⟩;simp at h;subst h;have:=U j' O;exact⟨by omega,this.2⟩
theorem wG(O:List Fr)(told:List Bool):∀(i:Nat),gR O told i=none->∀j,j<i->told.getD j false=true:=by
 intro i;induction i with
 |zero=>omega|succ i U=>
  intro h j Y;unfold gR at h;split at h;rename_i W;by_cases e:j=i;subst e;exact W;exact U h j (by omega);split at h;simp at h;split at h<;>simp at h
theorem Fp(O:List Fr)(told:List Bool)(i:Nat)(h:told.getD i false=true):gR O told (i+1)=gR O told i:=by simp only[gR];rw[if_pos h]
theorem CK(O:List Fr)(told:List Bool)(i:Nat)(h:told.getD i false=false)(U:gR O told i=none):gR O told (i+1)=some i:=by simp only[gR];rw[if_neg (by rw[h];simp),U]
theorem Ay(O:List Fr)(told:List Bool)(i j:Nat)(h:told.getD i false=false)(U:gR O told i=some j)(hb:vi O i j=true):gR O told (i+1)=some i:=by simp only[gR];rw[if_neg (by rw[h];simp),U];simp[hb]
theorem D1(O:List Fr)(told:List Bool)(i j:Nat)(h:told.getD i false=false)(U:gR O told i=some j)(hb:vi O i j=false):gR O told (i+1)=some j:=by simp only[gR];rw[U];simp[hb]
variable {c g m:Nat}
def dX(l:List Nat):List Value:=l.map λ(n:Nat)=>Value.int .i64 (n:Int)
theorem yL(l:List Nat):(dX l).length=l.length:=by simp[dX]
theorem iR(l:List Nat)(j:Nat)(h:j<l.length):(dX l)[j]?=some (.int .i64 (l.getD j 0)):=by
 simp[dX,a7,h]
theorem Sb:(prog.info? 3).map (λi=>(i.zero,i.size,i.bytes))=some (some (.int .i64 0),1,8):=by kernel_rfl
theorem Ha{w':World}(h:w.ownsRow base e 1 v n xs)(hb:Below w.heap.size w w'):w'.ownsRow base e 1 v n xs:=
 h.kept (row:=none) ⟨hb.os,hb.tape,hb.output,hb.size,λk O _=>hb.block k O⟩ (by cases v.ownBlock<;>simp)
theorem jh{a:Option Addr}(h:w.ownsRow base e 1 (.slice a m c) n xs)(k:Nat)(u:Value)(U:xs[k]?=some u):∃b off,a=some ⟨b,off,none⟩/\w.cell? ⟨b,off+k,none⟩=some u:=by
 obtain⟨Y,c',O,_,_,W⟩:=Rd.jb h;simp only[Value.slice.injEq]at O;rw[O.1];exact W k u U
theorem rl(h:w.ownsRow base e 1 (.slice (some ⟨g,0,none⟩) m c) n xs)(o:Nat):w.frozen? ⟨g,o,none⟩=false:=by
 rcases h.2 with⟨h,_⟩|⟨g',cap,O,U,_,W,_⟩
 simp at h;obtain⟨⟨rfl,_⟩,_⟩:=U;simp[er,W]
theorem zI(h:w.ownsRow base e 1 (.slice (some ⟨g,0,none⟩) m c) n xs)(k:Nat)(v:Value)(hk:k<n) :
  (w.setCell ⟨g,k,none⟩ v).ownsRow base e 1 (.slice (some ⟨g,0,none⟩) m c) n (xs.set k v):=by
 obtain⟨W,Y⟩:=h;refine⟨by simpa using W,?_⟩;rcases Y with⟨h,_⟩|⟨g',cap,O,he,hb,hg,h3,h4,h5,h6⟩
 simp at h;have U:=he;obtain⟨⟨rfl,_⟩,rfl,rfl⟩:=U;refine Or.inr ⟨g,c,O.setIfInBounds k v,rfl,hb,?_,h3,h4,by simpa using h5,?_⟩;simp only[en,gd,hg];simp;rw[Array.toList_setIfInBounds,List.take_set,h6]
theorem M9{b:Nat}{t:cG}(hb:b=w.heap.size):(w.alloc (.cells #[v] t)).cell? ⟨b,0,none⟩=some v:=by
 subst hb;exact iz
variable {size:Nat}
theorem ig{w':World}(h:w.ownsRow base e size v n xs)(hb:∀k,v.ownBlock=some k->w'.heap[k]?=w.heap[k]?):w'.ownsRow base e size v n xs:=by
 obtain⟨Y,O⟩:=h;refine⟨Y,?_⟩;rcases O with O|⟨g,cap,U,rfl,W,hg,r⟩
 exact Or.inl O;exact Or.inr ⟨g,cap,U,rfl,W,by rw[hb g rfl];exact hg,r⟩
theorem ub{b1 b2 e1 e2 s1 s2 n1 n2:Nat}{v1 v2:Value}{x1 x2:List Value}(h1:w.ownsRow b1 e1 s1 v1 n1 x1)(h2:w.ownsRow b2 e2 s2 v2 n2 x2)(Y:e1≠e2)(k:Nat)(O:v1.ownBlock=some k)(U:v2.ownBlock=some k):False:=by
 rcases h1.2 with⟨rfl,_⟩|⟨g,cap,ac,rfl,_,hg,_⟩
 simp[fB]at O;rcases h2.2 with⟨rfl,_⟩|⟨g2,aa,ab,rfl,_,W,_⟩
 simp[fB]at U;simp only[fB,cX]at O U;rw[O]at hg;rw[U,hg]at W;simp only[cX,Obj.cells.injEq]at W;exact Y W.2.1
theorem jf(h:w.ownsRow base e size v n xs):∃a cap,v=.slice a n cap/\n<=cap:=by
 rcases h.2 with⟨rfl,rfl⟩|⟨g,cap,O,rfl,_,_,U,_⟩
 exact⟨none,0,rfl,cg _⟩;exact⟨_,cap,rfl,U⟩
variable {s:Nat}
def tj(w:World)(s:Nat)(v:Value)(n:Nat)(xs:List Value):Prop:=
 ∃a cap,v=.slice a n cap/\n<=cap/\cap<=cF/\xs.length=n*s/\∀j u,xs[j]?=some u->∃b off,a=some ⟨b,off,none⟩/\w.cell? ⟨b,off+j,none⟩=some u
theorem tj.jb{base e:Nat}(h:w.ownsRow base e s v n xs):tj w s v n xs:=by
 have W:=h;obtain⟨U,h⟩:=h;rcases h with⟨rfl,rfl⟩|⟨g,cap,Y,rfl,_,hg,hn,O,aa,ab⟩
 have:=b0 (by simpa using U);subst this;exact⟨none,0,rfl,cg _,by omega,by simp,by simp⟩;refine⟨some _,cap,rfl,hn,O,U,λj u hj=>⟨g,0,rfl,?_⟩⟩;have:=W.cells (g:=g) rfl j u hj;rwa [ge]at this
theorem tj.nil(w:World)(s:Nat):tj w s (.slice none 0 0) 0 []:=⟨none,0,rfl,cg _,by omega,by simp,by simp⟩
theorem tj.later{w':World}(h:tj w s v n xs)(U:∀a u,w.cell? a=some u->w'.cell? a=some u):tj w' s v n xs:=by
 obtain⟨a,cap,W,Y,h2,hl,hr⟩:=h;refine⟨a,cap,W,Y,h2,hl,λj u hj=>?_⟩;obtain⟨b,off,e,O⟩:=hr j u hj;exact⟨b,off,e,U _ _ O⟩
theorem pT{P:Program}(w:World)(base:Nat)(t ty e:cG)(i:TypeInfo)(z:Value)(size bytes:Nat)(ht:P.underlying t=some (.slice e))(hi:P.info? e=some i)(hz:i.zero=some z)
  (U:i.size=size) (ae:i.bytes=bytes) (ao:z.cells.size=size) (aj:0<size)
  (v:Value) (n:Nat) (xs:List Value) (O:w.ownsRow base e size v n xs)
  (x:Value) (m:Nat) (news:List Value) (hx:tj w size x m news) (h1:∀u∈news,u.oneCell'=true)
  (W:(n+m)*bytes<=140737488355328) (af:n+m<=cF) (ag:base<=w.heap.size) :
  ∃v' w',(ee #[t,t] ty #[v,x]).run P w=.ok v' w'/\w'.ownsRow base e size v' (n+m) (xs++news)/\w.grownBy w' v.ownBlock/\(v'.ownBlock=v.ownBlock\/(v'.ownBlock=some w.heap.size/\Below w.heap.size w w')):=by
 obtain⟨a,cap,rfl,hc,hm,hl,ak⟩:=hx;by_cases ap:m=0;subst ap;have hn:news=[]:=b0 (by simpa using hl);subst hn;obtain⟨b,c,rfl,ah⟩:=jf O
 have hr:(ee #[t,t] ty #[.slice b n c,.slice a 0 cap]).run P w=.ok (.slice b n c) w:=by
  cases a with
  |none=>exact kg (P:=P) w t ty e i ht hi b n c cap ah|some ad=>
   cases b<;>simp[ee,cT ht,sizeOf,typeInfo,hi,ei,ef,ah,cV,loadCells,loadCellsFrom]
 exact⟨_,w,hr,by simpa using O,World.grownBy.refl _ _,Or.inl rfl⟩;have al:0<news.length:=by rw[hl];exact cu (by omega) aj
 obtain⟨b,off,ha,_⟩:=ak 0 news[0] (a9 al);subst ha
 have Y:∀j u,news[j]?=some u->w.cell? ((⟨b,off,none⟩:Addr).add j)=some u:=by
  intro j u hj;obtain⟨b',au,he,ai⟩:=ak j u hj;simp only[cX,Addr.mk.injEq]at he;obtain⟨rfl,rfl,_⟩:=he;rw[ge];exact ai
 obtain⟨v',w',hr,h2,h3,_⟩:=cL (P:=P) w base t ty e i z size bytes ht hi hz U ae ao aj v n xs O ⟨b,off,none⟩ m cap news hl Y h1 af W ag;refine⟨v',w',hr,h2,h3,?_⟩;have ac:news.length=m*i.size:=by rw[U];exact hl
 rcases O.2 with⟨rfl,rfl⟩|⟨g,c,am,rfl,av,hg,ah,aw,aq,ar⟩
 have aa:=cO (P:=P) w t ty e i z ht hi hz ⟨b,off,none⟩ m cap news ac Y (by omega) (by simp only[cF]at af;omega) (by rw[ae];simp only[cq]at W;omega);rw[aa]at hr;simp only[ff]at hr;exact Or.inr ⟨by rw[<-hr.1];rfl,by rw[<-hr.2];exact((h9 _ _).drew).alloc (cg _) _⟩;by_cases ab:n+m<=c;have an:n*i.size+news.length<=am.size:=by rw[ac,aq,U,<-cr];exact cl _ ab
 have aa:=cM (P:=P) w t ty e i ht hi g n c am hg ⟨b,off,none⟩ m cap news ac Y h1 ab an;rw[aa]at hr;simp only[ff]at hr;exact Or.inl (by rw[<-hr.1];rfl);have holds:∀j u,xs[j]?=some u->w.cell? ((⟨g,0,none⟩:Addr).add j)=some u:=O.cells (g:=g) rfl;have aa:=cN (P:=P) w t ty e i z ht hi hz ⟨g,0,none⟩ n c xs (by rw[U];exact O.1) holds ⟨b,off,none⟩ m cap news ac Y (by omega) (by simp only[cF]at af;omega) (by rw[ae];exact cP (by omega) W);rw[aa]at hr;simp only[ff]at hr;exact Or.inr ⟨by rw[<-hr.1];rfl,by rw[<-hr.2];exact((h9 _ _).drew).alloc (cg _) _⟩
theorem xe{P:Program}(w:World){ops:Array Oper}{rest:List Oper}{o:Oper}{a:Act}{Q:Exit->Act->World->Prop}(ab:o.guard=none)(s x:Operand)(t:cG)
  (ho:o.op=.call {callee:=.builtin .append,args:=#[s,x],argTypes:=#[t,t]})
  (base:Nat) (e:cG) (i:TypeInfo) (z:Value) (size bytes:Nat) (ht:P.underlying t=some (.slice e)) (hi:P.info? e=some i) (hz:i.zero=some z)
  (U:i.size=size) (ac:i.bytes=bytes) (ad:z.cells.size=size) (ae:0<size)
  (v:Value) (n:Nat) (xs:List Value) (hs:a.eval s=v) (aa:w.ownsRow base e size v n xs)
  (y:Value) (m:Nat) (news:List Value) (hx:a.eval x=y) (hy:tj w size y m news) (h1:∀u∈news,u.oneCell'=true)
  (O:(n+m)*bytes<=140737488355328) (af:n+m<=cF) (W:base<=w.heap.size)
  (h:∀Y w',w'.ownsRow base e size Y (n+m) (xs++news)->w.grownBy w' v.ownBlock->(Y.ownBlock=v.ownBlock\/(Y.ownBlock=some w.heap.size/\Below w.heap.size w w'))->cJ P ops Q rest (a.put o.dst Y) w'):cJ P ops Q (o::rest) a w:=by
 refine cK ab λ_ hK=>?_;obtain⟨Y,w',hr,h2,h3,h4⟩:=pT (P:=P) w base t o.type e i z size bytes ht hi hz U ac ad ae v n xs aa y m news hy h1 O af W;unfold Oper.wp cQ;simp only[ho,cU,invoke,builtin,hM,hJ,go,bK,aG,bn,hs,hx,hr];exact hK _ _ (h Y w' h2 h3 h4)
structure dq where
 name:Wd
 gone:Bool
 text:Wd
 dp:Int
 dA:Int
def qk(l:List dq)(x:Wd):Option Nat:=l.findIdx? λe=>e.name==x
def jq(later:List dq)(e:dq):Bool:=(qk later e.name).isNone
def dH(old later:List dq):List dq:=old.filter (jq later)++later
def dw(l:List dq):List dq:=l.filter λe=>!e.gone
variable {cs:Array Value} {fz:Nat×Nat} {F G:Nat->Prop} {t:cG}
structure du(F:Nat->Prop)(w w':World):Prop where
 os:w'.os=w.os
 tape:w'.tape=w.tape
 output:w'.output=w.output
 size:w.heap.size<=w'.heap.size
 block:∀k,k<w.heap.size->¬F k->w'.heap[k]?=w.heap[k]?
def Qz(F:Nat->Prop)(w w':World):Nat->Prop:=λk=>F k\/(w.heap.size<=k/\k<w'.heap.size)
theorem du.refl(F:Nat->Prop)(w:World):du F w w:=⟨rfl,rfl,rfl,cg _,λ_ _ _=>rfl⟩
theorem du.fE(h:Below w.heap.size w w'):du F w w':=⟨h.os,h.tape,h.output,h.size,λk O _=>h.block k O⟩
theorem du.trans{a b c:World}(h:du F a b)(k:du G b c)(O:∀i,i<a.heap.size->G i->F i):du F a c:=
 ⟨k.os.trans h.os,k.tape.trans h.tape,k.output.trans h.output,cm h.size k.size,λi hi hF=>by
   rw[k.block i (cv hi h.size) (λU=>hF (O i hi U)),h.block i hi hF]⟩
theorem du.mono(h:du F w w')(hF:∀k,F k->G k):du G w w':=⟨h.os,h.tape,h.output,h.size,λk O U=>h.block k O (λW=>U (hF k W))⟩
theorem eh(h:w.ownsRow base e 1 v n xs)(hb:∀k,v.ownBlock=some k->w'.heap[k]?=w.heap[k]?):w'.ownsRow base e 1 v n xs:=by
 obtain⟨Y,O⟩:=h;refine⟨Y,?_⟩;rcases O with O|⟨g,cap,U,rfl,W,hg,r⟩
 exact Or.inl O;exact Or.inr ⟨g,cap,U,rfl,W,by rw[hb g rfl];exact hg,r⟩
theorem dh(h:w.heap[b]?=some (.cells cs t fz))(o:Nat):w.cell? ⟨b,o,none⟩=cs[o]?:=by
 simp[ez,h]
theorem dI(h:w.heap[b]?=some (.cells cs t (0,0)))(o:Nat):w.frozen? ⟨b,o,none⟩=false:=by
 simp[er,h]
theorem heap_set(h:w.heap[b]?=some (.cells cs t fz))(o:Nat)(v:Value):(w.setCell ⟨b,o,none⟩ v).heap[b]?=some (.cells (cs.setIfInBounds o v) t fz):=by
 simp[en,gd,h]
theorem pE(h:w.heap[b]?=some (.cells cs t fz))(Y:w.ownsRow base e 1 v n xs)(O:t≠e):v.ownBlock≠some b:=by
 rcases Y.2 with⟨rfl,_⟩|⟨g,cap,aa,rfl,_,U,_⟩
 simp[fB];intro W;simp only[fB,cX]at W;rw[W,h]at U;simp only[cX,Obj.cells.injEq]at U;exact O U.2.1
def iU(l:List UInt8):Bool:=l.all eB&&decide (0<l.length)&&decide (l.length<=8)
def iE(ss:List (List dq)):Nat:=(ss.map λs=>s.length+1).sum
def lV(ss:List (List dq))(k:Nat):List dq:=(ss.take k).foldl dH []
def eO(ss:List (List dq))(O:List dq):List dq:=dw (dH (lV ss ss.length) O)
theorem Bz(a b:List dq):(dH a b).length<=a.length+b.length:=by
 unfold dH;have:=aN (jq b) a;rw[aB];omega
theorem CJ(ss:List (List dq))(k:Nat)(h:k<ss.length):lV ss (k+1)=dH (lV ss k) ss[k]:=by
 unfold lV;rw[aE h,b7];rfl
theorem zA(ss:List (List dq))(i:Nat)(h:i<ss.length):iE (ss.take (i+1))=iE (ss.take i)+(ss[i].length+1):=by
 unfold iE;rw[aE h,aX,bN];rfl
theorem G0(ss:List (List dq))(i:Nat):iE (ss.take i)<=iE ss:=by
 have:iE ss=iE (ss.take i)+iE (ss.drop i):=by
  unfold iE;rw[<-bN,<-aX,bo]
 omega
theorem ME(ss:List (List dq)):ss.length<=iE ss:=by
 induction ss with
 |nil=>simp|cons t U O=>simp only[iE,aG,ba,aC]at O⊢;omega
theorem EF(ss:List (List dq))(k:Nat)(O:k<=ss.length):(lV ss k).length<=iE (ss.take k):=by
 induction k with
 |zero=>simp[lV]|succ k U=>
  rw[CJ ss k (by omega),zA ss k (by omega)];have:=Bz (lV ss k) ss[k];omega
def ow(r:Nat):Bool:=decide (128<=r) || !eB (cY r)
theorem Ff(c:UInt8)(h:c.toNat<128):ow c.toNat = !eB c:=by
 unfold ow;rw[decide_eq_false (by omega)];simp
def Sz(b:Wd):ByteArray:=⟨b.toArray⟩
structure UJ(f:ByteArray)(pos:Nat)(st:Option Nat)(acc:List (Nat×Nat)):Prop where
 none:st=none->(acc.map λx=>f.extract x.1 x.2)=(jF f.data.toList pos).map Sz/\(pos=0\/eB (f.data.toList.getD (pos-1) 0)=false)
 some:∀a,st=some a->(acc.map λx=>f.extract x.1 x.2)++[Sz (va f.data.toList a)]=(jF f.data.toList pos).map Sz/\a<pos/\Aa f.data.toList a pos
theorem Bi(l:List UInt8)(k:Nat)(h:eB (l.getD k 0)=false):eE l k=false:=by unfold eE;rw[h];rfl
theorem Hc(l:List UInt8)(k:Nat)(h:eB (l.getD k 0)=true)(O:k=0\/eB (l.getD (k-1) 0)=false):eE l k=true:=by
 unfold eE;rw[h];rcases O with O|O
 simp[O];rw[O];simp
theorem LO(l:List UInt8)(k a:Nat)(O:a<k)(h:Aa l a k):eE l k=false:=by
 unfold eE;rw[h.2.2 (k-1) (by omega) (by omega),decide_eq_false (by omega)];simp
theorem FV(f:ByteArray)(hf:∀k(h:k<f.size),(f[k]'h).toNat<128):∀(g pos:Nat)(st:Option Nat)(acc:List (Nat×Nat)),UJ f pos st acc->pos<=f.size->f.size<=pos+g->
  ((e7 f (e6 ow f g pos st acc)).map λx=>f.extract x.1 x.2)=(iN f.data.toList).map Sz:=by
 intro g;induction g with
 |zero=>
  intro pos st acc h h1 h2;obtain rfl:pos=f.size:=by omega
  have hw:iN f.data.toList=jF f.data.toList f.size:=by unfold iN;simp
  rw[hw]
  cases st with
  |none=>simpa[e6,e7]using(h.none rfl).1|some a=>
   obtain⟨e,W,Y⟩:=h.some a rfl;simp only[e6,e7,aX,aG,bn];rw[tV f a _ Y (Or.inl rfl)];exact e
 |succ g ih=>
  intro pos st acc h h1 h2;unfold e6;by_cases O:pos<f.size;rw[if_pos O,decode_ascii f pos O (hf pos O),Ff _ (hf pos O)];have hg:=j6 f pos O;by_cases hl:eB (f[pos]'O)=true;rw[hl];have U:eB (f.data.toList.getD pos 0)=true:=by rw[hg];exact hl
  cases st with
  |none=>
   obtain⟨e,hp⟩:=h.none rfl;refine ih _ _ _ ⟨λh=>(by cases h),λa W=>?_⟩ (by omega) (by omega);obtain rfl:=by simpa using W
   have hs:=Hc _ _ U hp;rw[uF _ _ hs,aX,e];exact⟨rfl,by omega,xG _ _ _ (G6 _ _ (by simp;omega)) (by simpa using O) U⟩
  |some a=>
   obtain⟨e,W,Y⟩:=h.some a rfl;refine ih _ _ _ ⟨λh=>(by cases h),λb hb=>?_⟩ (by omega) (by omega);obtain rfl:=by simpa using hb
   rw[mC _ _ (LO _ _ _ W Y)];exact⟨e,by omega,xG _ _ _ Y (by simpa using O) U⟩
  have aa:=by simpa using hl
  rw[aa];have U:eB (f.data.toList.getD pos 0)=false:=by rw[hg];exact aa
  cases st with
  |none=>
   obtain⟨e,hp⟩:=h.none rfl;refine ih _ _ _ ⟨λ_=>?_,λa W=>(by cases W)⟩ (by omega) (by omega);rw[mC _ _ (Bi _ _ U)];exact⟨e,Or.inr (by simpa using U)⟩
  |some a=>
   obtain⟨e,W,Y⟩:=h.some a rfl;refine ih _ _ _ ⟨λ_=>?_,λa W=>(by cases W)⟩ (by omega) (by omega);rw[mC _ _ (Bi _ _ U),<-e,aX];refine⟨?_,Or.inr (by simpa using U)⟩;simp only[aG,bn];rw[tV f a pos Y (Or.inr U)];rfl
  rw[if_neg O];have:=ih pos st acc h h1 (by omega);rw[Lib.spansFromP_end _ _ _ _ _ _ O]at this;exact this
theorem DD(f:ByteArray)(O:∀k(h:k<f.size),(f[k]'h).toNat<128):Lib.goFieldsP ow f=(iN f.data.toList).map Sz:=by
 refine FV f O _ 0 none [] ⟨λ_=>⟨by simp[jF],Or.inl rfl⟩,λa U=>(by cases U)⟩ (by omega) (by omega)
theorem FI(ws:List Wd):(ws.map Sz).map Value.string=dn ws:=by simp[dn,Sz]
variable {l:List Wd} {x y:Wd}
theorem im:∀x:Wd,cW x x=false:=by
 intro x;induction x with
 |nil=>rfl|cons a x O=>simp[cW,O]
theorem EO{a b c:UInt8}(h:a<b)(k:b<c):a<c:=by
 rw[cZ]at *;omega
theorem me:∀x y z:Wd,cW x y=true->cW y z=true->cW x z=true:=by
 intro x;induction x with
 |nil=>intro y z U O;cases z with
  |nil=>cases y<;>simp[cW]at O
  |cons=>rfl
 |cons a x W=>
  intro y z U O
  cases y with
  |nil=>simp[cW]at U|cons b y=>
   cases z with
   |nil=>simp[cW]at O|cons c z=>
    simp only[cW,c7,c6,decide_eq_true_eq,beq_iff_eq]at *;rcases U with U|⟨rfl,U⟩
    rcases O with O|⟨rfl,O⟩
    exact Or.inl (EO U O);exact Or.inl U;rcases O with O|⟨rfl,O⟩
    exact Or.inl O;exact Or.inr ⟨rfl,W y z U O⟩
theorem iC:∀x y:Wd,cW x y=true\/x=y\/cW y x=true:=by
 intro x;induction x with
 |nil=>intro y;cases y with
  |nil=>exact Or.inr (Or.inl rfl)|cons=>exact Or.inl rfl
 |cons a x W=>
  intro y
  cases y with
  |nil=>exact Or.inr (Or.inr rfl)|cons b y=>
   simp only[cW,c7,c6,decide_eq_true_eq,beq_iff_eq];by_cases O:a<b;exact Or.inl (Or.inl O);by_cases U:b<a;exact Or.inr (Or.inr (Or.inl U))
   obtain rfl:a=b:=by
    apply da.1;rw[cZ]at O U;omega
   rcases W y with h|h|h
   exact Or.inl (Or.inr ⟨rfl,h⟩);exact Or.inr (Or.inl (by rw[h]));exact Or.inr (Or.inr (Or.inr ⟨rfl,h⟩))
theorem BR(h:cW x y=true):x≠y:=by
 intro e;subst e;rw[im]at h;cases h
theorem pF(h:cW x y=true):cW y x=false:=by
 cases O:cW y x with
 |false=>rfl|true=>have:=me _ _ _ h O;rw[im]at this;cases this
abbrev mw(l:List Wd):Prop:=l.Pairwise λx y=>cW x y=true
theorem mw.nodup(h:mw l):l.Nodup:=h.imp λO=>BR O
theorem Rc(out:List Wd)(x:Wd):out.take (zO out x)=out.takeWhile λy=>cW y x:=by
 unfold zO;induction out with
 |nil=>simp|cons a l O=>
  rw[bi];split;simp only[aC,b5,O];simp
theorem JO(out:List Wd)(x:Wd):out.drop (zO out x)=out.dropWhile λy=>cW y x:=by
 unfold zO;induction out with
 |nil=>simp|cons a l O=>
  rw[bi,bG];split;simp only[aC,List.drop_succ_cons,O];simp
theorem AK{p:Wd->Bool}:∀(l:List Wd),∀y∈l.takeWhile p,p y=true:=by
 intro l;induction l with
 |nil=>intro y h;simp at h|cons a l O=>
  intro y h;rw[bi]at h;split at h;rename_i U;rcases aA.1 h with rfl|h
  exact U;exact O y h;simp at h
theorem yr{p:Wd->Bool}:∀(l:List Wd)(y:Wd)(r:List Wd),l.dropWhile p=y::r->p y=false:=by
 intro l;induction l with
 |nil=>intro y r h;simp at h|cons a l O=>
  intro y r h;rw[bG]at h;split at h;exact O y r h;rename_i U;cases h;simpa using U
theorem Rj(out:List Wd)(x:Wd)(h:mw out):mw (uH out x)/\∀y,y∈uH out x↔(y=x\/y∈out):=by
 unfold uH;split
 rename_i W;refine⟨h,λy=>⟨Or.inr,λO=>?_⟩⟩;rcases O with rfl|O
 exact List.mem_of_getElem? W;exact O;rename_i W;have U:=bo (zO out x) out;have aa:out[zO out x]?=(out.drop (zO out x))[0]?:=by simp
 rw[aa]at W;rw[Rc,JO]at U⊢;rw[JO]at W;have hA:=AK (p:=λy=>cW y x) out;have hH:=yr (p:=λy=>cW y x) out;generalize out.takeWhile _=A at *;generalize out.dropWhile _=B at *;subst U;obtain⟨sA,sB,ab⟩:=bq.1 h
 have hB:∀y∈B,cW x y=true:=by
  cases B with
  |nil=>intro y O;simp at O|cons b B=>
   have h1:=hH b B rfl
   have Y:cW x b=true:=by
    rcases iC x b with h|h|h
    exact h;subst h;simp at W;rw[h1]at h;cases h
   intro y O;rcases aA.1 O with rfl|O
   exact Y;exact me _ _ _ Y ((aD.1 sB).1 y O)
 refine⟨?_,λy=>?_⟩;refine bq.2 ⟨sA,?_,?_⟩;exact aD.2 ⟨hB,sB⟩;intro a ha b hb;rcases aA.1 hb with rfl|hb
 exact hA a ha;exact ab a ha b hb;simp only[aH,aA,aS,aL];constructor;rintro(h|h|h);exact Or.inr (Or.inl h);exact Or.inl h;exact Or.inr (Or.inr h);rintro(h|h|h);exact Or.inr (Or.inl h);exact Or.inl h;exact Or.inr (Or.inr h)
theorem CZ(t:List Wd):∀out,mw out->mw (t.foldl uH out)/\∀y,y∈t.foldl uH out↔(y∈t\/y∈out):=by
 induction t with
 |nil=>intro out h;exact⟨h,by simp⟩|cons x t O=>
  intro out h;obtain⟨U,W⟩:=Rj out x h;obtain⟨Y,h4⟩:=O _ U;refine⟨Y,λy=>?_⟩;rw[aZ,h4,W,aA];constructor;rintro(h|h|h);exact Or.inl (Or.inr h);exact Or.inl (Or.inl h);exact Or.inr h;rintro((h|h)|h);exact Or.inr (Or.inl h);exact Or.inl h;exact Or.inr (Or.inr h)
theorem AM(O:List (List Wd)):∀out,mw out->mw (O.foldl (λout t=>t.foldl uH out) out)/\∀y,y∈O.foldl (λout t=>t.foldl uH out) out↔((∃t∈O,y∈t)\/y∈out):=by
 induction O with
 |nil=>intro out h;exact⟨h,by simp⟩|cons t O U=>
  intro out h;obtain⟨W,Y⟩:=CZ t out h;obtain⟨h3,h4⟩:=U _ W;refine⟨h3,λy=>?_⟩;rw[aZ,h4,Y];simp only[aA,exists_eq_or_imp];constructor;rintro(h|h|h);exact Or.inl (Or.inr h);exact Or.inl (Or.inl h);exact Or.inr h;rintro((h|h)|h);exact Or.inr (Or.inl h);exact Or.inl h;exact Or.inr (Or.inr h)
theorem jS(O:List (List Wd)):mw (eJ O):=(AM O [] List.Pairwise.nil).1
theorem k7(O:List (List Wd))(y:Wd):y∈eJ O↔∃t∈O,y∈t:=by
 have:=(AM O [] List.Pairwise.nil).2 y;simpa[eJ]using this
theorem wH(h:l.Nodup)(a:Wd):l.count a=if a∈l then 1 else 0:=by
 induction l with
 |nil=>simp|cons b l O=>
  obtain⟨U,W⟩:=bf.1 h;rw[List.count_cons,O W];by_cases e:b=a;subst e;simp[U];have Y:¬a=b:=λx=>e x.symm;simp[e,Y]
theorem DC{U:List Wd}(h:l.Nodup)(W:U.Nodup)(hm:∀a,a∈l↔a∈U):l.Perm U:=by
 rw[List.perm_iff_count];intro a;rw[wH h,wH W];by_cases O:a∈l;rw[if_pos O,if_pos ((hm a).1 O)];rw[if_neg O,if_neg (λx=>O ((hm a).2 x))]
def fZ(kn:List Wd)(t:List Wd)(k:Nat):List Wd:=(t.take k).foldl (λu x=>if x∈kn\/x∈u then u else u++[x]) []
theorem xP(kn t:List Wd)(k:Nat)(h:k<t.length):fZ kn t (k+1)=if t[k]∈kn\/t[k]∈fZ kn t k then fZ kn t k else fZ kn t k++[t[k]]:=by
 unfold fZ;rw[aE h,b7];rfl
theorem Af(kn t:List Wd):∀k,k<=t.length->(fZ kn t k).Nodup/\(∀y,y∈fZ kn t k↔(y∈t.take k/\y ∉ kn))/\(fZ kn t k).length<=k:=by
 intro k;induction k with
 |zero=>simp[fZ]|succ k Y=>
  intro hk;obtain⟨W,U,h3⟩:=Y (by omega);rw[xP kn t k (by omega),aE (by omega)];split
  rename_i O;refine⟨W,λy=>?_,by omega⟩;rw[U y,aH,aI];constructor;rintro⟨a,b⟩;exact⟨Or.inl a,b⟩;rintro⟨a|a,b⟩;exact⟨a,b⟩;subst a;rcases O with O|O
  exact absurd O b;exact(U _).1 O
  rename_i O;refine⟨?_,λy=>?_,by simp;omega⟩;rw[bp];refine⟨W,by simp,?_⟩;intro a ha b hb;simp at hb;subst hb;intro e;subst e;exact O (Or.inr ha);rw[aH,U y,aH,aI];constructor;rintro(⟨a,b⟩|a);exact⟨Or.inl a,b⟩;subst a;exact⟨Or.inr rfl,λx=>O (Or.inl x)⟩;rintro⟨a|a,b⟩;exact Or.inl ⟨a,b⟩;exact Or.inr a
theorem yU(kn:List Wd)(W:List (List Wd))(t:List Wd)(h:kn.Perm (eJ W)):(kn++fZ kn t t.length).Perm (eJ (W++[t])):=by
 obtain⟨h1,h2,_⟩:=Af kn t _ (cg _);have Y:=h.nodup_iff.2 (jS W).nodup;refine DC ?_ (jS _).nodup ?_;rw[bp];refine⟨Y,h1,λa U b hb e=>?_⟩;subst e;exact((h2 _).1 hb).2 U;intro a;rw[aH,h2,k7,h.mem_iff,k7,bk];constructor;rintro(⟨t',O,U⟩|⟨U,_⟩);exact⟨t',by simp[O],U⟩;exact⟨t,by simp,U⟩;rintro⟨t',O,U⟩;rw[aH,aI]at O;rcases O with O|rfl
 exact Or.inl ⟨t',O,U⟩;by_cases hk:a∈kn;exact Or.inl ((k7 W a).1 (h.mem_iff.1 hk));exact Or.inr ⟨U,λe=>hk (h.mem_iff.2 ((k7 W a).2 e))⟩
variable {x y z:Fr} {K:List Wd} {sc:Wd->Fr}
def xa(x y:Fr):Bool:=decide (y.1*x.2<x.1*y.2)
theorem KA(Y:0<z.2)(O:xa x y=true)(h2:xa y z=true):xa x z=true:=by
 unfold xa at *;simp only[decide_eq_true_eq]at *;have a1:=ct O Y;by_cases hx:0<x.2;have a2:=ct h2 hx;refine Nat.lt_of_mul_lt_mul_right (a:=y.2) ?_;have e1:z.1*x.2*y.2=z.1*y.2*x.2:=by rw[ci]
 have e2:y.1*z.2*x.2=y.1*x.2*z.2:=by rw[ci]
 have e3:x.1*z.2*y.2=x.1*y.2*z.2:=by rw[ci]
 omega;have U:x.2=0:=by omega
 have W:0<x.1:=by
  rcases cn x.1 with h|h
  rw[h]at O;simp at O;exact h
 rw[U];simpa using cu W Y
theorem uG(Y:0<x.2)(O:0<y.2)(hz:0<z.2)(U:xa y x=false)(W:xa z y=false):xa z x=false:=by
 unfold xa at *;simp only[decide_eq_false_iff_not,Nat.not_lt]at *;have a1:y.1*x.2*z.2<=x.1*y.2*z.2:=cl _ U;have a2:z.1*y.2*x.2<=y.1*z.2*x.2:=cl _ W;refine Nat.le_of_mul_le_mul_right (c:=y.2) ?_ O;have e1:z.1*x.2*y.2=z.1*y.2*x.2:=by rw[ci]
 have e2:y.1*z.2*x.2=y.1*x.2*z.2:=by rw[ci]
 have e3:x.1*z.2*y.2=x.1*y.2*z.2:=by rw[ci]
 omega
theorem O8(h:xa x y=true):xa y x=false:=by
 unfold xa at *;simp only[decide_eq_true_eq,decide_eq_false_iff_not]at *;omega
def mI(sc:Wd->Fr)(x y:Wd):Bool:=xa (sc x) (sc y) || (!xa (sc y) (sc x)&&cW x y)
theorem vQ(sc:Wd->Fr)(x:Wd):mI sc x x=false:=by
 unfold mI;rw[im];have:xa (sc x) (sc x)=false:=by unfold xa;simp
 rw[this];rfl
theorem sI(sc:Wd->Fr){x y z:Wd}(hx:0<(sc x).2)(hy:0<(sc y).2)(Y:0<(sc z).2)(U:mI sc x y=true)(O:mI sc y z=true):mI sc x z=true:=by
 unfold mI at *;simp only[c7,c6,c9]at *;rcases U with U|⟨U,aa⟩
 rcases O with O|⟨O,W⟩
 exact Or.inl (KA Y U O)
 cases hh:xa .. with
 |true=>exact Or.inl rfl|false=>
  have:=uG hy Y hx O hh;rw[this]at U;cases U
 rcases O with O|⟨O,W⟩
 cases hh:xa .. with
 |true=>exact Or.inl rfl|false=>
  have:=uG Y hx hy hh U;rw[this]at O;cases O
 exact Or.inr ⟨uG hx hy Y U O,me _ _ _ aa W⟩
theorem zJ(sc:Wd->Fr)(x y:Wd):mI sc x y=true\/x=y\/mI sc y x=true:=by
 unfold mI;simp only[c7,c6,c9]
 cases O:xa .. with
 |true=>exact Or.inl (Or.inl rfl)|false=>
  cases U:xa .. with
  |true=>exact Or.inr (Or.inr (Or.inl rfl))|false=>
   rcases iC x y with h|h|h
   exact Or.inl (Or.inr ⟨rfl,h⟩);exact Or.inr (Or.inl h);exact Or.inr (Or.inr (Or.inr ⟨rfl,h⟩))
theorem KQ(sc:Wd->Fr){x y:Wd}(h:mI sc x y=true):mI sc y x=false:=by
 unfold mI at *;simp only[c7,c6,c9,c8,Bool.and_eq_false_iff,Bool.not_eq_false']at *;rcases h with h|⟨h,O⟩
 exact⟨O8 h,Or.inl h⟩;exact⟨h,Or.inr (pF O)⟩
theorem Ic(O:mw K){i j:Nat}(h:i<j)(U:j<K.length):cW (K[i]'(by omega)) K[j]=true:=bd.1 O i j _ U h
theorem AP(i j:Nat)(hi:i<K.length)(O:j<K.length):vi (K.map sc) i j=xa (sc K[i]) (sc K[j]):=by
 unfold vi xa;simp[a7,hi,O]
theorem I0(hK:mw K)(hp:∀x∈K,0<(sc x).2)(told:List Bool):∀(m:Nat),m<=K.length->∀b,gR (K.map sc) told m=some b->∃hb:b<K.length,∀i(hi:i<K.length),i<m->told.getD i false=false->i≠b->mI sc K[b] K[i]=true:=by
 intro m;induction m with
 |zero=>intro _ b h;simp[gR]at h|succ m ih=>
  intro hm b h
  cases ht:told.getD m false with
  |true=>
   rw[Fp _ _ _ ht]at h;obtain⟨hb,hh⟩:=ih (by omega) b h;refine⟨hb,λi hi aa U Y=>?_⟩;by_cases e:i=m;subst e;rw[ht]at U;cases U;exact hh i hi (by omega) U Y
  |false=>
   cases O:gR _ told m with
   |none=>
    rw[CK _ _ _ ht O]at h;obtain rfl:=by simpa using h
    refine⟨by omega,λi hi aa U Y=>?_⟩;have:=wG _ _ _ O i (by omega);rw[U]at this;cases this
   |some j=>
    obtain⟨hj,hh⟩:=ih (by omega) j O;have ab:=(AN _ _ _ _ O).1
    cases W:vi _ m j with
    |true=>
     rw[Ay _ _ _ _ ht O W]at h;obtain rfl:=by simpa using h
     refine⟨by omega,λi hi aa U Y=>?_⟩
     have h1:mI sc K[m] K[j]=true:=by
      rw[AP m j (by omega) hj]at W;unfold mI;rw[W];rfl
     by_cases e:i=j;subst e;exact h1;exact sI sc (hp _ (aR _)) (hp _ (aR _)) (hp _ (aR _)) h1 (hh i hi (by omega) U e)
    |false=>
     rw[D1 _ _ _ _ ht O W]at h;obtain rfl:=by simpa using h
     refine⟨hj,λi hi aa U Y=>?_⟩;by_cases e:i=m;subst e;rw[AP i j hi hj]at W;unfold mI;rw[W,Ic hK ab hi];simp;exact hh i hi (by omega) U Y
theorem Dw(hK:mw K)(hp:∀x∈K,0<(sc x).2):∀(k:Nat)(told:List Bool)(S:List Wd),told.length=K.length->S.Nodup->(S.Pairwise λx y=>mI sc x y=true)->
  (∀x,x∈S↔∃i,∃hi:i<K.length,told.getD i false=false/\K[i]=x)->(zB (K.map sc) told k).map (λi=>K.getD i [])=S.take k:=by
 intro k;induction k with
 |zero=>simp[zB]|succ k ih=>
  intro told S hl ag hs hm
  cases hb:gR (K.map sc) told (K.map sc).length with
  |none=>
   have fy:=wG _ _ _ hb
   have:S=[]:=by
    cases S with
    |nil=>rfl|cons x S=>
     obtain⟨i,hi,O,_⟩:=(hm x).1 (by simp);have:=fy i (by simpa using hi);rw[O]at this;cases this
   subst this;simp only[zB,hb,bn,List.take_nil]
  |some b=>
   obtain⟨ac,U⟩:=I0 hK hp told _ (by simp) b hb;have ah:=(AN _ _ _ _ hb).2;have ad:=(hm _).2 ⟨b,ac,ah,rfl⟩
   cases S with
   |nil=>simp at ad|cons x S=>
    obtain⟨ai,aj⟩:=aD.1 hs;obtain⟨ak,al⟩:=bf.1 ag;obtain⟨i0,ae,af,W⟩:=(hm x).1 (by simp)
    have ab:K[b]=x:=by
     rcases aA.1 ad with h|h
     exact h;by_cases e:i0=b;subst e;exact W;have O:=U i0 ae (by simpa using ae) af e;have Y:=ai _ h;rw[W]at O;rw[KQ sc Y]at O;cases O
    simp only[zB,hb,aG,b5];rw[ih _ S (by simpa using hl) al aj ?_];rw[<-ab,a7,a9 ac];rfl;intro y
    have aa:∀i,(told.set b true).getD i false=if b=i then true else told.getD i false:=by
     intro i;by_cases e:b=i;subst e;simp[show b<told.length by omega];simp[e]
    constructor;intro hy;obtain⟨i,hi,O,Y⟩:=(hm y).1 (List.mem_cons_of_mem _ hy);refine⟨i,hi,?_,Y⟩;rw[aa];by_cases e:b=i;subst e;rw[ab]at Y;subst Y;exact absurd hy ak;rw[if_neg e];exact O;rintro⟨i,hi,O,Y⟩;rw[aa]at O;by_cases e:b=i;rw[if_pos e]at O;cases O;rw[if_neg e]at O;have am:=(hm y).2 ⟨i,hi,O,Y⟩;rcases aA.1 am with h|h
    have an:i≠b:=λx=>e x.symm;have:=U i hi (by simpa using hi) O an;rw[Y,h,ab,vQ]at this;cases this;exact h
theorem zU(O:List (List Wd))(l:List Wd)(most:Nat)(S:List Wd)(W:∀x∈eJ O,0<(ri O l x).2)(U:S.Perm (eJ O))(Y:S.Pairwise λx y=>mI (ri O l) x y=true) :
  iJ O l most=S.take (min most (eJ O).length):=by
 refine Dw (jS O) W _ _ S (by simp) (U.nodup_iff.2 (jS O).nodup) Y ?_;intro x;rw[U.mem_iff];constructor;intro h;obtain⟨i,hi,e⟩:=bU h;exact⟨i,hi,by simp[a7,hi],e⟩;rintro⟨i,hi,_,e⟩;subst e;exact aR _
def jd(t:List Wd)(e:Nat):List (List Wd):=(aJ (min e 3+1)).map λj=>(t.take e).drop (e-min e 3+j)
def jm(t:List Wd):Nat->List (List Wd)
 |0=>[]
 |e+1=>jm t e++jd t (e+1)
def eY(O:List (List Wd))(ws:List Wd):Nat:=if ws=[]then oy O else gY O ws
def RE(t ws:List Wd):Nat:=if ws=[]then t.length else rM t ws
theorem Mv(O:List (List Wd))(t ws:List Wd):eY (O++[t]) ws=eY O ws+RE t ws:=by
 unfold eY RE;split;simp[oy];simp[gY]
theorem Pc(ws:List Wd):eY [] ws=0:=by unfold eY;split<;>simp[oy,gY]
theorem wY(n:Nat)(f:Nat->List Wd)(ws:List Wd)(k:Nat)(W:k<n)(h:∀j,j<n->f j=ws->j=k):((aJ n).map f).count ws=if f k=ws then 1 else 0:=by
 have key:∀m,m<=n->((aJ m).map f).count ws=if k<m/\f k=ws then 1 else 0:=by
  intro m;induction m with
  |zero=>simp|succ m Y=>
   intro hm;rw[bu,aX,bI,Y (by omega)];simp only[aG,bn,List.count_singleton];by_cases e:m=k;subst e;simp;have O:f m≠ws:=λhh=>e (h m (by omega) hh);simp only[beq_iff_eq,O,if_false];by_cases U:k<m;simp[U,show k<m+1 by omega];simp[U,show ¬k<m+1 by omega]
 rw[key n (cg _)];simp[W]
theorem Hm(l:List (List Wd))(ws:List Wd)(h:∀x∈l,x≠ws):l.count ws=0:=by
 rw[List.count_eq_zero];intro hm;exact h ws hm rfl
theorem s9(t ws:List Wd)(e:Nat)(he:e<=t.length)(hw:ws.length<=3):(jd t e).count ws=if ws.length<=e/\(t.take e).drop (e-ws.length)=ws then 1 else 0:=by
 have O:∀j,((t.take e).drop (e-min e 3+j)).length=e-(e-min e 3+j):=by simp;omega
 by_cases U:ws.length<=e;unfold jd;rw[wY _ _ ws (min e 3-ws.length) (by omega)];rw[show e-min e 3+(min e 3-ws.length)=e-ws.length by omega];simp[U];intro j Y W;have:=O j;rw[W]at this;omega;rw[if_neg (by simp[U])];refine Hm _ _ (λx hx=>?_);obtain⟨j,Y,rfl⟩:=aF.1 hx;intro W;have:=O j;rw[W]at this;omega
theorem Jt(t ws:List Wd)(hw:ws.length<=3)(h1:ws≠[]):∀n,n<=t.length->(jm t n).count ws=iH t ws (n+1-ws.length):=by
 have W:1<=ws.length:=by cases ws with|nil=>exact absurd rfl h1|cons a b=>simp
 intro n;induction n with
 |zero=>rw[show 0+1-ws.length=0 by omega];simp[jm,iH]|succ n ih=>
  intro hn;simp only[jm];rw[bI,ih (by omega),s9 t ws _ hn hw];by_cases O:ws.length<=n+1;rw[show n+1+1-ws.length=(n+1-ws.length)+1 by omega]
  have Y:oY t ws (n+1-ws.length)=decide ((t.take (n+1)).drop (n+1-ws.length)=ws):=by
   unfold oY zr;rw[bk,List.drop_take,show n+1-(n+1-ws.length)=ws.length by omega]
  by_cases U:(t.take (n+1)).drop (n+1-ws.length)=ws;rw[if_pos ⟨O,U⟩,AJ _ _ _ (by rw[Y];exact decide_eq_true U)];rw[if_neg (λx=>U x.2),Ck _ _ _ (by rw[Y];exact decide_eq_false U)];omega;rw[if_neg (λx=>O x.1),show n+1+1-ws.length=0 by omega,show n+1-ws.length=0 by omega,Nat.add_zero]
theorem yp(t:List Wd):∀n,n<=t.length->(jm t n).count []=n:=by
 intro n;induction n with
 |zero=>intro _;rfl|succ n O=>
  intro U;simp only[jm];rw[bI,O (by omega),s9 t [] _ U (by simp),if_pos ⟨by simp,by simp⟩]
theorem PZ(t ws:List Wd)(O:ws.length<=3):(jm t t.length).count ws=RE t ws:=by
 unfold RE;split;rename_i h;rw[h];exact yp t _ (cg _);rename_i h;exact Jt t ws O h _ (cg _)
theorem rK(O:List (List Wd))(ws:List Wd):eY O ws<=gu O:=by
 unfold eY;split;exact Li O;exact Lz O ws
theorem nW(t:List Wd)(e:Nat):(jd t e).length=min e 3+1:=by simp[jd]
theorem FW(t:List Wd)(e j:Nat)(h:j<(jd t e).length):(jd t e)[j]=(t.take e).drop (e-min e 3+j):=by simp[jd]
theorem yX(t:List Wd):∀n,(jm t n).length<=4*n:=by
 intro n;induction n with
 |zero=>simp[jm]|succ n O=>simp only[jm,aB,nW];omega
variable {a p:Fr} {t:List Wd}
def qw(O:List (List Wd))(x:Wd):List Wd->Fr
 |[]=>(eY O [x]*4,eY O [])
 |[v]=>if eY O [v,x]=0 then(eY O [x]*4,eY O [])else(eY O [v,x]*10,eY O [v])|u::v::_=>if eY O [u,v,x]=0 then(if eY O [v,x]=0 then(eY O [x]*4,eY O [])else(eY O [v,x]*10,eY O [v]))else(eY O [u,v,x]*25,eY O [u,v])
def mE(l:List Wd):List Wd:=l.drop (l.length-2)
theorem LH(l:List Wd):(mE l).length<=2:=by simp[mE];omega
theorem OM(l:List Wd):(l=[]/\mE l=[])\/(l.length=1/\mE l=[l.getD (l.length-1) []])\/(1<l.length/\mE l=[l.getD (l.length-2) [],l.getD (l.length-1) []]):=by
 unfold mE;match l with
 |[]=>exact Or.inl ⟨rfl,rfl⟩|[a]=>exact Or.inr (Or.inl ⟨rfl,rfl⟩)|a::b::r=>
  refine Or.inr (Or.inr ⟨by simp,?_⟩);have O:(a::b::r).length=r.length+2:=rfl;rw[O,show r.length+2-2=r.length by omega];have U:(a::b::r).drop _=(a::b::r)[r.length]'(by omega)::(a::b::r).drop _:=aV _;have W:(a::b::r).drop _=(a::b::r)[r.length+1]'(by simp)::(a::b::r).drop _:=aV _;have Y:(a::b::r).drop (r.length+2)=[]:=by simp
  rw[U,W,Y];simp only[a7];rw[a9 _,a9 _];rfl
def GH(a p:Fr):Prop:=∃c d:Nat,(a=(c,d)/\p=(c*25,d))\/(a=(4*c,10*d)/\p=(c*10,d))\/(a=(16*c,100*d)/\p=(c*4,d))
theorem GH.three(c d:Nat):GH (c,d) (c*25,d):=⟨c,d,Or.inl ⟨rfl,rfl⟩⟩
theorem GH.two(c d:Nat):GH (4*c,10*d) (c*10,d):=⟨c,d,Or.inr (Or.inl ⟨rfl,rfl⟩)⟩
theorem GH.one(c d:Nat):GH (16*c,100*d) (c*4,d):=⟨c,d,Or.inr (Or.inr ⟨rfl,rfl⟩)⟩
theorem pa(O:List (List Wd))(l:List Wd)(x:Wd):GH (ri O l x) (qw O x (mE l)):=by
 have Y:∀u v,eY O [u,v,x]=gY O [u,v,x]:=λu v=>by simp[eY]
 have n2:∀u v,eY O [u,v]=gY O [u,v]:=λu v=>by simp[eY]
 have n1:∀u,eY O [u]=gY O [u]:=λu=>by simp[eY]
 have n0:eY O []=oy O:=by simp[eY]
 unfold ri;rcases OM l with⟨rfl,e⟩|⟨h1,e⟩|⟨h2,e⟩
 exact GH.one ..;rw[e,if_neg (by omega)];simp only[qw,n1,n2,n0];unfold U0;by_cases U:gY O [l.getD (l.length-1) [],x]=0;rw[if_neg (by omega),if_pos U];exact GH.one ..;rw[if_pos (by omega),if_neg U];exact GH.two ..;rw[e];simp only[qw,n1,n2,Y,n0];unfold U8 U0;by_cases U:gY O [l.getD (l.length-2) [],l.getD (l.length-1) [],x]=0;rw[if_neg (by omega),if_pos U];by_cases W:gY O [l.getD (l.length-1) [],x]=0;rw[if_neg (by omega),if_pos W];exact GH.one ..;rw[if_pos (by omega),if_neg W];exact GH.two ..;rw[if_pos (by omega),if_neg U];exact GH.three ..
theorem mc(c g d:Nat):c*g*d=g*(c*d):=by rw[Nat.mul_comm c g,cp]
theorem vP(a b c d:Nat):a*c*(b*d)=a*b*(c*d):=Nat.mul_mul_mul_comm a c b d
theorem Oo{b q:Fr}(W:GH a p)(U:GH b q):xa p q=xa a b:=by
 unfold xa;rw[decide_eq_decide];obtain⟨c,d,⟨rfl,rfl⟩|⟨rfl,rfl⟩|⟨rfl,rfl⟩⟩:=W;obtain⟨O,d',⟨rfl,rfl⟩|⟨rfl,rfl⟩|⟨rfl,rfl⟩⟩:=U;simp only[mc];omega;simp only;rw[mc O 10,mc c 25,cp 4,ck c 10];omega;simp only;rw[mc O 4,mc c 25,cp 16,ck c _];omega;obtain⟨O,d',⟨rfl,rfl⟩|⟨rfl,rfl⟩|⟨rfl,rfl⟩⟩:=U;simp only;rw[mc O 25,mc c 10,cp 4,ck O 10];omega;simp only;rw[mc O 10,mc c 10,vP 4 10,vP 4 10];omega;simp only;rw[mc O 4,mc c 10,vP 16 10,vP 4 _];omega;obtain⟨O,d',⟨rfl,rfl⟩|⟨rfl,rfl⟩|⟨rfl,rfl⟩⟩:=U;simp only;rw[mc O 25,mc c 4,cp 16,ck O _];omega;simp only;rw[mc O 10,mc c 4,vP 4 _,vP 16 10];omega;simp only;rw[mc O 4,mc c 4,vP 16 _,vP 16 100];omega
theorem Rx(h:GH a p):0<p.2↔0<a.2:=by
 obtain⟨c,d,⟨rfl,rfl⟩|⟨rfl,rfl⟩|⟨rfl,rfl⟩⟩:=h<;>simp
theorem Ns(t ws:List Wd)(x:Wd)(k:Nat)(h:oY t (ws++[x]) k=true):oY t ws k=true:=by
 unfold oY zr at *;simp only[decide_eq_true_eq,bk]at *;have:=congrArg (List.take ws.length) h;rw[ce]at this;simpa using this
theorem wq(h:0<rM t ws):∃k,k+ws.length<=t.length/\oY t ws k=true:=by
 obtain⟨k,O⟩:=List.exists_mem_of_length_pos h;obtain⟨U,W⟩:=a8.1 O;have:=bl.1 U;exact⟨k,by omega,W⟩
theorem ww{k:Nat}(O:k+ws.length<=t.length)(h:oY t ws k=true):0<rM t ws:=by
 exact bR (a8.2 ⟨bl.2 (by omega),h⟩)
theorem sP{α:Type}(f:α->Nat):∀(l:List α),0<(l.map f).sum↔∃x∈l,0<f x:=by
 intro l;induction l with
 |nil=>simp|cons a l O=>
  simp only[aG,ba,aA,exists_eq_or_imp];constructor;intro h;by_cases U:0<f a;exact Or.inl U;exact Or.inr (O.1 (by omega));rintro(h|h);omega;have:=O.2 h;omega
theorem yS(O:List (List Wd))(ws:List Wd)(x:Wd)(h:0<gY O (ws++[x])):0<gY O ws:=by
 unfold gY at *;rw[sP]at *;obtain⟨t,U,W⟩:=h;obtain⟨k,Y,h2⟩:=wq W;simp at Y;exact⟨t,U,ww (by omega) (Ns _ _ _ _ h2)⟩
theorem Mm(U:List (List Wd))(x:Wd):0<gY U [x]↔∃t∈U,x∈t:=by
 unfold gY;rw[sP];constructor;rintro⟨t,O,W⟩;obtain⟨k,h1,h2⟩:=wq W;refine⟨t,O,?_⟩;unfold oY zr at h2;simp only[aC,aY,decide_eq_true_eq]at h2;have:x∈(t.drop k).take (0+1):=by rw[h2];simp
 exact bz (bx this);rintro⟨t,O,Y⟩;obtain⟨k,hk,e⟩:=bU Y;refine⟨t,O,ww (k:=k) (by simp;omega) ?_⟩;unfold oY zr;simp only[aC,aY,decide_eq_true_eq];rw[aV hk,e];rfl
theorem BA(O:List (List Wd))(l:List Wd)(x:Wd)(W:x∈eJ O):0<(ri O l x).2:=by
 unfold ri;split;rename_i h;exact yS O _ x h.2;split;rename_i h;have:=yS O [_] x h.2;omega;obtain⟨t,Y,U⟩:=(k7 O x).1 W
 have:0<oy O:=by
  unfold oy;rw[sP];exact⟨t,Y,bR U⟩
 omega
theorem R4(O:List (List Wd))(l:List Wd)(x:Wd)(U:x∈eJ O):0<(qw O x (mE l)).2:=(Rx (pa O l x)).2 (BA O l x U)
theorem Lx(O:List (List Wd))(x:Wd):eY O [x]=0↔x ∉ eJ O:=by
 have h:=Mm O x;rw[k7];have e:eY O [x]=gY O [x]:=by simp[eY]
 constructor;intro U W;have:=h.2 W;omega;intro W;rcases cn _ with U|U
 exact U;exact absurd (h.1 U) W
theorem SC(O:List (List Wd))(x:Wd)(l:List Wd):(qw O x l).1<=25*gu O/\(qw O x l).2<=gu O:=by
 have h:=rK O;match l with
 |[]=>have:=h [x];have:=h [];simp only[qw];omega|[v]=>
  have:=h [x];have:=h [];have:=h [v,x];have:=h [v];simp only[qw];split<;>simp only<;>omega
 |u::v::_=>
  have:=h [x];have:=h [];have:=h [v,x];have:=h [v];have:=h [u,v,x];have:=h [u,v];simp only[qw];split;split<;>simp only<;>omega;omega
open Go.Sort Go.Shelf
def Am(O:List (List Wd))(l:List Wd)(x:Wd):Fr:=if x∈eJ O then qw O x (mE l)else(0,1)
theorem Ig(O:List (List Wd))(l:List Wd)(x:Wd)(h:x∈eJ O):Am O l x=qw O x (mE l):=by unfold Am;rw[if_pos h]
theorem rz(O:List (List Wd))(l:List Wd)(x:Wd):0<(Am O l x).2:=by
 unfold Am;split;rename_i h;exact R4 O l x h;exact Nat.one_pos
theorem Nx(O:List (List Wd))(l:List Wd)(x:Wd):(Am O l x).1<=25*gu O/\(Am O l x).2<=gu O+1:=by
 unfold Am;split;have:=SC O x (mE l);omega;omega
def zC(a b:Nat):Int:=if a<b then -1 else if b<a then 1 else 0
def TB(sc:Wd->Fr)(x y:Wd):Int:=if zC ((sc y).1*(sc x).2) ((sc x).1*(sc y).2)≠0 then zC ((sc y).1*(sc x).2) ((sc x).1*(sc y).2)else e5 x y
theorem QO:∀x y:Wd,(e5 x y<0)↔cW x y=true:=by
 intro x;induction x with
 |nil=>intro y;cases y<;>simp[e5,cW]
 |cons a x Y=>
  intro y
  cases y with
  |nil=>simp[e5,cW]|cons b y=>
   unfold e5 cW;by_cases O:a<b;simp[O];by_cases U:b<a
   have W:a≠b:=by
    intro e;subst e;exact O U
   simp[O,U,W]
   have he:a=b:=by
    apply da.1;rw[cZ]at O U;omega
   subst he;simp[O,Y]
theorem Dc(sc:Wd->Fr)(x y:Wd):ltOf (TB sc) x y=mI sc x y:=by
 unfold ltOf TB mI xa zC;by_cases O:(sc y).1*(sc x).2<(sc x).1*(sc y).2;simp[O];by_cases U:(sc x).1*(sc y).2<(sc y).1*(sc x).2;simp[O,U];simp only[O,U,if_false,ne_eq,not_true_eq_false,decide_false,cE,Bool.not_false,Bool.true_and];rw[c5,decide_eq_true_eq];exact QO x y
theorem QM(O:List (List Wd))(l:List Wd):SWO (ltOf (TB (Am O l))) where
 irrefl x:=by rw[Dc];exact vQ _ x
 trans x y z h1 h2:=by rw[Dc]at *;exact sI _ (rz O l x) (rz O l y) (rz O l z) h1 h2
 ntrans x y z h1 h2:=by
  rw[Dc]at *
  cases U:mI (Am O l) x z with
  |false=>rfl|true=>
   rcases zJ (Am O l) x y with h|h|h
   rw[h1]at h;cases h;subst h;rw[h2]at U;cases U;have:=sI _ (rz O l y) (rz O l x) (rz O l z) h U;rw[h2]at this;cases this
theorem On(O:List (List Wd))(l:List Wd)(x y:Wd)(U:x∈eJ O)(W:y∈eJ O):mI (Am O l) x y=mI (ri O l) x y:=by
 unfold mI;rw[Ig O l x U,Ig O l y W,Oo (pa O l x) (pa O l y),Oo (pa O l y) (pa O l x)]
theorem zM(O:List (List Wd))(l kn:List Wd)(most:Nat)(d':Array Wd)(hk:kn.Perm (eJ O))(hp:PermIn 0 kn.toArray.size kn.toArray d')(hs:SortedIn (ltOf (TB (Am O l))) 0 kn.toArray.size d') :
  iJ O l most=d'.toList.take (min most kn.length):=by
 obtain⟨p1,_,p3⟩:=hp
 have eF:=by
  have e1:d'.extract 0 kn.toArray.size=d':=by
   rw[<-p1];simp
  have e2:kn.toArray.extract 0 kn.toArray.size=kn.toArray:=by simp
  rw[e1,e2]at p3;exact p3.trans hk
 rw[zU O l most _ (λx hx=>BA O l x hx) eF ?_,hk.length_eq];rw[bd];intro i j hi hj W;have aa:d'.toList.length=kn.toArray.size:=by simpa using p1
 have h:=hs i j (ch _) W (by omega);rw[Dc]at h
 have gi:d'[i]! = d'.toList[i]:=by
  rw[getElem!_pos d' i _];rfl
 have gj:d'[j]! = d'.toList[j]:=by
  rw[getElem!_pos d' j _];rfl
 rw[gi,gj]at h;have mi:=eF.mem_iff.1 (aR hi);have mj:=eF.mem_iff.1 (aR hj);rw[On O l _ _ mj mi]at h;have Y:=eF.nodup_iff.2 (jS O).nodup;rcases zJ .. with U|U|U
 exact U;exfalso;have:=bd.1 Y i j hi hj W;exact this U;rw[h]at U;cases U
end
section
open Go.RowKit
variable {l m:List dq} {S T:List Wd} {α:Type} {q:Wd}
def dE(e:dq):Wd:=dO e.text
def nF(s p:Wd):Bool:=decide (p <+: s)
theorem nj(s p:Wd):nF s p=true↔p <+: s:=by simp[nF]
theorem xm(s p:Wd):nF s p=(decide (p.length<=s.length)&&(s.take p.length==p)):=by
 rw[c5,nj,c6,decide_eq_true_iff,beq_iff_eq,List.prefix_iff_eq_take];constructor;intro h;refine⟨?_,h.symm⟩;have:=congrArg bT h;simp at this;omega;intro h;exact h.2.symm
def sY:Wd->Wd->Wd
 |a::u,b::bs=>if a=b then a::sY u bs else []|_,_=>[]
theorem rI:∀a b:Wd,sY a b <+: a
 |[],b=>by cases b<;>exact bJ _
 |a::u,[]=>aW|a::u,b::bs=>by
  unfold sY;split;exact aO.2 ⟨rfl,rI u bs⟩;exact aW
theorem pY:∀a b:Wd,sY a b <+: b
 |[],b=>by cases b<;>exact aW
 |a::u,[]=>bJ _|a::u,b::bs=>by
  unfold sY;split;rename_i h;subst h;exact aO.2 ⟨rfl,pY u bs⟩;exact aW
theorem rP:∀(a b r:Wd),r <+: a->r <+: b->r <+: sY a b
 |[],b,r,h,_=>by have:=cb.1 h;subst this;exact aW
 |a::u,[],r,_,h=>by have:=cb.1 h;subst this;exact aW
 |a::u,b::bs,[],_,_=>aW|a::u,b::bs,c::r,U,W=>by
  have g1:=aO.1 U;have O:=aO.1 W;unfold sY;rw[if_pos (g1.1.symm.trans O.1)];exact aO.2 ⟨g1.1,rP u bs r g1.2 O.2⟩
def Og:List Wd->Wd
 |[]=>[]
 |a::u=>u.foldl sY a
def s8(q:Wd)(S:List Wd):Prop:=(∀s∈S,q <+: s)/\∀r:Wd,(∀s∈S,r <+: s)->r <+: q
theorem JZ:∀(u:List Wd)(a:Wd),s8 (u.foldl sY a) (a::u)
 |[],a=>⟨λs O=>by simp at O;subst O;exact bJ _,λr h=>h a (by simp)⟩
 |b::u,a=>by
  have U:=JZ u (sY a b)
  refine⟨λs O=>?_,λr h=>?_⟩;have W:=U.1 (sY a b) (by simp);simp only[aA]at O;rcases O with rfl|rfl|O
  exact W.trans (rI ..);exact W.trans (pY ..);exact U.1 s (by simp[O]);refine U.2 r (λs O=>?_);simp only[aA]at O;rcases O with rfl|O
  exact rP _ _ _ (h a (by simp)) (h b (by simp));exact h s (by simp[O])
theorem xA(h:S≠[]):s8 (Og S) S:=by
 cases S with
 |nil=>exact absurd rfl h|cons a u=>exact JZ u a
theorem s8.one{p:Wd}(O:s8 p S)(U:s8 q S):p=q:=
 (U.2 p O.1).eq_of_length (cy (U.2 p O.1).length_le (O.2 q U.1).length_le)
theorem QF(h:S≠[])(O:s8 q S):Og S=q:=(xA h).one O
theorem s8.congr(h:∀s,s∈S↔s∈T)(U:s8 q S):s8 q T:=
 ⟨λs O=>U.1 s ((h s).2 O),λr W=>U.2 r (λs O=>W s ((h s).1 O))⟩
theorem H7(h:∀s,s∈S↔s∈T):Og S=Og T:=by
 by_cases e:S=[];subst e
 have:T=[]:=by
  cases T with
  |nil=>rfl|cons a T=>exact absurd ((h a).2 (by simp)) (by simp)
 rw[this]
 exact((xA e).congr h).one (xA (λO=>by
  subst O
  cases S with
  |nil=>exact e rfl|cons a S=>exact absurd ((h a).1 (by simp)) (by simp)))
def D5(a b:dq):Bool:=cW a.name b.name
def tE(out:List dq)(x:dq):List dq:=out.takeWhile (λy=>D5 y x)++x::out.dropWhile (λy=>D5 y x)
def fo(l:List dq):List dq:=l.foldl tE []
def lj(l:List dq):Prop:=l.Pairwise λa b=>D5 b a=false
def j0(l:List dq):Prop:=l.Pairwise λa b=>D5 a b=true
theorem Gz(q:α->Bool)(A B:List α)(O:∀a∈A,q a=true)(U:∀b∈B,q b=false):(A++B).takeWhile q=A/\(A++B).dropWhile q=B:=by
 induction A with
 |nil=>
  cases B with
  |nil=>simp|cons b B=>have:=U b (by simp);simp[this]
 |cons a A W=>
  have Y:=O a (by simp);have:=W (λx hx=>O x (by simp[hx]));simp[Y,this.1,this.2]
theorem Pt{p:α->Bool}:∀(l:List α)(y:α),y∈l.takeWhile p->p y=true:=by
 intro l;induction l with
 |nil=>intro y h;simp at h|cons a l O=>
  intro y h;rw[bi]at h;split at h;rename_i U;rcases aA.1 h with rfl|h
  exact U;exact O y h;simp at h
theorem Kd{p:α->Bool}:∀(l:List α)(y:α)(r:List α),l.dropWhile p=y::r->p y=false:=by
 intro l;induction l with
 |nil=>intro y r h;simp at h|cons a l O=>
  intro y r h;rw[bG]at h;split at h;exact O y r h;rename_i U;cases h;simpa using U
theorem R8{x y z:dq}(U:D5 y x=false)(W:D5 z y=false):D5 z x=false:=by
 unfold D5 at *
 cases h:cW .. with
 |false=>rfl|true=>
  rcases iC .. with O|O|O
  rw[me _ _ _ O h]at U;cases U;rw[O,h]at U;cases U;rw[O]at W;cases W
theorem Bg(out:List dq)(x:dq)(h:lj out):∃A B,out=A++B/\tE out x=A++x::B/\(∀a∈A,D5 a x=true)/\∀b∈B,D5 b x=false:=by
 refine⟨out.takeWhile _,out.dropWhile _,(bh).symm,rfl,λa U=>Pt out a U,λb hb=>?_⟩;have W:lj (out.dropWhile (λy=>D5 y x)):=fa (bD _) h;have Y:=Kd (p:=λy=>D5 y x) out;generalize out.dropWhile _=B at *
 cases B with
 |nil=>simp at hb|cons c B=>
  have O:=Y c B rfl;simp only[aA]at hb;rcases hb with rfl|hb
  exact O;exact R8 O (List.rel_of_pairwise_cons W hb)
theorem yD(out:List dq)(x:dq)(h:lj out):lj (tE out x):=by
 obtain⟨A,B,rfl,U,W,Y⟩:=Bg out x h;rw[U];unfold lj at *;rw[bq]at h⊢;refine⟨h.1,aD.2 ⟨λb hb=>Y b hb,h.2.1⟩,λa O b hb=>?_⟩;simp only[aA]at hb;rcases hb with rfl|hb
 exact pF (W a O);exact h.2.2 a O b hb
theorem C7(l:List dq):∀out,lj out->lj (l.foldl tE out):=by
 induction l with
 |nil=>intro out h;exact h|cons x l O=>intro out h;exact O _ (yD out x h)
theorem CY(l:List dq):lj (fo l):=C7 l [] List.Pairwise.nil
theorem Oc(out:List dq)(x:dq):(tE out x).Perm (x::out):=by
 refine bX.trans (List.Perm.cons x ?_);rw[bh]
theorem Ie(l:List dq):∀out,(l.foldl tE out).Perm (l++out):=by
 induction l with
 |nil=>intro out;exact fr _|cons x l O=>
  intro out;refine(O _).trans ?_;refine(fk l (Oc out x)).trans ?_;exact bX
theorem fW(l:List dq):(fo l).Perm l:=by have:=Ie l [];rw[bv]at this;exact this
theorem mS{e:dq}:e∈fo l↔e∈l:=(fW l).mem_iff
theorem M3(l:List dq):(fo l).length=l.length:=(fW l).length_eq
theorem Jd(p:dq->Bool)(out:List dq)(x:dq)(h:lj out):(tE out x).filter p=if p x=true then tE (out.filter p) x else out.filter p:=by
 obtain⟨A,B,rfl,W,Y,h4⟩:=Bg out x h;rw[W];have hA:∀a∈A.filter p,(λy=>D5 y x) a=true:=λa O=>Y a (a8.1 O).1;have hB:∀a∈B.filter p,(λy=>D5 y x) a=false:=λa O=>h4 a (a8.1 O).1;have U:=Gz _ _ _ hA hB;rw[aK,aK,br];split;unfold tE;rw[U.1,U.2];rfl
theorem D9(p:dq->Bool)(l:List dq):∀out,lj out->(l.foldl tE out).filter p=(l.filter p).foldl tE (out.filter p):=by
 induction l with
 |nil=>intro out _;rfl|cons x l O=>
  intro out h;rw[aZ,O _ (yD out x h),Jd p out x h,br];split;rfl;rfl
theorem pL(p:dq->Bool)(l:List dq):(fo l).filter p=fo (l.filter p):=D9 p l [] List.Pairwise.nil
theorem Rk(out:List dq)(x:dq)(h:∀a∈out,D5 a x=true):tE out x=out++[x]:=by
 have:=Gz _ out [] h (by simp);rw[bv]at this;unfold tE;rw[this.1,this.2]
theorem CL(l:List dq):∀out,j0 (out++l)->l.foldl tE out=out++l:=by
 induction l with
 |nil=>simp|cons x l O=>
  intro out h;have U:=(bq.1 h).2.2;rw[aZ,Rk out x (λa W=>U a W x (by simp)),O];simp;simpa using h
theorem CQ(l:List dq)(h:j0 l):fo l=l:=by simpa[fo]using CL l [] (by simpa using h)
theorem MI(h:lj l)(U:(l.map dq.name).Nodup):j0 l:=by
 rw[cf,bH]at U;refine(h.and U).imp ?_;rintro a b ⟨W,Y⟩;unfold D5 at *;rcases iC .. with O|O|O
 exact O;exact absurd O Y;rw[O]at W;cases W
theorem mN(l:List dq)(O:(l.map dq.name).Nodup):j0 (fo l):=
 MI (CY l) (((fW l).map _).nodup_iff.2 O)
theorem j0.nodup(h:j0 l):(l.map dq.name).Nodup:=by
 rw[cf,bH];exact h.imp (λh=>BR h)
theorem Jg(O:j0 l)(hm:j0 m)(h:l.Perm m):l=m:=by
 refine fm (le:=λa b=>D5 a b=true) ?_ O hm h;intro a b _ _ U h2;have:=pF U;unfold D5 at h2;rw[h2]at this;cases this
theorem Ek(O:(l.map dq.name).Nodup)(h:l.Perm m):fo l=fo m:=
 Jg (mN l O) (mN m ((h.map _).nodup_iff.1 O)) (((fW l).trans h).trans (fW m).symm)
variable {p s:Wd}
def u8(n:Int):UInt8:=cY (n % 256).toNat
def dJ(s:Wd):Wd:=u8 s.length::s
def ik(n:Int):Wd:=[u8 (n.tdiv 65536),u8 ((n.tdiv 256).tmod 256),u8 (n.tmod 256)]
def nE(e:dq):Wd:=dJ e.name++(dJ e.text++(ik e.dp++[u8 e.dA]))
def gP(l:List dq):Int:=l.foldl (λg e=>if g<e.dp then e.dp else g) 0
def T0(l:List dq)(p:Wd):List dq:=l.filter λe=>nF (dE e) p
def lz(l:List dq)(p:Wd):List dq:=l.filter λe=>dE e==p
def jL(G:List dq)(p:Wd)(c:UInt8):List dq:=G.filter λe=>nF (dE e) (p++[c])
def kP:List UInt8:=(aJ 256).map cY
def jT(G:List dq)(p:Wd):List UInt8:=kP.filter λc=>!(jL G p c).isEmpty
def mK(H:List dq):Wd:=Og (H.map dE)
def nz:Nat->Wd->List dq->Wd
 |0,_,_=>[]
 |f+1,p,G=>ik (gP G)++(u8 (lz G p).length::((lz G p).flatMap nE++(u8 (jT G p).length::(jT G p).flatMap λc=>dJ ((mK (jL G p c)).drop p.length)++nz f (mK (jL G p c)) (jL G p c))))
theorem jR(p s:Wd)(c:UInt8):p++[c] <+: s↔p <+: s/\p.length<s.length/\s.getD p.length 0=c:=by
 constructor;rintro⟨t,rfl⟩;simp[a7];rintro⟨⟨t,rfl⟩,O,U⟩
 cases t with
 |nil=>simp at O|cons d t=>
  subst U;exact⟨t,by simp⟩
theorem y6(h:p <+: s)(U:s≠p):p.length<s.length:=by
 rcases cj .. with O|O
 exact O;exact absurd (h.eq_of_length (cy h.length_le O)).symm U
theorem EU(h:p <+: s)(i:Nat)(hi:i<p.length):s.getD i 0=p.getD i 0:=by
 obtain⟨t,rfl⟩:=h;rw[a7,a7,aU hi]
theorem JD{e:dq}:e∈T0 l p↔e∈l/\p <+: dE e:=by simp[T0,nj]
theorem vo(l:List dq)(p:Wd)(c:UInt8):jL l p c=T0 l (p++[c]):=rfl
theorem qg{H:List dq}(h:H≠[]):s8 (mK H) (H.map dE):=xA (by simpa using h)
theorem Pn(h:T0 l p≠[]):p <+: mK (T0 l p):=
 (qg h).2 p (λs O=>by
  obtain⟨e,U,rfl⟩:=aF.1 O
  exact(JD.1 U).2)
theorem tF(i:Nat)(h:i<kP.length):kP[i]=cY i:=by simp[kP]
theorem Cq:kP.length=256:=by simp[kP]
theorem uJ{c:UInt8}(h:c∈jT l p):T0 l (p++[c])≠[]:=by
 have:=(a8.1 h).2;rw[vo]at this;intro e;rw[e]at this;simp at this
theorem pX{O:Type}{f g:α->List O}:∀{l:List α},(∀a∈l,f a=g a)->l.flatMap f=l.flatMap g
 |[],_=>rfl|a::l,h=>by rw[aM,aM,h a (by simp),pX (λx U=>h x (by simp[U]))]
theorem Ed(s:ByteArray)(n:Nat):s.extract 0 n=⟨(s.data.toList.take n).toArray⟩:=by
 apply dk;apply gc.1;simp
theorem Sm(n:Int):((u8 n).toNat:Int)=n % 256:=by
 unfold u8;have:(cY (n % 256).toNat).toNat=(n % 256).toNat % 256:=by simp
 omega
theorem mh(n:Int):fD [u8 n]=[.int .u8 (n % 256)]:=by simp only[fD,aG,bn,Sm]
theorem F6{w:World}{l:List UInt8}(cs:Array Value)(n:Nat)(h:cs.toList=fD l)(U:cs.size=n)(hm:n<=cF) :
  (convert 60 9 (.slice (some ⟨w.heap.size,0,none⟩) n n)).run prog (w.alloc (.cells cs 5))=.ok (.string ⟨l.toArray⟩) (w.alloc (.cells cs 5)):=by
 have O:=World.ownsRow_lit (base:=w.heap.size) (size:=1) (e:=5) w cs n (cg _) hm (by omega);rw[h]at O;exact zK O gt gy gx
theorem ib{B:Nat}{a w:World}(h:Below B a w)(q:Nat):Below B a (w.drewN q):=⟨h.os,h.tape,h.output,h.size,h.block⟩
def gG(a:Wd)(c:UInt8)(row:List Nat)(z:Nat):Nat->List Nat
 |0=>[z]
 |i+1=>gG a c row z i++[min (min (row.getD i 0+(if a.getD i 0=c then 0 else 1)) (row.getD (i+1) 0+1)) ((gG a c row z i).getD i 0+1)]
def iG(a s:Wd):Nat->List Nat
 |0=>aJ (a.length+1)|k+1=>gG a (s.getD k 0) (iG a s k) (k+1) a.length
def oP(a s:Wd)(k:Nat):Nat:=(iG a s k).getD a.length 0
theorem iV(a:Wd)(c:UInt8)(row:List Nat)(z:Nat):∀i,(gG a c row z i).length=i+1:=by
 intro i;induction i with
 |zero=>rfl|succ i O=>rw[gG,aB,O];rfl
theorem ve(a s:Wd)(k:Nat):(iG a s k).length=a.length+1:=by
 cases k with
 |zero=>simp[iG]|succ k=>rw[iG,iV]
theorem tH(a:Wd)(c:UInt8)(row:List Nat)(z m:Nat)(Y:z<=m)(U:∀x∈row,x+1<=m):∀i,i<row.length->∀x∈gG a c row z i,x<=m:=by
 intro i;induction i with
 |zero=>intro _ x O;simp[gG]at O;omega|succ i W=>
  intro hi x O;rcases aH.1 O with h|h
  exact W (by omega) x h;simp only[aA,List.not_mem_nil,or_false]at h;have h1:=U (row.getD _ 0) (by rw[a7,a9 hi];exact aR hi);omega
theorem EK(a s:Wd):∀k,∀x∈iG a s k,x<=a.length+k:=by
 intro k;induction k with
 |zero=>intro x O;simp[iG]at O;omega|succ k U=>
  intro x O;exact tH a _ _ _ _ (by omega) (λy W=>by have:=U y W;omega) _ (by rw[ve];omega) x O
def gD(mode:Nat)(q s:Wd):Bool:=
 if mode=0 then nF s q
 else if mode=1 then(aJ s.length).any λi=>eE s i&&nF (s.drop i) q
 else(aJ (s.length+1)).any λk=>decide (oP q s k<mode)
theorem LR(a:Wd)(c:UInt8)(row:List Nat)(z:Nat):∀n j,j<n->(gG a c row z n).getD (j+1) 0=min (min (row.getD j 0+(if a.getD j 0=c then 0 else 1)) (row.getD (j+1) 0+1)) ((gG a c row z n).getD j 0+1):=by
 intro n;induction n with
 |zero=>intro j h;omega|succ n U=>
  intro j h;have W:=iV a c row z n;rw[gG];simp only[a7];rcases cj j n with O|O
  have:=U j O;simp only[a7]at this;rw[aU (by omega),aU (by omega)];exact this;obtain rfl:j=n:=by omega
  rw[bP (by omega),aU (by omega),W];simp
end
section
def Px(x:UInt8)(f:Wd->Nat)(n:Nat):Wd->Nat
 |[]=>n|y::b=>min (min (f b+(if x=y then 0 else 1)) (f (y::b)+1)) (Px x f n b+1)
def mR:Wd->Wd->Nat
 |[]=>bT|x::a=>Px x (mR a) (a.length+1)
theorem mQ(b:Wd):mR [] b=b.length:=rfl
theorem lm(a:Wd):mR a []=a.length:=by cases a<;>rfl
theorem iw(x y:UInt8)(a b:Wd):mR (x::a) (y::b)=min (min (mR a b+(if x=y then 0 else 1)) (mR a (y::b)+1)) (mR (x::a) b+1):=rfl
theorem OE(x:UInt8)(a:Wd):∀b,mR (x::a) b<=mR a b+1
 |[]=>by rw[lm,lm];simp
 |y::b=>by rw[iw];omega
theorem OO(y:UInt8):∀a b:Wd,mR a (y::b)<=mR a b+1
 |[],b=>by rw[mQ,mQ];simp
 |x::a,b=>by rw[iw];omega
theorem Bv:∀(a b:Wd)(y:UInt8),mR a b<=mR a (y::b)+1
 |[],b,y=>by rw[mQ,mQ,aC];omega
 |x::a,b,y=>by
  have O:=OE x a b
  have U:=Bv a b y;rw[iw];omega
theorem Bq:∀(b a:Wd)(x:UInt8),mR a b<=mR (x::a) b+1
 |[],a,x=>by rw[lm,lm,aC];omega
 |y::b,a,x=>by
  have O:=OO y a b
  have U:=Bq b a x;rw[iw];omega
theorem Oe(x:UInt8)(a b:Wd):mR (x::a) (x::b)=mR a b:=by
 have O:=Bv a b x;have U:=Bq b a x;rw[iw,if_pos rfl];omega
theorem Oq:∀(n:Nat)(a b:Wd)(u v:UInt8),a.length+b.length<=n->mR (a++[u]) (b++[v])=min (min (mR a b+(if u=v then 0 else 1)) (mR a (b++[v])+1)) (mR (a++[u]) b+1):=by
 intro n;induction n with
 |zero=>
  intro a b u v h;obtain rfl:a=[]:=aQ.1 (by omega);obtain rfl:b=[]:=aQ.1 (by omega);simp only[aL,iw,mQ,lm,aC,aY]
 |succ n O=>
  intro a b u v h
  cases a with
  |nil=>
   cases b with
   |nil=>simp only[aL,iw,mQ,lm,aC,aY]|cons y b=>
    have U:=O [] b u v (by simp at h⊢;omega);simp only[aL,aS,iw,mQ,aC,aB,aY]at U⊢;generalize (if u=y then 0 else 1)=d1 at *;generalize (if u=v then 0 else 1)=d2 at *;omega
  |cons x a=>
   cases b with
   |nil=>
    have U:=O a [] u v (by simp at h⊢;omega);simp only[aL,aS,iw,lm,aC,aB,aY]at U⊢;generalize (if x=v then 0 else 1)=d1 at *;generalize (if u=v then 0 else 1)=d2 at *;omega
   |cons y b=>
    have U:=O a b u v (by simp at h⊢;omega);have W:=O a (y::b) u v (by simp at h⊢;omega);have Y:=O (x::a) b u v (by simp at h⊢;omega);simp only[aS]at W Y⊢;rw[iw x y (a++[u]) (b++[v]),iw x y a b,iw x y a (b++[v]),iw x y (a++[u]) b,U,W,Y];simp only[<-Nat.add_min_add_right];ac_rfl
theorem Ph(a s:Wd):∀k,(iG a s k).getD 0 0=k
 |0=>by simp[iG]
 |k+1=>by
  rw[iG]
  have:∀n,(gG a (s.getD k 0) (iG a s k) (k+1) n).getD 0 0=k+1:=by
   intro n;induction n with
   |zero=>rfl|succ n O=>
    have U:=iV a (s.getD k 0) (iG a s k) (k+1) n;rw[gG,a7,aU (by omega),<-a7];exact O
  exact this _
theorem Qm(a s:Wd):∀(k i:Nat),k<=s.length->i<=a.length->(iG a s k).getD i 0=mR (a.take i) (s.take k):=by
 intro k;induction k with
 |zero=>
  intro i _ hi;rw[cd,lm,iG,bA,a7,List.getElem?_range (by omega)];simp;omega
 |succ k U=>
  intro i hk;induction i with
  |zero=>
   intro _;rw[Ph,cd,mQ,bA];omega
  |succ i O=>
   intro hi
   have W:a.take (i+1)=a.take i++[a.getD i 0]:=by
    rw[aE (by omega),a7,a9 (by omega)];rfl
   have Y:s.take (k+1)=s.take k++[s.getD k 0]:=by
    rw[aE (by omega),a7,a9 (by omega)];rfl
   have h1:=U i (by omega) (by omega);have h2:=U (i+1) (by omega) hi;have h3:=O (by omega);have hb:=Oq _ (a.take i) (s.take k) (a.getD i 0) (s.getD k 0) (cg _);rw[<-W,<-Y]at hb;rw[hb,<-h1,<-h2,<-h3];rw[iG,LR _ _ _ _ _ i (by omega)];omega
theorem Nq(a s:Wd)(k:Nat)(O:k<=s.length):oP a s k=mR a (s.take k):=by
 unfold oP;rw[Qm a s k a.length O (cg _),bk]
theorem li(a b:Wd):(⟨a.toArray⟩:ByteArray)++⟨b.toArray⟩=⟨(a++b).toArray⟩:=by
 apply dk;rw[dm];simp
theorem o8(w:World)(o:Obj):(w.alloc o).heap[w.heap.size]?=some o:=by simp[et,-eq]
open Go.RowKit
theorem rq{x y:UInt8}:((x.toNat:Int)==(y.toNat:Int))=decide (x=y):=by
 rw[c5,beq_iff_eq,decide_eq_true_eq];constructor;intro h;exact da.1 (by omega);intro h;rw[h]
variable {n:Nat} {p:Nat->Bool}
theorem yx(s:ByteArray)(n:Nat):(s.extract n s.size).data.toList=s.data.toList.drop n:=by
 simp;rw[bm (by simp)]
theorem any_none(h:∀i,i<n->p i=false):(aJ n).any p=false:=by
 rw[b8];intro x O;rw[h x (bl.1 O)];simp
theorem any_some(i:Nat)(hi:i<n)(h:p i=true):(aJ n).any p=true:=
 bB.2 ⟨i,bl.2 hi,h⟩
def dY(x y:dq):Bool:=if x.dp=y.dp then(if dE x=dE y then cW x.name y.name else cW (dE x) (dE y))else decide (y.dp<x.dp)
def ma(n:Nat):Wd:=if h:n<=9 then [48+cY n]else ma (n / 10)++[48+cY (n % 10)]
termination_by n
decreasing_by omega
theorem pw{n:Nat}(h:n<=9):ma n=[48+cY n]:=by rw[ma,dif_pos h]
theorem mZ{n:Nat}(h:¬n<=9):ma n=ma (n / 10)++[48+cY (n % 10)]:=by rw[ma,dif_neg h]
theorem PF(d:Nat)(h:d<=9):(⟨#[48,49,50,51,52,53,54,55,56,57]⟩:ByteArray).extract d (d+1)=⟨#[48+cY d]⟩:=by
 have O:d=0\/d=1\/d=2\/d=3\/d=4\/d=5\/d=6\/d=7\/d=8\/d=9:=by omega
 rcases O with rfl|rfl|rfl|rfl|rfl|rfl|rfl|rfl|rfl|rfl<;>decide +kernel
theorem EX:∀(k n:Nat),n<10 ^ k->1<=k->(ma n).length<=k:=by
 intro k;induction k with
 |zero=>omega|succ k U=>
  intro n h _;by_cases O:n<=9;rw[pw O];simp;rw[mZ O]
  have W:1<=k:=by
   rcases cn k with e|e
   subst e;omega;exact e
  have:=U (n / 10) (by omega) W;simp;omega
theorem vC(s p:ByteArray)(w:World) :
  cH prog 86 #[.string s,.string p] w λe w'=>e=.returned (.bool (nF s.data.toList p.data.toList))/\w=w':=by
 go_enter func86,ntmps86;by_cases h:p.size<=s.size
 .go_wp2;go_ret;refine⟨dM ?_,rfl⟩;rw[xm,Ed,dc,dc];simp[h]
 go_wp2;go_ret;refine⟨dM ?_,rfl⟩;rw[xm];simp[h]
theorem Kz(s:ByteArray)(h:0<s.size):s.data.toList=s[0]::(s.extract 1 s.size).data.toList:=by
 rw[yx];have e:s.data.toList.length=s.size:=by simp
 have:=List.getElem_cons_drop (show 0<s.data.toList.length by omega);simp only[List.drop_zero]at this;exact this.symm
def ix(a b:Wd)(c:Int):Bool:=decide ((mR a b:Int)<=c)
theorem Lc(x y:UInt8)(a b:Wd)(c:Int)(h:x≠y):ix (x::a) (y::b) c=(ix a b (c-1) || ix a (y::b) (c-1) || ix (x::a) b (c-1)):=by
 unfold ix;rw[iw,if_neg h,c5];simp only[c7,decide_eq_true_eq];omega
theorem FM(a b:ByteArray)(c:Int)(w:World)(h:c<0\/a.size=0\/b.size=0)(U:a.size<=1000)(hb:b.size<=1000) :
  cH prog 87 #[.string a,.string b,.int .i64 c] w λe w'=>e=.returned (.bool (ix a.data.toList b.data.toList c))/\∃m,w'=w.drewN m:=by
 by_cases W:c<0
 .have O:ga (ix a.data.toList b.data.toList c=false):=by show _=_;unfold ix;rw[decide_eq_false_iff_not];omega
  go_enter g0,gv;go_wp2;go_ret;exact⟨dM (by rw[O.out]),0,rfl⟩
 by_cases U:a.size=0
 .obtain rfl:=dr.1 U
  have O:ga (ix [] b.data.toList c=decide (((b.size:Nat):Int)<=c)):=by
   show _=_;unfold ix;rw[mQ,show b.data.toList.length=b.size by simp]
  go_enter g0,gv;go_wp2;go_ret;exact⟨dM O.out.symm,0,rfl⟩
 have hb:b.size=0:=by omega
 obtain rfl:=dr.1 hb
 have O:ga (ix a.data.toList [] c=decide (((a.size:Nat):Int)<=c)):=by
  show _=_;unfold ix;rw[lm,show a.data.toList.length=a.size by simp]
 have Y:(a.toList==[])=false:=by rw[dc,beq_eq_false_iff_ne];intro e;exact U (by rw[<-show a.data.toList.length=a.size by simp,e];rfl)
 go_enter g0,gv;go_wp2;go_ret;exact⟨dM O.out.symm,0,rfl⟩
theorem OG:∀(n:Nat)(a b:ByteArray)(c:Int)(w:World),a.size+b.size<=n->n<=1000->-1<=c->c<=3->
  cH prog 87 #[.string a,.string b,.int .i64 c] w λe w'=>e=.returned (.bool (ix a.data.toList b.data.toList c))/\∃m,w'=w.drewN m:=by
 intro n;induction n with
 |zero=>exact λa b c w hn _ _ _=>FM a b c w (by omega) (by omega) (by omega)|succ n ih=>
  intro a b c w hn hm h0 h1;by_cases h:c<0\/a.size=0\/b.size=0
  .exact FM a b c w h (by omega) (by omega)
  have hc:¬c<0:=by omega
  have aa:0<a.size:=by omega
  have ab:0<b.size:=by omega
  have ea:=Kz a aa;have eb:=Kz b ab;have Y:ga ((a.extract 1 a.size).size=a.size-1/\(b.extract 1 b.size).size=b.size-1):=by show _/\_;simp
  have ad:(0:Int)<(a.size:Int):=by omega
  have ae:(1:Int)<=(a.size:Int):=by omega
  have af:(1:Int)<=(b.size:Int):=by omega
  have ag:1<=a.size:=by omega
  have ah:1<=b.size:=by omega
  have ai:(0:Int)<(b.size:Int):=by omega
  have za:(a.toList==[])=false:=by rw[dc,ea];rfl
  have zb:(b.toList==[])=false:=by rw[dc,eb];rfl
  have U:ga _:=ih;have HE:ga _:=And.intro ea eb;clear ih ea eb h;by_cases W:a[0]=b[0]
  .have ac:((a[0].toNat:Int)==(b[0].toNat:Int))=true:=by rw[W];simp
   have HF:ga (ix a.data.toList b.data.toList c=ix (a.extract 1 a.size).data.toList (b.extract 1 b.size).data.toList c):=by
    show _=_;rw[HE.out.1,HE.out.2,W];unfold ix;rw[Oe]
   have HC:ga (∀y,cH prog 87 #[.string (a.extract 1 a.size),.string (b.extract 1 b.size),.int .i64 c] y λe w'=>e=.returned (.bool (ix (a.extract 1 a.size).data.toList (b.extract 1 b.size).data.toList c))/\∃m,w'=y.drewN m):=λy=>U.out _ _ c y (by have:=Y.out;omega) (by omega) h0 h1;clear U W;go_enter g0,gv;go_wp2_with fail;go_quiet (fail);obtain⟨w1,O⟩:∃w1,w1=w.drewN nq:=⟨_,rfl⟩;rw[<-O];have HW:ga _:=O;clear O;go_wp2_with fail;go_quiet (first|(go_at_call 87;exact cH.quiet_of (HC.out _)));go_wp2;go_ret;exact⟨dM (by rw[HF.out]),_,by rw[HW.out,ev]⟩
  have ac:((a[0].toNat:Int)==(b[0].toNat:Int))=false:=by rw[rq];simpa using W
  have HF:ga (ix a.data.toList b.data.toList c=(ix (a.extract 1 a.size).data.toList (b.extract 1 b.size).data.toList (c-1) || ix (a.extract 1 a.size).data.toList b.data.toList (c-1) || ix a.data.toList (b.extract 1 b.size).data.toList (c-1))):=by
   show _=_;have h1:=HE.out.1;have h2:=HE.out.2;generalize (a.extract 1 a.size).data.toList=a2 at *;generalize (b.extract 1 b.size).data.toList=b2 at *;rw[h1,h2];exact Lc _ _ _ _ _ W
  have HC:ga (∀y,cH prog 87 #[.string (a.extract 1 a.size),.string (b.extract 1 b.size),.int .i64 (c-1)] y λe w'=>e=.returned (.bool (ix (a.extract 1 a.size).data.toList (b.extract 1 b.size).data.toList (c-1)))/\∃m,w'=y.drewN m):=λy=>U.out _ _ _ y (by have:=Y.out;omega) (by omega) (by omega) (by omega);have H2:ga (∀y,cH prog 87 #[.string (a.extract 1 a.size),.string b,.int .i64 (c-1)] y λe w'=>e=.returned (.bool (ix (a.extract 1 a.size).data.toList b.data.toList (c-1)))/\∃m,w'=y.drewN m):=λy=>U.out _ _ _ y (by have:=Y.out;omega) (by omega) (by omega) (by omega);have H3:ga (∀y,cH prog 87 #[.string a,.string (b.extract 1 b.size),.int .i64 (c-1)] y λe w'=>e=.returned (.bool (ix a.data.toList (b.extract 1 b.size).data.toList (c-1)))/\∃m,w'=y.drewN m):=λy=>U.out _ _ _ y (by have:=Y.out;omega) (by omega) (by omega) (by omega);have aj:IntKind.i64.wrap (c-1)=c-1:=by simp only[eC];omega
  clear U W;generalize ix (a.extract 1 a.size).data.toList (b.extract 1 b.size).data.toList (c-1)=r1 at *;generalize ix (a.extract 1 a.size).data.toList b.data.toList (c-1)=r2 at *;generalize ix a.data.toList (b.extract 1 b.size).data.toList (c-1)=r3 at *;go_enter g0,gv;go_wp2_with fail;go_quiet (fail);obtain⟨w1,O⟩:∃w1,w1=w.drewN nq:=⟨_,rfl⟩;rw[<-O];have HW:ga _:=O;clear O;go_wp2_with fail;go_quiet (first|(go_at_call 87;exact cH.quiet_of (HC.out _)));go_wp2_with fail;refine(H2.out _).mono ?_;rintro e w2 ⟨rfl,m1,rfl⟩;go_wp2_with fail;refine(H3.out _).mono ?_;rintro e w3 ⟨rfl,m2,rfl⟩;cases r1<;>cases r2
  all_goals
   go_wp2;go_ret;exact⟨dM (by rw[HF.out];rfl),_,by rw[HW.out];simp only[ev];rfl⟩
theorem FO(N:Nat)(w:World)(hN:N<=16777215) :
  cH prog 62 #[.int .i64 N] w λe w'=>e=.returned (.string ⟨(ma N).toArray⟩)/\w=w':=by
 go_enter func62,ntmps62;go_wp2;go_loopw [0,3] (λnv sv wr=>∃(n:Nat)(O:ByteArray),n<=N/\nv=.int .i64 n/\sv=.string O/\ma N=ma n++O.data.toList/\O.size+n<=16777216/\wr=w) (λn _ _=>(intOf n).toNat)
 case atStart=>exact⟨N,⟨#[]⟩,cg _,rfl,rfl,by simp,by show 0+N<=_;omega,rfl⟩
 case round=>
  obtain⟨n,O,hn,rfl,rfl,hd,ab,rfl⟩:=hrel;have HD:ga _:=hd;clear hd;by_cases W:n<=9
  .have Y:¬((9:Int)<(n:Int)):=by omega
   have ac:=PF n W;have ad:¬(9223372036854775807<1+O.size):=by omega
   have U:ga (⟨#[48+cY n]⟩++O=(⟨(ma N).toArray⟩:ByteArray)):=by
    show _=_;rw[HD.out,pw W];apply dk;apply gc.1;simp[dm]
   have aa:(n:Int)+1<=10:=by omega
   go_wp2;go_ret;exact⟨K0 U.out,rfl⟩
  have Y:(9:Int)<(n:Int):=by omega
  have U:ga (ma N=ma (n / 10)++((⟨#[48,49,50,51,52,53,54,55,56,57]⟩:ByteArray).extract (n % 10) (n % 10+1)++O).data.toList/\((⟨#[48,49,50,51,52,53,54,55,56,57]⟩:ByteArray).extract (n % 10) (n % 10+1)++O).size+n / 10<=16777216):=by
   rw[PF (n % 10) (by omega)];refine⟨?_,?_⟩;rw[HD.out,mZ W];simp[dm];rw[dt];show 1+O.size+n / 10<=_;omega
  go_wp2;exact⟨⟨n / 10,_,by omega,by simp,rfl,U.out.1,U.out.2,trivial⟩,by simp[intOf];omega⟩
theorem rG(s:ByteArray)(w:World)(hs:s.size<=1000) :
  cH prog 56 #[.string s] w λe w'=>e=.returned (.string ⟨(dO s.data.toList).toArray⟩)/\Below w.heap.size w w':=by
 go_enter func56,ntmps56;go_wp2;go_loopw [3,4] (λv i wr=>∃(k:Nat)(U:ByteArray),k<=s.size/\U.size=k/\i=.int .i64 k/\v=.string U/\U=⟨(dO (s.data.toList.take k)).toArray⟩/\Below w.heap.size w wr) (λ_ i _=>s.size-(intOf i).toNat)
 case atStart=>exact⟨0,⟨#[]⟩,ch _,rfl,rfl,rfl,rfl,h9 _ _⟩
 case round=>
  obtain⟨k,U,hk,ad,rfl,rfl,ht,O⟩:=hrel;have Y:ga _:=ht;clear ht;by_cases aa:k<s.size
  .have HE:ga (U++⟨#[qP s[k]]⟩=⟨(dO (s.data.toList.take (k+1))).toArray⟩/\(U++⟨#[qP s[k]]⟩).size=k+1):=by
    refine⟨?_,by rw[dt];show U.size+1=_;omega⟩;rw[uP s k aa,zS,Y.out];exact li _ [_]
   have HB:ga (∀o,Below w.heap.size w (wr.alloc o)):=λo=>O.alloc O.size _;have hj:¬(9223372036854775807<U.size+1):=by omega
   clear O;by_cases W:65<=s[k].toNat/\s[k].toNat<=90
   .have h1:65<=(s[k].toNat:Int):=by omega
    have h2:(s[k].toNat:Int)<=90:=by omega
    have HL:ga (((qP s[k]).toNat:Int)=(s[k].toNat:Int)+32):=JE _ W;have hc:=F6 (w:=wr) (l:=[qP s[k]]) #[.int .u8 ((s[k].toNat:Int)+32)] 1 (by rw[<-HL.out];rfl) rfl (by unfold cF;omega);clear W;generalize qP s[k]=lb at *;go_wp2;go_roundw
    case rel=>exact⟨k+1,_,by omega,HE.out.2,by go_num,rfl,HE.out.1,HB.out _⟩
    case measure=>simp[intOf];omega
   have HL:ga (qP s[k]=s[k]):=JU _ W;have ab:(s[k].toNat:Int)<65\/90<(s[k].toNat:Int):=by omega
   have hc:=F6 (w:=wr) (l:=[s[k]]) #[.int .u8 (s[k].toNat:Int)] 1 rfl rfl (by unfold cF;omega);rw[HL.out]at HE;clear W;rcases ab with h1|h1
   all_goals
    go_wp2;go_roundw
    case rel=>exact⟨k+1,_,by omega,HE.out.2,by go_num,rfl,HE.out.1,HB.out _⟩
    case measure=>simp[intOf];omega
  have ac:¬(k:Int)<(s.size:Int):=by omega
  have HF:ga (U=⟨(dO s.data.toList).toArray⟩):=by
   show _=_;rw[Y.out,bm (by simp;omega)]
  have HB:ga _:=O;clear O Y;go_wp2;go_ret;exact⟨K0 HF.out,HB.out⟩
theorem wv(c:UInt8)(w:World):cH prog 36 #[.int .u8 c.toNat] w λe w'=>e=.returned (.bool (eB c))/\w=w':=by
 go_enter func36,ntmps36;go_wp2
 all_goals
  go_ret;refine⟨dM ?_,rfl⟩;unfold eB;rw[c5];simp only[decide_eq_true_eq,c7,true_iff,false_iff,cB];omega
theorem M7{q t:Wd}{k m:Nat}(O:k<=t.length):ix q (t.take k) ((m:Int)-1)=decide (oP q t k<m):=by
 unfold ix;rw[Nq q t k O,c5,decide_eq_true_eq,decide_eq_true_eq];omega
theorem LN(m:Nat)(query text:ByteArray)(w:World)(hm:m<=3)(hq:query.size<=400)(ht:text.size<=400) :
  cH prog 52 #[.int .i64 m,.string query,.string text] w λe w'=>e=.returned (.bool (gD m (dO query.data.toList) (dO text.data.toList)))/\Below w.heap.size w w':=by
 obtain⟨qb,ad⟩:∃qb:ByteArray,qb=⟨(dO query.data.toList).toArray⟩:=⟨_,rfl⟩;obtain⟨O,ae⟩:∃O:ByteArray,O=⟨(dO text.data.toList).toArray⟩:=⟨_,rfl⟩;have HQ:ga (qb.data.toList=dO query.data.toList):=by show _=_;rw[ad]
 have aj:ga (O.data.toList=dO text.data.toList):=by show _=_;rw[ae]
 have az:qb.size<=400:=by
  rw[ad];show(dO query.data.toList).toArray.size<=_;rw[bW,fx];simp;omega
 have a0:O.size<=400:=by
  rw[ae];show(dO text.data.toList).toArray.size<=_;rw[bW,fx];simp;omega
 have ak:ga (∀y:World,cH prog 56 #[.string query] y λe w'=>e=.returned (.string qb)/\Below y.heap.size y w'):=λy=>by rw[ad];exact rG query y (by omega)
 have al:ga (∀y:World,cH prog 56 #[.string text] y λe w'=>e=.returned (.string O)/\Below y.heap.size y w'):=λy=>by rw[ae];exact rG text y (by omega)
 have HR:ga (gD m (dO query.data.toList) (dO text.data.toList)=gD m qb.data.toList O.data.toList):=by show _=_;rw[HQ.out,aj.out]
 have am:O.data.toList.length=O.size:=by simp
 have aq:ga _:=am;clear ad ae hq ht am;rw[HR.out];go_enter func52,ntmps52;go_wp2_with fail;refine(ak.out _).mono ?_;rintro e w1 ⟨rfl,W⟩;go_wp2_with fail;refine(al.out _).mono ?_;rintro e w2 ⟨rfl,aa⟩;have HB2:ga (Below w.heap.size w w2):=W.trans (aa.mono W.size);clear W aa ak al HQ aj HR;by_cases h0:m=0
 .subst h0;go_wp2_with fail;refine(vC O qb _).mono ?_;rintro e w3 ⟨rfl,rfl⟩;go_wp2;go_ret;exact⟨dM rfl,HB2.out⟩
 have ar:((m:Int)==0)=false:=by rw[beq_eq_false_iff_ne];omega
 by_cases h1:m=1
 .subst h1
  have HF:ga (gD 1 qb.data.toList O.data.toList=(aJ O.size).any λi=>eE O.data.toList i&&nF (O.data.toList.drop i) qb.data.toList):=by
   show _=_;unfold gD;simp
  clear h0 ar;go_wp2;go_loopw [9] (λiv wr=>∃i:Nat,i<=O.size/\iv=.int .i64 i/\(∀j,j<i->(eE O.data.toList j&&nF (O.data.toList.drop j) qb.data.toList)=false)/\Below w.heap.size w wr) (λi _=>O.size-(intOf i).toNat)
  case atStart=>exact⟨0,ch _,rfl,λj hj=>by omega,HB2.out⟩
  case round=>
   obtain⟨i,hi,rfl,ab,U⟩:=hrel;have ac:ga _:=ab;have HBW:ga _:=U;clear ab U;by_cases af:i<O.size
   .have an:(i:Int)<(O.size:Int):=by omega
    have ax:(i:Int)<=(O.size:Int):=by omega
    have ay:((i:Int)==(O.size:Int))=false:=by rw[beq_eq_false_iff_ne];omega
    obtain⟨b2,aa⟩:∃b2,b2=nF (O.data.toList.drop i) qb.data.toList:=⟨_,rfl⟩;have Y:=vC (O.extract i O.size) qb wr;rw[yx,<-aa]at Y;have ao:ga _:=aa;clear aa;have e1:=j6 O i af
    have HN:ga (∀b1,b1=eE O.data.toList i->(b1&&b2)=false->∀j,j<i+1->(eE O.data.toList j&&nF (O.data.toList.drop j) qb.data.toList)=false):=λb1 W hb j hj=>by
     rcases cj j i with h|h
     exact ac.out j h;have e:j=i:=by omega
     subst e;rw[<-W,<-ao.out];exact hb
    have HY:ga (∀b1,b1=eE O.data.toList i->(b1&&b2)=true->true=gD 1 qb.data.toList O.data.toList):=λb1 W hb=>by
     rw[HF.out];exact(any_some i af (by rw[<-ao.out,<-W];exact hb)).symm
    go_wp2_with fail;refine(wv _ _).mono ?_;rintro e w3 ⟨rfl,rfl⟩;by_cases ah:i=0
    .have HS:ga (eB O[i]=eE O.data.toList i):=by show _=_;unfold eE;rw[e1,decide_eq_true ah];simp
     have To:¬(0:Int)<(i:Int):=by omega
     clear e1 ah;generalize eB O[i]=lb at *;go_wp2_with fail;refine Y.mono ?_;rintro e w4 ⟨rfl,rfl⟩;clear Y;cases lb<;>cases b2
     case true.true=>
      go_wp2;go_ret;exact⟨dM (HY.out _ HS.out rfl),HBW.out⟩
     all_goals
      go_wp2;go_roundw
      case rel=>exact⟨i+1,by omega,by go_num,HN.out _ HS.out rfl,HBW.out⟩
      case measure=>simp[intOf];omega
    have au:i-1<O.size:=by omega
    have e2:=j6 O (i-1) au;have To:(0:Int)<(i:Int):=by omega
    cases hl:eB O[i]with
    |false=>
     have HS:ga (false=eE O.data.toList i):=by show _=_;unfold eE;rw[e1,hl];rfl
     clear e1 e2 hl;go_wp2_with fail;refine Y.mono ?_;rintro e w4 ⟨rfl,rfl⟩;clear Y;go_wp2;go_roundw
     case rel=>exact⟨i+1,by omega,by go_num,HN.out _ HS.out rfl,HBW.out⟩
     case measure=>simp[intOf];omega
    |true=>
     have HS:ga ((!eB O[i-1])=eE O.data.toList i):=by show _=_;unfold eE;rw[e1,hl,e2];simp[ah]
     have a3:(i:Int)-1<(O.size:Int):=by omega
     clear e1 e2 hl;go_wp2_with fail;refine(wv _ _).mono ?_;rintro e w5 ⟨rfl,rfl⟩;generalize eB O[i-1]=lb at *;go_wp2_with fail;refine Y.mono ?_;rintro e w4 ⟨rfl,rfl⟩;clear Y;cases lb<;>cases b2
     case false.true=>
      go_wp2;go_ret;exact⟨dM (HY.out _ HS.out rfl),HBW.out⟩
     all_goals
      go_wp2;go_roundw
      case rel=>exact⟨i+1,by omega,by go_num,HN.out _ HS.out rfl,HBW.out⟩
      case measure=>simp[intOf];omega
   have av:i=O.size:=by omega
   subst av
   have HY:ga (false=gD 1 qb.data.toList O.data.toList):=by
    show _=_;rw[HF.out];exact(any_none ac.out).symm
   go_wp2;go_ret;exact⟨dM HY.out,HBW.out⟩
 have a4:(1:Int)<(m:Int):=by omega
 have HF:ga (gD m qb.data.toList O.data.toList=(aJ (O.size+1)).any λk=>decide (oP qb.data.toList O.data.toList k<m)):=by
  show _=_;unfold gD;rw[if_neg h0,if_neg h1];simp
 have a5:IntKind.i64.wrap ((m:Int)-1)=(m:Int)-1:=by simp only[eC];omega
 clear h0 h1;go_wp2;go_loopw [9] (λiv wr=>∃k:Nat,k<=O.size+1/\iv=.int .i64 k/\(∀j,j<k->decide (oP qb.data.toList O.data.toList j<m)=false)/\Below w.heap.size w wr) (λi _=>O.size+1-(intOf i).toNat)
 case atStart=>exact⟨0,ch _,rfl,λj hj=>by omega,HB2.out⟩
 case round=>
  obtain⟨k,hk,rfl,ab,U⟩:=hrel;have ac:ga _:=ab;have HBW:ga _:=U;clear ab U;by_cases af:k<=O.size
  .have an:(k:Int)<=(O.size:Int):=by omega
   have ag:=OG 800 qb (O.extract 0 k) ((m:Int)-1) wr (by simp;omega) (by omega) (by omega) (by omega);have e1:(O.extract 0 k).data.toList=O.data.toList.take k:=by rw[Ed]
   rw[e1,M7 (by rw[aq.out];exact af)]at ag;obtain⟨dd,ai⟩:∃dd,dd=decide (oP qb.data.toList O.data.toList k<m):=⟨_,rfl⟩;rw[<-ai]at ag;have ap:ga _:=ai;clear ai e1;go_wp2_with fail;refine ag.mono ?_;rintro e w3 ⟨rfl,m3,rfl⟩;clear ag;cases dd
   .go_wp2;go_roundw
    case rel=>exact⟨k+1,by omega,by go_num,λj hj=>by
     rcases cj j k with h|h
     exact ac.out j h;have e:j=k:=by omega
     subst e;exact ap.out.symm,ib HBW.out _⟩
    case measure=>simp[intOf];omega
   have HY:ga (true=gD m qb.data.toList O.data.toList):=by
    show _=_;rw[HF.out];exact(any_some k (by omega) ap.out.symm).symm
   go_wp2;go_ret;exact⟨dM HY.out,ib HBW.out _⟩
  have aw:k=O.size+1:=by omega
  subst aw;have a6:¬((O.size:Int)+1<=(O.size:Int)):=by omega
  have HY:ga (false=gD m qb.data.toList O.data.toList):=by
   show _=_;rw[HF.out];exact(any_none ac.out).symm
  go_wp2;go_ret;exact⟨dM HY.out,HBW.out⟩
def zD(e:dq)(b:Bool):Value:=.agg #[.string ⟨e.name.toArray⟩,.string ⟨e.text.toArray⟩,.int .i64 e.dp,.int .i64 e.dA,.bool b]
theorem Jb(x y:dq)(b1 b2:Bool)(w:World)(hx:x.text.length<=1000)(hy:y.text.length<=1000) :
  cH prog 53 #[zD x b1,zD y b2] w λe w'=>e=.returned (.bool (dY x y))/\Below w.heap.size w w':=by
 rcases x with⟨n1,g1,t1,w1,a1⟩;rcases y with⟨n2,g2,t2,w2,a2⟩;unfold zD;simp only at hx hy⊢;obtain⟨U,O⟩:∃U,U=(w.alloc (.cells #[.string ⟨n1.toArray⟩,.string ⟨t1.toArray⟩,.int .i64 w1,.int .i64 a1,.bool b1] 36)).alloc (.cells #[.string ⟨n2.toArray⟩,.string ⟨t2.toArray⟩,.int .i64 w2,.int .i64 a2,.bool b2] 36):=⟨_,rfl⟩;have hB:Below w.heap.size w U:=by rw[O];exact((h9 _ _).alloc (cg _) _).alloc (by simp) _
 have Y:U.heap[w.heap.size]?=some (.cells #[.string ⟨n1.toArray⟩,.string ⟨t1.toArray⟩,.int .i64 w1,.int .i64 a1,.bool b1] 36 (0,0)):=by rw[O];simp[et,-eq,Array.getElem?_push]
 have aa:U.heap[w.heap.size+1]?=some (.cells #[.string ⟨n2.toArray⟩,.string ⟨t2.toArray⟩,.int .i64 w2,.int .i64 a2,.bool b2] 36 (0,0)):=by rw[O,<-World.size_alloc w (.cells #[.string ⟨n1.toArray⟩,.string ⟨t1.toArray⟩,.int .i64 w1,.int .i64 a1,.bool b1] 36)];exact o8 _ _
 have d1:U.cell? ⟨w.heap.size,0,none⟩=some (.string ⟨n1.toArray⟩):=by rw[dh Y];rfl
 have d2:U.cell? ⟨w.heap.size+1,0,none⟩=some (.string ⟨n2.toArray⟩):=by rw[dh aa];rfl
 have d3:U.cell? ⟨w.heap.size,1,none⟩=some (.string ⟨t1.toArray⟩):=by rw[dh Y];rfl
 have d4:U.cell? ⟨w.heap.size+1,1,none⟩=some (.string ⟨t2.toArray⟩):=by rw[dh aa];rfl
 have d5:U.cell? ⟨w.heap.size,2,none⟩=some (.int .i64 w1):=by rw[dh Y];rfl
 have d6:U.cell? ⟨w.heap.size+1,2,none⟩=some (.int .i64 w2):=by rw[dh aa];rfl
 have ab:ga _:=hB;clear Y aa hB;go_enter func53,ntmps53;by_cases hw:w1=w2
 .subst hw;obtain⟨k1,ad⟩:∃k1:ByteArray,k1=⟨(dO t1).toArray⟩:=⟨_,rfl⟩;obtain⟨k2,ae⟩:∃k2:ByteArray,k2=⟨(dO t2).toArray⟩:=⟨_,rfl⟩;have aj:ga (∀y:World,cH prog 56 #[.string ⟨t1.toArray⟩] y λe w'=>e=.returned (.string k1)/\Below y.heap.size y w'):=λy=>by rw[ad];exact rG ⟨t1.toArray⟩ y (by show t1.toArray.size<=_;simp;omega)
  have ak:ga (∀y:World,cH prog 56 #[.string ⟨t2.toArray⟩] y λe w'=>e=.returned (.string k2)/\Below y.heap.size y w'):=λy=>by rw[ae];exact rG ⟨t2.toArray⟩ y (by show t2.toArray.size<=_;simp;omega)
  have af:ga (k1.data.toList=dO t1):=by show _=_;rw[ad]
  have ag:ga (k2.data.toList=dO t2):=by show _=_;rw[ae]
  clear ad ae;have am:(w1==w1)=true:=by simp
  go_wp2_with fail;rw[<-O];clear O;refine(aj.out _).mono ?_;rintro e u1 ⟨rfl,W⟩;have e1:=cI W d1;have e2:=cI W d2;have e4:=cI W d4;have ah:ga (Below w.heap.size w u1):=ab.out.trans (W.mono ab.out.size);clear d1 d2 d3 d4 d5 d6 W ab;go_wp2_with fail;refine(ak.out _).mono ?_;rintro e u2 ⟨rfl,ac⟩;have f1:=cI ac e1;have f2:=cI ac e2;have ai:ga (Below w.heap.size w u2):=ah.out.trans (ac.mono ah.out.size);clear e1 e2 e4 ac;by_cases hk:k1.data.toList=k2.data.toList
  .have al:(k1.toList==k2.toList)=true:=by rw[dc,dc,hk];simp
   have HA:ga (dY ⟨n1,g1,t1,w1,a1⟩ ⟨n2,g2,t2,w1,a2⟩=cW n1 n2):=by
    show _=_;unfold dY dE;rw[if_pos rfl,if_pos (by rw[<-af.out,<-ag.out];exact hk)]
   clear hk;go_wp2;go_ret;exact⟨dM HA.out.symm,ai.out⟩
  have al:(k1.toList==k2.toList)=false:=by rw[dc,dc,beq_eq_false_iff_ne];exact hk
  have HA:ga (dY ⟨n1,g1,t1,w1,a1⟩ ⟨n2,g2,t2,w1,a2⟩=cW k1.data.toList k2.data.toList):=by
   show _=_;unfold dY dE;rw[if_pos rfl,if_neg (by rw[<-af.out,<-ag.out];exact hk),<-af.out,<-ag.out]
  clear hk;go_wp2;go_ret;exact⟨dM (by rw[HA.out];first|rfl|simp[dc]),ai.out⟩
 have an:(w1==w2)=false:=by rw[beq_eq_false_iff_ne];exact hw
 have HA:ga (dY ⟨n1,g1,t1,w1,a1⟩ ⟨n2,g2,t2,w2,a2⟩=decide (w2<w1)):=by
  show _=_;unfold dY;rw[if_neg hw]
 clear hw;subst O;go_wp2;go_ret;exact⟨dM HA.out.symm,ab.out⟩
variable {x y:dq} {l:List dq} {told:List Nat} {ok:Nat->Bool}
theorem uk(x:dq):dY x x=false:=by
 unfold dY;rw[if_pos rfl,if_pos rfl,im]
theorem ml{z:dq}(U:dY x y=true)(O:dY y z=true):dY x z=true:=by
 unfold dY at *;by_cases a:x.dp=y.dp;rw[if_pos a]at U;by_cases b:y.dp=z.dp;rw[if_pos b]at O;rw[if_pos (a.trans b)];by_cases c:dE x=dE y;rw[if_pos c]at U;by_cases d:dE y=dE z;rw[if_pos d]at O;rw[if_pos (c.trans d)];exact me _ _ _ U O;rw[if_neg d]at O;rw[if_neg (λe=>d (c.symm.trans e)),c];exact O;rw[if_neg c]at U;by_cases d:dE y=dE z;rw[if_neg (λe=>c (e.trans d.symm)),<-d];exact U;rw[if_neg d]at O;have W:=me _ _ _ U O;rw[if_neg (BR W)];exact W;rw[if_neg b]at O;rw[if_neg (λe=>b (a.symm.trans e)),a];exact O;rw[if_neg a,decide_eq_true_eq]at U;by_cases b:y.dp=z.dp;rw[if_neg (λe=>a (e.trans b.symm)),decide_eq_true_eq];omega;rw[if_neg b,decide_eq_true_eq]at O;rw[if_neg (by omega),decide_eq_true_eq];omega
theorem vX(h:x.name≠y.name):dY x y=true\/dY y x=true:=by
 unfold dY;by_cases a:x.dp=y.dp;rw[if_pos a,if_pos a.symm];by_cases c:dE x=dE y;rw[if_pos c,if_pos c.symm];rcases iC .. with O|O|O
 exact Or.inl O;exact absurd O h;exact Or.inr O;rw[if_neg c,if_neg (λe=>c e.symm)];rcases iC .. with O|O|O
 exact Or.inl O;exact absurd O c;exact Or.inr O;rw[if_neg a,if_neg (λe=>a e.symm),decide_eq_true_eq,decide_eq_true_eq];omega
theorem tc(h:dY x y=true):dY y x=false:=by
 rw[cA];intro O;have:=ml h O;rw[uk]at this;cases this
def fP:dq:=⟨[],false,[],0,0⟩
def gS(l:List dq)(ok:Nat->Bool):Nat->Option Nat
 |0=>none|k+1=>match gS l ok k with
  |none=>if ok k=true then some k else none|some b=>if ok k=true/\dY (l.getD k fP) (l.getD b fP)=true then some k else some b
def fM(l:List dq)(ok:Nat->Bool):Nat->List Nat->List Nat
 |0,_=>[]
 |n+1,told=>match gS l (λi=>ok i && !told.contains i) l.length with
  |none=>[]
  |some b=>b::fM l ok n (told++[b])
theorem xQ:∀k,gS l ok k=none->∀i,i<k->ok i=false:=by
 intro k;induction k with
 |zero=>omega|succ k U=>
  intro h i hi;rw[gS]at h
  cases hb:gS l ok k with
  |none=>
   rw[hb]at h;simp only at h;split at h
   cases h;rename_i W;rcases cj i k with O|O
   exact U hb i O;have e:i=k:=by omega
   subst e;simpa using W
  |some b=>
   rw[hb]at h;simp only at h;split at h<;>cases h
theorem sG(hn:(l.map dq.name).Nodup):∀k b,k<=l.length->gS l ok k=some b->b<k/\ok b=true/\∀i,i<k->ok i=true->i≠b->dY (l.getD b fP) (l.getD i fP)=true:=by
 have Y:∀i j,i<l.length->j<l.length->i≠j->(l.getD i fP).name≠(l.getD j fP).name:=λi j hi hj h e=>by
  rw[a7,a7,a9 hi,a9 hj]at e;exact h ((List.getElem_inj (h₀:=by simpa using hi) (h₁:=by simpa using hj) hn).1 (by simpa using e))
 intro k;induction k with
 |zero=>intro b _ h;cases h
 |succ k ih=>
  intro b hk h;rw[gS]at h
  cases hb:gS l ok k with
  |none=>
   rw[hb]at h;simp only at h;split at h
   rename_i O;simp only[cX]at h;subst h;refine⟨by omega,O,λi hi U W=>?_⟩;have:=xQ k hb i (by omega);rw[this]at U;cases U
   cases h
  |some c=>
   rw[hb]at h;simp only at h;obtain⟨c1,c2,c3⟩:=ih c (by omega) hb;split at h
   rename_i O;simp only[cX]at h;subst h;refine⟨by omega,O.1,λi hi U W=>?_⟩;by_cases e:i=c;subst e;exact O.2;exact ml O.2 (c3 i (by omega) U e)
   rename_i O;simp only[cX]at h;subst h;refine⟨by omega,c2,λi hi U W=>?_⟩;rcases cj i k with h3|h3
   exact c3 i h3 U W;have e:i=k:=by omega
   subst e;rcases vX (Y i c (by omega) (by omega) W)with h4|h4
   exact absurd ⟨U,h4⟩ O;exact h4
def lB(l:List dq)(ok:Nat->Bool)(told:List Nat):List Nat:=(aJ l.length).filter λi=>ok i && !told.contains i
theorem Ei{i:Nat}:i∈lB l ok told↔i<l.length/\(ok i && !told.contains i)=true:=by
 unfold lB;rw[a8,bl]
theorem Ml{b:Nat}(hb:b∈lB l ok told):(lB l ok told).Perm (b::lB l ok (told++[b])):=by
 have U:(lB l ok told).Nodup:=cf.sublist bj List.nodup_range
 have e:lB l ok (told++[b])=(lB l ok told).erase b:=by
  rw[U.erase_eq_filter];unfold lB;rw[aP];refine bg λi _=>?_;rw[c5];simp only[c6,c9,bne_iff_ne,List.contains_eq_mem,aH,aI,decide_eq_false_iff_not];constructor;rintro⟨W,O⟩;exact⟨λh=>O (Or.inr h),W,λh=>O (Or.inl h)⟩;rintro⟨W,O,Y⟩;exact⟨O,λh=>h.elim Y W⟩
 rw[e];exact List.perm_cons_erase hb
theorem sf(l:List dq)(hn:(l.map dq.name).Nodup)(ok:Nat->Bool):∀(n:Nat)(told:List Nat)(S:List dq),S.Pairwise (λx y=>dY x y=true)->S.Perm ((lB l ok told).map λi=>l.getD i fP)->(fM l ok n told).map (λi=>l.getD i fP)=S.take n:=by
 intro n;induction n with
 |zero=>simp[fM]|succ n ih=>
  intro told S hs W;rw[fM]
  cases hb:gS l .. with
  |none=>
   have Y:=xQ _ hb
   have hc:lB l ok told=[]:=by
    unfold lB;rw[bw];intro i hi;rw[Y i (bl.1 hi)];simp
   rw[hc]at W;have:=fs W;subst this;simp
  |some b=>
   obtain⟨b1,b2,b3⟩:=sG hn _ b (cg _) hb;have An:=Ei.2 ⟨b1,b2⟩;have aa:=(Ml An).map (λi=>l.getD i fP);have O:=W.trans aa
   cases S with
   |nil=>exact absurd O.symm.eq_nil (by simp)|cons h S'=>
    have hh:h=l.getD b fP:=by
     refine hC λU=>?_
     have m1:l.getD b fP∈S':=by
      have:l.getD b fP∈h::S':=O.mem_iff.2 (by simp);rcases aA.1 this with e|e
      exact absurd e.symm U;exact e
     have a1:=(aD.1 hs).1 _ m1;have m2:h∈(lB l ok told).map _:=W.mem_iff.1 (by simp);obtain⟨i,hi,e⟩:=aF.1 m2;have Qj:=Ei.1 hi;have ab:i≠b:=λe2=>U (by rw[<-e,e2]);have a2:=b3 i Qj.1 Qj.2 ab;rw[e]at a2;rw[tc a1]at a2;cases a2
    subst hh;simp only[aG,b5];rw[ih _ S' (aD.1 hs).2 ((List.perm_cons _).1 O)]
def tP(t e j:Nat):Bool:=(t / 2 ^ j % 2==0) || (e / 2 ^ j % 2==1)
def lL(t e:Nat):Bool:=e &&& t==t
theorem xz(n j:Nat):n.testBit j=(n / 2 ^ j % 2==1):=by
 rw[Nat.testBit_eq_decide_div_mod_eq];rfl
theorem Lk{t e:Nat}(Y:t<256):lL t e=(aJ 8).all λj=>tP t e j:=by
 rw[c5,ca];unfold lL tP;rw[beq_iff_eq];constructor;intro h j _;have O:(e &&& t).testBit j=t.testBit j:=by rw[h]
 rw[cw,xz,xz]at O;have U:t / 2 ^ j % 2=0\/t / 2 ^ j % 2=1:=by omega
 rcases U with U|U
 simp[U];rw[U]at O;simp only[beq_self_eq_true,Bool.and_true]at O;simp only[c7];exact Or.inr O;intro h;apply Nat.eq_of_testBit_eq;intro j;rw[cw];rcases cj j 8 with W|W
 have O:=h j (bl.2 W);rw[xz,xz];simp only[c7,beq_iff_eq]at O;rcases O with O|O
 simp[O];simp[O];have U:=Nat.testBit_lt_two_pow (cv Y (Nat.pow_le_pow_right (n:=2) (by omega) W));rw[U];simp
def fq(e:dq):Wd:=e.name++(32::(ma e.dp.toNat++(32::e.text)))
def lG(mode dA:Nat)(q:Wd)(e:dq):Bool:=lL dA e.dA.toNat&&gD mode (dO q) (dE e)
def um(l:List dq)(mode:Int)(q:Wd)(dA most:Int):List Wd×Nat:=
 if mode<0\/3<mode\/dA<0\/255<dA\/most<1\/20<most then([],3)
 else if eu q=true then((fM l (λi=>lG mode.toNat dA.toNat q (l.getD i fP)) most.toNat []).map (λi=>fq (l.getD i fP)),0)else([],2)
theorem tX{l S:List dq}(U:(l.map dq.name).Nodup){mode dA most:Int}{q:Wd}(W:S.Pairwise (λx y=>dY x y=true))(Y:S.Perm (l.filter λe=>lG mode.toNat dA.toNat q e)) :
  (fM l (λi=>lG mode.toNat dA.toNat q (l.getD i fP)) most.toNat []).map (λi=>fq (l.getD i fP))=(S.take most.toNat).map fq:=by
 have hc:(lB l (λi=>lG mode.toNat dA.toNat q (l.getD i fP)) []).map (λi=>l.getD i fP)=l.filter λe=>lG mode.toNat dA.toNat q e:=by
  unfold lB
  have O:(λi=>lG mode.toNat dA.toNat q (l.getD i fP) && !([]).contains i)=(λe=>lG mode.toNat dA.toNat q e) ∘ λi=>l.getD i fP:=by
   funext i;simp
  rw[O,<-List.filter_map];congr 1;apply bZ;simp;intro i O h2;simp[a7,h2]
 have h:=sf l U _ most.toNat [] S W (by rw[hc];exact Y);have e:(λi=>fq _)=fq ∘ λi=>l.getD i fP:=rfl;rw[e,<-List.map_map,h]
theorem MU(x:dq)(b:Bool)(w:World)(hn:x.name.length<=1000)(hx:x.text.length<=1000)(aa:0<=x.dp)(ab:x.dp<=1000000) :
  cH prog 28 #[zD x b] w λe w'=>e=.returned (.string ⟨(fq x).toArray⟩)/\Below w.heap.size w w':=by
 rcases x with⟨n,g,t,wt,a⟩;simp only at hn hx aa ab;obtain⟨N,rfl⟩:∃N:Nat,wt=(N:Int):=⟨wt.toNat,by omega⟩;have HD:ga (∀y,cH prog 62 #[.int .i64 (N:Int)] y λe w'=>e=.returned (.string ⟨(ma N).toArray⟩)/\w'=y):=λy=>(FO N y (by omega)).mono λe w' h=>⟨h.1,h.2.symm⟩;have W:=EX 7 N (by omega) (by omega)
 have HE:ga (⟨(fq ⟨n,g,t,(N:Int),a⟩).toArray⟩=(⟨n.toArray⟩:ByteArray)++⟨#[32]⟩++⟨(ma N).toArray⟩++⟨#[32]⟩++⟨t.toArray⟩):=by
  show _=_;rw[show(⟨#[32]⟩:ByteArray)=⟨([32]:Wd).toArray⟩from rfl,li,li,li,li];simp[fq]
 unfold zD;simp only;rw[HE.out];have zn:(⟨n.toArray⟩:ByteArray).size<=1000:=by show n.toArray.size<=_;simpa using hn
 have zt:(⟨t.toArray⟩:ByteArray).size<=1000:=by show t.toArray.size<=_;simpa using hx
 have zd:(⟨(ma N).toArray⟩:ByteArray).size<=7:=by show(ma N).toArray.size<=_;simpa using W
 clear hn hx W HE;generalize (⟨n.toArray⟩:ByteArray)=nb at *;generalize (⟨t.toArray⟩:ByteArray)=tb at *;generalize (⟨(ma N).toArray⟩:ByteArray)=db at *;obtain⟨U,O⟩:∃U,U=w.alloc (.cells #[.string nb,.string tb,.int .i64 (N:Int),.int .i64 a,.bool b] 36):=⟨_,rfl⟩;have HB:ga (Below w.heap.size w U):=by rw[O];exact(h9 _ _).alloc (cg _) _
 have Y:U.heap[w.heap.size]?=some (.cells #[.string nb,.string tb,.int .i64 (N:Int),.int .i64 a,.bool b] 36 (0,0)):=by rw[O];exact o8 _ _
 have d0:U.cell? ⟨w.heap.size,0,none⟩=some (.string nb):=by rw[dh Y];rfl
 have d1:U.cell? ⟨w.heap.size,1,none⟩=some (.string tb):=by rw[dh Y];rfl
 have d2:U.cell? ⟨w.heap.size,2,none⟩=some (.int .i64 (N:Int)):=by rw[dh Y];rfl
 clear Y;go_enter func28,ntmps28;go_wp2_with fail;rw[<-O];clear O;go_quiet (first|(go_at_call 62;exact cH.quiet_of_same (HD.out _)));go_wp2;go_ret;exact⟨rfl,ib HB.out _⟩
def pk(c:Int)(n:Nat):Nat:=((if c<0 then -(c+1)else c) % (n:Int)).toNat
theorem lA(c:Int)(n:Nat)(O:0<n):pk c n<n:=by
 unfold pk;have U:=Int.emod_lt_of_pos (if c<0 then -(c+1)else c) (show(0:Int)<n by omega);omega
theorem fS(c:Int)(n:Nat)(w:World)(h0 : -9223372036854775808<=c)(h1:c<=9223372036854775807)(hn:0<n)(U:n<=1000000):cH prog 15 #[.int .i64 c,.int .i64 (n:Int)] w λe w'=>e=.returned (.int .i64 (pk c n:Nat))/\w=w':=by
 have W:¬((n:Int)=0):=by omega
 have Y:¬((n:Int) = -1):=by omega
 by_cases O:c<0
 .have e:((pk c n):Int)=(-(c+1)).tmod n:=by
   unfold pk;rw[if_pos O,de (by omega)];have:=di (-(c+1)) (show(n:Int)≠0 by omega);omega
  rw[e];go_wp2;go_ret;refine⟨?_,rfl⟩;show Ending.returned (.int _ _)=_;rw[Int.neg_tmod]
 have e:((pk c n):Int)=c.tmod n:=by
  unfold pk;rw[if_neg O,de (by omega)];have:=di c (show(n:Int)≠0 by omega);omega
 go_wp2;go_ret;refine⟨?_,rfl⟩;show Ending.returned (.int _ _)=_;rw[de (by omega)]
def sT(k:Nat):Wd:=[cY (97+k)]
theorem BQ(c:Int)(w:World)(Y : -9223372036854775808<=c)(h1:c<=9223372036854775807):cH prog 23 #[.int .i64 c] w λe w'=>e=.returned (.string ⟨(sT (pk c 12)).toArray⟩)/\w=w':=by
 have U:=fS c 12 w Y h1 (by omega) (by omega);have O:=lA c 12 (by omega);obtain⟨k,W⟩:∃k,k=pk c 12:=⟨_,rfl⟩;rw[<-W]at U O⊢;clear W;go_enter func23,ntmps23;go_wp2_with fail;refine U.mono ?_;rintro e w1 ⟨rfl,rfl⟩;rcases(by omega:k=0\/k=1\/k=2\/k=3\/k=4\/k=5\/k=6\/k=7\/k=8\/k=9\/k=10\/k=11)with rfl|rfl|rfl|rfl|rfl|rfl|rfl|rfl|rfl|rfl|rfl|rfl
 all_goals
  go_wp2;go_ret;exact⟨rfl,rfl⟩
def w6:Nat->Wd
 |0=>[110,101,119]
 |1=>[89,111,114,107]
 |2=>[110,101,119,97,114,107]
 |3=>[110,101]
 |4=>[89,111,45,121,111]
 |_=>[107,57]
def Ap(n:Nat):Wd:=
 if n<6 then w6 n else if n<42 then w6 ((n-6) / 6)++[32]++w6 ((n-6) % 6)
 else w6 ((n-42) / 36)++[45]++w6 ((n-42) / 6 % 6)++[32]++w6 ((n-42) % 6)
def uI:Array Value:=#[.string ⟨#[110,101,119]⟩,.string ⟨#[89,111,114,107]⟩,.string ⟨#[110,101,119,97,114,107]⟩,.string ⟨#[110,101]⟩,.string ⟨#[89,111,45,121,111]⟩,.string ⟨#[107,57]⟩]
theorem Ir(i:Nat)(h:i<6):uI[i]?=some (.string ⟨(w6 i).toArray⟩):=by
 rcases(by omega:i=0\/i=1\/i=2\/i=3\/i=4\/i=5)with rfl|rfl|rfl|rfl|rfl|rfl<;>rfl
theorem yI(i:Nat):(w6 i).length<=6:=by unfold w6;split<;>simp
theorem Bu(c:Int)(w:World)(h0 : -9223372036854775808<=c)(h1:c<=9223372036854775807):cH prog 45 #[.int .i64 c] w λe w'=>e=.returned (.string ⟨(Ap (pk c 258)).toArray⟩)/\Below w.heap.size w w':=by
 have aa:=lA c 258 (by omega);obtain⟨n,Y⟩:∃n,n=pk c 258:=⟨_,rfl⟩;have hb:Below w.heap.size w (w.alloc (.cells uI 9)):=(h9 _ _).alloc (cg _) _;have HB:ga _:=hb
 have HC:ga (∀i,i<6->(w.alloc (.cells uI 9)).cell? ⟨w.heap.size,i,none⟩=some (.string ⟨(w6 i).toArray⟩)):=λi hi=>by
  rw[dh (cs:=uI) (t:=9) (fz:=(0,0)) (by simp[et,-eq])];exact Ir i hi
 have hp:=fS c 258 (w.alloc (.cells uI 9)) h0 h1 (by omega) (by omega);rw[<-Y]at hp aa⊢;clear Y hb;unfold uI at HB HC hp;by_cases U:n<6
 .have g1:((n:Nat):Int)<6:=by omega
  have W:Ap n=w6 n:=by unfold Ap;rw[if_pos U]
  have hc:=HC.out n U;rw[W];go_enter gB,gA;go_wp2_with fail;refine hp.mono ?_;rintro e w1 ⟨rfl,rfl⟩;clear hp;go_wp2;go_ret;exact⟨rfl,HB.out⟩
 have g1:¬((n:Nat):Int)<6:=by omega
 by_cases O:n<42
 .obtain⟨i,j,hi,hj,Y⟩:∃i j,i<6/\j<6/\n=6+6*i+j:=⟨(n-6) / 6,(n-6) % 6,by omega,by omega,by omega⟩
  have W:Ap n=w6 i++[32]++w6 j:=by
   unfold Ap;rw[if_neg U,if_pos O,show(n-6) / 6=i by omega,show(n-6) % 6=j by omega]
  have ab:=HC.out i hi;have ac:=HC.out j hj;have zi:(⟨(w6 i).toArray⟩:ByteArray).size<=6:=by have:=yI i;simpa[dj]using this
  have zj:(⟨(w6 j).toArray⟩:ByteArray).size<=6:=by have:=yI j;simpa[dj]using this
  rw[W];have g3:(⟨(w6 i++[32]++w6 j).toArray⟩:ByteArray)=⟨(w6 i).toArray⟩++⟨#[32]⟩++⟨(w6 j).toArray⟩:=by rw[<-li,<-li]
  rw[g3];clear g3;generalize (⟨(w6 i).toArray⟩:ByteArray)=si at *;generalize (⟨(w6 j).toArray⟩:ByteArray)=sj at *;have g4:(n:Int)-6<36:=by omega
  have g5:((n:Int)-6).tdiv 6=(i:Nat):=by rw[df (by omega)];omega
  have g6:((n:Int)-6).tmod 6=(j:Nat):=by rw[de (by omega)];omega
  have m1:(i:Int)<6:=by omega
  have m2:(j:Int)<6:=by omega
  have k1:IntKind.i64.wrap ((i:Int))=i:=by simp only[eC];omega
  have k2:IntKind.i64.wrap ((j:Int))=j:=by simp only[eC];omega
  clear W Y O U;go_enter gB,gA;go_wp2_with fail;refine hp.mono ?_;rintro e w1 ⟨rfl,rfl⟩;clear hp;generalize w.alloc _=wa at *;go_wp2;go_quiet (fail);go_wp2;go_ret;exact⟨rfl,ib HB.out _⟩
 obtain⟨i,j,l,hi,hj,hl,Y⟩:∃i j l,i<6/\j<6/\l<6/\n=42+36*i+6*j+l:=⟨(n-42) / 36,(n-42) / 6 % 6,(n-42) % 6,by omega,by omega,by omega,by omega⟩
 have W:Ap n=w6 i++[45]++w6 j++[32]++w6 l:=by
  unfold Ap;rw[if_neg U,if_neg O,show(n-42) / 36=i by omega,show(n-42) / 6 % 6=j by omega,show(n-42) % 6=l by omega]
 have ab:=HC.out i hi;have ac:=HC.out j hj;have jP:=HC.out l hl;have zi:(⟨(w6 i).toArray⟩:ByteArray).size<=6:=by have:=yI i;simpa[dj]using this
 have zj:(⟨(w6 j).toArray⟩:ByteArray).size<=6:=by have:=yI j;simpa[dj]using this
 have zl:(⟨(w6 l).toArray⟩:ByteArray).size<=6:=by have:=yI l;simpa[dj]using this
 rw[W];have g3:(⟨(w6 i++[45]++w6 j++[32]++w6 l).toArray⟩:ByteArray)=⟨(w6 i).toArray⟩++⟨#[45]⟩++⟨(w6 j).toArray⟩++⟨#[32]⟩++⟨(w6 l).toArray⟩:=by rw[<-li,<-li,<-li,<-li]
 rw[g3];clear g3;generalize (⟨(w6 i).toArray⟩:ByteArray)=si at *;generalize (⟨(w6 j).toArray⟩:ByteArray)=sj at *;generalize (⟨(w6 l).toArray⟩:ByteArray)=sl at *;have g4:¬(n:Int)-6<36:=by omega
 have g6:((n:Int)-6-36).tdiv 36=(i:Nat):=by rw[df (by omega)];omega
 have g7:((n:Int)-6-36).tdiv 6=((6*i+j:Nat):Int):=by rw[df (by omega)];omega
 have g8:(6*(i:Int)+(j:Int)).tmod 6=(j:Nat):=by rw[de (by omega)];omega
 have g9:((n:Int)-6-36).tmod 6=(l:Nat):=by rw[de (by omega)];omega
 have m1:(i:Int)<6:=by omega
 have m2:(j:Int)<6:=by omega
 have k1:IntKind.i64.wrap ((i:Int))=i:=by simp only[eC];omega
 have k2:IntKind.i64.wrap ((j:Int))=j:=by simp only[eC];omega
 have m3:(l:Int)<6:=by omega
 have k3:IntKind.i64.wrap ((l:Int))=l:=by simp only[eC];omega
 have k4:IntKind.i64.wrap (6*(i:Int)+(j:Int))=6*(i:Int)+(j:Int):=by simp only[eC];omega
 clear W Y O U;go_enter gB,gA;go_wp2_with fail;refine hp.mono ?_;rintro e w1 ⟨rfl,rfl⟩;clear hp;generalize w.alloc _=wa at *;go_wp2;go_quiet (fail);go_wp2;go_ret;exact⟨rfl,ib HB.out _⟩
theorem mH(c:UInt8)(w:World) :
  cH prog 98 #[.int .u8 c.toNat] w λe w'=>e=.returned (.bool (eB c))/\w=w':=by
 go_wp2
 all_goals
  go_ret;refine⟨dM ?_,rfl⟩;unfold eB;rw[c5];simp only[decide_eq_true_eq,c7,true_iff,false_iff,cB];omega
theorem qS(s:ByteArray)(w:World)(hs:s.size<=cF) :
  cH prog 48 #[.string s] w λe w'=>e=.returned (.bool (eu s.data.toList))/\w=w':=by
 unfold cF at hs;by_cases aa:s.size<=24
 .have hd:decide (24<(s.size:Int))=false:=by simp;omega
  go_enter func48,ntmps48;go_wp2;go_loop [9] (λi=>∃k:Nat,k<=s.size/\i=.int .i64 k/\(s.data.toList.take k).all oA=true) (λi=>s.size-(intOf i).toNat)
  case atStart=>exact⟨0,ch _,rfl,rfl⟩
  case round=>
   obtain⟨k,hk,rfl,fy⟩:=hrel;have HA:ga _:=fy;clear fy;by_cases U:k<s.size
   .have W:=uP s k U;have HS:ga _:=W;clear W;by_cases O:oA s[k]=true
    .have HP:ga _:=O;have Y:32<=(s[k].toNat:Int):=by simp[oA]at O;omega
     have h2:(s[k].toNat:Int)<=126:=by simp[oA]at O;omega
     clear O;go_wp2;go_round
     case rel=>exact⟨k+1,by omega,by go_num,by rw[HS.out,List.all_append,HA.out];simp[HP.out]⟩
     case measure=>simp[intOf];omega
    have HP:ga _:=O;have Y:(s[k].toNat:Int)<32\/126<(s[k].toNat:Int):=by simp[oA]at O;omega
    clear O;rcases Y with Y|Y
    all_goals
     go_wp2;go_ret;refine⟨dM ?_,rfl⟩;symm;rw[cA];intro hq;apply HP.out;simp only[eu,c6]at hq;exact ca.1 hq.2 _ (Di s k U)
   go_wp2;go_ret;refine⟨dM ?_,rfl⟩;have e:s.data.toList.take k=s.data.toList:=bm (by simp;omega);have:=HA.out;rw[e]at this;simp[eu,this];exact aa
 go_enter func48,ntmps48;go_wp2;go_ret;refine⟨dM ?_,rfl⟩;simp[eu];omega
theorem pD(s:ByteArray)(w:World)(Y:s.size<=cF) :
  cH prog 65 #[.string s] w λe w'=>e=.returned (.bool (decide (eu s.data.toList=true/\s.data.toList≠[])))/\w=w':=by
 by_cases O:s.data.toList=[]
 .have U:s=⟨#[]⟩:=by
   apply dk;apply gc.1;exact O
  subst U;go_wp2;go_ret;exact⟨dM (by simp),rfl⟩
 have W:s.toList.isEmpty=false:=by
  rw[dc]
  cases h:s.data.toList with
  |nil=>exact absurd h O|cons a l=>rfl
 have HQ:ga (decide (eu s.data.toList=true/\s.data.toList≠[])=eu s.data.toList):=by
  rw[c5,decide_eq_true_eq];exact⟨λh=>h.1,λh=>⟨h,O⟩⟩
 go_enter func65,ntmps65;go_wp2_with fail;refine(qS _ _ Y).mono ?_;rintro e w' ⟨rfl,rfl⟩;go_wp2;go_ret;exact⟨dM (by rw[HQ.out]),rfl⟩
def rD(w:World)(g:Nat)(l:List UInt8):Prop:=∀j(h:j<l.length),w.cell? ⟨g,j,none⟩=some (.int .u8 l[j].toNat)/\w.frozen? ⟨g,j,none⟩=false
theorem rD.set{w:World}{g:Nat}{l:List UInt8}(h:rD w g l)(k:Nat)(c:UInt8)(v:Value)(W:v=.int .u8 c.toNat):rD (w.setCell ⟨g,k,none⟩ v) g (l.set k c):=by
 subst W;intro j Y;have O:j<l.length:=by simpa using Y
 obtain⟨U,h2⟩:=h j O;refine⟨?_,by rw[World.frozen?_setCell];exact h2⟩;by_cases e:k=j;subst e;rw[World.cell?_setCell_same _ _ _ U];simp;rw[World.cell?_setCell_other _ _ _ _ (by intro hh;simp at hh),U];simp[e]
def iI(l:List UInt8)(k:Nat):List UInt8:=dO (l.take k)++l.drop k
theorem sL(l:List UInt8)(k:Nat):(iI l k).length=l.length:=by simp[iI,dO];omega
theorem zu(l:List UInt8)(k:Nat)(h:k<l.length):(iI l k)[k]'(by rw[sL];exact h)=l[k]:=by
 unfold iI;simp[dO,cx (Nat.le_of_lt h)]
theorem EW(l:List UInt8)(k:Nat)(h:k<l.length):iI l (k+1)=(iI l k).set k (qP l[k]):=by
 unfold iI;rw[aE h,zS];have O:(dO (l.take k)).length=k:=by rw[fx];simp;omega
 rw[List.set_append_right _ _ (by omega),O,Nat.sub_self,aT];rw[aV h];rfl
theorem HJ(l:List UInt8):iI l l.length=dO l:=by simp[iI]
theorem Ec(l:List UInt8):iI l 0=l:=by simp[iI,dO]
theorem drawn_setCell(w:World)(a:Addr)(v:Value):(w.setCell a v).drawn=w.drawn:=by
 unfold en;split <;>(try split) <;>(try split)<;>rfl
theorem sO(s:ByteArray)(w:World)(hs:s.size<=1099511627776) :
  cH prog 50 #[.string s] w λe w'=>e=.returned (.string ⟨(dO s.data.toList).toArray⟩)/\Below w.heap.size w w'/\w.drawn<=w'.drawn:=by
 have ab:=Lib.run_convert_string_bytes (P:=prog) w 9 60 5 s gx gt gy;go_enter func50,ntmps50;obtain⟨W0,O⟩:∃W0,Lib.bytesWorld w 5 s=W0:=⟨_,rfl⟩
 have hb0:Below w.heap.size w W0:=by
  subst O;exact⟨rfl,rfl,rfl,by rw[e8];omega,λk hk=>Lib.bytesWorld_at_old w _ s k hk⟩
 have hd0:w.drawn<=W0.drawn:=by subst O;exact Nat.le_succ _
 have hz0:w.heap.size<W0.heap.size:=by subst O;rw[e8];omega
 have hA0:rD W0 w.heap.size (iI s.data.toList 0):=by
  rw[Ec];intro j hj;have ac:j<s.size:=by simpa using hj
  subst O;refine⟨?_,?_⟩;rw[Lib.bytesWorld_cell w _ s j ac,a7,a9 hj];rfl;simp[er,Lib.bytesWorld_at_new];intro h;simp[Lib.bytesCells]at h;omega
 rw[O]at ab;clear O;go_wp2;go_loopw [10] (λi wr=>∃k:Nat,k<=s.size/\i=.int .i64 k/\rD wr w.heap.size (iI s.data.toList k)/\Below w.heap.size w wr/\w.heap.size<wr.heap.size/\w.drawn<=wr.drawn) (λi _=>s.size-(intOf i).toNat)
 case atStart=>exact⟨0,ch _,rfl,hA0,hb0,hz0,hd0⟩
 case round=>
  obtain⟨k,hk,rfl,hA,hb,hz,hd⟩:=hrel;have HD:ga (w.drawn<=wr.drawn):=hd;clear hd;by_cases ad:k<s.size
  .have W:k<s.data.toList.length:=by simpa using ad
   obtain⟨hc,hf⟩:=hA k (by rw[sL];exact W);rw[zu _ _ W]at hc;have HE:ga (iI s.data.toList (k+1)=(iI s.data.toList k).set k (qP s.data.toList[k])):=EW _ _ W;have HG:ga (s.data.toList.length=s.size):=by show _=_;simp
   have aa:ga ((iI s.data.toList k)[k]'(by rw[sL];exact W)=s.data.toList[k]):=zu _ _ W;have HA:ga (rD wr w.heap.size (iI s.data.toList k)):=hA;generalize s.data.toList[k]=c at *;clear hA;by_cases U:65<=c.toNat/\c.toNat<=90
   .have h1:65<=(c.toNat:Int):=by omega
    have h2:(c.toNat:Int)<=90:=by omega
    have HL:ga (((qP c).toNat:Int)=(c.toNat:Int)+32):=JE _ U;clear U;go_wp2;go_roundw
    case rel=>exact⟨k+1,by omega,by go_num,by rw[HE.out];exact HA.out.set k _ _ (by rw[HL.out];go_num),h' hb (cg _) _,by simpa[en]using hz,by rw[drawn_setCell];exact HD.out⟩
    case measure=>simp[intOf];omega
   have HL:ga (qP c=c):=JU _ U;have ae:(c.toNat:Int)<65\/90<(c.toNat:Int):=by omega
   have HS:ga (iI s.data.toList (k+1)=iI s.data.toList k):=by
    show _=_;rw[HE.out,HL.out,<-aa.out];simp
   clear U;rcases ae with h1|h1
   all_goals
    go_wp2;go_roundw
    case rel=>exact⟨k+1,by omega,by go_num,by rw[HS.out];exact HA.out,hb,hz,HD.out⟩
    case measure=>simp[intOf];omega
  have ek:k=s.size:=by omega
  subst ek;have W:(dO s.data.toList).length=s.size:=by rw[fx];simp
  have e1:iI s.data.toList s.size=dO s.data.toList:=by
   have:s.size=s.data.toList.length:=by simp
   rw[this,HJ]
  rw[e1]at hA
  have Y:=run_convert_bytes_back (P:=prog) wr 60 9 5 ⟨w.heap.size,0,none⟩ (grownCap w s.size 0 5) (dO s.data.toList) gt gy gx (λj hj=>by
   have:=(hA j hj).1
   have e2:(⟨w.heap.size,0,none⟩:Addr).add j=⟨w.heap.size,j,none⟩:=by
    unfold gg;split;rename_i h;rw[h];simp
   rw[e2];exact this)
  rw[W]at Y;clear W e1;go_wp2;go_ret;exact⟨rfl,hb,HD.out⟩
theorem oL(s:ByteArray)(w:World)(O:s.size<=1099511627776) :
  cH prog 50 #[.string s] w λe w'=>e=.returned (.string ⟨(dO s.data.toList).toArray⟩)/\Below w.heap.size w w':=(sO s w O).mono λ_ _ h=>⟨h.1,h.2.1⟩
def sW(O:List (List Wd))(s:List UInt8):Nat×List (List Wd):=
 if eu s=true/\s≠[]then
  if 60<(eJ (O++[iN (dO s)])).length then(4,O)else(0,O++[iN (dO s)])
 else(2,O)
def uT(O:List (List Wd))(s:List UInt8)(most:Int):List Wd×Nat:=
 if most<1\/20<most then([],3)else if eu s=true then(iJ O (iN (dO s)) most.toNat,0)else([],2)
def Nb(w:World):Prop:=w.cell? ⟨0,0,none⟩=some (.int .u64 4)/\w.cell? ⟨0,1,none⟩=some (.int .u64 10)/\w.cell? ⟨0,2,none⟩=some (.int .u64 25)
theorem Nb.below{w w':World}(h:Nb w)(hb:Below w.heap.size w w'):Nb w':=⟨cI hb h.1,cI hb h.2.1,cI hb h.2.2⟩
open Go.Maps
variable {D:DataW Value} {m:List (Wd×Value)} {r:Nat} {row:Option Nat} {e t:cG} {w':World}
def lh(v:Value):Option (DataW Value×List MemPlace):=some (.held v,[])
structure Ow(D:DataW Value)(l:List (Wd×Value)):Prop where
 nodup:(l.map hO).Nodup
 short:∀p∈l,p.1.length<=cF
 size:hE D=l.length
 has:∀x:Wd,hI D (.string x)=l.any λp=>p.1==x
 at_:∀p∈l,∀z,D.atKey (.string p.1) z=.held p.2
def dL(P:Program)(k:cG)(w:World)(B:Nat)(l:List (Wd×Value)):Prop:=∃D:DataW Value,w.ownsMap P k lh B l.length D/\Ow D l
def rp(l:List (Wd×Value))(x:Wd)(v:Value):List (Wd×Value):=(l.filter λp=>p.1 != x)++[(x,v)]
theorem Gg{α:Type}{l m:List α}(h:l.Perm m)(f:α->Bool):l.any f=m.any f:=by
 rw[c5];simp only[bB];exact⟨λ⟨x,O,U⟩=>⟨x,h.mem_iff.1 O,U⟩,λ⟨x,O,U⟩=>⟨x,h.mem_iff.2 O,U⟩⟩
theorem Ow.perm{l:List (Wd×Value)}(h:Ow D l)(O:l.Perm m):Ow D m where
 nodup:=(O.map hO).nodup_iff.1 h.nodup
 short:=λp hm=>h.short p (O.mem_iff.2 hm);size:=by rw[h.size,O.length_eq]
 has:=λx=>by rw[h.has x,Gg O]
 at_:=λp hm=>h.at_ p (O.mem_iff.2 hm)
theorem zg{P:Program}{k:cG}{w:World}{B n:Nat}{R:Value->Option (DataW Value×List MemPlace)}(h:w.ownsMap P k R B n D):w.ownsMap P k R B (hE D) D:=by
 obtain⟨es,clock,hb,F,_,rfl⟩:=h;exact⟨es,clock,hb,F,by simp[hE,length_sorted],rfl⟩
section
variable {P:Program} {k:cG} {w:World} {B:Nat} {l:List (Wd×Value)}
theorem dL.perm(h:dL P k w B l)(O:l.Perm m):dL P k w B m:=by
 obtain⟨D,U,W⟩:=h;exact⟨D,by rw[<-O.length_eq];exact U,W.perm O⟩
theorem dL.lt(h:dL P k w B l):B<w.heap.size:=by
 obtain⟨D,O,_⟩:=h;exact O.lt
theorem dL.nodup(h:dL P k w B l):(l.map hO).Nodup:=by
 obtain⟨D,_,O⟩:=h;exact O.nodup
theorem dL.stay(h:dL P k w B l)(hb:w'.heap[B]?=w.heap[B]?):dL P k w' B l:=by
 obtain⟨D,⟨es,clock,O,U⟩,W⟩:=h;exact⟨D,⟨es,clock,hb.trans O,U⟩,W⟩
theorem dL.below(h:dL P k w B l)(hb:Below w.heap.size w w'):dL P k w' B l:=h.stay (hb.block B h.lt)
theorem dL.kept(h:dL P k w B l)(U:w.grownBy w' row)(O:some B≠row):dL P k w' B l:=h.stay (U.block B h.lt O)
theorem dL.made(w:World):dL P k (w.alloc (.map #[] 0)) w.heap.size []:=
 ⟨.map [],World.ownsMap_made ..,⟨List.Pairwise.nil,nofun,rfl,λ_=>rfl,nofun⟩⟩
theorem JS(O:P.underlying k=some .string)(x:Wd)(U:x.length<=cF):keyOf P k (.string ⟨x.toArray⟩)=some (.string x):=by
 have:=WideMaps.keyOf_string_mk (P:=P) (k:=k) O (s:=⟨x.toArray⟩) (by show x.toArray.size<=cF;simpa using U);simpa using this
def mF(l:List (Wd×Value))(x:Wd)(z:Value):Value:=match l.find? λp=>p.1==x with
 |some p=>p.2|none=>z
theorem dL.look{z:Value}(h:dL P k w B l)(hk:P.underlying k=some .string)(ht:P.underlying t=some (.map k e))(hz:(zeroValue e).run P w=.ok z w)(x:Wd)(hx:x.length<=cF) :
  (Instr.lookup t (.map (some B)) (.string ⟨x.toArray⟩) false).run P w=.ok (mF l x z) w/\(Instr.lookup t (.map (some B)) (.string ⟨x.toArray⟩) true).run P w=.ok (.tuple #[mF l x z,.bool (l.any λp=>p.1==x)]) w:=by
 obtain⟨D,h1,O⟩:=h;have K:=hD hk;have gK:=JS hk x hx;obtain⟨v1,p1,r1,U⟩:=h1.lookup K ht hz (zd:=.held z) (zp:=[]) rfl gK;obtain⟨v2,p2,r2,W⟩:=h1.look_ok K ht hz (zd:=.held z) (zp:=[]) rfl gK
 have Y:D.atKey (.string x) (.held z)=.held (mF l x z):=by
  unfold mF
  cases hf:l.find? _ with
  |none=>
   have:hI D (.string x)=false:=by
    rw[O.has x,b8];intro p hp;simpa using List.find?_eq_none.1 hf p hp
   exact atKey_of_not_has this _
  |some p=>
   have hp:=List.mem_of_find?_eq_some hf;have he:=by simpa using List.find?_some hf
   have:=O.at_ p hp (.held z);rw[he]at this;exact this
 rw[Y]at U W;simp only[lh,cX,Prod.mk.injEq,DataW.held.injEq]at U W;rw[r1,r2,U.1,W.1,O.has x];exact⟨rfl,rfl⟩
theorem dL.len(h:dL P k w B l)(U:P.underlying t=some (.map k e))(O:cG):(ej #[t] O #[.map (some B)]).run P w=.ok (.int .i64 (l.length:Nat)) w:=by
 obtain⟨D,W,Y⟩:=h;rw[W.len U O,Y.size]
theorem FR(l:List (Wd×Value))(x y:Wd)(U:y≠x):(l.filter λp=>p.1 != x).any (λp=>p.1==y)=l.any λp=>p.1==y:=by
 rw[c5];simp only[bB,a8,beq_iff_eq,bne_iff_ne];constructor;rintro⟨p,⟨W,_⟩,O⟩;exact⟨p,W,O⟩;rintro⟨p,W,O⟩;exact⟨p,⟨W,by rw[O];exact U⟩,O⟩
theorem Pf(x:Wd):∀(l:List (Wd×Value)),(l.map hO).Nodup->(l.filter λp=>p.1 != x).length+(if l.any (λp=>p.1==x)then 1 else 0)=l.length:=by
 intro l;induction l with
 |nil=>intro _;rfl|cons p l W=>
  intro O;rw[aG,bf]at O;have h:=W O.2;by_cases e:p.1=x
  have U:l.any (λp=>p.1==x)=false:=by
   rw[b8];intro q Y;simp only[beq_iff_eq];intro e2;exact O.1 (aF.2 ⟨q,Y,by rw[e2,e]⟩)
  rw[U]at h;simp[e]at h⊢;exact h;rw[br,List.any_cons];simp only[bne_iff_ne,ne_eq,e,not_false_eq_true,if_true,aC];have:(p.1==x)=false:=by simpa using e
  rw[this,cE];omega
theorem dL.put(h:dL P k w B l)(hk:P.underlying k=some .string)(ht:P.underlying t=some (.map k e))(hn:l.length<cF)(x:Wd)(hx:x.length<=cF)(v:Value) :
  ∃w',(Instr.mapUpdate t (.map (some B)) (.string ⟨x.toArray⟩) v).run P w=.ok () w'/\dL P k w' B (rp l x v)/\w.grownBy w' (some B)/\w'.heap.size=w.heap.size:=by
 obtain⟨D,h1,O⟩:=h;have K:=hD hk;have gK:=JS hk x hx;obtain⟨w',hr,ho,U⟩:=h1.store K ht hn gK (d:=.held v) (ps:=[]) (val:=v) rfl;have hT:=h1.tidy K
 have W:hE (D.put (.string x) (.held v))=(rp l x v).length:=by
  rw[size_put hT,O.has x,O.size];have:=Pf x l O.nodup;unfold rp;rw[aB,List.length_singleton];split at this<;>rename_i hh;rw[if_pos hh];omega;rw[if_neg hh];omega
 refine⟨w',hr,⟨_,by rw[<-W];exact zg ho,⟨?_,?_,W,?_,?_⟩⟩,U.grown,?_⟩;unfold rp;rw[aX,aG,bn,bp];refine⟨O.nodup.sublist ((bj).map _),by simp,?_⟩;intro a ha b hb;simp only[aI]at hb;subst hb;obtain⟨p,Y,rfl⟩:=aF.1 ha;have:=(a8.1 Y).2;simpa using this;intro p Y;rcases aH.1 Y with h|h
 exact O.short p (a8.1 h).1;simp only[aI]at h;subst h;exact hx;intro y;unfold rp;rw[List.any_append];by_cases e:y=x;subst e;rw[has_put_same h1.isMap (show WideAt.IsKeyLit (.string y)from trivial)];simp;rw[has_put_other (by simpa using e),O.has y,FR l x y e];have:(x==y)=false:=by simpa using λh=>e h.symm
 simp[this];intro p Y z;rcases aH.1 Y with h|h
 have hm:=a8.1 h;have ab:=by simpa using hm.2
 rw[atKey_put_other (by simpa using ab)];exact O.at_ p hm.1 z;simp only[aI]at h;subst h;rw[atKey_put_same h1.isMap (show WideAt.IsKeyLit (.string x)from trivial)];obtain⟨es,clock,ac,aa,_,rfl⟩:=U;simp[ChangeMaps.setBlock]
def ew(P:Program)(k:cG)(w:World)(B r:Nat)(l rest:List (Wd×Value)):Prop:=
 (rest.map hO).Nodup/\(∀p∈rest,p∈l)/\∃D left cnt,w.ranges P k lh B r l.length D left cnt/\Ow D l/\∀x:Wd,left (.string x)=rest.any λp=>p.1==x
theorem ew.owns{rest:List (Wd×Value)}(h:ew P k w B r l rest):dL P k w B l:=by
 obtain⟨_,_,D,left,cnt,O,U,_⟩:=h;exact⟨D,O.owns,U⟩
theorem ew.lt{rest:List (Wd×Value)}(h:ew P k w B r l rest):r<w.heap.size:=by
 obtain⟨_,_,D,left,cnt,O,U,_⟩:=h;exact O.lt
theorem ew.kept{rest:List (Wd×Value)}(h:ew P k w B r l rest)(O:w.grownBy w' row)(U:some B≠row)(W:some r≠row):ew P k w' B r l rest:=by
 obtain⟨a,b,D,left,cnt,Y,h2,h3⟩:=h;exact⟨a,b,D,left,cnt,Y.kept O U W,h2,h3⟩
theorem ew.jJ(O:w'.heap[B]?=w.heap[B]?)(U:w'.heap[r]?=w.heap[r]?):w'.rangeLeft B r=w.rangeLeft B r:=by
 unfold World.rangeLeft;rw[O,U]
theorem dL.range(h:dL P k w B l)(U:P.underlying k=some .string)(W:P.underlying t=some (.map k e)) :
  ∃w',(Instr.range t (.map (some B))).run P w=.ok (.pointer (some ⟨w.heap.size,0,none⟩)) w'/\ew P k w' B w.heap.size l l/\w.grownBy w' none/\w'.heap.size=w.heap.size+1:=by
 obtain⟨D,Y,O⟩:=h;obtain⟨w',hr,r1,r2,r3⟩:=Y.range (hD U) W;exact⟨w',hr,⟨O.nodup,λ_ h=>h,D,_,_,r1,O,O.has⟩,r2,r3⟩
theorem J3(U:P.underlying k=some .string){key:Value}{O:Lit}(h:keyOf P k key=some O):∃x:Wd,key=.string ⟨x.toArray⟩/\O=.string x:=by
 cases key<;>simp[keyOf,U,mapKey]at h;rename_i s;refine⟨s.data.toList,?_,h.2.symm⟩;simp
theorem R9:∀{l:List (Wd×Value)},(l.map hO).Nodup->∀{a b:Wd×Value},a∈l->b∈l->a.1=b.1->a=b:=by
 intro l;induction l with
 |nil=>intro _ a b h;simp at h|cons c l W=>
  intro O a b U hb e;rw[aG,bf]at O;rcases aA.1 U with ea|U
  rcases aA.1 hb with eb|hb
  rw[ea,eb];exact absurd (aF.2 ⟨b,hb,by rw[<-e,ea]⟩) O.1;rcases aA.1 hb with eb|hb
  exact absurd (aF.2 ⟨a,U,by rw[e,eb]⟩) O.1;exact W O.2 U hb e
theorem ew.next{rest:List (Wd×Value)}(h:ew P k w B r l rest)(hk:P.underlying k=some .string)(ty:cG) :
  (rest=[]/\(Instr.next (.pointer (some ⟨r,0,none⟩)) false ty).run P w=.ok (.tuple #[.bool false]) w)\/
  ∃p O w',rest.Perm (p::O)/\(Instr.next (.pointer (some ⟨r,0,none⟩)) false ty).run P w=.ok (.tuple #[.bool true,.string ⟨p.1.toArray⟩,p.2]) w'/\ew P k w' B r l O/\w'.rangeLeft B r<w.rangeLeft B r/\
   w.grownBy w' (some r)/\w'.heap.size=w.heap.size/\(Instr.entry (.pointer (some ⟨r,0,none⟩))).run P w'=.ok (.tuple #[.string ⟨p.1.toArray⟩,p.2]) w':=by
 obtain⟨hn,U,D,left,cnt,h1,h2,h3⟩:=h;rcases h1.next (hD hk) ty with⟨_,hl,hr⟩|⟨key,v,kl,y,w',aa,gK,ad,hv,ae,hr,ab,af,hg,hs,ag⟩
 left;refine⟨?_,hr⟩
 cases rest with
 |nil=>rfl|cons p rest=>
  have:=hl (.string p.1);rw[h3]at this;simp at this
 right;obtain⟨x,rfl,rfl⟩:=J3 hk gK;have hx:=ad;rw[h3,bB]at hx;obtain⟨p,hp,Y⟩:=hx;have Y:=by simpa using Y
 subst Y
 have ah:=by
  have e1:=h2.at_ p (U p hp) (.held v);rw[ae]at e1;simp only[lh,cX]at hv;rw[<-hv]at e1;simpa using e1
 subst ah;refine⟨p,rest.filter λq=>q.1 != p.1,w',?_,hr,⟨?_,?_,D,_,aa,ab,h2,λx=>?_⟩,?_,hg,hs,ag⟩;have ac:rest.Nodup:=fb _ (λa b ai e=>ai (by rw[e])) hn;rw[b6 ac];intro q;simp only[aA,a8,bne_iff_ne];constructor;intro W;by_cases e:q.1=p.1;left;exact R9 hn W hp e;right;exact⟨W,e⟩;rintro(rfl|⟨W,_⟩);exact hp;exact W;rw[bf];refine⟨λh=>?_,ac.sublist bj⟩;have:=(a8.1 h).2;simp at this;exact hn.sublist (bj.map _);exact λq W=>U q (a8.1 W).1;rw[h3];by_cases e:x=p.1;subst e;have:(Lit.string p.1).sameKey (.string p.1)=true:=by simp[Lit.sameKey]
 rw[this];simp only[Bool.not_true,Bool.and_false];symm;rw[b8];intro q W;have:=(a8.1 W).2;simpa using this;have:(Lit.string x).sameKey (.string p.1)=false:=by simp[Lit.sameKey,e]
 rw[this,FR rest _ x e];simp;rw[ab.left_eq,h1.left_eq];exact af
end
section
variable {P:Program} {k:cG} {B:Nat} {l:List (Wd×Value)} (w:World) {ops:Array Oper} {rest:List Oper} {o:Oper} {a:Act} {Q:Exit->Act->World->Prop}
theorem A6(Y:o.guard=none)(m:Operand)(t:cG)(U:o.op=Op.range t m)(e:cG)(hk:P.underlying k=some .string)(ht:P.underlying t=some (.map k e))
  (hm:a.eval m=.map (some B)) (h:dL P k w B l)
  (hK:∀w',ew P k w' B w.heap.size l l->w.grownBy w' none->w'.heap.size=w.heap.size+1->cJ P ops Q rest (a.put o.dst (.pointer (some ⟨w.heap.size,0,none⟩))) w') :
  cJ P ops Q (o::rest) a w:=by
 refine cK Y λK' W=>?_;obtain⟨w',O,r1,r2,r3⟩:=h.range hk ht;unfold Oper.wp;simp[cQ,U,hm,O,gl];exact W _ _ (hK w' r1 r2 r3)
theorem Cl(hg:o.guard=none)(it:Operand)(Y:o.op=Op.next it false)(hk:P.underlying k=some .string)(r:Nat)(left:List (Wd×Value))
  (aa:a.eval it=.pointer (some ⟨r,0,none⟩)) (h:ew P k w B r l left)
  (W:left=[]->cJ P ops Q rest (a.put o.dst (.tuple #[.bool false])) w)
  (hMore:∀p O w',left.Perm (p::O)->ew P k w' B r l O->w'.rangeLeft B r<w.rangeLeft B r->w.grownBy w' (some r)->w'.heap.size=w.heap.size->(Instr.entry (.pointer (some ⟨r,0,none⟩))).run P w'=.ok (.tuple #[.string ⟨p.1.toArray⟩,p.2]) w'->
    cJ P ops Q rest (a.put o.dst (.tuple #[.bool true,.string ⟨p.1.toArray⟩,p.2])) w') :
  cJ P ops Q (o::rest) a w:=by
 refine cK hg λK' ab=>?_;unfold Oper.wp;rcases h.next hk o.type with⟨h0,U⟩|⟨p,O,w',hp,U,ac,ad,ae,af,ag⟩
 simp[cQ,Y,aa,U,gl];exact ab _ _ (W h0);simp[cQ,Y,aa,U,gl];exact ab _ _ (hMore p O w' hp ac ad ae af ag)
theorem jC(Y:o.guard=none)(m x v:Operand)(t:cG)(U:o.op=Op.mapUpdate t m x v)(e:cG)(hk:P.underlying k=some .string)(ht:P.underlying t=some (.map k e))
  (hm:a.eval m=.map (some B)) (h:dL P k w B l) (hn:l.length<cF) (y:Wd) (hy:y.length<=cF) (hx:a.eval x=.string ⟨y.toArray⟩) (u:Value) (hv:a.eval v=u)
  (hK:∀w',dL P k w' B (rp l y u)->w.grownBy w' (some B)->w'.heap.size=w.heap.size->cJ P ops Q rest (a.put o.dst undef) w') :
  cJ P ops Q (o::rest) a w:=by
 refine cK Y λK' W=>?_;obtain⟨w',O,r1,r2,r3⟩:=h.put hk ht hn y hy u;unfold Oper.wp;simp[cQ,U,hm,hx,hv,O,gl];exact W _ _ (hK w' r1 r2 r3)
end
end
section
open Go.RowKit
variable {n:Nat} {bs r:Wd}
def pC(n:Nat)(bs:Wd):Option (Wd×Wd):=if n<=bs.length then some (bs.take n,bs.drop n)else none
def rdNum:Wd->Option (Nat×Wd)
 |[]=>none|b::r=>some (b.toNat,r)
def j8(bs:Wd):Option (Wd×Wd):=(rdNum bs).bind λx=>pC x.1 x.2
def iu:Wd->Option (Nat×Wd)
 |a::b::c::r=>some (a.toNat*65536+b.toNat*256+c.toNat,r)|_=>none
def nC(ks:List Wd)(last bs:Wd):Option (Wd×Wd):=
 (j8 bs).bind λx=>if iU x.1=true/\cW last x.1=true/\x.1 ∉ ks then some x else none
def ki(O bs:Wd):Option (dq×Wd):=
 (j8 bs).bind λx=>if eu x.1=true/\x.1≠[]then(iu x.2).bind λy=>if y.1<=1000000 then(rdNum y.2).bind λz=>some (⟨O,false,x.1,y.1,z.1⟩,z.2)else none else none
def uV:Nat->Wd->List Wd->Wd->Wd->Option (List dq×Wd)
 |0,_,_,_,bs=>some ([],bs)|n+1,path,ks,last,bs=>(nC ks last bs).bind λx=>(ki x.1 x.2).bind λy=>if dE y.1=path then(uV n path (ks++[x.1]) x.1 y.2).bind λz=>some (y.1::z.1,z.2)else none
def uL(node:Wd->List Wd->Wd->Option (Nat×List dq×Wd)):Nat->Wd->List Wd->Int->Wd->Option (Nat×List dq×Wd)
 |0,_,_,_,bs=>some (0,[],bs)|n+1,path,ks,last,bs=>(j8 bs).bind λx=>if x.1≠[]/\last<((x.1.getD 0 0).toNat:Int)then
   (node (path++x.1) ks x.2).bind λy=>(uL node n path (ks++y.2.1.map dq.name) ((x.1.getD 0 0).toNat:Int) y.2.2).bind λz=>some (max y.1 z.1,y.2.1++z.2.1,z.2.2)else none
def sS:Nat->Wd->List Wd->Wd->Option (Nat×List dq×Wd)
 |0,_,_,_=>none|f+1,path,ks,bs=>if path.length<=24 then
   (iu bs).bind λa=>(rdNum a.2).bind λb=>(uV b.1 path ks [] b.2).bind λc=>(rdNum c.2).bind λd=>(uL (sS f) d.1 path (ks++c.1.map dq.name) (-1) d.2).bind λe=>
    if(a.1:Int)=max (gP c.1) e.1/\(path=[]\/0<b.1\/1<d.1)then some (a.1,c.1++e.2.1,e.2.2)else none
  else none
def vq:Nat->List Wd->Wd->Wd->Option (List dq×Wd)
 |0,_,_,bs=>some ([],bs)|n+1,ks,last,bs=>(nC ks last bs).bind λx=>(vq n (ks++[x.1]) x.1 x.2).bind λz=>some (⟨x.1,true,[],0,0⟩::z.1,z.2)
def Kj(bs:Wd):Option (List dq×List dq):=
 (rdNum bs).bind λa=>(vq a.1 [] [] a.2).bind λb=>(j8 b.2).bind λc=>if c.1=[]then(sS 26 [] (b.1.map dq.name) c.2).bind λd=>
  if d.2.2=[]/\0<b.1.length+d.2.1.length/\a.1<=100/\d.2.1.length<=30 then some (b.1,d.2.1)else none else none
theorem Jy(b:UInt8):u8 (b.toNat:Int)=b:=by
 have h:=b.toNat_lt;unfold u8;rw[show((b.toNat:Int) % 256).toNat=b.toNat by omega];simp
theorem sX(n:Nat)(h:n<256):(u8 (n:Int)).toNat=n:=by
 unfold u8;simp;omega
theorem ij(h:rdNum bs=some (n,r)):bs=u8 n::r/\n<256:=by
 cases bs with
 |nil=>simp[rdNum]at h|cons b t=>
  obtain⟨rfl,rfl⟩:=h;exact⟨by rw[Jy],b.toNat_lt⟩
theorem rm(n:Nat)(h:n<256)(r:Wd):rdNum (u8 n::r)=some (n,r):=by simp[rdNum,sX n h]
theorem iy{t:Wd}(h:j8 bs=some (t,r)):bs=dJ t++r/\t.length<256:=by
 unfold j8 at h
 cases O:rdNum bs with
 |none=>rw[O]at h;simp at h|some x=>
  obtain⟨n,b⟩:=x;obtain⟨rfl,U⟩:=ij O;rw[O]at h;simp only[c0,pC]at h;split at h;obtain⟨rfl,rfl⟩:=h;have W:(b.take n).length=n:=by simp;omega
  refine⟨?_,by omega⟩;unfold dJ;rw[W,aS,bo];simp at h
theorem mM(t r:Wd)(h:t.length<256):j8 (dJ t++r)=some (t,r):=by
 unfold j8 dJ;rw[aS,rm _ h];simp[pC]
theorem vj(n:Nat)(h:n<16777216):ik (n:Int)=[u8 ((n / 65536:Nat):Int),u8 ((n / 256 % 256:Nat):Int),u8 ((n % 256:Nat):Int)]:=by
 rfl
theorem jQ(h:iu bs=some (n,r)):bs=ik n++r/\n<16777216:=by
 match bs,h with
 |a::b::c::t,h=>
  obtain⟨rfl,rfl⟩:=h;have O:=a.toNat_lt;have hb:=b.toNat_lt;have U:=c.toNat_lt;refine⟨?_,by omega⟩;rw[vj _ (by omega)];rw[show(a.toNat*65536+b.toNat*256+c.toNat) / 65536=a.toNat by omega,show(a.toNat*65536+b.toNat*256+c.toNat) / 256 % 256=b.toNat by omega,show(a.toNat*65536+b.toNat*256+c.toNat) % 256=c.toNat by omega,Jy,Jy,Jy];rfl
 |[],h=>simp[iu]at h|[_],h=>simp[iu]at h|[_,_],h=>simp[iu]at h
theorem qC(n:Nat)(h:n<16777216)(r:Wd):iu (ik n++r)=some (n,r):=by
 rw[vj n h];simp only[aS,aL,iu];rw[sX _ (by omega),sX _ (by omega),sX _ (by omega)];congr 2;omega
theorem vR(l:List dq):∀g:Int,0<=g->l.foldl (λg e=>if g<e.dp then e.dp else g) g=max g (gP l)/\0<=gP l:=by
 induction l with
 |nil=>simp[gP];omega|cons e l O=>
  intro g hg;have U:=O (if g<e.dp then e.dp else g) (by split<;>omega);have W:=O (if 0<e.dp then e.dp else 0) (by split<;>omega);have Y:gP (e::l)=l.foldl .. := rfl;rw[Y,aZ,U.1,W.1];constructor;split<;>split<;>omega;split<;>omega
theorem nM(l:List dq):0<=gP l:=(vR l 0 (by omega)).2
theorem kF(e:dq)(l:List dq):gP (e::l)=max (max 0 e.dp) (gP l):=by
 have:=(vR l (if 0<e.dp then e.dp else 0) (by split<;>omega)).1;rw[show gP (e::l)=l.foldl .. from rfl,this];split<;>omega
theorem ol(l m:List dq):gP (l++m)=max (gP l) (gP m):=by
 induction l with
 |nil=>have:=nM m;simp only[aL];rw[show gP []=0 from rfl];omega|cons e l O=>rw[aS,kF,kF];omega
theorem BB{l m:List dq}(h:l.Perm m):gP l=gP m:=by
 induction h with
 |nil=>rfl|cons e _ O=>rw[kF,kF,O]|swap a b l=>simp only[kF];omega|trans _ _ U W=>rw[U,W]
def Ke(e:dq):Prop:=e.gone=false/\iU e.name=true/\eu e.text=true/\e.text≠[]/\0<=e.dp/\e.dp<=1000000/\0<=e.dA/\e.dA<=255
theorem oe{ks:List Wd}{last O:Wd}(h:nC ks last bs=some (O,r)):bs=dJ O++r/\iU O=true/\cW last O=true/\O ∉ ks:=by
 obtain⟨x,U,h⟩:=c4.1 h;split at h;rename_i W;simp only[cX]at h;subst h;exact⟨(iy U).1,W⟩;simp at h
theorem bytes_eta(s:ByteArray):s=⟨s.data.toList.toArray⟩:=by simp
def js(O:List dq)(ss:List (List dq))(name text:Wd)(dp dA:Int):Nat×List dq:=
 if iU name=true then
  if eu text=true/\text≠[]then
   if dp<0\/1000000<dp\/dA<0\/255<dA then(3,O)
   else if 30<=(eO ss O).length/\qk (eO ss O) name=none then(4,O)
   else(0,dH O [⟨name,false,text,dp,dA⟩])
  else(2,O)
 else(1,O)
variable {l:List dq} {c:UInt8} {path:Wd}
def Part(f:Nat)(path:Wd)(x:UInt8×List dq):Wd:=dJ ((mK x.2).drop path.length)++nz f (mK x.2) (fo x.2)
def Ol(O:List (UInt8×List dq)):Prop:=O.Pairwise λa b=>a.1.toNat<b.1.toNat
def BJ(path:Wd)(O:List (UInt8×List dq)):Prop:=∀x∈O,x.2≠[]/\∀e∈x.2,path++[x.1] <+: dE e
def nA(O:List (UInt8×List dq)):List dq:=O.flatMap λx=>x.2
theorem zw(h:∀e∈l,¬path++[c] <+: dE e):jL l path c=[]:=by
 unfold jL;rw[bw];intro e O hb;exact h e O ((nj ..).1 hb)
theorem QJ(h:∀e∈l,path++[c] <+: dE e):jL l path c=l:=by
 unfold jL;rw[bF];intro e O;exact(nj ..).2 (h e O)
theorem ID(l m:List dq)(path:Wd)(c:UInt8):jL (l++m) path c=jL l path c++jL m path c:=by unfold jL;rw[aK]
theorem qE{s:Wd}{d:UInt8}(O:path++[c] <+: s)(U:path++[d] <+: s):c=d:=by
 rw[<-((jR ..).1 O).2.2,((jR ..).1 U).2.2]
theorem Nu(path:Wd):∀(O:List (UInt8×List dq)),BJ path O->∀c,(∀x∈O,x.1≠c)->jL (nA O) path c=[]:=by
 intro O W c Y;refine zw λe he hp=>?_;obtain⟨x,U,hm⟩:=bc.1 he;exact Y x U (qE ((W x U).2 e hm) hp)
theorem P5(path:Wd):∀(O:List (UInt8×List dq)),Ol O->BJ path O->∀x∈O,jL (nA O) path x.1=x.2:=by
 intro O;induction O with
 |nil=>intro _ _ x U;simp at U|cons y O ih=>
  intro hH hU x U;have W:=aD.1 hH;have Y:BJ path O:=λz hz=>hU z (by simp[hz]);rw[show nA _=y.2++nA O from rfl,ID];simp only[aA]at U;rcases U with rfl|U
  rw[QJ (hU x (by simp)).2,Nu path O Y _ (λz hz e=>by have:=W.1 z hz;rw[e]at this;omega),bv];rw[zw _,ih W.2 Y x U,aL];intro e he hp;have:=qE ((hU y (by simp)).2 e he) hp;have h2:=W.1 x U;rw[this]at h2;omega
theorem tz:kP.Pairwise λa b=>a.toNat<b.toNat:=by
 rw[bd];intro i j hi O U;rw[tF,tF];rw[Cq]at hi O;simp;omega
theorem BV(c:UInt8):c∈kP:=by
 exact aF.2 ⟨c.toNat,bl.2 c.toNat_lt,by simp⟩
theorem mL{cs:List UInt8}(h:cs.Pairwise λa b=>a.toNat<b.toNat):cs.Nodup:=h.imp (λh e=>by rw[e]at h;omega)
theorem CP(p:UInt8->Bool)(cs:List UInt8)(h:cs.Pairwise λa b=>a.toNat<b.toNat)(U:∀c,p c=true↔c∈cs):kP.filter p=cs:=by
 have O:=tz.filter p;refine fm (le:=λa b=>a.toNat<b.toNat) (λa b _ _ O W=>by omega) O h ?_;rw[b6 (mL O) (mL h)];intro c;rw[a8,<-U c];exact⟨λh=>h.2,λh=>⟨BV c,h⟩⟩
theorem PU(h:∀e∈l,dE e≠path):lz l path=[]:=by
 unfold lz;rw[bw];intro e O hb;exact h e O (beq_iff_eq.1 hb)
theorem Qu(h:∀e∈l,dE e=path):lz l path=l:=by
 unfold lz;rw[bF];intro e O;exact beq_iff_eq.2 (h e O)
theorem Od{O:List (UInt8×List dq)}(h:BJ path O):∀e∈nA O,dE e≠path:=by
 intro e U W;obtain⟨x,Y,hm⟩:=bc.1 U;have:=((jR ..).1 ((h x Y).2 e hm)).2.1;rw[W]at this;omega
theorem Rq(h:∀e∈l,dE e=path)(c:UInt8):jL l path c=[]:=
 zw λe O U=>by have:=((jR ..).1 U).2.1;rw[h e O]at this;omega
theorem IX(f:Nat)(path:Wd)(own:List dq)(O:List (UInt8×List dq))(h1:j0 own)(h2:∀e∈own,dE e=path)(Y:Ol O)(W:BJ path O) :
  nz (f+1) path (fo (own++nA O))=ik (gP (own++nA O))++(u8 own.length::(own.flatMap nE++(u8 O.length::O.flatMap (Part f path)))):=by
 have e1:lz (fo (own++nA O)) path=own:=by
  rw[lz,pL,aK];have a:=Qu h2;have b:=PU (Od W);unfold lz at a b;rw[a,b,bv,CQ own h1]
 have e2:∀c,jL (fo (own++nA O)) path c=fo (jL (nA O) path c):=by
  intro c;unfold jL;rw[pL,aK];have a:=Rq h2 c;unfold jL at a;rw[a,aL]
 have e3:jT (fo (own++nA O)) path=O.map (·.1):=by
  refine CP _ _ (bH.2 Y) (λc=>?_);rw[e2,aF];constructor;intro h;refine hC λaa=>?_;rw[Nu path O W c (λx U e=>aa ⟨x,U,e⟩)]at h;simp[fo]at h;rintro⟨x,U,rfl⟩;rw[P5 path O Y W x U];have:=(W x U).1;have hl:=M3 x.2
  cases hq:fo _ with
  |nil=>rw[hq]at hl;cases h:x.2 with
   |nil=>exact absurd h this|cons a b=>rw[h]at hl;simp at hl
  |cons a b=>rfl
 rw[nz,e1,e3,BB (fW _),cc,bY];congr 4;refine pX λx U=>?_;rw[e2,P5 path O Y W x U];unfold Part
 have:mK (fo _)=mK x.2:=H7 λs=>by
  rw[aF,aF];exact⟨λ⟨e,h,k⟩=>⟨e,mS.1 h,k⟩,λ⟨e,h,k⟩=>⟨e,mS.2 h,k⟩⟩
 rw[this]
def dW(l:List dq):Wd:=u8 ((fo l).filter λe=>e.gone).length::(((fo l).filter λe=>e.gone).flatMap (λe=>dJ e.name)++(dJ []++nz 26 [] ((fo l).filter λe=>!e.gone)))
def Qa(e:dq):Prop:=Ke e\/(e=⟨e.name,true,[],0,0⟩/\iU e.name=true)
structure n5(l:List dq):Prop where
 each:∀e∈l,Qa e
 nodup:(l.map dq.name).Nodup
 some:l≠[]
 gone:(l.filter λe=>e.gone).length<=100
 there:(l.filter λe=>!e.gone).length<=30
variable {e:dq} {G:List dq} {s:Wd}
theorem gN(h:iU s=true):0<s.length/\s.length<=8:=by
 unfold iU at h;simp only[c6,decide_eq_true_eq]at h;exact⟨h.1.2,h.2⟩
theorem jI(h:eu s=true):s.length<=24:=by
 unfold eu at h;simp only[c6,decide_eq_true_eq]at h;exact h.1
theorem wK(h:iU s=true):cW [] s=true:=by
 have:=(gN h).1
 cases s with
 |nil=>simp at this|cons a s=>rfl
theorem tu(h:Ke e):(dE e).length<=24/\0<(dE e).length:=by
 have O:=jI h.2.2.1;have U:=h.2.2.2.1;unfold dE;rw[fx];refine⟨O,?_⟩
 cases W:e.text with
 |nil=>exact absurd W U|cons a b=>simp
theorem tn{ks:List Wd}{last O:Wd}(r:Wd)(U:iU O=true)(W:cW last O=true)(Y:O ∉ ks):nC ks last (dJ O++r)=some (O,r):=by
 unfold nC;rw[mM O r (by have:=(gN U).2;omega)];simp[U,W,Y]
theorem G9(e:dq)(h:Ke e)(r:Wd):ki e.name (dJ e.text++(ik e.dp++(u8 e.dA::r)))=some (e,r):=by
 obtain⟨U,h2,O,W,Y,h6,h7,h8⟩:=h;obtain⟨nm,gn,tx,wt,tg⟩:=e;simp only at U h2 O W Y h6 h7 h8;subst U;obtain⟨n,rfl⟩:=dg Y;obtain⟨m,rfl⟩:=dg h7;have hw:n<=1000000:=by omega
 unfold ki;rw[mM tx _ (by have:=jI O;omega)];simp only[c0,O,W,ne_eq,not_false_eq_true,and_self,if_true];rw[qC n (by omega)];simp only[c0,hw,if_true];rw[rm m (by omega)];rfl
theorem DW(path:Wd):∀(es:List dq)(ks:List Wd)(last rest:Wd),(∀e∈es,Ke e/\dE e=path/\e.name ∉ ks/\cW last e.name=true)->j0 es->uV es.length path ks last (es.flatMap nE++rest)=some (es,rest):=by
 intro es;induction es with
 |nil=>intro ks last rest _ _;rfl|cons e es W=>
  intro ks last rest h Y;obtain⟨a1,a2,a3,a4⟩:=h e (by simp);have O:=aD.1 Y
  have e1:(e::es).flatMap nE++rest=dJ e.name++(dJ e.text++(ik e.dp++(u8 e.dA::(es.flatMap nE++rest)))):=by
   simp[nE]
  rw[e1,aC,uV,tn _ a1.2.1 a4 a3];simp only[c0];rw[G9 e a1];simp only[c0,a2,if_true];rw[W _ _ _ (λx U=>?_) O.2];rfl;obtain⟨b1,b2,b3,b4⟩:=h x (by simp[U]);refine⟨b1,b2,?_,O.1 x U⟩;intro hm;simp only[aH,aI]at hm;rcases hm with hm|hm
  exact b3 hm;exact BR (O.1 x U) hm.symm
theorem Es:∀(es:List dq)(ks:List Wd)(last rest:Wd),(∀e∈es,e=⟨e.name,true,[],0,0⟩/\iU e.name=true/\e.name ∉ ks/\cW last e.name=true)->j0 es->vq es.length ks last (es.flatMap (λe=>dJ e.name)++rest)=some (es,rest):=by
 intro es;induction es with
 |nil=>intro ks last rest _ _;rfl|cons e es W=>
  intro ks last rest h Y;obtain⟨a1,a2,a3,a4⟩:=h e (by simp);have O:=aD.1 Y;rw[aM,aT,aC,vq,tn _ a2 a4 a3];simp only[c0];rw[W _ _ _ (λx U=>?_) O.2];simp only[c0];rw[<-a1];obtain⟨b1,b2,b3,b4⟩:=h x (by simp[U]);refine⟨b1,b2,?_,O.1 x U⟩;intro hm;simp only[aH,aI]at hm;rcases hm with hm|hm
  exact b3 hm;exact BR (O.1 x U) hm.symm
theorem MP(h:(G.map dq.name).Nodup):G.Nodup:=fb _ (λa b O e=>O (by rw[e])) h
theorem jc{p:Wd}:e∈jL G p c↔e∈G/\p++[c] <+: dE e:=JD
theorem qd(G:List dq)(p:Wd):(jT G p).Pairwise λa b=>a.toNat<b.toNat:=tz.filter _
theorem uR{p:Wd}:c∈jT G p↔∃e∈G,p++[c] <+: dE e:=by
 unfold jT;rw[a8];constructor;rintro⟨_,h⟩
 cases O:jL G p c with
 |nil=>rw[O]at h;simp at h|cons e t=>
  have:=jc.1 (show e∈jL G p c by rw[O];simp);exact⟨e,this⟩
 rintro⟨e,U,W⟩;refine⟨BV c,?_⟩;have:=jc.2 ⟨U,W⟩
 cases O:jL G p c with
 |nil=>rw[O]at this;simp at this|cons e t=>rfl
theorem Hl{p:Wd}(h:G.Nodup):∀(cs:List UInt8),cs.Nodup->(cs.flatMap (jL G p)).Nodup:=by
 intro cs;induction cs with
 |nil=>simp|cons c cs U=>
  intro W;have O:=bf.1 W;rw[aM,bp];refine⟨h.filter _,U O.2,λa Y b hb e=>?_⟩;subst e;obtain⟨d,hd,hb⟩:=bc.1 hb;have:=qE (jc.1 Y).2 (jc.1 hb).2;subst this;exact O.1 hd
theorem Ib{p:Wd}(h:G.Nodup)(U:∀e∈G,p <+: dE e):(lz G p++(jT G p).flatMap (jL G p)).Perm G:=by
 rw[b6 _ h];intro e;rw[aH];constructor;rintro(h|h);exact(a8.1 h).1;obtain⟨c,_,h⟩:=bc.1 h;exact(jc.1 h).1;intro O;by_cases W:dE e=p;exact Or.inl (a8.2 ⟨O,beq_iff_eq.2 W⟩);have:=(jR ..).2 ⟨U e O,y6 (U e O) W,rfl⟩;exact Or.inr (bc.2 ⟨_,uR.2 ⟨e,O,this⟩,jc.2 ⟨O,this⟩⟩);rw[bp];refine⟨h.filter _,Hl h _ (mL (qd G p)),λa Y b hb e=>?_⟩;subst e;obtain⟨c,_,hb⟩:=bc.1 hb;have h1:=beq_iff_eq.1 (a8.1 Y).2;have h2:=((jR ..).1 (jc.1 hb).2).2.1;rw[h1]at h2;omega
theorem Ag(h:(G.map dq.name).Nodup){a b:dq}(O:a∈G)(hb:b∈G)(U:a.name=b.name):a=b:=by
 induction G with
 |nil=>simp at O|cons x G W=>
  rw[aG,bf]at h;simp only[aA]at O hb;rcases O with rfl|O<;>rcases hb with rfl|hb
  rfl;exact absurd (aF.2 ⟨b,hb,U.symm⟩) h.1;exact absurd (aF.2 ⟨a,O,U⟩) h.1;exact W h.2 O hb
theorem JJ{l:List dq}(h:∀e∈l,e.dp<=1000000):gP l<=1000000:=by
 induction l with
 |nil=>simp[gP]|cons e l O=>
  have W:=h e (by simp);have Y:=O (λx U=>h x (by simp[U]));rw[kF];omega
def RV(node:Wd->List Wd->Wd->Option (Nat×List dq×Wd))(f:Nat):Prop:=
 ∀(path:Wd)(ks:List Wd)(G:List dq)(rest:Wd),j0 G->(∀e∈G,Ke e/\path <+: dE e/\e.name ∉ ks)->G.length<=255->(path=[]\/(G≠[]/\mK G=path))->26<=f+path.length->
  ∃es,node path ks (nz f path G++rest)=some ((gP G).toNat,es,rest)/\es.Perm G
theorem DS{node:Wd->List Wd->Wd->Option (Nat×List dq×Wd)}{f:Nat}(hN:RV node f)(path:Wd)(G:List dq)(hG:j0 G)(ag:∀e∈G,Ke e)(hl:G.length<=255)(hf:25<=f+path.length) :
  ∀(cs:List UInt8)(ks:List Wd)(last:Int)(rest:Wd),(cs.Pairwise λa b=>a.toNat<b.toNat)->(∀c∈cs,c∈jT G path/\last<(c.toNat:Int))->(∀e∈cs.flatMap (jL G path),e.name ∉ ks)->
   ∃es,uL node cs.length path ks last (cs.flatMap (λc=>dJ ((mK (jL G path c)).drop path.length)++nz f (mK (jL G path c)) (jL G path c))++rest)=some ((gP (cs.flatMap (jL G path))).toNat,es,rest)/\es.Perm (cs.flatMap (jL G path)):=by
 intro cs;induction cs with
 |nil=>intro ks last rest _ _ _;exact⟨[],rfl,fr _⟩|cons c cs ih=>
  intro ks last rest hr hc hk;have aa:=aD.1 hr;obtain⟨ah,ai⟩:=hc c (by simp);have U:=uJ ah;rw[<-vo]at U;have Y:=Pn (l:=G) (p:=path++[c]) (by rw[<-vo];exact U);rw[<-vo]at Y;have aj:=qg U;have ak:j0 (jL G path c):=hG.filter _;have ab:∀e∈jL G path c,Ke e/\mK (jL G path c) <+: dE e/\e.name ∉ ks:=λe O=>⟨ag e (jc.1 O).1,aj.1 _ (aF.2 ⟨e,O,rfl⟩),hk e (by rw[aM];exact bS _ O)⟩;have al:(jL G path c).length<=255:=cm (aN _ _) hl;obtain⟨t,ht⟩:=Y;obtain⟨e0,ad⟩:=be _ U;have ap:(mK (jL G path c)).length<=24:=cm (ab e0 ad).2.1.length_le (tu (ab e0 ad).1).1
  have ae:∀e∈cs.flatMap (jL G path),e.name ∉ (jL G path c).map dq.name:=by
   intro e O hm;obtain⟨d,hd,O⟩:=bc.1 O;obtain⟨x,hx,am⟩:=aF.1 hm;have:=Ag hG.nodup (jc.1 hx).1 (jc.1 O).1 am;subst this;have:=qE (jc.1 hx).2 (jc.1 O).2;have h3:=aa.1 d hd;rw[this]at h3;omega
  have an:∀e∈cs.flatMap (jL G path),e.name ∉ ks:=λe O=>hk e (by rw[aM];exact List.mem_append_right _ O);have ac:(mK (jL G path c)).drop path.length=c::t:=by rw[<-ht];simp
  have W:path++c::t=mK (jL G path c):=by rw[<-ht];simp
  have aq:path.length+1<=(mK (jL G path c)).length:=by rw[<-W];simp
  obtain⟨e1,h1,af⟩:=hN _ ks _ _ ak ab al (Or.inr ⟨U,rfl⟩) (by omega)
  obtain⟨e2,h2,ao⟩:=ih _ c.toNat rest aa.2 (λd hd=>⟨(hc d (by simp[hd])).1,by have:=aa.1 d hd;omega⟩) (λe O hm=>by
   rw[aH]at hm;rcases hm with hm|hm
   exact an e O hm
   exact ae e O ((af.map _).mem_iff.1 hm))
  refine⟨e1++e2,?_,?_⟩;rw[aM,aM,aC,uL,ac,aT,aT,mM _ _ (by have:=congrArg bT W;simp at this;simp;omega)];simp only[c0,List.getD_cons_zero,ne_eq,reduceCtorEq,not_false_eq_true,ai,and_self,if_true,W];rw[h1];simp only[c0];rw[h2];simp only[c0,cX,Prod.mk.injEq,and_true];rw[ol];omega;exact af.append ao
theorem Eu:∀f:Nat,RV (sS f) f:=by
 intro f;induction f with
 |zero=>
  intro path ks G rest hr hm hl hp hf;rcases hp with rfl|⟨U,hs⟩
  simp at hf;obtain⟨e,O⟩:=be _ U;have:=(hm e O).2.1.length_le;have:=(tu (hm e O).1).1;omega
 |succ f ih=>
  intro path ks G rest hr hm hl hp hf
  have ai:path.length<=24:=by
   rcases hp with rfl|⟨U,hs⟩
   simp;obtain⟨e,O⟩:=be _ U;exact cm (hm e O).2.1.length_le (tu (hm e O).1).1
  have eF:=Ib (MP hr.nodup) (λe O=>(hm e O).2.1);have ac:=eF.length_eq;rw[aB]at ac
  have ad:∀e∈lz G path,Ke e/\dE e=path/\e.name ∉ ks/\cW [] e.name=true:=λe O=>by
   have h:=a8.1 O;exact⟨(hm e h.1).1,beq_iff_eq.1 h.2,(hm e h.1).2.2,wK (hm e h.1).1.2.1⟩
  have ao:gP G<=1000000:=JJ (λe O=>(hm e O).1.2.2.2.2.2.1);have ap:=nM G
  have aq:(jT G path).length<=((jT G path).flatMap (jL G path)).length:=by
   rw[List.length_flatMap]
   have:∀cs:List UInt8,(∀c∈cs,c∈jT G path)->cs.length<=(cs.map λc=>(jL G path c).length).sum:=by
    intro cs;induction cs with
    |nil=>intro _;simp|cons c cs aj=>
     intro h;have h1:=aj (λd hd=>h d (by simp[hd]));have h2:=uJ (h c (by simp));rw[<-vo]at h2;have h3:=bE.2 h2;simp only[aC,aG,ba];omega
   exact this _ (λ_ h=>h)
  obtain⟨es,hk,ak⟩:=DS ih path G hr (λe O=>(hm e O).1) hl (by omega) (jT G path) (ks++(lz G path).map dq.name) (-1) rest (qd G path) (λc hc=>⟨hc,by omega⟩) (λe O W=>by
   obtain⟨c,hc,O⟩:=bc.1 O;have aa:=jc.1 O;rw[aH]at W;rcases W with W|W
   exact(hm e aa.1).2.2 W;obtain⟨x,Y,al⟩:=aF.1 W;have ae:=a8.1 Y;have:=Ag hr.nodup ae.1 aa.1 al;subst this;have h1:=beq_iff_eq.1 ae.2;have h2:=((jR _ _ _).1 aa.2).2.1
   rw[h1]at h2;omega)
  refine⟨lz G path++es,?_,(fk _ ak).trans eF⟩;have hG:((gP G).toNat:Int)=gP G:=by omega
  have e1:nz (f+1) path G++rest=ik (((gP G).toNat:Nat):Int)++(u8 ((lz G path).length:Int)::((lz G path).flatMap nE++(u8 ((jT G path).length:Int)::((jT G path).flatMap (λc=>dJ ((mK (jL G path c)).drop path.length)++nz f (mK (jL G path c)) (jL G path c))++rest)))):=by
   rw[hG,nz];simp
  have an:gP G=max (gP (lz G path)) (gP ((jT G path).flatMap (jL G path))):=by rw[<-ol,BB eF]
  have ar:=nM (lz G path);have au:=nM ((jT G path).flatMap (jL G path))
  have af:path=[]\/0<(lz G path).length\/1<(jT G path).length:=by
   rcases hp with h|⟨U,hs⟩
   exact Or.inl h;refine Or.inr (hC λag=>?_);have ho:lz G path=[]:=aQ.1 (by omega);have ah:=qg U;rw[hs]at ah;obtain⟨e,O⟩:=be _ U
   have am:∀x∈G,dE x≠path:=λx Y hk=>by
    have:x∈lz G path:=a8.2 ⟨Y,beq_iff_eq.2 hk⟩;rw[ho]at this;simp at this
   have hb:∀x∈G,path++[(dE x).getD path.length 0] <+: dE x:=λx Y=>(jR _ _ _).2 ⟨(hm x Y).2.1,y6 (hm x Y).2.1 (am x Y),rfl⟩
   have ab:∀x∈G,(dE x).getD path.length 0=(dE e).getD path.length 0:=by
    intro x Y;have i1:=uR.2 ⟨x,Y,hb x Y⟩;have i2:=uR.2 ⟨e,O,hb e O⟩;match hh:jT G path with
    |[]=>rw[hh]at i1;simp at i1|[d]=>rw[hh]at i1 i2;simp only[aI]at i1 i2;rw[i1,i2]|d::d2::ds=>rw[hh]at ag;simp at ag
   have:=ah.2 (path++[(dE e).getD _ 0]) (λs hs=>by
    obtain⟨x,Y,rfl⟩:=aF.1 hs
    rw[<-ab x Y];exact hb x Y)
   have:=this.length_le;simp at this;omega
  rw[e1,sS,if_pos ai,qC _ (by omega)];simp only[c0];rw[rm _ (by omega)];simp only[c0];rw[DW path _ ks [] _ ad (hr.filter _)];simp only[c0];rw[rm _ (by omega)];simp only[c0];rw[hk];simp only[c0];rw[if_pos ⟨by omega,af⟩]
theorem yz{l:List dq}(h:n5 l):∃gs es,Kj (dW l)=some (gs,es)/\(gs++es).Perm l:=by
 obtain⟨h1,h2,h3,h4,h5⟩:=h;have hR:=mN l h2;have hp:=fW l;have aa:=hp.filter (λe=>e.gone);have ab:=hp.filter (λe=>!e.gone);have O:((fo l).filter (λe=>e.gone)++(fo l).filter _).Perm l:=(List.filter_append_perm ..).trans hp;have ai:=aa.length_eq;have aj:=ab.length_eq;have ac:j0 ((fo l).filter λe=>e.gone):=hR.filter _;have ad:j0 ((fo l).filter λe=>!e.gone):=hR.filter _
 have ae:∀e∈(fo l).filter (λe=>e.gone),e=⟨e.name,true,[],0,0⟩/\iU _=true/\e.name ∉ ([])/\cW [] _=true:=λe he=>by
  have hm:=a8.1 he;rcases h1 e (mS.1 hm.1)with U|U
  rw[U.1]at hm;simp at hm;exact⟨U.1,U.2,by simp,wK U.2⟩
 have af:∀e∈(fo l).filter (λe=>!e.gone),Ke e/\([]) <+: dE e/\e.name ∉ ((fo l).filter λe=>e.gone).map _:=λe he=>by
  have hm:=a8.1 he;rcases h1 e (mS.1 hm.1)with U|U
  refine⟨U,aW,λhx=>?_⟩;obtain⟨x,hx,hn⟩:=aF.1 hx;have W:=a8.1 hx;have:=Ag hR.nodup W.1 hm.1 hn;subst this;have a:=W.2;have b:=hm.2;simp[a]at b;rw[U.1]at hm;simp at hm
 unfold dW;generalize (fo l).filter _=gs at *;generalize (fo l).filter _=es at *;obtain⟨ag,hn,Y⟩:=Eu 26 [] _ es [] ad af (by omega) (Or.inl rfl) (by simp);refine⟨gs,ag,?_,(fk _ Y).trans O⟩;have ak:=Y.length_eq;have ah:=O.length_eq;rw[aB]at ah;have al:=bE.2 h3;rw[bv]at hn;unfold Kj;rw[rm _ (by omega)];simp only[c0];rw[Es gs [] [] _ ae ac];simp only[c0];rw[mM [] _ (by simp)];simp only[c0,if_true];rw[hn];simp only[c0];rw[if_pos ⟨trivial,by omega,by omega,by omega⟩]
variable {x:Wd}
theorem vv(h:qk l x=none):x ∉ l.map dq.name:=by
 unfold qk at h;rw[bQ]at h;intro hm;obtain⟨e,O,U⟩:=aF.1 hm;have:=h e O;rw[U]at this;simp at this
theorem pK(h:x ∉ l.map dq.name):qk l x=none:=by
 unfold qk;rw[bQ];intro e O;rw[beq_eq_false_iff_ne];intro U;exact h (aF.2 ⟨e,O,U⟩)
def kH(O:List dq)(ss:List (List dq))(name:Wd):Nat×List dq:=
 if iU name=true then
  if qk (eO ss O) name=none then(5,O)
  else if 100<=O.length-(dw O).length then(4,O)
  else(0,dH O [⟨name,true,[],0,0⟩])
 else(1,O)
def eZ(O:List dq)(ss:List (List dq)):List dq:=if ss.length=0 then dw O else O
def eX(O:List dq)(ss:List (List dq)):Nat×List dq×List (List dq):=
 if O.length=0 then(5,O,ss)else if 6<=ss.length then(4,O,ss)
 else(0,[],if 0<(eZ O ss).length then ss++[eZ O ss]else ss)
variable {ss:List (List dq)} {vs:List Value} {E:Value->List dq->Prop}
def Zip(E:Value->List dq->Prop)(vs:List Value)(ss:List (List dq)):Prop:=vs.length=ss.length/\∀i(h:i<ss.length),∃u,vs[i]?=some u/\E u ss[i]
theorem Zip.nil(E:Value->List dq->Prop):Zip E [] []:=⟨rfl,nofun⟩
theorem Zip.one{u:Value}{l:List dq}(h:E u l):Zip E [u] [l]:=⟨rfl,λi hi=>by
 have:=by simp at hi;omega
 subst this
 exact⟨u,rfl,h⟩⟩
theorem Zip.append{vt:List Value}{st:List (List dq)}(U:Zip E vs ss)(h2:Zip E vt st):Zip E (vs++vt) (ss++st):=by
 refine⟨by rw[aB,aB,U.1,h2.1],λi hi=>?_⟩;by_cases O:i<ss.length;obtain⟨u,W,Y⟩:=U.2 i O;exact⟨u,by rw[aU (by rw[U.1];exact O)];exact W,by rw[List.getElem_append_left O];exact Y⟩;have Qj:i-ss.length<st.length:=by rw[aB]at hi;omega
 obtain⟨u,W,Y⟩:=h2.2 _ Qj;refine⟨u,?_,?_⟩;rw[bP (by rw[U.1];omega),U.1];exact W;rw[List.getElem_append_right (by omega)];exact Y
theorem Zip.mono{E':Value->List dq->Prop}(h:Zip E vs ss)(O:∀u l,E u l->E' u l):Zip E' vs ss:=⟨h.1,λi hi=>by
 obtain⟨u,U,W⟩:=h.2 i hi
 exact⟨u,U,O u _ W⟩⟩
def ja(ss:List (List dq))(n:Nat):List dq:=if n=0 then dw (dH (ss.getD n []) (ss.getD (n+1) []))else dH (ss.getD n []) (ss.getD (n+1) [])
def eP(ss:List (List dq))(n:Int):Nat×List (List dq):=
 if n<0\/(ss.length:Int)-1<=n then(6,ss)
 else if 100<(ja ss n.toNat).length-(dw (ja ss n.toNat)).length then(4,ss)
 else(0,ss.take n.toNat++((if 0<(ja ss n.toNat).length then [ja ss n.toNat]else [])++ss.drop (n.toNat+2)))
def DJ(a b:dq):Prop:=cW (dE a) (dE b)=true\/(dE a=dE b/\cW a.name b.name=true)
def gE(l:List dq):Prop:=l.Pairwise DJ
def eW(d:Nat)(e:dq):UInt8:=(dE e).getD d 0
def iQ(L:List dq)(d:Nat):Nat:=(L.takeWhile λe=>(dE e).length==d).length
def runs(d:Nat):List dq->List (List dq)
 |[]=>[]
 |e::l=>match runs d l with
  |[]=>[[e]]
  |[]::gs=>[e]::gs|(x::g)::gs=>if eW d e=eW d x then(e::x::g)::gs else [e]::(x::g)::gs
def iB(C:List dq):Wd:=match C with
 |[]=>[]
 |e::C=>sY (dE e) (dE ((e::C).getLast (by simp)))
def ic:Nat->Nat->List dq->Wd
 |0,_,_=>[]
 |f+1,d,L=>ik (gP L)++(u8 (iQ L d)::((L.take (iQ L d)).flatMap nE++(u8 (runs d (L.drop (iQ L d))).length::(runs d (L.drop (iQ L d))).flatMap λC=>dJ ((iB C).drop d)++ic f (iB C).length C)))
theorem D'{a b:dq}(h:DJ a b):cW (dE b) (dE a)=false:=by
 rcases h with h|h
 exact pF h;rw[h.1];exact im _
theorem JC:∀(r a b c:Wd),r <+: a->r <+: c->cW b a=false->cW c b=false->r <+: b
 |[],_,_,_,_,_,_,_=>aW
 |x::r,[],_,_,h,_,_,_=>by simp at h
 |x::r,_::_,_,[],_,h,_,_=>by simp at h
 |x::r,y::a,[],z::c,_,_,O,_=>by simp[cW]at O
 |x::r,y::a,w::b,z::c,h1,h2,O,U=>by
  have g1:=aO.1 h1
  have g2:=aO.1 h2;simp only[cW,c8,cD,decide_eq_false_iff_not,beq_iff_eq]at O U;obtain⟨W,Y⟩:=g1;obtain⟨aa,ab⟩:=g2;subst W;subst aa
  have e:w=x:=by
   have a1:=O.1;have a2:=U.1;apply da.1;simp only[cZ]at a1 a2;omega
  subst e;exact aO.2 ⟨rfl,JC r a b c Y ab (O.2 rfl) (U.2 rfl)⟩
theorem OV:∀(C:List dq),C≠[]->gE C->mK C=iB C:=by
 intro C W Y
 cases C with
 |nil=>exact absurd rfl W|cons e C=>
  refine QF (by simp) ⟨λs h=>?_,λr U=>?_⟩;obtain⟨x,O,rfl⟩:=aF.1 h;have hl:=rI (dE e) (dE ((e::C).getLast (by simp)));have U:=pY (dE e) (dE ((e::C).getLast (by simp)))
  have ha:x=e\/DJ e x:=by
   simp only[aA]at O;rcases O with rfl|O
   exact Or.inl rfl;exact Or.inr ((aD.1 Y).1 x O)
  have hb:x=(e::C).getLast (by simp)\/DJ x ((e::C).getLast (by simp)):=by
   obtain⟨i,hi,rfl⟩:=List.mem_iff_getElem.1 O;rw[List.getLast_eq_getElem];by_cases h:i=(e::C).length-1;simp[h];right;exact bd.1 Y i _ hi _ (by omega)
  have h1:cW (dE x) (dE e)=false:=by
   rcases ha with rfl|h
   exact im _;exact D' h
  have h2:cW (dE ((e::C).getLast (by simp))) (dE x)=false:=by
   rcases hb with h|h
   rw[<-h];exact im _;exact D' h
  exact JC _ _ _ _ hl U h1 h2;exact rP _ _ _ (U _ (aF.2 ⟨e,by simp,rfl⟩)) (U _ (aF.2 ⟨_,List.getLast_mem _,rfl⟩))
theorem PO{p s:Wd}(h:p <+: s)(U:s≠p):cW p s=true:=by
 rcases iC p s with O|O|O
 exact O;exact absurd O.symm U;exfalso;obtain⟨t,rfl⟩:=h;clear U;induction p with
 |nil=>cases t<;>simp[cW]at O
 |cons a p W=>
  simp only[aS,cW,c7,decide_eq_true_eq,c6,beq_self_eq_true,true_and]at O;rcases O with O|O
  simp at O;exact W O
theorem Qq{p a b:Wd}(W:p <+: a)(hb:p <+: b)(O:p.length<a.length)(U:p.length<b.length)(h:cW b a=false):(a.getD p.length 0).toNat<=(b.getD p.length 0).toNat:=by
 obtain⟨s,rfl⟩:=W;obtain⟨t,rfl⟩:=hb;induction p with
 |nil=>
  cases s with
  |nil=>simp at O|cons x s=>
   cases t with
   |nil=>simp at U|cons y t=>
    simp only[aL,cW,c8,decide_eq_false_iff_not,cZ]at h;simp;omega
 |cons x p Y=>
  simp only[aS,cW,c8,cD,decide_eq_false_iff_not,beq_self_eq_true,true_implies]at h;have:=Y (by simpa using O) (by simpa using U) h.2;simpa using this
theorem xH{p:Wd}{L:List dq}(hL:gE L)(W:∀e∈L,p <+: dE e):(∀e∈L.take (iQ L p.length),dE e=p)/\∀e∈L.drop (iQ L p.length),dE e≠p:=by
 have e1:L.take (iQ L p.length)=L.takeWhile λe=>(dE e).length==p.length:=by
  unfold iQ;conv=>lhs;arg 2;rw[<-bh (p:=λe=>(dE e).length==p.length) (l:=L)]
  rw[List.take_left]
 have e2:L.drop (iQ L p.length)=L.dropWhile λe=>(dE e).length==p.length:=by
  unfold iQ;conv=>lhs;arg 2;rw[<-bh (p:=λe=>(dE e).length==p.length) (l:=L)]
  rw[List.drop_left]
 rw[e1,e2];refine⟨λe O=>?_,λe O Y=>?_⟩;have h1:=Pt L e O;have h2:=W e ((bC _).mem O);exact(h2.eq_of_length (by simpa using(beq_iff_eq.1 h1).symm)).symm;have hs:gE (L.dropWhile λe=>(dE e).length==p.length):=fa (bD _) hL;have hm:∀e∈L.dropWhile (λe=>(dE e).length==p.length),p <+: dE e:=λe O=>W e ((bD _).mem O);have hd:=Kd (p:=λe=>(dE e).length==p.length) L;generalize L.dropWhile _=B at *
 cases B with
 |nil=>simp at O|cons b B=>
  have hb:=hd b B rfl;have U:dE b≠p:=λh=>by rw[h]at hb;simp at hb
  simp only[aA]at O;rcases O with rfl|O
  exact U Y;have:=D' ((aD.1 hs).1 e O);rw[Y,PO (hm b (by simp)) U]at this;cases this
theorem yy(p:Wd):∀(L:List dq),gE L->(∀e∈L,p <+: dE e/\dE e≠p)->∃W:List (UInt8×List dq),runs p.length L=W.map (·.2)/\Ol W/\BJ p W/\nA W=L/\(∀x∈W,gE x.2)/\∀x∈W,∃e g,x.2=e::g/\x.1=eW p.length e:=by
 intro L;induction L with
 |nil=>intro _ _;exact⟨[],rfl,List.Pairwise.nil,λ_ h=>by simp at h,rfl,λ_ h=>by simp at h,λ_ h=>by simp at h⟩|cons e L ih=>
  intro hL hp;have aa:=aD.1 hL;obtain⟨W,h1,h2,h3,h4,h5,h6⟩:=ih aa.2 (λx U=>hp x (by simp[U]));have ab:p++[eW p.length e] <+: dE e:=(jR _ _ _).2 ⟨(hp e (by simp)).1,y6 (hp e (by simp)).1 (hp e (by simp)).2,rfl⟩
  cases W with
  |nil=>
   refine⟨[(eW p.length e,[e])],?_,b9 _ _,?_,?_,?_,?_⟩;rw[runs,h1];rfl;intro x U;simp at U;subst U;exact⟨by simp,λy Y=>by simp at Y;subst Y;exact ab⟩;simp only[nA,List.flatMap_nil]at h4;rw[<-h4];rfl;intro x U;simp at U;subst U;exact b9 _ _;intro x U;simp at U;subst U;exact⟨e,[],rfl,rfl⟩
  |cons y W=>
   obtain⟨x,g,Y,ac⟩:=h6 y (by simp);obtain⟨yc,yg⟩:=y;simp only at Y ac;subst Y;subst ac;have ad:runs p.length L=(x::g)::W.map (·.2):=h1;by_cases hb:eW p.length e=eW p.length x;refine⟨(eW p.length e,e::x::g)::W,?_,?_,?_,?_,?_,?_⟩;rw[runs,ad];simp[hb];have:=aD.1 h2;exact aD.2 ⟨λz O=>by have:=this.1 z O;rw[hb];exact this,this.2⟩;intro z O;simp only[aA]at O;rcases O with rfl|O
   refine⟨by simp,λw hw=>?_⟩;rcases aA.1 hw with rfl|hw
   exact ab;show p++[eW p.length e] <+: dE w;rw[hb];exact(h3 (eW _ x,x::g) (by simp)).2 w hw;exact h3 z (by simp[O]);rw[<-h4];rfl;intro z O;simp only[aA]at O;rcases O with rfl|O
   refine aD.2 ⟨λw hw=>aa.1 w ?_,h5 (eW p.length x,x::g) (by simp)⟩;rw[<-h4];exact bS _ hw;exact h5 z (by simp[O]);intro z O;simp only[aA]at O;rcases O with rfl|O
   exact⟨e,x::g,rfl,rfl⟩;exact h6 z (by simp[O]);refine⟨(eW p.length e,[e])::(eW p.length x,x::g)::W,?_,?_,?_,?_,?_,?_⟩;rw[runs,ad];simp[hb];have U:x∈L:=by rw[<-h4];simp[nA]
   have ae:(eW p.length e).toNat<(eW p.length x).toNat:=by
    have a1:=hp e (by simp);have a2:=hp x (by simp[U]);have:=Qq a1.1 a2.1 (y6 a1.1 a1.2) (y6 a2.1 a2.2) (D' (aa.1 x U));have af:(eW _ e).toNat≠(eW _ x).toNat:=λh=>hb (da.1 h);unfold eW at *;omega
   refine aD.2 ⟨λz O=>?_,h2⟩;simp only[aA]at O;rcases O with rfl|O
   exact ae;have:=(aD.1 h2).1 z O;exact Nat.lt_trans ae this;intro z O;rw[aA]at O;rcases O with rfl|O
   exact⟨by simp,λy Y=>by simp at Y;subst Y;exact ab⟩;exact h3 z O;rw[<-h4];rfl;intro z O;rw[aA]at O;rcases O with rfl|O
   exact b9 ..;exact h5 z O;intro z O;rw[aA]at O;rcases O with rfl|O
   exact⟨e,[],rfl,rfl⟩;exact h6 z O
theorem Gp{p:Wd}{l:List dq}(h:gE l)(O:∀e∈l,dE e=p):j0 l:=by
 refine fd (fun {a b} ha hb h=>?_) h;rcases h with h|h
 rw[O a ha,O b hb,im]at h;cases h;exact h.2
theorem Qh:∀(f:Nat)(p:Wd)(L:List dq),gE L->(∀e∈L,p <+: dE e)->ic f p.length L=nz f p (fo L):=by
 intro f;induction f with
 |zero=>intro p L _ _;rfl|succ f ih=>
  intro p L hL hp;obtain⟨h1,h2⟩:=xH hL hp;have aa:gE (L.drop (iQ L p.length)):=fa (List.drop_sublist ..) hL;have ab:gE (L.take (iQ L p.length)):=fa (List.take_sublist ..) hL;obtain⟨hs,r1,r2,r3,r4,r5,r6⟩:=yy p _ aa (λe he=>⟨hp e (bz he),h2 e he⟩);have O:L.take (iQ L p.length)++nA hs=L:=by rw[r4,bo]
  have hb:=IX f p _ hs (Gp ab h1) h1 r2 r3;rw[O]at hb
  have U:(L.take (iQ L p.length)).length=iQ L p.length:=by
   have:iQ L p.length<=L.length:=(bC _).length_le;simp;omega
  rw[hb,ic,r1,cc,U,bY];congr 4;refine pX λx hx=>?_;have W:=(r3 x hx).1;have Y:=OV _ W (r5 x hx);unfold Part;rw[Y,ih _ _ (r5 x hx) (λe he=>?_)];rw[<-Y];exact(qg W).1 _ (aF.2 ⟨e,he,rfl⟩)
end
section
open Go.RowKit
variable {e:dq} {a b l:List dq} {x:Wd}
def names(l:List dq):List Wd:=l.map dq.name
theorem iq:jq l e=true↔e.name ∉ names l:=by
 unfold jq names;constructor;intro h;refine vv ?_
 cases O:qk l _ with
 |none=>rfl|some i=>rw[O]at h;simp at h
 intro h;rw[pK h];rfl
theorem kL:e∈dH a b↔(e∈a/\e.name ∉ names b)\/e∈b:=by
 unfold dH;rw[aH,a8,iq]
theorem pg:x∈names l↔∃e∈l,e.name=x:=by unfold names;rw[aF]
theorem GR:x∈names (dH a b)↔x∈names a\/x∈names b:=by
 rw[pg,pg,pg];constructor;rintro⟨e,O,rfl⟩;rcases kL.1 O with h|h
 exact Or.inl ⟨e,h.1,rfl⟩;exact Or.inr ⟨e,h,rfl⟩;rintro(⟨e,O,rfl⟩|⟨e,O,rfl⟩);by_cases h:e.name∈names b;obtain⟨f,U,W⟩:=pg.1 h;exact⟨f,kL.2 (Or.inr U),W⟩;exact⟨e,kL.2 (Or.inl ⟨O,h⟩),rfl⟩;exact⟨e,kL.2 (Or.inr O),rfl⟩
theorem pU(O:(a.map dq.name).Nodup)(hb:(b.map dq.name).Nodup):((dH a b).map dq.name).Nodup:=by
 unfold dH;rw[aX,bp];refine⟨O.sublist (bj.map _),hb,?_⟩;intro x U y W e;subst e;obtain⟨f,Y,rfl⟩:=aF.1 U;exact(iq.1 (a8.1 Y).2) W
theorem mG(O:(a.map dq.name).Nodup):((dw a).map dq.name).Nodup:=O.sublist (bj.map _)
theorem FC{c:List dq}(h:∀x,x∈names b↔x∈names c)(e:dq):jq b e=jq c e:=by
 rw[c5,iq,iq,h]
theorem MD{O U:List dq}(Y:a.Perm O)(W:b.Perm U):(dH a b).Perm (dH O U):=by
 refine ft ?_ W;have:a.filter _=a.filter _:=bg λe _=>FC (λx=>(W.map _).mem_iff) e;rw[this];exact Y.filter _
theorem vF(h:a.Perm b):(dw a).Perm (dw b):=h.filter _
theorem qf(a b c:List dq):dH (dH a b) c=dH a (dH b c):=by
 have h:∀e,jq (dH b c) e=(jq b e&&jq c e):=by
  intro e;rw[c5,c6,iq,iq,iq,GR];exact not_or
 unfold dH at h⊢;rw[aK,aP,aT];congr 1;refine bg λe _=>?_;rw[h e,cC]
theorem mf(a:List dq):dH [] a=a:=by simp[dH]
theorem oW(a:List dq):dH a []=a:=by
 unfold dH;rw[bv,bF];intro e _;exact iq.2 (by simp[names])
theorem sH(a b:List dq):dw (dH (dw a) b)=dw (dH a b):=by
 unfold dw dH;rw[aK,aK,aP,aP];congr 1;rw[aP];refine bg λe _=>?_;cases e.gone<;>simp
theorem jV(a:List dq):dw (dw a)=dw a:=by
 unfold dw;rw[aP];refine bg λe _=>?_;cases e.gone<;>simp
theorem Fl(L:List (List dq)):∀a:List dq,dw (L.foldl dH (dw a))=dw (L.foldl dH a):=by
 induction L with
 |nil=>intro a;exact jV a|cons b L O=>
  intro a;rw[aZ,aZ,<-O _,sH,O]
def gf(L:List (List dq)):List dq:=L.foldl dH []
theorem ll(L M:List (List dq)):gf (L++M)=M.foldl dH (gf L):=by unfold gf;rw[b7]
theorem fi(L:List (List dq))(b:List dq):gf (L++[b])=dH (gf L) b:=by rw[ll];rfl
theorem yA(ss:List (List dq))(k:Nat):lV ss k=gf (ss.take k):=rfl
theorem fQ(ss:List (List dq))(O:List dq):eO ss O=dw (gf (ss++[O])):=by
 unfold eO;rw[fi,yA,bk]
theorem kU(a b:List dq):(dw b).length<=(dw (dH a b)).length:=by
 unfold dH dw;rw[aK,aB];omega
theorem oT(a:List dq):(dw a).length<=a.length:=aN ..
theorem jB(l:List dq):l.length-(dw l).length=(l.filter λe=>e.gone).length:=by
 have h:∀l,(l.filter λe=>e.gone).length+(dw l).length=l.length:=by
  intro l;unfold dw;induction l with
  |nil=>rfl|cons e l O=>
   cases h:e.gone<;>simp[h]<;>omega
 have:=h l;omega
structure Inv(buf:List dq)(ss:List (List dq)):Prop where
 each:∀e∈buf,Qa e
 nodup:(buf.map dq.name).Nodup
 gone:(buf.filter λe=>e.gone).length<=100
 jp:∀s∈ss,n5 s
 ql:ss.length<=6
 there:∀k,k<=ss.length->(dw (gf (ss.take k))).length<=30
 all:(eO ss buf).length<=30
theorem Kv:Inv [] []:=⟨nofun,List.Pairwise.nil,by simp,nofun,by simp,λk _=>by simp[gf,dw],by simp[eO,lV,dH,dw]⟩
theorem sy(O:List dq)(e:dq):((dH O [e]).filter λe=>e.gone).length<=(O.filter λe=>e.gone).length+(if e.gone then 1 else 0):=by
 unfold dH
 have U:(O.filter λx=>x.gone&&jq [e] x).length<=(O.filter λx=>x.gone).length:=by
  rw[show(O.filter _)=(O.filter λx=>x.gone).filter _ by rw[aP];exact bg λx _=>cC ..];exact aN ..
 cases h:e.gone<;>simp[h]<;>omega
theorem Inv.GB{O:List dq}{ss:List (List dq)}(h:Inv O ss)(W:Qa e)(Y:((dH O [e]).filter λe=>e.gone).length<=100)(ha:(eO ss (dH O [e])).length<=30):Inv (dH O [e]) ss where
 each:=λx hx=>by
  rcases kL.1 hx with U|U
  exact h.each x U.1;simp only[aI]at U;subst U;exact W
 nodup:=pU h.nodup (by simp);gone:=Y;jp:=h.jp;ql:=h.ql;there:=h.there;all:=ha
theorem qH(ss:List (List dq))(O:List dq)(e:dq):eO ss (dH O [e])=dw (dH (gf (ss++[O])) [e]):=by
 rw[fQ,fi,fi,qf]
theorem qh(T:List dq)(e:dq):dw (dH T [e])=(dw T).filter (jq [e])++dw [e]:=by
 unfold dw dH;rw[aK,aP,aP];congr 1;exact bg λx _=>cC ..
theorem JY{O:List dq}{ss:List (List dq)}(h:Inv O ss)(name text:Wd)(dp dA:Int):Inv (js O ss name text dp dA).2 ss:=by
 unfold js;split;rename_i hn;split;rename_i ht;split;exact h;split;exact h;rename_i hm;refine h.GB (Or.inl ⟨rfl,hn,ht.1,ht.2,by simp;omega,by simp;omega,by simp;omega,by simp;omega⟩) ?_ ?_;have:=sy O ⟨name,false,text,dp,dA⟩;have:=h.gone;simp only[cB,if_false]at *;omega;rw[qH,qh,aB];have e1:(dw [(⟨name,false,text,dp,dA⟩)]).length=1:=rfl;have ha:=h.all;rw[fQ]at ha hm;generalize dw _=T at *;by_cases U:30<=T.length;have W:=λW=>hm ⟨U,W⟩
 have Y:name∈names T:=by
  by_cases hc:name∈names T;exact hc;exact absurd (pK hc) W
 obtain⟨x,hx,aa⟩:=pg.1 Y
 have:(T.filter (jq [⟨name,false,text,dp,dA⟩])).length<T.length:=by
  rw[List.length_filter_lt_length_iff_exists];refine⟨x,hx,?_⟩;rw[iq];simp[names,aa]
 omega;have:=aN (jq [⟨name,false,text,dp,dA⟩]) T;omega;exact h;exact h
theorem K3{O:List dq}{ss:List (List dq)}(h:Inv O ss)(name:Wd):Inv (kH O ss name).2 ss:=by
 unfold kH;split;rename_i U;split;exact h;split;exact h;rename_i W;rw[jB]at W;refine h.GB (Or.inr ⟨rfl,U⟩) ?_ ?_;have:=sy O ⟨name,true,[],0,0⟩;simp only[if_true]at this;omega;rw[qH,qh,aB];have e1:(dw [(⟨name,true,[],0,0⟩)]).length=0:=rfl;have Y:=h.all;rw[fQ]at Y;have:=aN (jq [⟨name,true,[],0,0⟩]) (dw (gf (ss++[O])));omega;exact h
theorem sR(l:List dq):((dw l).filter λe=>e.gone)=[]:=by
 rw[bw];intro e O;have:=(a8.1 O).2;simpa using this
theorem yF(U:∀e∈l,Qa e)(W:(l.map dq.name).Nodup)(O:0<l.length)(Y:(l.filter λe=>e.gone).length<=100)(h5:(dw l).length<=30):n5 l:=
 ⟨U,W,λe=>by rw[e]at O;simp at O,Y,h5⟩
theorem Ci{W:List dq}{ss:List (List dq)}(h:Inv W ss):Inv (eX W ss).2.1 (eX W ss).2.2:=by
 unfold eX;split;exact h;split;exact h
 have U:∀O,(∀s∈O,n5 s)->O.length<=6->(∀k,k<=O.length->(dw _).length<=30)->Inv [] O:=λO g1 g2 g3=>
  ⟨nofun,List.Pairwise.nil,by simp,g1,g2,g3,by
    rw[fQ,fi,oW];have:=g3 _ (cg _);rw[bk]at this
    exact this⟩
 have fy:=h.all;rw[fQ,fi]at fy;have Y:=cm (kU ..) fy;split;rename_i hpos;refine U _ ?_ (by simp;omega) ?_;intro s hs;rcases aH.1 hs with h1|h1
 exact h.jp s h1;simp only[aI]at h1;subst h1;unfold eZ at hpos⊢;split
 rename_i h0;rw[if_pos h0]at hpos;refine yF (λe he=>h.each e (a8.1 he).1) (mG h.nodup) hpos ?_ ?_;rw[sR];simp;rw[jV];exact Y;rename_i h0;rw[if_neg h0]at hpos;exact yF h.each h.nodup hpos h.gone Y;intro k hk;by_cases aa:k<=ss.length;rw[bM aa];exact h.there k aa;rw[bm (by simp;omega),fi];unfold eZ;split;rename_i h0;have:=aQ.1 h0;subst this;show(dw (dH [] _)).length<=30;rw[mf,jV];exact Y;exact fy;exact U ss h.jp h.ql h.there
theorem wk(L M:List (List dq))(a b:List dq):gf (L++[dH a b]++M)=gf (L++[a,b]++M):=by
 rw[ll _ M,ll _ M,fi];rw[show L++[a,b]=(L++[a])++[b] by simp,fi,fi,qf]
def Jo(n:Nat)(a b:List dq):List dq:=if n=0 then dw (dH a b)else dH a b
def pb(n:Nat)(a b:List dq):List (List dq):=if 0<(Jo n a b).length then [Jo n a b]else []
theorem JH{n:Nat}{s:List dq}(h:s∈pb n a b):s=Jo n a b/\0<s.length:=by
 unfold pb at h;split at h;rename_i O;simp only[aI]at h;subst h;exact⟨rfl,O⟩;simp at h
theorem tJ(L X:List (List dq))(a b:List dq):dw (gf (L++(pb L.length a b++X)))=dw (gf (L++([a,b]++X))):=by
 unfold pb Jo;by_cases O:L.length=0;have:=aQ.1 O;subst this;simp only[aY,if_true,aL]
 have U:gf ([a,b]++X)=X.foldl dH (dH a b):=by
  show X.foldl dH _=_;rw[mf]
 rw[U,<-Fl X _];split;show dw (X.foldl dH _)=_;rw[mf];have:dw (dH a b)=[]:=aQ.1 (by omega);rw[this];rfl;rw[if_neg O];split;rw[<-aT,<-aT,wk];have W:dH a b=[]:=aQ.1 (by omega);have e:=wk L X a b;rw[W]at e
 have Y:gf (L++[[]]++X)=gf (L++([]++X)):=by
  rw[ll,fi,oW,aL,ll]
 rw[<-Y,e,aT]
theorem Bw(ss:List (List dq))(n:Nat)(h:n+1<ss.length):ss=ss.take n++([ss.getD n [],ss.getD (n+1) []]++ss.drop (n+2)):=by
 have O:ss.getD n []=ss[n]:=by rw[a7,a9 _];rfl
 have U:ss.getD (n+1) []=ss[n+1]:=by rw[a7,a9 _];rfl
 rw[O,U]
 have W:ss.drop n=ss[n]::ss[n+1]::ss.drop (n+2):=by
  rw[aV _,aV _]
 have:=bo n ss;rw[W]at this;exact this.symm
theorem zP(ss:List (List dq))(n:Nat):(if 0<(ja ss n).length then [ja ss n]else [])=pb n (ss.getD n []) (ss.getD (n+1) []):=rfl
theorem vE(ss:List (List dq))(n:Nat)(h:n+1<ss.length)(Y:List (List dq)):dw (gf ((ss.take n++(pb n (ss.getD n []) (ss.getD (n+1) [])++ss.drop (n+2)))++Y))=dw (gf (ss++Y)):=by
 have O:(ss.take n).length=n:=by simp;omega
 have e:=tJ (ss.take n) (ss.drop (n+2)++Y) (ss.getD n []) (ss.getD (n+1) []);rw[O]at e;conv=>rhs;rw[Bw ss n h]
 simp only[aT]at e⊢;exact e
theorem Kf(n:Nat)(a b:List dq):(pb n a b).length<=1:=by unfold pb;split<;>simp
theorem pj{α:Type}(A B:List α)(k:Nat)(h:A.length<=k):(A++B).take k=A++B.take (k-A.length):=by
 rw[List.take_append,bm h]
theorem B8{O:List dq}{ss:List (List dq)}(h:Inv O ss)(n:Int):Inv O (eP ss n).2:=by
 unfold eP;split;exact h;split;exact h;rename_i hn hg;obtain⟨m,rfl⟩:∃m:Nat,n=(m:Int):=⟨n.toNat,by omega⟩;have hm:m+1<ss.length:=by omega
 rw[Int.toNat_natCast]at *;rw[zP]at *;show Inv O (ss.take m++(pb m (ss.getD m []) (ss.getD (m+1) [])++ss.drop (m+2)));have aa:=Bw ss m hm;have af:=vE ss m hm [O]
 have U:ss.getD m []∈ss/\ss.getD (m+1) []∈ss:=by
  rw[a7,a7,a9 (by omega),a9 hm];exact⟨aR _,aR _⟩
 have hA:n5 (ss.getD m []):=h.jp _ U.1;have hB:n5 (ss.getD (m+1) []):=h.jp _ U.2;change ¬100<(Jo m (ss.getD m []) (ss.getD (m+1) [])).length-(dw (Jo m (ss.getD m []) (ss.getD (m+1) []))).length at hg;clear U;generalize ss.getD m []=A at *;generalize ss.getD (m+1) []=B at *;have ah:=Kf m A B
 have ab:(dw (dH A B)).length<=30:=by
  have W:=h.there (m+2) (by omega)
  have e:ss.take (m+2)=ss.take m++[A,B]:=by
   conv=>lhs;rw[aa]
   rw[pj _ _ _ (by simp;omega)];have:(ss.take m).length=m:=by simp;omega
   rw[this,show m+2-m=2 by omega];simp
  rw[e,show ss.take m++[A,B]=(ss.take m++[A])++[B] by simp,fi,fi,qf]at W;exact cm (kU _ _) W
 refine⟨h.each,h.nodup,h.gone,?_,?_,?_,?_⟩;intro s hs;rcases aH.1 hs with h1|h1
 exact h.jp s (bx h1);rcases aH.1 h1 with h1|h1
 obtain⟨h1,ac⟩:=JH h1;rw[<-h1,jB]at hg;unfold Jo at h1
 have ad:∀e∈s,e∈dH (A) (B):=by
  intro e Y;rw[h1]at Y;split at Y;exact(a8.1 Y).1;exact Y
 have ae:=pU hA.nodup hB.nodup;refine yF (λe Y=>?_) ?_ ac (by omega) ?_;rcases kL.1 (ad e Y)with W|W
 exact hA.each e W.1;exact hB.each e W;rw[h1];split;exact mG ae;exact ae;rw[h1];split;rw[jV];exact ab;exact ab;exact h.jp s (bz h1);have:=h.ql;simp only[aB,bA,bL];omega;intro k hk;by_cases ag:k<=m;rw[bM (by simp;omega),ce,cx ag];exact h.there k (by omega);have e0:(ss.take m).length=m:=by simp;omega
 rw[pj _ _ _ (by omega),e0,pj _ _ _ (by omega)];have e:=tJ (ss.take m) ((ss.drop (m+2)).take (k-m-(pb m A B).length)) (A) (B);rw[e0]at e;rw[e]
 have e4:ss.take m++([A,B]++(ss.drop (m+2)).take (k-m-(pb m A B).length))=ss.take (m+2+(k-m-(pb m A B).length)):=by
  conv=>rhs;rw[aa]
  rw[pj _ _ _ (by omega),pj _ _ _ (by simp;omega)];simp;omega
 rw[e4];refine h.there _ ?_;simp only[aB,bA,bL]at hk;omega;rw[fQ,af,<-fQ];exact h.all
def JG(e:dq):Prop:=e.name.length<=1048576/\e.text.length<=1048576/\(-9223372036854775808<=e.dp/\e.dp<=9223372036854775807)/\-9223372036854775808<=e.dA/\e.dA<=9223372036854775807
theorem NZ{e:dq}(h:JG e):(nE e).length<=2097160:=by
 have O:=h.1;have U:=h.2.1;simp[nE,dJ,ik];omega
theorem PM(m:List dq)(h:∀e∈m,JG e):(m.flatMap nE).length<=m.length*2097160:=by
 induction m with
 |nil=>simp|cons e m O=>
  have W:=NZ (h e (by simp));have Y:=O (λx U=>h x (by simp[U]));rw[aM,aB,aC];omega
def FT(p:Wd)(e:dq)(c:UInt8):Nat:=if nF (dE e) (p++[c])=true then 1 else 0
theorem Fy(p:Wd)(e:dq):∀(cs:List UInt8),(∀c∈cs,nF (dE e) (p++[c])=false)->(cs.map (FT p e)).sum=0:=by
 intro cs;induction cs with
 |nil=>intro _;rfl|cons c cs O=>
  intro h;have U:=h c (by simp);rw[aG,ba,O (λd W=>h d (by simp[W]))];simp[FT,U]
theorem Rh(p:Wd)(e:dq):∀(cs:List UInt8),cs.Nodup->(cs.map (FT p e)).sum<=1:=by
 intro cs;induction cs with
 |nil=>simp|cons c cs W=>
  intro h;have U:=bf.1 h;rw[aG,ba]
  cases hb:nF (dE e) (p++[c])with
  |false=>have:=W U.2;simp only[FT,hb];simpa using this|true=>
   rw[Fy p e cs (λd Y=>?_)];simp[FT,hb];rw[cA];intro O;have:=qE ((nj ..).1 hb) ((nj ..).1 O);subst this;exact U.1 Y
theorem QD(p:Wd)(cs:List UInt8)(e:dq)(G:List dq):(cs.map λc=>(jL (e::G) p c).length).sum=(cs.map (FT p e)).sum+(cs.map λc=>(jL G p c).length).sum:=by
 induction cs with
 |nil=>rfl|cons c cs O=>
  simp only[aG,ba,O]
  have:(jL (e::G) p c).length=FT p e c+(jL G p c).length:=by
   unfold jL FT;rw[br];split;simp;omega;simp
  omega
theorem M2(p:Wd)(cs:List UInt8)(W:cs.Nodup):∀G:List dq,(lz G p).length+(cs.map λc=>(jL G p c).length).sum<=G.length:=by
 intro G;induction G with
 |nil=>
  have:∀cs:List UInt8,(cs.map λc=>(jL [] p c).length).sum=0:=by
   intro cs;induction cs with
   |nil=>rfl|cons c cs U=>rw[aG,ba,U];rfl
  rw[this];simp[lz]
 |cons e G U=>
  rw[QD];by_cases O:dE e=p
  have Y:=Fy p e cs (λc _=>by
   rw[cA];intro hb;have:=((jR ..).1 ((nj ..).1 hb)).2.1
   rw[O]at this;omega)
  have h1:(lz (e::G) p).length=(lz G p).length+1:=by
   unfold lz;rw[br,if_pos (beq_iff_eq.2 O)];rfl
  rw[aC];omega;have Y:=Rh p e cs W
  have h1:(lz (e::G) p).length=(lz G p).length:=by
   unfold lz;rw[br,if_neg (by simpa using O)]
  rw[aC];omega
theorem OH:∀(f:Nat)(p:Wd)(G:List dq),(∀e∈G,JG e)->(nz f p G).length<=f*(G.length*3145743)+5:=by
 intro f;induction f with
 |zero=>simp[nz]|succ f ih=>
  intro p G W;have ab:=PM (lz G p) (λe Y=>W e (a8.1 Y).1);have ac:=M2 p _ (mL (qd G p)) G
  have hk:∀cs:List UInt8,(∀c∈cs,c∈jT G p)->(cs.flatMap λc=>dJ ((mK (jL G p c)).drop p.length)++nz f (mK (jL G p c)) (jL G p c)).length<=(cs.map λc=>(jL G p c).length).sum*(1048582+f*3145743):=by
   intro cs;induction cs with
   |nil=>simp|cons c cs aa=>
    intro hc;have h1:=aa (λd hd=>hc d (by simp[hd]));have O:=uJ (hc c (by simp));rw[<-vo]at O;have ad:=bE.2 O;obtain⟨e0,U⟩:=be _ O
    have ae:(mK (jL G p c)).length<=1048576:=by
     have a:=((qg O).1 _ (aF.2 ⟨e0,U,rfl⟩)).length_le;have b:=(W e0 (jc.1 U).1).2.1;unfold dE at a;rw[fx]at a;omega
    have h2:=ih (mK (jL G p c)) (jL G p c) (λe Y=>W e (jc.1 Y).1);have h3:(dJ ((mK (jL G p c)).drop p.length)).length<=1048577:=by simp[dJ];omega
    rw[aM,aB,aB,aG,ba,cr];generalize (jL G p c).length=n at *;have e1:n*(1048582+f*3145743)=n*1048582+f*(n*3145743):=by rw[cz,ck]
    omega
  have af:=hk _ (λ_ h=>h);rw[nz];simp only[aB,aC];have h3:(ik (gP G)).length=3:=rfl;generalize ((jT G p).map λc=>(jL G p c).length).sum=m at *;have e1:m*(1048582+f*3145743)=m*1048582+m*(f*3145743):=cz ..;have e2:(f+1)*(G.length*3145743)=G.length*3145743+G.length*(f*3145743):=by rw[cr,ck];omega
  have e3:m*(f*3145743)<=G.length*(f*3145743):=cl _ (by omega);omega
variable {es gs ps:List (Nat×dq)} {ks:List Wd} {N a b c f g n:Nat} {bs ls path r rf:Wd}
abbrev sn(l:List (Nat×dq)):List dq:=l.map Prod.snd
def kK(N:Nat):Nat->Wd->List Wd->Wd->Wd->Option (List (Nat×dq)×Wd)
 |0,_,_,_,bs=>some ([],bs)|n+1,path,ks,last,bs=>(nC ks last bs).bind λx=>(ki x.1 x.2).bind λy=>if dE y.1=path then(kK N n path (ks++[x.1]) x.1 y.2).bind λz=>some ((N-bs.length,y.1)::z.1,z.2)else none
def lT(node:Wd->List Wd->Wd->Option (Nat×List (Nat×dq)×Wd)):Nat->Wd->List Wd->Int->Wd->Option (Nat×List (Nat×dq)×Wd)
 |0,_,_,_,bs=>some (0,[],bs)|n+1,path,ks,last,bs=>(j8 bs).bind λx=>if x.1≠[]/\last<((x.1.getD 0 0).toNat:Int)then
   (node (path++x.1) ks x.2).bind λy=>(lT node n path (ks++(sn y.2.1).map dq.name) ((x.1.getD 0 0).toNat:Int) y.2.2).bind λz=>some (max y.1 z.1,y.2.1++z.2.1,z.2.2)else none
def km(N:Nat):Nat->Wd->List Wd->Wd->Option (Nat×List (Nat×dq)×Wd)
 |0,_,_,_=>none|f+1,path,ks,bs=>if path.length<=24 then
   (iu bs).bind λa=>(rdNum a.2).bind λb=>(kK N b.1 path ks [] b.2).bind λc=>(rdNum c.2).bind λd=>(lT (km N f) d.1 path (ks++(sn c.1).map dq.name) (-1) d.2).bind λe=>
    if(a.1:Int)=max (gP (sn c.1)) e.1/\(path=[]\/0<b.1\/1<d.1)then some (a.1,c.1++e.2.1,e.2.2)else none
  else none
def jZ(N:Nat):Nat->List Wd->Wd->Wd->Option (List (Nat×dq)×Wd)
 |0,_,_,bs=>some ([],bs)|n+1,ks,last,bs=>(nC ks last bs).bind λx=>(jZ N n (ks++[x.1]) x.1 x.2).bind λz=>some ((N-bs.length,⟨x.1,true,[],0,0⟩)::z.1,z.2)
def jo(N:Nat)(bs:Wd):Option (List (Nat×dq)×List (Nat×dq)):=
 (rdNum bs).bind λa=>(jZ N a.1 [] [] a.2).bind λb=>(j8 b.2).bind λc=>if c.1=[]then(km N 26 [] ((sn b.1).map dq.name) c.2).bind λd=>
  if d.2.2=[]/\0<b.1.length+d.2.1.length/\a.1<=100/\d.2.1.length<=30 then some (b.1,d.2.1)else none else none
theorem uw(h:jZ N (n+1) ks ls r=some (gs,rf)):∃O U gs',nC ks ls r=some (O,U)/\jZ N n (ks++[O]) O U=some (gs',rf)/\gs=(N-r.length,⟨O,true,[],0,0⟩)::gs':=by
 rw[jZ]at h;simp only[c4]at h;obtain⟨⟨O,U⟩,W,⟨gs',r2⟩,Y,h3⟩:=h;cases h3;exact⟨O,U,gs',W,Y,rfl⟩
theorem CB(h:kK N (n+1) path ks ls r=some (es,rf)):∃U W e Y O,nC ks ls r=some (U,W)/\ki U W=some (e,Y)/\dE e=path/\kK N n path (ks++[U]) U Y=some (O,rf)/\es=(N-r.length,e)::O:=by
 rw[kK]at h;simp only[c4]at h;obtain⟨⟨U,W⟩,h1,⟨e,Y⟩,h2,h3⟩:=h;split at h3;rename_i hk;simp only[c4]at h3;obtain⟨⟨O,r4⟩,h4,h5⟩:=h3;cases h5;exact⟨U,W,e,Y,O,h1,h2,hk,h4,rfl⟩
 cases h3
theorem D7{node:Wd->List Wd->Wd->Option (Nat×List (Nat×dq)×Wd)}{la:Int}(h:lT node (n+1) path ks la r=some (g,es,rf)) :
  ∃c cs W g1 O Y g2 U,j8 r=some (c::cs,W)/\la<(c.toNat:Int)/\node (path++(c::cs)) ks W=some (g1,O,Y)/\lT node n path (ks++(sn O).map dq.name) (c.toNat:Int) Y=some (g2,U,rf)/\g=max g1 g2/\es=O++U:=by
 rw[lT]at h;simp only[c4]at h;obtain⟨⟨lb,W⟩,h1,h⟩:=h;split at h;rename_i hc;simp only[c4]at h;obtain⟨⟨g1,O,Y⟩,h2,⟨g2,U,r3⟩,h3,h4⟩:=h
 cases lb with
 |nil=>exact absurd rfl hc.1|cons c cs=>
  cases h4;exact⟨c,cs,W,g1,O,Y,g2,U,h1,hc.2,h2,h3,rfl,rfl⟩
 cases h
theorem D2(h:km N f path ks bs=some (g,es,r)):∃f',f=f'+1/\path.length<=24/\∃r0 nb U own W O Y gb below,iu bs=some (g,r0)/\rdNum r0=some (nb,U)/\kK N nb path ks [] U=some (own,W)/\rdNum W=some (O,Y)/\lT (km N f') O path (ks++(sn own).map dq.name) (-1) Y=some (gb,below,r)/\(g:Int)=max (gP (sn own)) gb/\(path=[]\/0<nb\/1<O)/\es=own++below:=by
 cases f with
 |zero=>cases h
 |succ f=>
  rw[km]at h;split at h;rename_i hp;simp only[c4]at h;obtain⟨⟨wg,r0⟩,h1,⟨nb,U⟩,h2,⟨own,W⟩,h3,⟨O,Y⟩,h4,⟨gb,below,r4⟩,h5,h6⟩:=h;split at h6;rename_i hc;cases h6;exact⟨f,rfl,hp,r0,nb,U,own,W,O,Y,gb,below,h1,h2,h3,h4,h5,hc.1,hc.2,rfl⟩
  cases h6
  cases h
theorem DQ(h:jo N bs=some (gs,es)):∃n r r0 O g,rdNum bs=some (n,r)/\jZ N n [] [] r=some (gs,r0)/\j8 r0=some ([],O)/\km N 26 [] ((sn gs).map dq.name) O=some (g,es,[])/\0<gs.length+es.length/\n<=100/\es.length<=30:=by
 unfold jo at h;simp only[c4]at h;obtain⟨⟨n,r⟩,W,⟨gs',r0⟩,Y,⟨lb,O⟩,h3,h⟩:=h;split at h;rename_i hc;simp only[c4]at h;obtain⟨⟨g,aa,r2⟩,h4,h⟩:=h;split at h;rename_i U;cases h;obtain⟨e,U⟩:=U;subst hc e;exact⟨n,r,r0,O,g,W,Y,h3,h4,U⟩
 cases h
 cases h
theorem vU:∀{n:Nat}{ks:List Wd}{ls r rf:Wd}{gs:List (Nat×dq)},jZ N n ks ls r=some (gs,rf)->gs.length=n
 |0,_,_,_,_,_,h=>by cases h;rfl
 |n+1,_,_,_,_,_,h=>by
  obtain⟨_,_,_,_,O,rfl⟩:=uw h
  simp[vU O]
def pM(a b:Nat)(ps:List (Nat×dq)):Prop:=a<=b/\(∀p∈ps,a<=p.1/\p.1<b)/\ps.Pairwise λx y=>x.1<y.1
theorem pM.nil(h:a<=b):pM a b []:=⟨h,by simp,.nil⟩
theorem pM.append{qs:List (Nat×dq)}(h:pM a b ps)(W:pM b c qs):pM a c (ps++qs):=by
 obtain⟨h1,O,Y⟩:=h;obtain⟨k1,U,k3⟩:=W;refine⟨by omega,λp hp=>?_,bq.2 ⟨Y,k3,λx hx y hy=>?_⟩⟩;rcases aH.1 hp with h|h
 have:=O p h;omega;have:=U p h;omega;have:=O x hx;have:=U y hy;omega
theorem pM.one(h:a<b):pM a b [(a,e)]:=⟨by omega,by simp;omega,by simp⟩
theorem pM.from(h:pM b c ps)(U:a<=b):pM a c ps:=⟨by have:=h.1;omega,λp O=>by have:=h.2.1 p O;omega,h.2.2⟩
theorem yC(N:Nat):∀{n:Nat}{ks:List Wd}{ls r rf:Wd}{gs:List dq},vq n ks ls r=some (gs,rf)->r.length<=N->∃ps,jZ N n ks ls r=some (ps,rf)/\sn ps=gs/\rf.length<=r.length/\pM (N-r.length) (N-rf.length) ps
 |0,_,_,_,_,_,h,_=>by cases h;exact⟨[],rfl,rfl,cg _,.nil (cg _)⟩
 |n+1,ks,ls,r,rf,gs,h,hN=>by
  rw[vq]at h
  simp only[c4]at h
  obtain⟨⟨U,W⟩,O,⟨gs',r2⟩,Y,h3⟩:=h
  cases h3
  try dsimp only at *
  have hl:W.length+1<=r.length:=by rw[(oe O).1];simp[dJ]
  obtain⟨ps,k1,k2,k3,k4⟩:=yC N Y (by omega);refine⟨(N-r.length,⟨U,true,[],0,0⟩)::ps,?_,by simp[sn,<-k2],by omega,(pM.one (by omega)).append k4⟩;rw[jZ,O,c0,k1];rfl
theorem Gs{U O:Wd}(h:ki U r=some (e,O)):O.length<=r.length:=by
 unfold ki at h;simp only[c4]at h;obtain⟨⟨tx,r'⟩,W,h⟩:=h;split at h;simp only[c4]at h;obtain⟨⟨wt,r3⟩,Y,h⟩:=h;split at h;simp only[c4]at h;obtain⟨⟨tg,r4⟩,h3,h⟩:=h;cases h;have e1:=(iy W).1;have e2:=(jQ Y).1;have e3:=(ij h3).1;rw[e1,e2,e3];simp;omega
 cases h
 cases h
theorem yR(N:Nat):∀{n:Nat}{path:Wd}{ks:List Wd}{ls r rf:Wd}{es:List dq},uV n path ks ls r=some (es,rf)->r.length<=N->∃ps,kK N n path ks ls r=some (ps,rf)/\sn ps=es/\rf.length<=r.length/\pM (N-r.length) (N-rf.length) ps
 |0,_,_,_,_,_,_,h,_=>by cases h;exact⟨[],rfl,rfl,cg _,.nil (cg _)⟩
 |n+1,path,ks,ls,r,rf,es,h,hN=>by
  rw[uV]at h
  simp only[c4]at h
  obtain⟨⟨nm,Y⟩,U,⟨e,r2⟩,W,O⟩:=h
  split at O
  .rename_i hk;simp only[c4]at O;obtain⟨⟨aa,r4⟩,h4,h5⟩:=O;cases h5
   try dsimp only at *
   have hl:Y.length+1<=r.length:=by rw[(oe U).1];simp[dJ]
   have ab:=Gs W;obtain⟨ps,k1,k2,k3,k4⟩:=yR N h4 (by omega);refine⟨(N-r.length,e)::ps,?_,by simp[sn,<-k2],by omega,(pM.one (by omega)).append k4⟩;rw[kK,U,c0,W,c0,if_pos hk,k1];rfl
  cases O
def PA(N:Nat)(f:Nat):Prop:=∀(path:Wd)(ks:List Wd)(r rf:Wd)(g:Nat)(es:List dq),sS f path ks r=some (g,es,rf)->r.length<=N->∃ps,km N f path ks r=some (g,ps,rf)/\sn ps=es/\rf.length<=r.length/\pM (N-r.length) (N-rf.length) ps
theorem zh(U:PA N f):∀{n:Nat}{path:Wd}{ks:List Wd}{O:Int}{r rf:Wd}{g:Nat}{es:List dq},uL (sS f) n path ks O r=some (g,es,rf)->r.length<=N->∃ps,lT (km N f) n path ks O r=some (g,ps,rf)/\sn ps=es/\rf.length<=r.length/\pM (N-r.length) (N-rf.length) ps
 |0,_,_,_,_,_,_,_,h,_=>by cases h;exact⟨[],rfl,rfl,cg _,.nil (cg _)⟩
 |n+1,path,ks,O,r,rf,g,es,h,hN=>by
  rw[uL]at h
  simp only[c4]at h
  obtain⟨⟨lb,r1⟩,W,h⟩:=h
  split at h
  .rename_i hc;simp only[c4]at h;obtain⟨⟨g1,aa,r2⟩,h2,⟨g2,ab,r3⟩,h3,h4⟩:=h;cases h4
   try dsimp only at *
   have hl:r1.length<=r.length:=by rw[(iy W).1];simp
   obtain⟨ps,k1,Y,k3,k4⟩:=U _ _ _ _ _ _ h2 (by omega);obtain⟨qs,j1,j2,j3,j4⟩:=zh U h3 (by omega);refine⟨ps++qs,?_,by simp[sn]at *;rw[Y,j2],by omega,(k4.append j4).from (by omega)⟩;rw[lT,W,c0,if_pos hc,k1];simp only[Y,j1,c0]
  cases h
theorem xU(N:Nat):∀f,PA N f
 |0=>nofun
 |f+1=>λpath ks r rf g es h hN=>by
  rw[sS]at h
  split at h
  .rename_i hp
   simp only[c4]at h
   obtain⟨⟨wg,r0⟩,U,⟨nb,r1⟩,W,⟨own,r2⟩,h3,⟨nc,r3⟩,Y,⟨gb,below,r4⟩,h5,O⟩:=h
   split at O
   .rename_i hc;cases O
    try dsimp only at *
    have l1:r0.length<=r.length:=by rw[(jQ U).1];simp
    have l2:r1.length<=r0.length:=by have:=(ij W).1;rw[this];simp
    obtain⟨ps,k1,k2,k3,k4⟩:=yR N h3 (by omega);have l3:r3.length<=r2.length:=by have:=(ij Y).1;rw[this];simp
    obtain⟨qs,j1,j2,j3,j4⟩:=zh (xU N f) h5 (by omega);refine⟨ps++qs,?_,by simp[sn]at *;rw[k2,j2],by omega,(k4.append (j4.from (by omega))).from (by omega)⟩;rw[km,if_pos hp,U,c0,W,c0,k1,c0,Y];simp only[k2,j1,c0];rw[if_pos hc]
   cases O
  cases h
theorem BZ{gs es:List dq}(h:Kj bs=some (gs,es)):∃ps qs,jo bs.length bs=some (ps,qs)/\sn ps=gs/\sn qs=es/\pM 0 bs.length (ps++qs):=by
 unfold Kj at h;simp only[c4]at h;obtain⟨⟨n,r⟩,W,⟨gs',r0⟩,h2,⟨lb,r1⟩,Y,h⟩:=h;split at h
 .rename_i hc;simp only[c4]at h;obtain⟨⟨g,O,r2⟩,h4,h⟩:=h;split at h
  .rename_i hd;cases h
   try dsimp only at *
   have l1:r.length<=bs.length:=by have:=(ij W).1;rw[this];simp
   obtain⟨ps,k1,U,k3,k4⟩:=yC _ h2 (by omega);have l3:r1.length<=r0.length:=by rw[(iy Y).1];simp
   obtain⟨qs,j1,j2,j3,j4⟩:=xU bs.length 26 _ _ _ _ _ _ h4 (by omega);refine⟨ps,qs,?_,U,j2,?_⟩;have a1:ps.length=gs.length:=by rw[<-U];simp
   have a2:qs.length=O.length:=by rw[<-j2];simp
   unfold jo;rw[W,c0,k1,c0,Y,c0,if_pos hc];simp only[U,j1,c0];rw[if_pos (by rw[a1,a2];exact hd)];have:=(k4.append (j4.from (by omega))).from (ch _);rw[hd.1]at this;exact this
  cases h
 cases h
theorem F0(s p:ByteArray)(w:World) :
  cH prog 267 #[.string s,.string p] w λe w'=>e=.returned (.bool (nF s.data.toList p.data.toList))/\w=w':=by
 by_cases h:p.size<=s.size
 .go_wp2;go_ret;rw[xm,dc,dc];simp[h]
 go_wp2;go_ret;rw[xm];simp[h]
theorem zx(s p:ByteArray)(w:World) :
  cH prog 240 #[.string s,.string p] w λe w'=>e=.returned (.bool (nF s.data.toList p.data.toList))/\w=w':=by
 go_enter func240,ntmps240;go_wp2_with fail;refine(F0 s p w).mono ?_;rintro e w' ⟨rfl,rfl⟩;go_wp2;go_ret;exact⟨rfl,rfl⟩
theorem zf(s:ByteArray)(k:Nat)(w:World)(hs:s.size<=1099511627776)(hk:k<s.size) :
  cH prog 268 #[.string s,.int .i64 k] w λe w'=>e=.returned (.bool (eE s.data.toList k))/\w=w':=by
 have e1:=j6 s k hk;have ac:(k:Int)<(s.size:Int):=by omega
 obtain⟨Y,O⟩:∃Y,Y=eB s[k]:=⟨_,rfl⟩;have U:=mH s[k] w;rw[<-O]at U;by_cases h0:k=0
 .subst h0
  have HF:ga (eE s.data.toList 0=Y):=by
   show _=_;unfold eE;rw[e1,<-O];simp
  clear e1 O;go_enter func268,ntmps268;go_wp2_with fail;refine U.mono ?_;rintro e w' ⟨rfl,rfl⟩;clear U
  cases Y with
  |false=>
   go_wp2;go_ret;exact⟨dM HF.out.symm,rfl⟩
  |true=>
   go_wp2;go_ret;exact⟨dM HF.out.symm,rfl⟩
 have ad:((k:Int)==0)=false:=by rw[beq_eq_false_iff_ne];omega
 have ab:k-1<s.size:=by omega
 have e2:=j6 s (k-1) ab;obtain⟨b2,W⟩:∃b2,b2=eB s[k-1]:=⟨_,rfl⟩;have aa:=mH s[k-1] w;rw[<-W]at aa
 have HF:ga (eE s.data.toList k=(Y && !b2)):=by
  show _=_;unfold eE;rw[e1,e2,<-O,<-W];simp[h0]
 have ae:(k:Int)-1=((k-1:Nat):Int):=by omega
 have af:(k:Int)-1<(s.size:Int):=by omega
 have ag:(0:Int)<=k-1:=by omega
 clear e1 e2 O W;go_enter func268,ntmps268;go_wp2_with fail;refine U.mono ?_;rintro e w' ⟨rfl,rfl⟩
 cases Y with
 |false=>
  go_wp2;go_ret;exact⟨dM (by rw[HF.out];rfl),rfl⟩
 |true=>
  go_wp2_with fail;refine aa.mono ?_;rintro e w' ⟨rfl,rfl⟩;go_wp2;go_ret;exact⟨dM (by rw[HF.out];rfl),rfl⟩
theorem Dy(qb O:ByteArray)(w:World)(hs:O.size<=1048576) :
  cH prog 241 #[.string qb,.string O] w λe w'=>e=.returned (.bool (gD 1 qb.data.toList O.data.toList))/\w=w':=by
 have HF:ga (gD 1 qb.data.toList O.data.toList=(aJ O.size).any λi=>eE O.data.toList i&&nF (O.data.toList.drop i) qb.data.toList):=by
  show _=_;unfold gD;simp
 go_enter func241,ntmps241;go_wp2;go_loopw [8] (λiv wr=>∃i:Nat,i<=O.size/\iv=.int .i64 i/\(∀j,j<i->(eE O.data.toList j&&nF (O.data.toList.drop j) qb.data.toList)=false)/\w=wr) (λi _=>O.size-(intOf i).toNat)
 case atStart=>exact⟨0,ch _,rfl,λj hj=>by omega,rfl⟩
 case round=>
  obtain⟨i,hi,rfl,ac,rfl⟩:=hrel;have U:ga (∀j,j<i->(eE O.data.toList j&&nF (O.data.toList.drop j) qb.data.toList)=false):=ac;clear ac;by_cases ad:i<O.size
  .have ah:(i:Int)<(O.size:Int):=by omega
   have ai:(i:Int)<=(O.size:Int):=by omega
   obtain⟨b1,W⟩:∃b1,b1=eE O.data.toList i:=⟨_,rfl⟩;obtain⟨b2,Y⟩:∃b2,b2=nF (O.data.toList.drop i) qb.data.toList:=⟨_,rfl⟩;have aa:=zf O i w (by omega) ad;have ab:=zx (O.extract i O.size) qb w;rw[<-W]at aa;rw[yx,<-Y]at ab;have ae:ga (b1=eE O.data.toList i):=W;have af:ga (b2=nF (O.data.toList.drop i) qb.data.toList):=Y;clear W Y;go_wp2_with fail;refine aa.mono ?_;rintro e w3 ⟨rfl,rfl⟩;clear aa
   cases b1 with
   |false=>
    go_wp2;go_roundw
    case rel=>exact⟨i+1,by omega,by go_num,λj hj=>by
     rcases cj j i with h|h
     exact U.out j h;have e:j=i:=by omega
     subst e;rw[<-ae.out];rfl,trivial⟩
    case measure=>simp[intOf];omega
   |true=>
    go_wp2_with fail;refine ab.mono ?_;rintro e w4 ⟨rfl,rfl⟩;clear ab
    cases b2 with
    |false=>
     go_wp2;go_roundw
     case rel=>exact⟨i+1,by omega,by go_num,λj hj=>by
      rcases cj j i with h|h
      exact U.out j h;have e:j=i:=by omega
      subst e;rw[<-af.out];simp,trivial⟩
     case measure=>simp[intOf];omega
    |true=>
     have HY:ga (gD 1 qb.data.toList O.data.toList=true):=by
      show _=_;rw[HF.out];exact any_some i ad (by rw[<-ae.out,<-af.out];rfl)
     go_wp2;go_ret;exact⟨dM HY.out.symm,rfl⟩
  have ag:i=O.size:=by omega
  subst ag
  have HY:ga (gD 1 qb.data.toList O.data.toList=false):=by
   exact any_none U.out
  go_wp2;go_ret;exact⟨dM HY.out.symm,rfl⟩
theorem B5(n:Nat):(cS #[Value.int .i64 0] n).toList=dX (bO n 0):=by
 apply bZ;simp[cS,dX];simp[cS,dX,Nat.mod_one]
def lg(n i:Nat):List Nat:=aJ i++bO (n-i) 0
theorem I2{n i:Nat}(h:i<=n):(lg n i).length=n:=by simp[lg];omega
theorem ES{n i:Nat}(h:i<n):(dX (lg n i)).set i (.int .i64 (i:Int))=dX (lg n (i+1)):=by
 have e:n-i=(n-(i+1))+1:=by omega
 have O:lg n (i+1)=(lg n i).set i i:=by
  unfold lg;rw[e,List.replicate_succ,bu];simp
 rw[O];unfold dX;rw[List.map_set]
theorem Jf(n:Nat):lg n n=aJ n:=by simp[lg]
theorem xi(qb:ByteArray)(w:World)(hq:qb.size<=1048576) :
  cH prog 269 #[.string qb] w λe w'=>∃g,e=.returned (.slice (some ⟨g,0,none⟩) (qb.size+1) (qb.size+1))/\w'.ownsRow w.heap.size 3 1 (.slice (some ⟨g,0,none⟩) (qb.size+1) (qb.size+1)) (qb.size+1) (dX (aJ (qb.size+1)))/\Below w.heap.size w w':=by
 obtain⟨i3,ad,ae,af,hy2⟩:=info_parts Sb;go_enter func269,ntmps269;go_wp2_with (at_make;go_must (refine wpList_make_full _ rfl _ _ 26 rfl w.heap.size 3 i3 (.int .i64 0) 1 underlying26 ad ae af .i64 .i64 _ _ (qb.size+1) rfl rfl rfl rfl ?m1 ?m2 ?m3 ?_))
 case m1=>rw[hy2];omega
 case m2=>unfold cF;omega
 case m3=>exact cg _
 intro w5 Y aa;have HB5:ga (Below w.heap.size w w5):=(h9 _ _).grown aa (cg _) (by simp)
 have HT5:ga (w5.ownsRow w.heap.size 3 1 (.slice (some ⟨w.heap.size,0,none⟩) (qb.size+1) (qb.size+1)) (qb.size+1) (dX (lg (qb.size+1) 0))):=by
  show ex _ _ _ _ _ _ _;have e:(cS #[Value.int .i64 0] (qb.size+1)).toList=dX (lg (qb.size+1) 0):=by rw[B5];simp[lg]
  rw[<-e];exact Y
 clear Y aa;generalize hg:w.heap.size=g at *;have ab:ga (w.heap.size=g):=hg;clear hg;go_wp2;go_loopw [11] (λiv wr=>∃i:Nat,i<=qb.size+1/\iv=.int .i64 i/\wr.ownsRow g 3 1 (.slice (some ⟨g,0,none⟩) (qb.size+1) (qb.size+1)) (qb.size+1) (dX (lg (qb.size+1) i))/\Below g w wr) (λi _=>qb.size+1-(intOf i).toNat)
 case atStart=>exact⟨0,ch _,rfl,HT5.out,HB5.out⟩
 case round=>
  obtain⟨i,hi,rfl,O,U⟩:=hrel;by_cases W:i<qb.size+1
  .have ai:(i:Int)<(qb.size:Int)+1:=by omega
   obtain⟨bt,ot,ac,ag⟩:=jh O i _ (iR _ i (by rw[I2 hi];exact W));simp only[cX,Addr.mk.injEq]at ac;obtain⟨rfl,rfl,_⟩:=ac;rw[cq]at ag;have aj:=rl O i
   have HO6:ga ((wr.setCell ⟨g,i,none⟩ (.int .i64 i)).ownsRow g 3 1 (.slice (some ⟨g,0,none⟩) (qb.size+1) (qb.size+1)) (qb.size+1) (dX (lg (qb.size+1) (i+1)))):=by
    show ex _ _ _ _ _ _ _;rw[<-ES W];exact zI O i _ W
   have HB6:ga (Below g w (wr.setCell ⟨g,i,none⟩ (.int .i64 i))):=by exact h' U (cg _) _
   clear O U;go_wp2;go_roundw
   case rel=>exact⟨i+1,by omega,by go_num,HO6.out,HB6.out⟩
   case measure=>simp[intOf];omega
  have ah:i=qb.size+1:=by omega
  subst ah
  have HO6:ga (wr.ownsRow g 3 1 (.slice (some ⟨g,0,none⟩) (qb.size+1) (qb.size+1)) (qb.size+1) (dX (aJ (qb.size+1)))):=by
   rw[<-Jf];exact O
  have HB6:ga _:=U;go_wp2;go_ret;exact⟨g,rfl,by rw[ab.out];exact HO6.out,by rw[ab.out];exact HB6.out⟩
variable {cs cs':Array Value} {f:Nat×Nat} {e e':cG} {F:Value->Prop} {w:World}
def jM(F:Value->Prop)(w:World)(v:Value):Prop:=∀g cs e f,v.ownBlock=some g->w.heap[g]?=some (.cells cs e f)->∀u∈cs.toList,F u
theorem GW(F:Value->Prop)(w:World)(n c:Nat):jM F w (.slice none n c):=nofun
theorem jM.stay{w':World}{v:Value}(h:jM F w v)(U:∀g,v.ownBlock=some g->w'.heap[g]?=w.heap[g]?):jM F w' v:=λg cs e f O W=>h g cs e f O (by rw[<-U g O];exact W)
theorem sw{O:Array Value}{k:Nat}{u:Value}(h:u∈(eg O k).toList):u∈O.toList:=by
 unfold eg at h;simp at h;obtain⟨i,hi,rfl⟩:=h
 have U:0<O.size:=by
  rcases cn O.size with h|h
  rw[h]at hi;simp at hi;exact h
 have hm:i % O.size<O.size:=Nat.mod_lt _ U;rw[getElem!_pos O _ hm];simp
theorem Kb(h:(w.drew.alloc (.cells cs e)).heap[w.heap.size]?=some (.cells cs' e' f)):cs'=cs:=by
 have O:(w.heap.push _)[w.heap.size]?=some _:=h;simp at O;exact O.1.symm
theorem IP{g:Nat}{O:Array Value}{f':Nat×Nat}(U:w.heap[g]?=some (.cells O e f))(h:(w.setRow g cs).heap[g]?=some (.cells cs' e' f')):cs'=cs:=by
 unfold World.setRow at h;simp only[gd,if_true,U,Option.map_some,cX,Obj.cells.injEq]at h;exact h.1.symm
theorem Jn{P:Program}{base:Nat}{t ty:cG}{i:TypeInfo}{z:Value}{size bytes:Nat}(ht:P.underlying t=some (.slice e))(hi:P.info? e=some i)(hz:i.zero=some z)
  (U:i.size=size) (ak:i.bytes=bytes) (au:z.cells.size=size) (ap:0<size)
  {v:Value} {n:Nat} {xs:List Value} (aa:w.ownsRow base e size v n xs)
  {x:Value} {m:Nat} {news:List Value} (hx:tj w size x m news) (h1:∀u∈news,u.oneCell'=true)
  (Y:(n+m)*bytes<=140737488355328) (al:n+m<=cF) (aq:0<m) {v':Value} {w':World} (hr:(ee #[t,t] ty #[v,x]).run P w=.ok v' w')
  (hF:jM F w v) (hN:∀u∈news,F u) (hZ:∀u∈z.cells.toList,F u):jM F w' v':=by
 obtain⟨a,cap,rfl,hc,hm,hl,am⟩:=hx;have an:0<news.length:=by rw[hl];exact cu aq ap
 obtain⟨b,off,ha,_⟩:=am 0 _ (a9 an);subst ha
 have W:∀j u,news[j]?=some u->w.cell? ((⟨b,off,none⟩:Addr).add j)=some u:=by
  intro j u hj;obtain⟨b',ar,he,ah⟩:=am j u hj;obtain⟨rfl,rfl,_⟩:=he;rw[ge];exact ah
 have ag:news.length=m*i.size:=by rw[U];exact hl
 rcases aa.2 with⟨rfl,rfl⟩|⟨g,c,ab,rfl,av,hg,aw,ax,ai,aj⟩
 have ac:=cO (P:=P) w t ty e i z ht hi hz _ m cap news ag W (by omega) (by simp only[cF]at al;omega) (by rw[ak];simp only[cq]at Y;omega);rw[ac]at hr;obtain⟨rfl,rfl⟩:=hr;intro g cs e' f hg ai u O;simp only[fB,cX]at hg;subst hg;have:=Kb ai;subst this;simp at O;rcases O with O|O
 exact hN u O;exact hZ u (sw (by simpa using O));by_cases ad:n+m<=c;have ao:n*i.size+news.length<=ab.size:=by rw[ag,ai,U,<-cr];exact cl _ ad
 have ac:=cM (P:=P) w t ty e i ht hi g n c ab hg _ m cap news ag W h1 ad ao;rw[ac]at hr;obtain⟨rfl,rfl⟩:=hr;intro g' cs e' f ae af u O;simp only[fB,cX]at ae;subst ae;have:=IP hg af;subst this;simp at O;rcases O with O|O|O
 exact hF g ab e _ rfl hg u (bx O);exact hN u O;exact hF g ab e _ rfl hg u (bz O);have holds:=aa.cells (g:=g) rfl;have ac:=cN (P:=P) w t ty e i z ht hi hz _ n c xs (by rw[U];exact aa.1) holds _ m cap news ag W (by omega) (by simp only[cF]at al;omega) (by rw[ak];exact cP (by omega) Y);rw[ac]at hr;obtain⟨rfl,rfl⟩:=hr;intro g' cs e' f ae af u O;simp only[fB,cX]at ae;subst ae;have:=Kb af;subst this;simp at O;rcases O with O|O|O
 rw[<-aj]at O;exact hF g ab e _ rfl hg u (bx O);exact hN u O;exact hZ u (sw (by simpa using O))
theorem uU{P:Program}(w:World){ops:Array Oper}{rest:List Oper}{o:Oper}{a:Act}{Q:Exit->Act->World->Prop}(ae:o.guard=none)(s x:Operand)(t:cG)
  (ho:o.op=.call {callee:=.builtin .append,args:=#[s,x],argTypes:=#[t,t]})
  (base:Nat) (e:cG) (i:TypeInfo) (z:Value) (size bytes:Nat) (ht:P.underlying t=some (.slice e)) (hi:P.info? e=some i) (hz:i.zero=some z)
  (U:i.size=size) (aa:i.bytes=bytes) (ab:z.cells.size=size) (ac:0<size)
  (v:Value) (n:Nat) (xs:List Value) (hs:a.eval s=v) (W:w.ownsRow base e size v n xs)
  (y:Value) (m:Nat) (news:List Value) (hx:a.eval x=y) (hy:tj w size y m news) (h1:∀u∈news,u.oneCell'=true)
  (O:(n+m)*bytes<=140737488355328) (ad:n+m<=cF) (Y:base<=w.heap.size) (af:0<m) (hF:jM F w v) (hN:∀u∈news,F u) (hZ:∀u∈z.cells.toList,F u)
  (h:∀v' w',w'.ownsRow base e size v' (n+m) (xs++news)->w.grownBy w' v.ownBlock->jM F w' v'->cJ P ops Q rest (a.put o.dst v') w'):cJ P ops Q (o::rest) a w:=by
 refine cK ae λ_ hK=>?_;obtain⟨v',w',hr,h2,h3,h4⟩:=pT (P:=P) w base t o.type e i z size bytes ht hi hz U aa ab ac v n xs W y m news hy h1 O ad Y;have h5:=Jn ht hi hz U aa ab ac W hy h1 O ad af hr hF hN hZ;unfold Oper.wp cQ;simp only[ho,cU,invoke,builtin,hM,hJ,go,bK,aG,bn,hs,hx,hr];exact hK _ _ (h v' w' h2 h3 h5)
theorem Ef(xs:List Wd)(j:Nat)(h:j<xs.length):(dn xs)[j]?=some (.string ⟨xs[j].toArray⟩):=gU xs j h
end
end Go.Proofs.YtocbogeoffeolaaGreatDoor
