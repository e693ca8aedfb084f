import Derived.Below
import Derived.WalkKit
import Derived.WalkSpells
import Derived.Test.YtocbogeoffeolaaGreatDoorProg
import Derived.WalkLawsBesides
import Derived.Deep.Draws
import Derived.WalkSmall
import Derived.Deep.QuietTactic
import Derived.BigQuiet
import Derived.Deep.Light
import Derived.Deep.RegionWith
import Derived.Deep.RegionHeld
import Derived.Deep.CutRange
import Derived.Lib.FieldsP
import Derived.Laws.RangeString
import Derived.Lib.Bytealg
import Derived.Sort.Statements
import Derived.Shelf.SlSortCmp.Insertion
import Derived.Lib.ConvBytes
import Derived.Laws.IdiomStrings
import Derived.Deep.RegionLaw
import Derived.Maps.OwnSet
import Derived.Maps.RangeWalk
set_option linter.all false
set_option maxHeartbeats 8000000
set_option maxRecDepth 1000000
open List renaming getD_eq_getElem?_getD->ax,mem_filter->ay,mem_cons->az,length_append->a0,mem_map->a5,getElem?_eq_getElem->a6,pairwise_cons->a7,mem_append->a8,map_cons->a9,take_succ_eq_append_getElem->aA,length_cons->aB,mem_singleton->aC,filter_append->aD,flatMap_cons->aE,length_filter_le->aF,cons_prefix_cons->aG,getElem_mem->aH,append_assoc->aI,drop_eq_getElem_cons->aJ,filter_filter->aK,nil_prefix->aL,map_append->aM,foldl_cons->aN,sum_cons->aO,mem_flatMap->aP,range->aQ,pairwise_iff_getElem->aR,exists_mem_of_ne_nil->aS,nodup_cons->aT,nil_append->aU,takeWhile_append_dropWhile->aV,takeWhile_cons->aW,length_eq_zero_iff->aX,cons_append->aY,take_append_drop->aZ,nodup_append->ba,filter_congr->bc,pairwise_append->bd,take_length->be,map_nil->bf,filter_cons->bg,filter_sublist->bh,append_nil->bi,take_of_length_le->bj,eq_nil_of_length_eq_zero->bk,range_succ->bl,length_nil->bm,perm_ext_iff_of_nodup->bn,mem_range->bo,foldl_append->bp,any_eq_false->bq,pairwise_singleton->br,any_eq_true->bt,takeWhile_sublist->bu,filter_eq_nil_iff->bv,dropWhile_sublist->bw,mem_of_mem_drop->bx,take_succ_cons->bz,length_pos_iff->b0,filter_eq_self->b5,dropWhile_cons->b6,pairwise_map->b7,count_append->b8,prefix_refl->b9,length_drop->bA,take_append_of_le_length->bB,sum_append->bC,getElem?_append_left->bD,findIdx?_eq_none_iff->bE,length_pos_of_mem->bF,mem_of_mem_take->bG,mem_append_left->bH,getElem_of_mem->bI,getElem?_drop->bJ,perm_middle->bK,map_toArray->bL,length_take->bM,flatMap_map->bN,prefix_nil->bO,length_map->bP,take_take->bQ,length->bR,Nodup->bS
open Option renaming bind_some->bT,bind_eq_some_iff->bU
open Nat renaming le_refl->bV,mul_right_comm->bW,mul_left_comm->bX,mul_le_mul_right->bY,le_trans->bZ,mul_assoc->ca,zero_le->cb,mul_lt_mul_of_pos_right->cc,add_mul->cd,eq_zero_or_pos->ce,min_eq_left->cf,le_antisymm->cg,zero_add->ch,mul_pos->ci,mul_add->cj
open Go.Op renaming bytesLess->ck
open Bool renaming and_eq_true->cl,eq_iff_iff->cm,or_eq_true->cn,or_eq_false_iff->cp,not_eq_true'->cq,eq_false_iff->cr,and_comm->ct,and_eq_false_imp->cu,false_eq_true->cv,false_or->cw
open Go renaming maxLen->cx,TypeId->cy,wpList->cz,wpList_plain->c0,run_append_own->c1,cell_later->c2,run_convert_bytes_string->c3,Calls->c4,execOp->c5,run_append_room->c6,run_append_grow->c7,run_underlying->c8,run_append_nil->c9,growslice_fits->cA,storeCells->cB
open Int renaming tmod_eq_emod_of_nonneg->cC,tdiv_eq_ediv_of_nonneg->cD,emod_nonneg->cE,eq_ofNat_of_zero_le->cF
open Option.some renaming injEq->cG
open UInt8 renaming lt_iff_toNat_lt->cH,ofNat->cI,toNat_inj->cJ
open Go.Lib renaming compareBytes->cK,spansFromP->cL,closeSpans->cM,bytesWorld_size->cN
open Go.Builtin renaming append_->cO,firstCells->cP,lenOf->cQ,len_->cR
open Go.IntKind renaming wrap_i64->cS
open List.Pairwise renaming sublist->cT,of_map->cU,imp_of_mem->cV
open Go.Result.ok renaming injEq->cW
open ByteArray renaming size->cX,ext->cY,data_append->cZ
open List.Perm renaming append_left->da,eq_of_pairwise->db,refl->dc,append->dd
open Go.World renaming setCell->de,frozen?->df,cell?->dg
open Go.Addr renaming add_lit->di,add->dj
open Go.Result renaming andThen->dk,andThen_ok->dm
open Go.Value renaming ownBlock->dr
open Go.Maps renaming string_keyed->dt,size->ee,has->ef
open Array renaming toList_inj->eg,getElem?_modify->ei
open Go.Value.slice renaming injEq->ej
open Prod renaming fst->en
namespace Go.Proofs.YtocbogeoffeolaaGreatDoor
open Go.Proofs.Tryz
section
open Go.RowKit
def fc(c:UInt8):Bool:=decide ((97<=c.toNat/\c.toNat<=122)\/(48<=c.toNat/\c.toNat<=57))
def ow(c:UInt8):Bool:=decide (32<=c.toNat/\c.toNat<=126)
def ep(l:List UInt8):Bool:=decide (l.length<=24)&&l.all ow
def y8(c:UInt8):UInt8:=if 65<=c.toNat/\c.toNat<=90 then c+32 else c
def eo(l:List UInt8):List UInt8:=l.map y8
theorem AM(s:ByteArray)(k:Nat)(h:k<s.size):s.data.toList.take (k+1)=s.data.toList.take k++[s[k]]:=by
 rw[aA _]; rfl
theorem fY(l:List UInt8):(eo l).length=l.length:=by simp[eo]
theorem I0(l:List UInt8)(c:UInt8):eo (l++[c])=eo l++[y8 c]:=by simp[eo]
def fF(l:List UInt8):List Value:=l.map λc=>Value.int .u8 c.toNat
theorem qh(l:List UInt8):(fF l).length=l.length:=by simp[fF]
theorem OX(c:UInt8)(h:65<=c.toNat/\c.toNat<=90):((y8 c).toNat:Int)=(c.toNat:Int)+32:=by
 unfold y8; rw[if_pos h,UInt8.toNat_add];have:(32:UInt8).toNat=32:=rfl;omega
theorem Q1(c:UInt8)(h:¬(65<=c.toNat/\c.toNat<=90)):y8 c=c:=by
 unfold y8; rw[if_neg h]
def fM(l:List UInt8)(i:Nat):Bool:=fc (l.getD i 0)&&(decide (i=0) || !fc (l.getD (i-1) 0))
def uj(l:List UInt8)(i:Nat):List UInt8:=(l.drop i).takeWhile fc
def jB(l:List UInt8)(k:Nat):List (List UInt8):=((aQ k).filter (fM l)).map (uj l)
def iz(l:List UInt8):List (List UInt8):=jB l l.length
def dn(ws:List (List UInt8)):List Value:=ws.map λb=>Value.string ⟨b.toArray⟩
theorem dC(ws:List (List UInt8)):(dn ws).length=ws.length:=by simp[dn]
theorem mB(ws:List (List UInt8))(b:List UInt8):dn (ws++[b])=dn ws++[Value.string ⟨b.toArray⟩]:=by simp[dn]
theorem ua(l:List UInt8)(k:Nat)(h:fM l k=true):jB l (k+1)=jB l k++[uj l k]:=by
 simp[jB,bl,h]
theorem mu(l:List UInt8)(k:Nat)(h:fM l k=false):jB l (k+1)=jB l k:=by
 simp[jB,bl,h]
theorem Io(l:List UInt8)(k:Nat):(jB l k).length<=k:=by
 unfold jB;have:=aF (fM l) (aQ k);simpa using this
theorem lu(s:ByteArray)(k:Nat)(h:k<s.size):s.data.toList.getD k 0=s[k]:=by
 rw[ax,a6 _]; rfl
def yQ(l:List UInt8)(i too:Nat):Prop:=i<=too/\too<=l.length/\∀j,i<=j->j<too->fc (l.getD j 0)=true
theorem Ai(p:UInt8->Bool):∀(l:List UInt8)(n:Nat),n<=l.length->(∀j,j<n->p (l.getD j 0)=true)->(n=l.length\/p (l.getD n 0)=false)->l.takeWhile p=l.take n:=by
 intro l
 induction l with
 |nil=>simp
 |cons c l Y=>
  intro n h ft O
  cases n with
  |zero=>
   rcases O with U|U
   .simp at U
   .simp at U; simp[U]
  |succ n=>
   have U:=ft 0 (by omega);simp at U;rw[aW,U,bz];simp only[if_true];rw[Y n (by simpa using h) (λj hj=>by have:=ft (j+1) (by omega); simpa using this) ?_];rcases O with W|W
   .left; simpa using W
   .right; simpa using W
theorem Hq(l:List UInt8)(i too:Nat)(h:yQ l i too)(O:too=l.length\/fc (l.getD too 0)=false):uj l i=(l.drop i).take (too-i):=by
 obtain⟨Y,h2,W⟩:=h;have U:∀j,(l.drop i).getD j 0=l.getD (i+j) 0:=by simp[ax,bJ]
 refine Ai fc _ _ (by simp; omega) (λj hj=>?_) ?_
 .rw[U]; exact W _ (by omega) (by omega)
 .rcases O with h|h
  .simp; omega
  .right; rw[U,show i+(too-i)=too by omega]; exact h
theorem Ga(l:List UInt8)(k:Nat)(O:k<=l.length):yQ l k k:=⟨bV _,O,λ_ _ _=>by omega⟩
theorem zB(l:List UInt8)(k t:Nat)(h:yQ l k t)(W:t<l.length)(O:fc (l.getD t 0)=true):yQ l k (t+1):=
 ⟨by have:=h.1; omega,by omega,λj U Y=>by
   by_cases e:j=t
   .rw[e]; exact O
   .exact h.2.2 j U (by omega)⟩
theorem tk(f:ByteArray)(k t:Nat)(h:yQ f.data.toList k t)(O:t=f.size\/fc (f.data.toList.getD t 0)=false) :
  f.extract k t=⟨(uj f.data.toList k).toArray⟩:=by
 rw[Hq _ k t h (by simpa using O)];apply cY;apply eg.1;simp
theorem CK(s:ByteArray)(k:Nat)(h:k<s.size):s[k]∈s.data.toList:=by
 exact aH _
theorem eG{a b:Bool}(h:a=b):Ending.returned (.bool a)=.returned (.bool b):=by rw[h]
theorem eQ{k:IntKind}{a b:Int}(h:a=b):Ending.returned (.int k a)=.returned (.int k b):=by rw[h]
end
section
open Go.RowKit
variable {v:Value} {w:World}
theorem fj{P:Program}(w:World){ops:Array Oper}{rest:List Oper}{o:Oper}{a:Act}{Q:Exit->Act->World->Prop}(ab:o.guard=none)(s x:Operand)(t:cy)
  (ho:o.op=.call {callee:=.builtin .append,args:=#[s,x],argTypes:=#[t,t]})
  (base:Nat) (e:cy) (i:TypeInfo) (z:Value) (bytes:Nat) (ht:P.underlying t=some (.slice e)) (hi:P.info? e=some i) (hz:i.zero=some z)
  (U:i.size=1) (ac:i.bytes=bytes) (ae:z.cells.size=1)
  (v:Value) (n:Nat) (xs:List Value) (hs:a.eval s=v) (aa:w.ownsRow base e 1 v n xs)
  (ad:Addr) (y:Value) (hx:a.eval x=.slice (some ad) 1 1) (W:w.cell? ad=some y) (h1:y.oneCell'=true)
  (O:(n+1)*bytes<=140737488355328) (af:n+1<=cx) (Y:base<=w.heap.size)
  (h:∀v' w',w'.ownsRow base e 1 v' (n+1) (xs++[y])->w.grownBy w' v.ownBlock->v'≠.slice none 0 0->cz P ops Q rest (a.put o.dst v') w'):cz P ops Q (o::rest) a w:=by
 refine wpList_append_own w ab s x t ho base e i z 1 bytes ht hi hz U ac ae (by decide) v n xs hs aa ad 1 1 [y] hx rfl ?_ ?_ af O Y ?_
 .intro j u hj
  match j,hj with
  |0,hj=>simp at hj; subst hj; simpa[dj]using W
  |j+1,hj=>simp at hj
 .intro u hu; simp at hu; subst hu; exact h1
 .intro v' w' h2 h3 h4;refine h v' w' h2 h3 ?_;intro he;have:=h4.1 he;simp at this
theorem iG{t:cy}:(w.alloc (.cells #[v] t)).cell? ⟨w.heap.size,0,none⟩=some v:=by
 rw[World.cell?_alloc_at _ _ _ _ rfl]; rfl
theorem I8:∀(l:List UInt8)(s:ByteArray),(l.map λc=>(c.toNat:Int)).foldl (λr n=>r.push (cI n.toNat)) s=⟨s.data++l.toArray⟩:=by
 intro l
 induction l with
 |nil=>simp
 |cons c l O=>
  intro s;rw[a9,aN,O];simp
theorem Hs{P:Program}{base u8 src O n:Nat}{l:List UInt8}(h:w.ownsRow base u8 1 v n (fF l))
  (Y:P.underlying src=some (.slice u8)) (he:P.underlying u8=some (.int .u8)) (hd:P.underlying O=some .string) :
  (convert src O v).run P w=.ok (.string ⟨l.toArray⟩) w:=by
 have h0:=h;obtain⟨U,h⟩:=h;rcases h with⟨rfl,rfl⟩|⟨g,cap,aa,rfl,_,hg,_,_,ab,ac⟩
 .have:=by simpa[fF]using U
  subst this;rw[c3 w src O u8 _ _ _ Y he hd];rfl
 .rw[c3 w src O u8 _ _ _ Y he hd];have hn:n=l.length:=by rw[qh]at U; omega
  have W:=run_loadCells_list (P:=P) w _ _ (h0.cells rfl);rw[qh,<-hn]at W;have e:fF l=(l.map λc=>c.toNat).map (Value.int .u8):=by simp[fF]
  rw[e]at W;rw[run_bytesToString w _ _ _ _ W,I8];simp
end
section
open Go.RowKit
theorem Fa:(prog.info? 5).map (λi=>(i.zero,i.size,i.bytes))=some (some (.int .u8 0),1,1):=by kernel_rfl
end
section
open Go.RowKit
theorem vo:(prog.info? 9).map (λi=>(i.zero,i.size,i.bytes))=some (some (.string ⟨#[]⟩),1,16):=by kernel_rfl
end
section
open Go.RowKit
abbrev Wd:=List UInt8
def zr(t ws:List Wd)(k j:Nat):Bool:=decide ((t.drop k).take j=ws.take j)
def oI(t ws:List Wd)(k:Nat):Bool:=zr t ws k ws.length
def iE(t ws:List Wd)(k:Nat):Nat:=((aQ k).filter (oI t ws)).length
def r7(t ws:List Wd):Nat:=iE t ws (t.length+1-ws.length)
def gT(O:List (List Wd))(ws:List Wd):Nat:=(O.map λt=>r7 t ws).sum
def gp(O:List (List Wd)):Nat:=(O.map λt=>t.length+1).sum
theorem Ag(t ws:List Wd)(k:Nat)(h:oI t ws k=true):iE t ws (k+1)=iE t ws k+1:=by
 simp[iE,bl,h]
theorem Dj(t ws:List Wd)(k:Nat)(h:oI t ws k=false):iE t ws (k+1)=iE t ws k:=by
 simp[iE,bl,h]
theorem BI(t ws:List Wd)(k:Nat):iE t ws k<=k:=by
 have:=aF (oI t ws) (aQ k);simpa[iE]using this
theorem Gt(t ws:List Wd):r7 t ws<=t.length+1:=by
 have:=BI t ws (t.length+1-ws.length);unfold r7; omega
theorem G3(O:List (List Wd))(i:Nat)(h:i<O.length):gp (O.take (i+1))=gp (O.take i)+(O[i].length+1):=by
 unfold gp;rw[aA h,aM,bC]; rfl
theorem Lm(O:List (List Wd))(ws:List Wd):gT O ws<=gp O:=by
 induction O with
 |nil=>simp[gT,gp]
 |cons t O U=>
  have h:=Gt t ws;simp only[gT,gp,a9,aO]at U⊢;omega
end
section
open Go.RowKit
def Rd(w:World)(v:Value)(xs:List Value):Prop:=
 ∃a cap,v=.slice a xs.length cap/\xs.length<=cap/\cap<=cx/\∀j u,xs[j]?=some u->∃b off,a=some ⟨b,off,none⟩/\w.cell? ⟨b,off+j,none⟩=some u
theorem Rd.jj{w:World}{base e n:Nat}{v:Value}{xs:List Value}(h:w.ownsRow base e 1 v n xs):Rd w v xs:=by
 have U:=h;obtain⟨W,h⟩:=h;rcases h with⟨rfl,rfl⟩|⟨g,cap,Y,rfl,_,hg,hn,O,aa,ab⟩
 .have:=by simpa using W
  subst this;exact⟨none,0,rfl,bV _,by omega,by simp⟩
 .have e:n=xs.length:=by omega
  refine⟨some _,cap,by rw[e],by omega,O,λj u hj=>⟨g,0,rfl,?_⟩⟩;have:=U.cells (g:=g) rfl j u hj
  have e2:(⟨g,0,none⟩:Addr).add j=⟨g,0+j,none⟩:=by
   unfold dj;split
   .rename_i h; rw[h]
   .rfl
  rw[e2]at this;exact this
theorem gL(ws:List Wd)(j:Nat)(h:j<ws.length):(dn ws)[j]?=some (.string ⟨ws[j].toArray⟩):=by
 simp[dn,h]
end
section
open Go.RowKit
def zb(out:List Wd)(x:Wd):Nat:=(out.takeWhile λy=>ck y x).length
def uI(out:List Wd)(x:Wd):List Wd:=if out[zb out x]?=some x then out else out.take (zb out x)++([x]++out.drop (zb out x))
def xa(out:List Wd)(t:List Wd)(k:Nat):List Wd:=(t.take k).foldl uI out
def eK(O:List (List Wd)):List Wd:=O.foldl (λout t=>t.foldl uI out) []
theorem Tl(out:List Wd)(x:Wd):zb out x<=out.length:=(bu _).length_le
theorem Ah{α:Type}(p:α->Bool):∀(l:List α)(n:Nat)(O:n<=l.length),(∀j(h:j<n),p (l[j]'(by omega))=true)->(∀h:n<l.length,p l[n]=false)->(l.takeWhile p).length=n:=by
 intro l
 induction l with
 |nil=>intro n O _ _; simp at O; simp[O]
 |cons c l ih=>
  intro n O U W
  cases n with
  |zero=>have:=W (by simp); simp at this; simp[this]
  |succ n=>
   have Y:=U 0 (by omega);simp at Y;rw[aW,Y];simp only[if_true,aB];rw[ih n (by simpa using O) (λj hj=>by have:=U (j+1) (by omega); simpa using this) (λhh=>by have:=W (by simpa using hh); simpa using this)]
theorem MF(out:List Wd)(x:Wd):(uI out x).length<=out.length+1:=by
 unfold uI;split
 .omega
 .simp; omega
theorem Ew(O:List (List Wd))(i:Nat)(h:i<O.length):eK (O.take (i+1))=xa (eK (O.take i)) O[i] O[i].length:=by
 unfold eK xa;rw[aA h,bp,be]; rfl
theorem Af(t:List Wd):∀out,(t.foldl uI out).length<=out.length+t.length:=by
 induction t with
 |nil=>simp
 |cons x t O=>intro out; have:=O (uI out x); have:=MF out x; simp only[aN,aB]; omega
theorem FU(out t:List Wd)(k:Nat):(xa out t k).length<=out.length+k:=by
 have:=Af (t.take k) out;unfold xa;simp at this⊢; omega
theorem G9(O:List (List Wd))(i:Nat)(hi:i<=O.length):(eK (O.take i)).length<=gp (O.take i):=by
 induction i with
 |zero=>simp[eK]
 |succ i U=>
  rw[Ew O i (by omega),G3 O i (by omega)];have:=FU (eK (O.take i)) O[i] O[i].length;omega
end
section
open Go.RowKit
variable {xs:List Value} {ws:List Wd} {b base cap e n:Nat} {a:Option Addr} {v:Value} {w w':World}
theorem jS{P:Program}(w:World)(t O e:cy)(i:TypeInfo)(U:P.underlying t=some (.slice e))(hi:P.info? e=some i)(b:Option Addr)(n cap c:Nat)(h:n<=cap) :
  (cO #[t,t] O #[.slice b n cap,.slice none 0 c]).run P w=.ok (.slice b n cap) w:=by
 cases b<;>simp[cO,c8 U,sizeOf,typeInfo,hi,cQ,cP,h,cB]
theorem dM(h:w.ownsRow base e 1 v n xs):∃a cap,v=.slice a n cap/\n<=cap:=by
 rcases h.2 with⟨rfl,rfl⟩|⟨g,cap,O,rfl,_,_,U,_⟩
 .exact⟨none,0,rfl,bV _⟩
 .exact⟨_,cap,rfl,U⟩
theorem zK{P:Program}(w:World)(base:Nat)(t ty e:cy)(i:TypeInfo)(z:Value)(bytes:Nat)(ht:P.underlying t=some (.slice e))(hi:P.info? e=some i)(hz:i.zero=some z)
  (W:i.size=1) (ab:i.bytes=bytes) (ac:z.cells.size=1)
  (v:Value) (n:Nat) (xs:List Value) (O:w.ownsRow base e 1 v n xs)
  (x:Value) (news:List Value) (hx:Rd w x news) (h1:∀u∈news,u.oneCell'=true)
  (U:(n+news.length)*bytes<=140737488355328) (ae:n+news.length<=cx) (Y:base<=w.heap.size) :
  ∃v' w',(cO #[t,t] ty #[v,x]).run P w=.ok v' w'/\w'.ownsRow base e 1 v' (n+news.length) (xs++news)/\w.grownBy w' v.ownBlock:=by
 obtain⟨a,cap,rfl,hc,hm,hr⟩:=hx
 cases a with
 |none=>
  have hn:news=[]:=by
   cases news with
   |nil=>rfl
   |cons u us=>obtain⟨b,off,he,_⟩:=hr 0 u rfl; simp at he
  subst hn;obtain⟨b,c,rfl,af⟩:=dM O;refine⟨_,w,jS w t ty e i ht hi b n c cap af,by simpa using O,World.grownBy.refl ..⟩
 |some ad=>
  by_cases hn:news=[]
  .subst hn;obtain⟨v',w',h1,h2,h3,_⟩:=c1 (P:=P) w base t ty e i z 1 bytes ht hi hz W ab ac (by decide) v n xs O ad 0 cap [] rfl (by simp) (by simp) (by simpa using ae) (by simpa using U) Y;exact⟨v',w',h1,h2,h3⟩
  .obtain⟨b,off,he,_⟩:∃b off,some ad=some ⟨b,off,none⟩/\True:=by
    cases news with
    |nil=>exact absurd rfl hn
    |cons u us=>obtain⟨b,off,he,_⟩:=hr 0 u rfl; exact⟨b,off,he,trivial⟩
   simp only[cG]at he;subst he
   obtain⟨v',w',h1,h2,h3,_⟩:=c1 (P:=P) w base t ty e i z 1 bytes ht hi hz W ab ac (by decide) v n xs O _ _ cap news (by simp) (λj u hj=>by
    obtain⟨b',ag,he,aa⟩:=hr j u hj;obtain⟨rfl,rfl,_⟩:=he
    rw[di]; exact aa) h1 ae U Y
   exact⟨v',w',h1,h2,h3⟩
theorem qg{P:Program}(w:World)(base:Nat)(t ty e:cy)(i:TypeInfo)(z:Value)(bytes:Nat)(ht:P.underlying t=some (.slice e))(hi:P.info? e=some i)(hz:i.zero=some z)
  (O:i.size=1) (ac:i.bytes=bytes) (ah:z.cells.size=1)
  (v:Value) (n:Nat) (xs:List Value) (U:w.ownsRow base e 1 v n xs)
  (x:Value) (news:List Value) (hx:Rd w x news) (h1:∀u∈news,u.oneCell'=true)
  (W:(n+news.length)*bytes<=140737488355328) (ae:n+news.length<=cx) (ab:base<=w.heap.size) :
  ∃v' w',(cO #[t,t] ty #[v,x]).run P w=.ok v' w'/\w'.ownsRow base e 1 v' (n+news.length) (xs++news)/\w.grownBy w' v.ownBlock/\(v'.ownBlock=v.ownBlock\/v'.ownBlock=some w.heap.size):=by
 obtain⟨v',w',hr,h2,h3⟩:=zK (P:=P) w base t ty e i z bytes ht hi hz O ac ah v n xs U x news hx h1 W ae ab;refine⟨v',w',hr,h2,h3,?_⟩;obtain⟨a,cap,rfl,hc,hm,ai⟩:=hx
 cases a with
 |none=>
  have hn:news=[]:=by
   cases news with
   |nil=>rfl
   |cons u us=>obtain⟨b,off,he,_⟩:=ai 0 u rfl; simp at he
  subst hn;obtain⟨b,c,rfl,aj⟩:=dM U;have:=jS (P:=P) w t ty e i ht hi b n c cap aj;simp only[bm]at hr;rw[this]at hr;simp only[cW]at hr;exact Or.inl (by rw[<-hr.1])
 |some ad=>
  have aa:∀j u,news[j]?=some u->w.cell? (ad.add j)=some u:=by
   intro j u hj;obtain⟨b,off,he,af⟩:=ai j u hj;simp only[cG]at he;subst he;rw[di]; exact af
  have hl:news.length=news.length*i.size:=by rw[O]; omega
  rcases U.2 with⟨rfl,rfl⟩|⟨g,c,ak,rfl,ao,hg,aj,ap,aq,al⟩
  .by_cases am:news.length=0
   .have hn:=bk am;subst hn;rcases h2.2 with⟨rfl,_⟩|⟨g',c',an,rfl,_,ar,_⟩
    .exact Or.inl rfl
    .have:=c1 (P:=P) w base t ty e i z 1 bytes ht hi hz O ac ah (by decide) _ 0 xs U ad 0 cap [] rfl (by simp) (by simp) (by simp) (by simp) ab;obtain⟨v2,w2,Y,_,_,h4⟩:=this;simp only[bm]at hr;rw[hr]at Y;simp only[cW]at Y;have:=h4.2 ⟨rfl,rfl⟩;rw[<-Y.1]at this;simp at this
   .have Y:=c9 (P:=P) w t ty e i z ht hi hz ad _ cap news hl aa (by omega) (by simp only[cx]at ae; omega) (by rw[ac]; simp only[ch]at W; omega);rw[Y]at hr;simp only[cW]at hr;exact Or.inr (by rw[<-hr.1]; rfl)
  .by_cases ag:n+news.length<=c
   .have Y:=c6 (P:=P) w t ty e i ht hi g n c ak hg ad _ cap news hl aa h1 ag (by rw[O]; omega);rw[Y]at hr;simp only[cW]at hr;exact Or.inl (by rw[<-hr.1]; rfl)
   .have holds:=U.cells (g:=g) rfl;have Y:=c7 (P:=P) w t ty e i z ht hi hz _ n c xs (by rw[O]; exact U.1) holds ad _ cap news hl aa (by omega) (by simp only[cx]at ae; omega) (by rw[ac]; exact cA (by omega) W);rw[Y]at hr;simp only[cW]at hr;exact Or.inr (by rw[<-hr.1]; rfl)
theorem fw{P:Program}(w:World){ops:Array Oper}{rest:List Oper}{o:Oper}{a:Act}{Q:Exit->Act->World->Prop}(ab:o.guard=none)(s x:Operand)(t:cy)
  (ho:o.op=.call {callee:=.builtin .append,args:=#[s,x],argTypes:=#[t,t]})
  (base:Nat) (e:cy) (i:TypeInfo) (z:Value) (bytes:Nat) (ht:P.underlying t=some (.slice e)) (hi:P.info? e=some i) (hz:i.zero=some z)
  (U:i.size=1) (ac:i.bytes=bytes) (ad:z.cells.size=1)
  (v:Value) (n:Nat) (xs:List Value) (hs:a.eval s=v) (aa:w.ownsRow base e 1 v n xs)
  (y:Value) (news:List Value) (hx:a.eval x=y) (hy:Rd w y news) (h1:∀u∈news,u.oneCell'=true)
  (O:(n+news.length)*bytes<=140737488355328) (ae:n+news.length<=cx) (W:base<=w.heap.size)
  (h:∀Y w',w'.ownsRow base e 1 Y (n+news.length) (xs++news)->w.grownBy w' v.ownBlock->(Y.ownBlock=v.ownBlock\/Y.ownBlock=some w.heap.size)->cz P ops Q rest (a.put o.dst Y) w'):cz P ops Q (o::rest) a w:=by
 refine c0 ab λ_ hK=>?_;obtain⟨Y,w',hr,h2,h3,h4⟩:=qg (P:=P) w base t o.type e i z bytes ht hi hz U ac ad v n xs aa y news hy h1 O ae W;unfold Oper.wp c5;simp only[ho,resolve,invoke,builtin,Sem.run_bind,Sem.run_pure,dm,bL,a9,bf,hs,hx,hr];exact hK _ _ (h Y w' h2 h3 h4)
theorem Rd.one{y:Value}(h:w.cell? ⟨b,0,none⟩=some y):Rd w (.slice (some ⟨b,0,none⟩) 1 1) [y]:=by
 refine⟨some _,1,rfl,bV _,by unfold cx; omega,λj u O=>⟨b,0,rfl,?_⟩⟩
 match j,O with
 |0,O=>simp at O; subst O; exact h
 |j+1,O=>simp at O
theorem k9:∀u∈dn ws,u.oneCell'=true:=by
 intro u O;simp only[dn,a5]at O;obtain⟨b,_,rfl⟩:=O;rfl
theorem Rd.take(h:Rd w (.slice a n cap) xs)(k:Nat)(hk:k<=xs.length):Rd w (.slice a k cap) (xs.take k):=by
 obtain⟨a',U,W,hc,hm,Y⟩:=h;obtain⟨rfl,rfl,rfl⟩:=W;have hl:(xs.take k).length=k:=by simp; omega
 refine⟨a,cap,by rw[hl],by omega,hm,λj u O=>Y j u ?_⟩;rw[List.getElem?_take]at O;split at O
 .exact O
 .simp at O
theorem Rd.M8(h:Rd w (.slice a n cap) (dn ws))(k:Nat)(O:k<=ws.length):Rd w (.slice a k cap) (dn (ws.take k)):=by
 have:=h.take k (by rw[dC]; exact O);simpa[dn]using this
theorem Rd.drop(h:Rd w (.slice a n cap) xs)(k:Nat)(hk:k<=xs.length) :
  Rd w (.slice (if cap=k then a else a.map λx=>x.add k) (n-k) (cap-k)) (xs.drop k):=by
 obtain⟨a',W,Y,hc,hm,hr⟩:=h;obtain⟨rfl,rfl,rfl⟩:=Y;refine⟨if cap=k then a else a.map _,cap-k,by rw[bA],by simp; omega,by omega,λj u U=>?_⟩;rw[bJ]at U;obtain⟨b,off,rfl,O⟩:=hr _ u U
 have aa:k+j<xs.length:=by
  by_cases h:k+j<xs.length
  .exact h
  .rw[List.getElem?_eq_none (by omega)]at U; simp at U
 refine⟨b,off+k,?_,by rw[Nat.add_assoc]; exact O⟩;rw[if_neg (by omega)];simp[di]
theorem Rd.yy(h:Rd w (.slice a n cap) (dn ws))(k:Nat)(O:k<=ws.length) :
  Rd w (.slice (if cap=k then a else a.map λx=>x.add k) (n-k) (cap-k)) (dn (ws.drop k)):=by
 have:=h.drop k (by rw[dC]; exact O);simpa[dn]using this
theorem Rd.DZ{off:Nat}(h:Rd w (.slice (some ⟨b,off,none⟩) n cap) (dn ws))(k:Nat)(O:k<ws.length)(U:n<=cap)(W:n=ws.length) :
  Rd w (.slice (some ⟨b,off+k,none⟩) (n-k) (cap-k)) (dn (ws.drop k)):=by
 have:=h.yy k (by omega);rw[if_neg (by omega)]at this;simpa[di]using this
theorem Rd.Ie{c:Nat}(O:n=0)(U:c<=cx):Rd w (.slice a n c) []:=by
 subst O;exact⟨a,c,rfl,cb _,U,by simp⟩
theorem Rd.later(h:Rd w v xs)(U:∀a u,w.cell? a=some u->w'.cell? a=some u):Rd w' v xs:=by
 obtain⟨a,cap,W,Y,h2,hr⟩:=h;refine⟨a,cap,W,Y,h2,λj u hj=>?_⟩;obtain⟨b,off,e,O⟩:=hr j u hj;exact⟨b,off,e,U _ _ O⟩
theorem PO{a:Addr}{u:Value}(h:w.cell? a=some u):a.block<w.heap.size:=by
 by_cases O:a.block<w.heap.size
 .exact O
 .unfold dg at h;rw[Array.getElem?_eq_none (by omega)]at h;simp at h
theorem Rd.below(h:Rd w v xs)(hb:Below w.heap.size w w'):Rd w' v xs:=
 h.later λ_ _ O=>c2 hb O
theorem j7{O size:Nat}(h:w.ownsRow base e size v n xs)(hb:O<=base):w.ownsRow O e size v n xs:=by
 obtain⟨Y,U⟩:=h;refine⟨Y,?_⟩;rcases U with U|⟨g,cap,W,hv,hg,r⟩
 .exact Or.inl U
 .exact Or.inr ⟨g,cap,W,hv,by omega,r⟩
end
section
open Go.RowKit
def ob(O:List (List Wd)):Nat:=(O.map λt=>t.length).sum
def Tz(O:List (List Wd))(l:List Wd)(x:Wd):Nat:=gT O [l.getD (l.length-2) [],l.getD (l.length-1) [],x]
def Tm(O:List (List Wd))(l:List Wd)(x:Wd):Nat:=gT O [l.getD (l.length-1) [],x]
def qS(O:List (List Wd))(l:List Wd)(x:Wd):Nat×Nat:=
 if 1<l.length/\0<Tz O l x then(Tz O l x,gT O [l.getD (l.length-2) [],l.getD (l.length-1) []])
 else if 0<l.length/\0<Tm O l x then(4*Tm O l x,10*gT O [l.getD (l.length-1) []])
 else(16*gT O [x],100*ob O)
theorem JO(O:List (List Wd)):ob O<=gp O:=by
 induction O with
 |nil=>simp[ob,gp]
 |cons t O U=>simp only[ob,gp,a9,aO]at U⊢; omega
end
section
open Go.RowKit
theorem Cm(ws:List Wd)(j:Nat)(h:j<ws.length):(dn ws)[j]?=some (.string ⟨(ws.getD j []).toArray⟩):=by
 rw[gL ws j h,ax,a6 h]; rfl
theorem IX(n k:Int)(h:n=k)(O:0<=n)(U:n<=4611686018427387904):IntKind.i64.wrap n=k:=by
 rw[IntWalk.i64_in n (by omega),h]
end
section
open Go.RowKit
abbrev Fr:=Nat×Nat
def uL(O:List Fr)(i j:Nat):Bool:=decide ((O.getD j (0,0)).1*(O.getD i (0,0)).2<(O.getD i (0,0)).1*(O.getD j (0,0)).2)
def gK(O:List Fr)(told:List Bool):Nat->Option Nat
 |0=>none
 |i+1=>if told.getD i false=true then gK O told i else
  match gK O told i with
  |none=>some i
  |some j=>if uL O i j=true then some i else some j
def yU(O:List Fr):List Bool->Nat->List Nat
 |_,0=>[]
 |told,n+1=>match gK O told O.length with
  |none=>[]
  |some b=>b::yU O (told.set b true) n
def TS(O:List (List Wd))(l:List Wd):List Fr:=(eK O).map (qS O l)
def iA(O:List (List Wd))(l:List Wd)(most:Nat):List Wd:=
 (yU (TS O l) (List.replicate (eK O).length false) (min most (eK O).length)).map λi=>(eK O).getD i []
theorem Ax(Y:List Fr)(told:List Bool):∀(i j:Nat),gK Y told i=some j->j<i/\told.getD j false=false:=by
 intro i
 induction i with
 |zero=>intro j h; simp[gK]at h
 |succ i U=>
  intro j h;unfold gK at h;split at h
  .have:=U j h; exact⟨by omega,this.2⟩
  .rename_i W;split at h
   .simp at h; subst h; exact⟨by omega,by simpa using W⟩
   .rename_i j' O;split at h
    .simp at h; subst h; exact⟨by omega,by simpa using W⟩
    .simp at h; subst h; have:=U j' O; exact⟨by omega,this.2⟩
theorem vN(O:List Fr)(told:List Bool):∀(i:Nat),gK O told i=none->∀j,j<i->told.getD j false=true:=by
 intro i
 induction i with
 |zero=>omega
 |succ i U=>
  intro h j Y;unfold gK at h;split at h
  .rename_i W;by_cases e:j=i
   .subst e; exact W
   .exact U h j (by omega)
  .split at h
   .simp at h
   .split at h<;>simp at h
theorem Eb(O:List Fr)(told:List Bool)(i:Nat)(h:told.getD i false=true):gK O told (i+1)=gK O told i:=by simp only[gK]; rw[if_pos h]
theorem C0(O:List Fr)(told:List Bool)(i:Nat)(h:told.getD i false=false)(U:gK O told i=none):gK O told (i+1)=some i:=by simp only[gK]; rw[if_neg (by rw[h]; simp),U]
theorem zQ(O:List Fr)(told:List Bool)(i j:Nat)(h:told.getD i false=false)(U:gK O told i=some j)(hb:uL O i j=true):gK O told (i+1)=some i:=by simp only[gK]; rw[if_neg (by rw[h]; simp),U]; simp[hb]
theorem CJ(O:List Fr)(told:List Bool)(i j:Nat)(h:told.getD i false=false)(U:gK O told i=some j)(hb:uL O i j=false):gK O told (i+1)=some j:=by simp only[gK]; rw[U]; simp[hb]
end
section
open Go.RowKit
variable {xs:List Value} {base c e g m n:Nat} {v:Value} {w:World}
def dT(l:List Nat):List Value:=l.map λ(n:Nat)=>Value.int .i64 (n:Int)
theorem yH(l:List Nat):(dT l).length=l.length:=by simp[dT]
theorem iM(l:List Nat)(j:Nat)(h:j<l.length):(dT l)[j]?=some (.int .i64 (l.getD j 0)):=by
 simp[dT,ax,h]
theorem QI:(prog.info? 3).map (λi=>(i.zero,i.size,i.bytes))=some (some (.int .i64 0),1,8):=by kernel_rfl
theorem IA{w':World}(h:w.ownsRow base e 1 v n xs)(hb:Below w.heap.size w w'):w'.ownsRow base e 1 v n xs:=
 h.kept (row:=none) ⟨hb.os,hb.tape,hb.output,hb.size,λk O _=>hb.block k O⟩ (by cases v.ownBlock<;>simp)
theorem iX{a:Option Addr}(h:w.ownsRow base e 1 (.slice a m c) n xs)(k:Nat)(u:Value)(U:xs[k]?=some u):∃b off,a=some ⟨b,off,none⟩/\w.cell? ⟨b,off+k,none⟩=some u:=by
 obtain⟨Y,c',O,_,_,W⟩:=Rd.jj h;simp only[ej]at O;rw[O.1];exact W k u U
theorem qP(h:w.ownsRow base e 1 (.slice (some ⟨g,0,none⟩) m c) n xs)(o:Nat):w.frozen? ⟨g,o,none⟩=false:=by
 rcases h.2 with⟨h,_⟩|⟨g',cap,U,O,_,W,_⟩
 .simp at h
 .simp only[ej,cG,Addr.mk.injEq]at O;obtain⟨⟨rfl,_⟩,_⟩:=O;simp[df,W]
theorem sY(h:w.ownsRow base e 1 (.slice (some ⟨g,0,none⟩) m c) n xs)(k:Nat)(v:Value)(hk:k<n) :
  (w.setCell ⟨g,k,none⟩ v).ownsRow base e 1 (.slice (some ⟨g,0,none⟩) m c) n (xs.set k v):=by
 obtain⟨W,Y⟩:=h;refine⟨by simpa using W,?_⟩;rcases Y with⟨h,_⟩|⟨g',cap,U,he,hb,hg,h3,h4,h5,h6⟩
 .simp at h
 .have O:=he;simp only[ej,cG,Addr.mk.injEq]at O;obtain⟨⟨rfl,_⟩,rfl,rfl⟩:=O;refine Or.inr ⟨g,c,U.setIfInBounds k v,rfl,hb,?_,h3,h4,by simpa using h5,?_⟩
  .simp only[de,ei,hg];simp
  .rw[Array.toList_setIfInBounds,List.take_set,h6]
theorem Kk{b:Nat}{t:cy}(hb:b=w.heap.size):(w.alloc (.cells #[v] t)).cell? ⟨b,0,none⟩=some v:=by
 subst hb; exact iG
end
section
open Go.RowKit
variable {cs:Array Value} {xs:List Value} {b base e n:Nat} {fz:Nat×Nat} {F G:Nat->Prop} {t:cy} {v:Value} {w w':World}
structure du(F:Nat->Prop)(w w':World):Prop where
 os:w'.os=w.os
 tape:w'.tape=w.tape
 output:w'.output=w.output
 size:w.heap.size<=w'.heap.size
 block:∀k,k<w.heap.size->¬F k->w'.heap[k]?=w.heap[k]?
def Qw(F:Nat->Prop)(w w':World):Nat->Prop:=λk=>F k\/(w.heap.size<=k/\k<w'.heap.size)
theorem du.refl(F:Nat->Prop)(w:World):du F w w:=⟨rfl,rfl,rfl,bV _,λ_ _ _=>rfl⟩
theorem du.fC(h:Below w.heap.size w w'):du F w w':=⟨h.os,h.tape,h.output,h.size,λk O _=>h.block k O⟩
theorem du.trans{a b c:World}(h:du F a b)(k:du G b c)(O:∀i,i<a.heap.size->G i->F i):du F a c:=
 ⟨k.os.trans h.os,k.tape.trans h.tape,k.output.trans h.output,bZ h.size k.size,λi hi hF=>by
   rw[k.block i (Nat.lt_of_lt_of_le hi h.size) (λU=>hF (O i hi U)),h.block i hi hF]⟩
theorem du.mono(h:du F w w')(hF:∀k,F k->G k):du G w w':=⟨h.os,h.tape,h.output,h.size,λk O U=>h.block k O (λW=>U (hF k W))⟩
theorem eD(h:w.ownsRow base e 1 v n xs)(hb:∀k,v.ownBlock=some k->w'.heap[k]?=w.heap[k]?):w'.ownsRow base e 1 v n xs:=by
 obtain⟨Y,O⟩:=h;refine⟨Y,?_⟩;rcases O with O|⟨g,cap,U,rfl,W,hg,r⟩
 .exact Or.inl O
 .exact Or.inr ⟨g,cap,U,rfl,W,by rw[hb g rfl]; exact hg,r⟩
theorem dh(h:w.heap[b]?=some (.cells cs t fz))(o:Nat):w.cell? ⟨b,o,none⟩=cs[o]?:=by
 simp[dg,h]
theorem dJ(h:w.heap[b]?=some (.cells cs t (0,0)))(o:Nat):w.frozen? ⟨b,o,none⟩=false:=by
 simp[df,h]
theorem heap_set(h:w.heap[b]?=some (.cells cs t fz))(o:Nat)(v:Value):(w.setCell ⟨b,o,none⟩ v).heap[b]?=some (.cells (cs.setIfInBounds o v) t fz):=by
 simp[de,ei,h]
theorem pH(h:w.heap[b]?=some (.cells cs t fz))(Y:w.ownsRow base e 1 v n xs)(O:t≠e):v.ownBlock≠some b:=by
 rcases Y.2 with⟨rfl,_⟩|⟨g,cap,aa,rfl,_,U,_⟩
 .simp[dr]
 .intro W;simp only[dr,cG]at W;rw[W,h]at U;simp only[cG,Obj.cells.injEq]at U;exact O U.2.1
end
section
open Go.RowKit
def pk(c:Int)(n:Nat):Nat:=((if c<0 then -(c+1)else c) % (n:Int)).toNat
theorem ma(c:Int)(n:Nat)(O:0<n):pk c n<n:=by
 unfold pk;have U:=cE (if c<0 then -(c+1)else c) (show(n:Int)≠0 by omega);have W:=Int.emod_lt_of_pos (if c<0 then -(c+1)else c) (show(0:Int)<n by omega);omega
theorem ib(c:Int)(n:Nat)(w:World)(h0 : -9223372036854775808<=c)(h1:c<=9223372036854775807)(W:0<n)(aa:n<=1000000):c4 prog 15 #[.int .i64 c,.int .i64 (n:Int)] w λe w'=>e=.returned (.int .i64 (pk c n:Nat))/\w=w':=by
 have ab:¬((n:Int)=0):=by omega
 have ac:¬((n:Int) = -1):=by omega
 by_cases Y:c<0
 .have e:((pk c n:Nat):Int)=(-(c+1)).tmod (n:Int):=by
   unfold pk;rw[if_pos Y,cC (by omega)];have:=cE (-(c+1)) (show(n:Int)≠0 by omega);omega
  have O:0<=(-(c+1)).tmod (n:Int):=by rw[<-e]; omega
  have U:(-(c+1)).tmod (n:Int)<=9223372036854775807:=by rw[<-e]; have:=ma c n W; omega
  rw[e];have g1:IntKind.i64.wrap (c+1)=c+1:=by simp only[cS]; omega
  have g2:IntKind.i64.wrap (-(c+1)) = -(c+1):=by simp only[cS]; omega
  go_enter func15,ntmps15;go_wp2;go_ret;refine⟨?_,rfl⟩;show Ending.returned (.int .i64 (-((c+1).tmod (n:Int))))=_;rw[Int.neg_tmod]
 .have e:((pk c n:Nat):Int)=c.tmod (n:Int):=by
   unfold pk;rw[if_neg Y,cC (by omega)];have:=cE c (show(n:Int)≠0 by omega);omega
  have O:0<=c.tmod (n:Int):=by rw[<-e]; omega
  have U:c.tmod (n:Int)<=9223372036854775807:=by rw[<-e]; have:=ma c n W; omega
  rw[e];go_enter func15,ntmps15;go_wp2;go_ret;refine⟨?_,rfl⟩;show Ending.returned (.int .i64 (c % (n:Int)))=_;rw[cC (by omega)]
end
section
open Go.RowKit
variable {xs:List Value} {base e n size:Nat} {v:Value} {w:World}
theorem gR{w':World}(h:w.ownsRow base e size v n xs)(hb:∀k,v.ownBlock=some k->w'.heap[k]?=w.heap[k]?):w'.ownsRow base e size v n xs:=by
 obtain⟨Y,O⟩:=h;refine⟨Y,?_⟩;rcases O with O|⟨g,cap,U,rfl,W,hg,r⟩
 .exact Or.inl O
 .exact Or.inr ⟨g,cap,U,rfl,W,by rw[hb g rfl]; exact hg,r⟩
theorem tF{b1 b2 e1 e2 s1 s2 n1 n2:Nat}{v1 v2:Value}{x1 x2:List Value}(h1:w.ownsRow b1 e1 s1 v1 n1 x1)(h2:w.ownsRow b2 e2 s2 v2 n2 x2)(Y:e1≠e2)(k:Nat)(O:v1.ownBlock=some k)(U:v2.ownBlock=some k):False:=by
 rcases h1.2 with⟨rfl,_⟩|⟨g,cap,ac,rfl,_,hg,_⟩
 .simp[dr]at O
 .rcases h2.2 with⟨rfl,_⟩|⟨g2,aa,ab,rfl,_,W,_⟩
  .simp[dr]at U
  .simp only[dr,cG]at O U;rw[O]at hg;rw[U,hg]at W;simp only[cG,Obj.cells.injEq]at W;exact Y W.2.1
theorem iW(h:w.ownsRow base e size v n xs):∃a cap,v=.slice a n cap/\n<=cap:=by
 rcases h.2 with⟨rfl,rfl⟩|⟨g,cap,O,rfl,_,_,U,_⟩
 .exact⟨none,0,rfl,bV _⟩
 .exact⟨_,cap,rfl,U⟩
end
section
open Go.RowKit
variable {xs:List Value} {n s:Nat} {v:Value} {w:World}
def sM(w:World)(s:Nat)(v:Value)(n:Nat)(xs:List Value):Prop:=
 ∃a cap,v=.slice a n cap/\n<=cap/\cap<=cx/\xs.length=n*s/\∀j u,xs[j]?=some u->∃b off,a=some ⟨b,off,none⟩/\w.cell? ⟨b,off+j,none⟩=some u
theorem sM.jj{base e:Nat}(h:w.ownsRow base e s v n xs):sM w s v n xs:=by
 have W:=h;obtain⟨U,h⟩:=h;rcases h with⟨rfl,rfl⟩|⟨g,cap,Y,rfl,_,hg,hn,O,aa,ab⟩
 .have:=bk (by simpa using U);subst this;exact⟨none,0,rfl,bV _,by omega,by simp,by simp⟩
 .refine⟨some _,cap,rfl,hn,O,U,λj u hj=>⟨g,0,rfl,?_⟩⟩;have:=W.cells (g:=g) rfl j u hj;rwa [di]at this
theorem sM.nil(w:World)(s:Nat):sM w s (.slice none 0 0) 0 []:=⟨none,0,rfl,bV _,by omega,by simp,by simp⟩
theorem sM.later{w':World}(h:sM w s v n xs)(U:∀a u,w.cell? a=some u->w'.cell? a=some u):sM w' s v n xs:=by
 obtain⟨a,cap,W,Y,h2,hl,hr⟩:=h;refine⟨a,cap,W,Y,h2,hl,λj u hj=>?_⟩;obtain⟨b,off,e,O⟩:=hr j u hj;exact⟨b,off,e,U _ _ O⟩
theorem pI{P:Program}(w:World)(base:Nat)(t ty e:cy)(i:TypeInfo)(z:Value)(size bytes:Nat)(ht:P.underlying t=some (.slice e))(hi:P.info? e=some i)(hz:i.zero=some z)
  (U:i.size=size) (ae:i.bytes=bytes) (ao:z.cells.size=size) (aj:0<size)
  (v:Value) (n:Nat) (xs:List Value) (O:w.ownsRow base e size v n xs)
  (x:Value) (m:Nat) (news:List Value) (hx:sM w size x m news) (h1:∀u∈news,u.oneCell'=true)
  (W:(n+m)*bytes<=140737488355328) (af:n+m<=cx) (ag:base<=w.heap.size) :
  ∃v' w',(cO #[t,t] ty #[v,x]).run P w=.ok v' w'/\w'.ownsRow base e size v' (n+m) (xs++news)/\w.grownBy w' v.ownBlock/\(v'.ownBlock=v.ownBlock\/(v'.ownBlock=some w.heap.size/\Below w.heap.size w w')):=by
 obtain⟨a,cap,rfl,hc,hm,hl,ak⟩:=hx;by_cases ap:m=0
 .subst ap;have hn:news=[]:=bk (by simpa using hl);subst hn;obtain⟨b,c,rfl,ah⟩:=iW O
  have hr:(cO #[t,t] ty #[.slice b n c,.slice a 0 cap]).run P w=.ok (.slice b n c) w:=by
   cases a with
   |none=>exact jS (P:=P) w t ty e i ht hi b n c cap ah
   |some ad=>
    cases b<;>simp[cO,c8 ht,sizeOf,typeInfo,hi,cQ,cP,ah,cB,loadCells,loadCellsFrom]
  exact⟨_,w,hr,by simpa using O,World.grownBy.refl _ _,Or.inl rfl⟩
 .have al:0<news.length:=by rw[hl]; exact ci (by omega) aj
  obtain⟨b,off,ha,_⟩:=ak 0 news[0] (a6 al);subst ha
  have Y:∀j u,news[j]?=some u->w.cell? ((⟨b,off,none⟩:Addr).add j)=some u:=by
   intro j u hj;obtain⟨b',au,he,ai⟩:=ak j u hj;simp only[cG,Addr.mk.injEq]at he;obtain⟨rfl,rfl,_⟩:=he;rw[di]; exact ai
  obtain⟨v',w',hr,h2,h3,_⟩:=c1 (P:=P) w base t ty e i z size bytes ht hi hz U ae ao aj v n xs O ⟨b,off,none⟩ m cap news hl Y h1 af W ag;refine⟨v',w',hr,h2,h3,?_⟩;have ac:news.length=m*i.size:=by rw[U]; exact hl
  rcases O.2 with⟨rfl,rfl⟩|⟨g,c,am,rfl,av,hg,ah,aw,aq,ar⟩
  .have aa:=c9 (P:=P) w t ty e i z ht hi hz ⟨b,off,none⟩ m cap news ac Y (by omega) (by simp only[cx]at af; omega) (by rw[ae]; simp only[ch]at W; omega);rw[aa]at hr;simp only[cW]at hr;exact Or.inr ⟨by rw[<-hr.1]; rfl,by rw[<-hr.2]; exact((Below.refl _ _).drew).alloc (bV _) _⟩
  .by_cases ab:n+m<=c
   .have an:n*i.size+news.length<=am.size:=by rw[ac,aq,U,<-cd]; exact bY _ ab
    have aa:=c6 (P:=P) w t ty e i ht hi g n c am hg ⟨b,off,none⟩ m cap news ac Y h1 ab an;rw[aa]at hr;simp only[cW]at hr;exact Or.inl (by rw[<-hr.1]; rfl)
   .have holds:∀j u,xs[j]?=some u->w.cell? ((⟨g,0,none⟩:Addr).add j)=some u:=O.cells (g:=g) rfl;have aa:=c7 (P:=P) w t ty e i z ht hi hz ⟨g,0,none⟩ n c xs (by rw[U]; exact O.1) holds ⟨b,off,none⟩ m cap news ac Y (by omega) (by simp only[cx]at af; omega) (by rw[ae]; exact cA (by omega) W);rw[aa]at hr;simp only[cW]at hr;exact Or.inr ⟨by rw[<-hr.1]; rfl,by rw[<-hr.2]; exact((Below.refl _ _).drew).alloc (bV _) _⟩
theorem wq{P:Program}(w:World){ops:Array Oper}{rest:List Oper}{o:Oper}{a:Act}{Q:Exit->Act->World->Prop}(ab:o.guard=none)(s x:Operand)(t:cy)
  (ho:o.op=.call {callee:=.builtin .append,args:=#[s,x],argTypes:=#[t,t]})
  (base:Nat) (e:cy) (i:TypeInfo) (z:Value) (size bytes:Nat) (ht:P.underlying t=some (.slice e)) (hi:P.info? e=some i) (hz:i.zero=some z)
  (U:i.size=size) (ac:i.bytes=bytes) (ad:z.cells.size=size) (ae:0<size)
  (v:Value) (n:Nat) (xs:List Value) (hs:a.eval s=v) (aa:w.ownsRow base e size v n xs)
  (y:Value) (m:Nat) (news:List Value) (hx:a.eval x=y) (hy:sM w size y m news) (h1:∀u∈news,u.oneCell'=true)
  (O:(n+m)*bytes<=140737488355328) (af:n+m<=cx) (W:base<=w.heap.size)
  (h:∀Y w',w'.ownsRow base e size Y (n+m) (xs++news)->w.grownBy w' v.ownBlock->(Y.ownBlock=v.ownBlock\/(Y.ownBlock=some w.heap.size/\Below w.heap.size w w'))->cz P ops Q rest (a.put o.dst Y) w'):cz P ops Q (o::rest) a w:=by
 refine c0 ab λ_ hK=>?_;obtain⟨Y,w',hr,h2,h3,h4⟩:=pI (P:=P) w base t o.type e i z size bytes ht hi hz U ac ad ae v n xs aa y m news hy h1 O af W;unfold Oper.wp c5;simp only[ho,resolve,invoke,builtin,Sem.run_bind,Sem.run_pure,dm,bL,a9,bf,hs,hx,hr];exact hK _ _ (h Y w' h2 h3 h4)
end
section
open Go.RowKit
structure dp where
 name:Wd
 gone:Bool
 text:Wd
 dq:Int
 dB:Int
def nR(l:List dp)(x:Wd):Option Nat:=l.findIdx? λe=>e.name==x
end
section
open Go.RowKit
def jf(later:List dp)(e:dp):Bool:=(nR later e.name).isNone
def dH(old later:List dp):List dp:=old.filter (jf later)++later
def dw(l:List dp):List dp:=l.filter λe=>!e.gone
end
section
open Go.RowKit
def iL(l:List UInt8):Bool:=l.all fc&&decide (0<l.length)&&decide (l.length<=8)
def ir(ss:List (List dp)):Nat:=(ss.map λs=>s.length+1).sum
def lQ(ss:List (List dp))(k:Nat):List dp:=(ss.take k).foldl dH []
def eJ(ss:List (List dp))(O:List dp):List dp:=dw (dH (lQ ss ss.length) O)
theorem Ay(a b:List dp):(dH a b).length<=a.length+b.length:=by
 unfold dH;have:=aF (jf b) a;rw[a0]; omega
theorem Cc(ss:List (List dp))(k:Nat)(h:k<ss.length):lQ ss (k+1)=dH (lQ ss k) ss[k]:=by
 unfold lQ;rw[aA h,bp]; rfl
theorem xj(ss:List (List dp))(i:Nat)(h:i<ss.length):ir (ss.take (i+1))=ir (ss.take i)+(ss[i].length+1):=by
 unfold ir;rw[aA h,aM,bC]; rfl
theorem Fp(ss:List (List dp))(i:Nat):ir (ss.take i)<=ir ss:=by
 have:ir ss=ir (ss.take i)+ir (ss.drop i):=by
  unfold ir; rw[<-bC,<-aM,aZ]
 omega
theorem Ll(ss:List (List dp)):ss.length<=ir ss:=by
 induction ss with
 |nil=>simp
 |cons t U O=>simp only[ir,a9,aO,aB]at O⊢; omega
theorem FA(ss:List (List dp))(k:Nat)(O:k<=ss.length):(lQ ss k).length<=ir (ss.take k):=by
 induction k with
 |zero=>simp[lQ]
 |succ k U=>
  rw[Cc ss k (by omega),xj ss k (by omega)];have:=Ay (lQ ss k) ss[k];omega
end
section
open Go.RowKit
def oe(r:Nat):Bool:=decide (128<=r) || !fc (cI r)
theorem D4(c:UInt8)(h:c.toNat<128):oe c.toNat = !fc c:=by
 unfold oe;rw[decide_eq_false (by omega)];simp
def Ru(b:Wd):ByteArray:=⟨b.toArray⟩
structure T0(f:ByteArray)(pos:Nat)(st:Option Nat)(acc:List (Nat×Nat)):Prop where
 none:st=none->(acc.map λx=>f.extract x.1 x.2)=(jB f.data.toList pos).map Ru/\(pos=0\/fc (f.data.toList.getD (pos-1) 0)=false)
 some:∀a,st=some a->(acc.map λx=>f.extract x.1 x.2)++[Ru (uj f.data.toList a)]=(jB f.data.toList pos).map Ru/\a<pos/\yQ f.data.toList a pos
theorem Bv(l:List UInt8)(k:Nat)(h:fc (l.getD k 0)=false):fM l k=false:=by unfold fM; rw[h]; rfl
theorem Hj(l:List UInt8)(k:Nat)(h:fc (l.getD k 0)=true)(O:k=0\/fc (l.getD (k-1) 0)=false):fM l k=true:=by
 unfold fM;rw[h];rcases O with O|O
 .simp[O]
 .rw[O]; simp
theorem KL(l:List UInt8)(k a:Nat)(O:a<k)(h:yQ l a k):fM l k=false:=by
 unfold fM;rw[h.2.2 (k-1) (by omega) (by omega),decide_eq_false (by omega)];simp
theorem Gn(f:ByteArray)(hf:∀k(h:k<f.size),(f[k]'h).toNat<128):∀(g pos:Nat)(st:Option Nat)(acc:List (Nat×Nat)),T0 f pos st acc->pos<=f.size->f.size<=pos+g->
  ((cM f (cL oe f g pos st acc)).map λx=>f.extract x.1 x.2)=(iz f.data.toList).map Ru:=by
 intro g
 induction g with
 |zero=>
  intro pos st acc h h1 h2;obtain rfl:pos=f.size:=by omega
  have hw:iz f.data.toList=jB f.data.toList f.size:=by unfold iz; simp
  rw[hw]
  cases st with
  |none=>simpa[cL,cM]using(h.none rfl).1
  |some a=>
   obtain⟨e,W,Y⟩:=h.some a rfl;simp only[cL,cM,aM,a9,bf];rw[tk f a _ Y (Or.inl rfl)];exact e
 |succ g ih=>
  intro pos st acc h h1 h2;unfold cL;by_cases O:pos<f.size
  .rw[if_pos O,decode_ascii f pos O (hf pos O),D4 _ (hf pos O)];have hg:=lu f pos O;by_cases hl:fc (f[pos]'O)=true
   .rw[hl];have U:fc (f.data.toList.getD pos 0)=true:=by rw[hg]; exact hl
    cases st with
    |none=>
     obtain⟨e,hp⟩:=h.none rfl;refine ih _ _ _ ⟨λh=>(by cases h),λa W=>?_⟩ (by omega) (by omega);obtain rfl:=by simpa using W
     have hs:=Hj _ _ U hp;rw[ua _ _ hs,aM,e];exact⟨rfl,by omega,zB _ _ _ (Ga _ _ (by simp; omega)) (by simpa using O) U⟩
    |some a=>
     obtain⟨e,W,Y⟩:=h.some a rfl;refine ih _ _ _ ⟨λh=>(by cases h),λb hb=>?_⟩ (by omega) (by omega);obtain rfl:=by simpa using hb
     rw[mu _ _ (KL _ _ _ W Y)];exact⟨e,by omega,zB _ _ _ Y (by simpa using O) U⟩
   .have aa:=by simpa using hl
    rw[aa];have U:fc (f.data.toList.getD pos 0)=false:=by rw[hg]; exact aa
    cases st with
    |none=>
     obtain⟨e,hp⟩:=h.none rfl;refine ih _ _ _ ⟨λ_=>?_,λa W=>(by cases W)⟩ (by omega) (by omega);rw[mu _ _ (Bv _ _ U)];exact⟨e,Or.inr (by simpa using U)⟩
    |some a=>
     obtain⟨e,W,Y⟩:=h.some a rfl;refine ih _ _ _ ⟨λ_=>?_,λa W=>(by cases W)⟩ (by omega) (by omega);rw[mu _ _ (Bv _ _ U),<-e,aM];refine⟨?_,Or.inr (by simpa using U)⟩;simp only[a9,bf];rw[tk f a pos Y (Or.inr U)];rfl
  .rw[if_neg O];have:=ih pos st acc h h1 (by omega);rw[Lib.spansFromP_end _ _ _ _ _ _ O]at this;exact this
theorem C7(f:ByteArray)(O:∀k(h:k<f.size),(f[k]'h).toNat<128):Lib.goFieldsP oe f=(iz f.data.toList).map Ru:=by
 refine Gn f O _ 0 none [] ⟨λ_=>⟨by simp[jB],Or.inl rfl⟩,λa U=>(by cases U)⟩ (by omega) (by omega)
theorem DS(ws:List Wd):(ws.map Ru).map Value.string=dn ws:=by simp[dn,Ru]
end
section
open Go.RowKit
variable {l:List Wd} {x y:Wd}
theorem gZ:∀x:Wd,ck x x=false:=by
 intro x
 induction x with
 |nil=>rfl
 |cons a x O=>simp[ck,O]
theorem Eu{a b c:UInt8}(h:a<b)(k:b<c):a<c:=by
 rw[cH]at *; omega
theorem lW:∀x y z:Wd,ck x y=true->ck y z=true->ck x z=true:=by
 intro x
 induction x with
 |nil=>intro y z U O; cases z with
  |nil=>cases y<;>simp[ck]at O
  |cons=>rfl
 |cons a x W=>
  intro y z U O
  cases y with
  |nil=>simp[ck]at U
  |cons b y=>
   cases z with
   |nil=>simp[ck]at O
   |cons c z=>
    simp only[ck,cn,cl,decide_eq_true_eq,beq_iff_eq]at *;rcases U with U|⟨rfl,U⟩
    .rcases O with O|⟨rfl,O⟩
     .exact Or.inl (Eu U O)
     .exact Or.inl U
    .rcases O with O|⟨rfl,O⟩
     .exact Or.inl O
     .exact Or.inr ⟨rfl,W y z U O⟩
theorem im:∀x y:Wd,ck x y=true\/x=y\/ck y x=true:=by
 intro x
 induction x with
 |nil=>intro y; cases y with
  |nil=>exact Or.inr (Or.inl rfl)
  |cons=>exact Or.inl rfl
 |cons a x W=>
  intro y
  cases y with
  |nil=>exact Or.inr (Or.inr rfl)
  |cons b y=>
   simp only[ck,cn,cl,decide_eq_true_eq,beq_iff_eq];by_cases O:a<b
   .exact Or.inl (Or.inl O)
   .by_cases U:b<a
    .exact Or.inr (Or.inr (Or.inl U))
    .obtain rfl:a=b:=by
      apply cJ.1;rw[cH]at O U;omega
     rcases W y with h|h|h
     .exact Or.inl (Or.inr ⟨rfl,h⟩)
     .exact Or.inr (Or.inl (by rw[h]))
     .exact Or.inr (Or.inr (Or.inr ⟨rfl,h⟩))
theorem BH(h:ck x y=true):x≠y:=by
 intro e; subst e; rw[gZ]at h; cases h
theorem pM(h:ck x y=true):ck y x=false:=by
 cases O:ck y x with
 |false=>rfl
 |true=>have:=lW _ _ _ h O; rw[gZ]at this; cases this
abbrev my(l:List Wd):Prop:=l.Pairwise λx y=>ck x y=true
theorem my.nodup(h:my l):l.Nodup:=h.imp λO=>BH O
theorem Po(out:List Wd)(x:Wd):out.take (zb out x)=out.takeWhile λy=>ck y x:=by
 unfold zb
 induction out with
 |nil=>simp
 |cons a l O=>
  rw[aW];split
  .simp only[aB,bz,O]
  .simp
theorem IV(out:List Wd)(x:Wd):out.drop (zb out x)=out.dropWhile λy=>ck y x:=by
 unfold zb
 induction out with
 |nil=>simp
 |cons a l O=>
  rw[aW,b6];split
  .simp only[aB,List.drop_succ_cons,O]
  .simp
theorem zJ{p:Wd->Bool}:∀(l:List Wd),∀y∈l.takeWhile p,p y=true:=by
 intro l
 induction l with
 |nil=>intro y h; simp at h
 |cons a l O=>
  intro y h;rw[aW]at h;split at h
  .rename_i U;rcases az.1 h with rfl|h
   .exact U
   .exact O y h
  .simp at h
theorem yI{p:Wd->Bool}:∀(l:List Wd)(y:Wd)(r:List Wd),l.dropWhile p=y::r->p y=false:=by
 intro l
 induction l with
 |nil=>intro y r h; simp at h
 |cons a l O=>
  intro y r h;rw[b6]at h;split at h
  .exact O y r h
  .rename_i U;cases h;simpa using U
theorem PU(out:List Wd)(x:Wd)(h:my out):my (uI out x)/\∀y,y∈uI out x↔(y=x\/y∈out):=by
 unfold uI;split
 .rename_i W;refine⟨h,λy=>⟨Or.inr,λO=>?_⟩⟩;rcases O with rfl|O
  .exact List.mem_of_getElem? W
  .exact O
 .rename_i W;have U:=aZ (zb out x) out;have aa:out[zb out x]?=(out.drop (zb out x))[0]?:=by simp
  rw[aa]at W;rw[Po,IV]at U⊢;rw[IV]at W;have hA:=zJ (p:=λy=>ck y x) out;have hH:=yI (p:=λy=>ck y x) out;generalize out.takeWhile _=A at *;generalize out.dropWhile _=B at *;subst U;obtain⟨sA,sB,ab⟩:=bd.1 h
  have hB:∀y∈B,ck x y=true:=by
   cases B with
   |nil=>intro y O; simp at O
   |cons b B=>
    have h1:=hH b B rfl
    have Y:ck x b=true:=by
     rcases im x b with h|h|h
     .exact h
     .subst h; simp at W
     .rw[h1]at h; cases h
    intro y O;rcases az.1 O with rfl|O
    .exact Y
    .exact lW _ _ _ Y ((a7.1 sB).1 y O)
  refine⟨?_,λy=>?_⟩
  .refine bd.2 ⟨sA,?_,?_⟩
   .exact a7.2 ⟨hB,sB⟩
   .intro a ha b hb;rcases az.1 hb with rfl|hb
    .exact hA a ha
    .exact ab a ha b hb
  .simp only[a8,az,aY,aU];constructor
   .rintro(h|h|h)
    .exact Or.inr (Or.inl h)
    .exact Or.inl h
    .exact Or.inr (Or.inr h)
   .rintro(h|h|h)
    .exact Or.inr (Or.inl h)
    .exact Or.inl h
    .exact Or.inr (Or.inr h)
theorem Cr(t:List Wd):∀out,my out->my (t.foldl uI out)/\∀y,y∈t.foldl uI out↔(y∈t\/y∈out):=by
 induction t with
 |nil=>intro out h; exact⟨h,by simp⟩
 |cons x t O=>
  intro out h;obtain⟨U,W⟩:=PU out x h;obtain⟨Y,h4⟩:=O _ U;refine⟨Y,λy=>?_⟩;rw[aN,h4,W,az];constructor
  .rintro(h|h|h)
   .exact Or.inl (Or.inr h)
   .exact Or.inl (Or.inl h)
   .exact Or.inr h
  .rintro((h|h)|h)
   .exact Or.inr (Or.inl h)
   .exact Or.inl h
   .exact Or.inr (Or.inr h)
theorem Ba(O:List (List Wd)):∀out,my out->my (O.foldl (λout t=>t.foldl uI out) out)/\∀y,y∈O.foldl (λout t=>t.foldl uI out) out↔((∃t∈O,y∈t)\/y∈out):=by
 induction O with
 |nil=>intro out h; exact⟨h,by simp⟩
 |cons t O U=>
  intro out h;obtain⟨W,Y⟩:=Cr t out h;obtain⟨h3,h4⟩:=U _ W;refine⟨h3,λy=>?_⟩;rw[aN,h4,Y];simp only[az,exists_eq_or_imp];constructor
  .rintro(h|h|h)
   .exact Or.inl (Or.inr h)
   .exact Or.inl (Or.inl h)
   .exact Or.inr h
  .rintro((h|h)|h)
   .exact Or.inr (Or.inl h)
   .exact Or.inl h
   .exact Or.inr (Or.inr h)
theorem jN(O:List (List Wd)):my (eK O):=(Ba O [] List.Pairwise.nil).1
theorem jZ(O:List (List Wd))(y:Wd):y∈eK O↔∃t∈O,y∈t:=by
 have:=(Ba O [] List.Pairwise.nil).2 y;simpa[eK]using this
theorem vR(h:l.Nodup)(a:Wd):l.count a=if a∈l then 1 else 0:=by
 induction l with
 |nil=>simp
 |cons b l O=>
  obtain⟨U,W⟩:=aT.1 h;rw[List.count_cons,O W];by_cases e:b=a
  .subst e; simp[U]
  .have Y:¬a=b:=λx=>e x.symm;simp[e,Y]
theorem CM{U:List Wd}(h:l.Nodup)(W:U.Nodup)(hm:∀a,a∈l↔a∈U):l.Perm U:=by
 rw[List.perm_iff_count];intro a;rw[vR h,vR W];by_cases O:a∈l
 .rw[if_pos O,if_pos ((hm a).1 O)]
 .rw[if_neg O,if_neg (λx=>O ((hm a).2 x))]
def fW(kn:List Wd)(t:List Wd)(k:Nat):List Wd:=(t.take k).foldl (λu x=>if x∈kn\/x∈u then u else u++[x]) []
theorem xM(kn t:List Wd)(k:Nat)(h:k<t.length):fW kn t (k+1)=if t[k]∈kn\/t[k]∈fW kn t k then fW kn t k else fW kn t k++[t[k]]:=by
 unfold fW;rw[aA h,bp]; rfl
theorem xL(kn t:List Wd):∀k,k<=t.length->(fW kn t k).Nodup/\(∀y,y∈fW kn t k↔(y∈t.take k/\y ∉ kn))/\(fW kn t k).length<=k:=by
 intro k
 induction k with
 |zero=>simp[fW]
 |succ k Y=>
  intro hk;obtain⟨W,U,h3⟩:=Y (by omega);rw[xM kn t k (by omega),aA (by omega)];split
  .rename_i O;refine⟨W,λy=>?_,by omega⟩;rw[U y,a8,aC];constructor
   .rintro⟨a,b⟩; exact⟨Or.inl a,b⟩
   .rintro⟨a|a,b⟩
    .exact⟨a,b⟩
    .subst a;rcases O with O|O
     .exact absurd O b
     .exact(U _).1 O
  .rename_i O;refine⟨?_,λy=>?_,by simp; omega⟩
   .rw[ba];refine⟨W,by simp,?_⟩;intro a ha b hb;simp at hb;subst hb;intro e;subst e;exact O (Or.inr ha)
   .rw[a8,U y,a8,aC];constructor
    .rintro(⟨a,b⟩|a)
     .exact⟨Or.inl a,b⟩
     .subst a; exact⟨Or.inr rfl,λx=>O (Or.inl x)⟩
    .rintro⟨a|a,b⟩
     .exact Or.inl ⟨a,b⟩
     .exact Or.inr a
theorem yK(kn:List Wd)(W:List (List Wd))(t:List Wd)(h:kn.Perm (eK W)):(kn++fW kn t t.length).Perm (eK (W++[t])):=by
 obtain⟨h1,h2,_⟩:=xL kn t _ (bV _);have Y:=h.nodup_iff.2 (jN W).nodup;refine CM ?_ (jN _).nodup ?_
 .rw[ba];refine⟨Y,h1,λa U b hb e=>?_⟩;subst e;exact((h2 _).1 hb).2 U
 .intro a;rw[a8,h2,jZ,h.mem_iff,jZ,be];constructor
  .rintro(⟨t',O,U⟩|⟨U,_⟩)
   .exact⟨t',by simp[O],U⟩
   .exact⟨t,by simp,U⟩
  .rintro⟨t',O,U⟩;rw[a8,aC]at O;rcases O with O|rfl
   .exact Or.inl ⟨t',O,U⟩
   .by_cases hk:a∈kn
    .exact Or.inl ((jZ W a).1 (h.mem_iff.1 hk))
    .exact Or.inr ⟨U,λe=>hk (h.mem_iff.2 ((jZ W a).2 e))⟩
end
section
open Go.RowKit
variable {x y z:Fr} {K:List Wd} {sc:Wd->Fr}
def wF(x y:Fr):Bool:=decide (y.1*x.2<x.1*y.2)
theorem K3(Y:0<z.2)(O:wF x y=true)(h2:wF y z=true):wF x z=true:=by
 unfold wF at *;simp only[decide_eq_true_eq]at *;have a1:=cc O Y;by_cases hx:0<x.2
 .have a2:=cc h2 hx;refine Nat.lt_of_mul_lt_mul_right (a:=y.2) ?_;have e1:z.1*x.2*y.2=z.1*y.2*x.2:=by rw[bW]
  have e2:y.1*z.2*x.2=y.1*x.2*z.2:=by rw[bW]
  have e3:x.1*z.2*y.2=x.1*y.2*z.2:=by rw[bW]
  omega
 .have U:x.2=0:=by omega
  have W:0<x.1:=by
   rcases ce x.1 with h|h
   .rw[h]at O; simp at O
   .exact h
  rw[U];simpa using ci W Y
theorem uA(Y:0<x.2)(O:0<y.2)(hz:0<z.2)(U:wF y x=false)(W:wF z y=false):wF z x=false:=by
 unfold wF at *;simp only[decide_eq_false_iff_not,Nat.not_lt]at *;have a1:y.1*x.2*z.2<=x.1*y.2*z.2:=bY _ U;have a2:z.1*y.2*x.2<=y.1*z.2*x.2:=bY _ W;refine Nat.le_of_mul_le_mul_right (c:=y.2) ?_ O;have e1:z.1*x.2*y.2=z.1*y.2*x.2:=by rw[bW]
 have e2:y.1*z.2*x.2=y.1*x.2*z.2:=by rw[bW]
 have e3:x.1*z.2*y.2=x.1*y.2*z.2:=by rw[bW]
 omega
theorem Ov(h:wF x y=true):wF y x=false:=by
 unfold wF at *;simp only[decide_eq_true_eq,decide_eq_false_iff_not]at *;omega
def mD(sc:Wd->Fr)(x y:Wd):Bool:=wF (sc x) (sc y) || (!wF (sc y) (sc x)&&ck x y)
theorem vW(sc:Wd->Fr)(x:Wd):mD sc x x=false:=by
 unfold mD;rw[gZ];have:wF (sc x) (sc x)=false:=by unfold wF; simp
 rw[this]; rfl
theorem sC(sc:Wd->Fr){x y z:Wd}(hx:0<(sc x).2)(hy:0<(sc y).2)(Y:0<(sc z).2)(U:mD sc x y=true)(O:mD sc y z=true):mD sc x z=true:=by
 unfold mD at *;simp only[cn,cl,cq]at *;rcases U with U|⟨U,aa⟩
 .rcases O with O|⟨O,W⟩
  .exact Or.inl (K3 Y U O)
  .cases hh:wF .. with
   |true=>exact Or.inl rfl
   |false=>
    have:=uA hy Y hx O hh;rw[this]at U; cases U
 .rcases O with O|⟨O,W⟩
  .cases hh:wF .. with
   |true=>exact Or.inl rfl
   |false=>
    have:=uA Y hx hy hh U;rw[this]at O; cases O
  .exact Or.inr ⟨uA hx hy Y U O,lW _ _ _ aa W⟩
theorem ya(sc:Wd->Fr)(x y:Wd):mD sc x y=true\/x=y\/mD sc y x=true:=by
 unfold mD;simp only[cn,cl,cq]
 cases O:wF .. with
 |true=>exact Or.inl (Or.inl rfl)
 |false=>
  cases U:wF .. with
  |true=>exact Or.inr (Or.inr (Or.inl rfl))
  |false=>
   rcases im x y with h|h|h
   .exact Or.inl (Or.inr ⟨rfl,h⟩)
   .exact Or.inr (Or.inl h)
   .exact Or.inr (Or.inr (Or.inr ⟨rfl,h⟩))
theorem Li(sc:Wd->Fr){x y:Wd}(h:mD sc x y=true):mD sc y x=false:=by
 unfold mD at *;simp only[cn,cl,cq,cp,Bool.and_eq_false_iff,Bool.not_eq_false']at *;rcases h with h|⟨h,O⟩
 .exact⟨Ov h,Or.inl h⟩
 .exact⟨h,Or.inr (pM O)⟩
theorem I5(O:my K){i j:Nat}(h:i<j)(U:j<K.length):ck (K[i]'(by omega)) K[j]=true:=aR.1 O i j _ U h
theorem Bd(i j:Nat)(hi:i<K.length)(O:j<K.length):uL (K.map sc) i j=wF (sc K[i]) (sc K[j]):=by
 unfold uL wF;simp[ax,hi,O]
theorem GC(hK:my K)(hp:∀x∈K,0<(sc x).2)(told:List Bool):∀(m:Nat),m<=K.length->∀b,gK (K.map sc) told m=some b->∃hb:b<K.length,∀i(hi:i<K.length),i<m->told.getD i false=false->i≠b->mD sc K[b] K[i]=true:=by
 intro m
 induction m with
 |zero=>intro _ b h; simp[gK]at h
 |succ m ih=>
  intro hm b h
  cases ht:told.getD m false with
  |true=>
   rw[Eb _ _ _ ht]at h;obtain⟨hb,hh⟩:=ih (by omega) b h;refine⟨hb,λi hi aa U Y=>?_⟩;by_cases e:i=m
   .subst e; rw[ht]at U; cases U
   .exact hh i hi (by omega) U Y
  |false=>
   cases O:gK _ told m with
   |none=>
    rw[C0 _ _ _ ht O]at h;obtain rfl:=by simpa using h
    refine⟨by omega,λi hi aa U Y=>?_⟩;have:=vN _ _ _ O i (by omega);rw[U]at this; cases this
   |some j=>
    obtain⟨hj,hh⟩:=ih (by omega) j O;have ab:=(Ax _ _ _ _ O).1
    cases W:uL _ m j with
    |true=>
     rw[zQ _ _ _ _ ht O W]at h;obtain rfl:=by simpa using h
     refine⟨by omega,λi hi aa U Y=>?_⟩
     have h1:mD sc K[m] K[j]=true:=by
      rw[Bd m j (by omega) hj]at W;unfold mD; rw[W]; rfl
     by_cases e:i=j
     .subst e; exact h1
     .exact sC sc (hp _ (aH _)) (hp _ (aH _)) (hp _ (aH _)) h1 (hh i hi (by omega) U e)
    |false=>
     rw[CJ _ _ _ _ ht O W]at h;obtain rfl:=by simpa using h
     refine⟨hj,λi hi aa U Y=>?_⟩;by_cases e:i=m
     .subst e;rw[Bd i j hi hj]at W;unfold mD;rw[W,I5 hK ab hi];simp
     .exact hh i hi (by omega) U Y
theorem Dp(hK:my K)(hp:∀x∈K,0<(sc x).2):∀(k:Nat)(told:List Bool)(S:List Wd),told.length=K.length->S.Nodup->(S.Pairwise λx y=>mD sc x y=true)->
  (∀x,x∈S↔∃i,∃hi:i<K.length,told.getD i false=false/\K[i]=x)->(yU (K.map sc) told k).map (λi=>K.getD i [])=S.take k:=by
 intro k
 induction k with
 |zero=>simp[yU]
 |succ k ih=>
  intro told S hl ag hs hm
  cases hb:gK (K.map sc) told (K.map sc).length with
  |none=>
   have ft:=vN _ _ _ hb
   have:S=[]:=by
    cases S with
    |nil=>rfl
    |cons x S=>
     obtain⟨i,hi,O,_⟩:=(hm x).1 (by simp);have:=ft i (by simpa using hi);rw[O]at this; cases this
   subst this;simp only[yU,hb,bf,List.take_nil]
  |some b=>
   obtain⟨ac,U⟩:=GC hK hp told _ (by simp) b hb;have ah:=(Ax _ _ _ _ hb).2;have ad:=(hm _).2 ⟨b,ac,ah,rfl⟩
   cases S with
   |nil=>simp at ad
   |cons x S=>
    obtain⟨ai,aj⟩:=a7.1 hs;obtain⟨ak,al⟩:=aT.1 ag;obtain⟨i0,ae,af,W⟩:=(hm x).1 (by simp)
    have ab:K[b]=x:=by
     rcases az.1 ad with h|h
     .exact h
     .by_cases e:i0=b
      .subst e; exact W
      .have O:=U i0 ae (by simpa using ae) af e;have Y:=ai _ h;rw[W]at O;rw[Li sc Y]at O;cases O
    simp only[yU,hb,a9,bz];rw[ih _ S (by simpa using hl) al aj ?_]
    .rw[<-ab,ax,a6 ac];rfl
    .intro y
     have aa:∀i,(told.set b true).getD i false=if b=i then true else told.getD i false:=by
      intro i;by_cases e:b=i
      .subst e; simp[show b<told.length by omega]
      .simp[e]
     constructor
     .intro hy;obtain⟨i,hi,O,Y⟩:=(hm y).1 (List.mem_cons_of_mem _ hy);refine⟨i,hi,?_,Y⟩;rw[aa];by_cases e:b=i
      .subst e;rw[ab]at Y;subst Y;exact absurd hy ak
      .rw[if_neg e]; exact O
     .rintro⟨i,hi,O,Y⟩;rw[aa]at O;by_cases e:b=i
      .rw[if_pos e]at O; cases O
      .rw[if_neg e]at O;have am:=(hm y).2 ⟨i,hi,O,Y⟩;rcases az.1 am with h|h
       .have an:i≠b:=λx=>e x.symm;have:=U i hi (by simpa using hi) O an;rw[Y,h,ab,vW]at this;cases this
       .exact h
theorem xI(O:List (List Wd))(l:List Wd)(most:Nat)(S:List Wd)(W:∀x∈eK O,0<(qS O l x).2)(U:S.Perm (eK O))(Y:S.Pairwise λx y=>mD (qS O l) x y=true) :
  iA O l most=S.take (min most (eK O).length):=by
 refine Dp (jN O) W _ _ S (by simp) (U.nodup_iff.2 (jN O).nodup) Y ?_;intro x;rw[U.mem_iff];constructor
 .intro h;obtain⟨i,hi,e⟩:=bI h;exact⟨i,hi,by simp[ax,hi],e⟩
 .rintro⟨i,hi,_,e⟩;subst e;exact aH _
end
section
open Go.RowKit
def iR(t:List Wd)(e:Nat):List (List Wd):=(aQ (min e 3+1)).map λj=>(t.take e).drop (e-min e 3+j)
def jh(t:List Wd):Nat->List (List Wd)
 |0=>[]
 |e+1=>jh t e++iR t (e+1)
def eU(O:List (List Wd))(ws:List Wd):Nat:=if ws=[]then ob O else gT O ws
def Qs(t ws:List Wd):Nat:=if ws=[]then t.length else r7 t ws
theorem KE(O:List (List Wd))(t ws:List Wd):eU (O++[t]) ws=eU O ws+Qs t ws:=by
 unfold eU Qs;split
 .simp[ob]
 .simp[gT]
theorem O9(ws:List Wd):eU [] ws=0:=by unfold eU; split<;>simp[ob,gT]
theorem ww(n:Nat)(f:Nat->List Wd)(ws:List Wd)(k:Nat)(W:k<n)(h:∀j,j<n->f j=ws->j=k):((aQ n).map f).count ws=if f k=ws then 1 else 0:=by
 have key:∀m,m<=n->((aQ m).map f).count ws=if k<m/\f k=ws then 1 else 0:=by
  intro m
  induction m with
  |zero=>simp
  |succ m Y=>
   intro hm;rw[bl,aM,b8,Y (by omega)];simp only[a9,bf,List.count_singleton];by_cases e:m=k
   .subst e;simp
   .have O:f m≠ws:=λhh=>e (h m (by omega) hh);simp only[beq_iff_eq,O,if_false];by_cases U:k<m
    .simp[U,show k<m+1 by omega]
    .simp[U,show ¬k<m+1 by omega]
 rw[key n (bV _)];simp[W]
theorem Im(l:List (List Wd))(ws:List Wd)(h:∀x∈l,x≠ws):l.count ws=0:=by
 rw[List.count_eq_zero];intro hm;exact h ws hm rfl
theorem rS(t ws:List Wd)(e:Nat)(he:e<=t.length)(hw:ws.length<=3):(iR t e).count ws=if ws.length<=e/\(t.take e).drop (e-ws.length)=ws then 1 else 0:=by
 have O:∀j,((t.take e).drop (e-min e 3+j)).length=e-(e-min e 3+j):=by simp; omega
 by_cases U:ws.length<=e
 .unfold iR;rw[ww _ _ ws (min e 3-ws.length) (by omega)]
  .rw[show e-min e 3+(min e 3-ws.length)=e-ws.length by omega];simp[U]
  .intro j Y W;have:=O j;rw[W]at this;omega
 .rw[if_neg (by simp[U])];refine Im _ _ (λx hx=>?_);obtain⟨j,Y,rfl⟩:=a5.1 hx;intro W;have:=O j;rw[W]at this;omega
theorem Hv(t ws:List Wd)(hw:ws.length<=3)(h1:ws≠[]):∀n,n<=t.length->(jh t n).count ws=iE t ws (n+1-ws.length):=by
 have W:1<=ws.length:=by cases ws with|nil=>exact absurd rfl h1|cons a b=>simp
 intro n
 induction n with
 |zero=>rw[show 0+1-ws.length=0 by omega]; simp[jh,iE]
 |succ n ih=>
  intro hn;simp only[jh];rw[b8,ih (by omega),rS t ws _ hn hw];by_cases O:ws.length<=n+1
  .rw[show n+1+1-ws.length=(n+1-ws.length)+1 by omega]
   have Y:oI t ws (n+1-ws.length)=decide ((t.take (n+1)).drop (n+1-ws.length)=ws):=by
    unfold oI zr;rw[be,List.drop_take,show n+1-(n+1-ws.length)=ws.length by omega]
   by_cases U:(t.take (n+1)).drop (n+1-ws.length)=ws
   .rw[if_pos ⟨O,U⟩,Ag _ _ _ (by rw[Y]; exact decide_eq_true U)]
   .rw[if_neg (λx=>U x.2),Dj _ _ _ (by rw[Y]; exact decide_eq_false U)];omega
  .rw[if_neg (λx=>O x.1),show n+1+1-ws.length=0 by omega,show n+1-ws.length=0 by omega,Nat.add_zero]
theorem yZ(t:List Wd):∀n,n<=t.length->(jh t n).count []=n:=by
 intro n
 induction n with
 |zero=>intro _; rfl
 |succ n O=>
  intro U;simp only[jh];rw[b8,O (by omega),rS t [] _ U (by simp),if_pos ⟨by simp,by simp⟩]
theorem NE(t ws:List Wd)(O:ws.length<=3):(jh t t.length).count ws=Qs t ws:=by
 unfold Qs;split
 .rename_i h; rw[h]; exact yZ t _ (bV _)
 .rename_i h; exact Hv t ws O h _ (bV _)
theorem nV(O:List (List Wd))(ws:List Wd):eU O ws<=gp O:=by
 unfold eU;split
 .exact JO O
 .exact Lm O ws
theorem nS(t:List Wd)(e:Nat):(iR t e).length=min e 3+1:=by simp[iR]
theorem EI(t:List Wd)(e j:Nat)(h:j<(iR t e).length):(iR t e)[j]=(t.take e).drop (e-min e 3+j):=by simp[iR]
theorem zt(t:List Wd):∀n,(jh t n).length<=4*n:=by
 intro n
 induction n with
 |zero=>simp[jh]
 |succ n O=>simp only[jh,a0,nS]; omega
end
section
open Go.RowKit
variable {a p:Fr} {t ws:List Wd}
def nH(O:List (List Wd))(x:Wd):List Wd->Fr
 |[]=>(eU O [x]*4,eU O [])
 |[v]=>if eU O [v,x]=0 then(eU O [x]*4,eU O [])else(eU O [v,x]*10,eU O [v])
 |u::v::_=>if eU O [u,v,x]=0 then(if eU O [v,x]=0 then(eU O [x]*4,eU O [])else(eU O [v,x]*10,eU O [v]))else(eU O [u,v,x]*25,eU O [u,v])
def mz(l:List Wd):List Wd:=l.drop (l.length-2)
theorem Kt(l:List Wd):(mz l).length<=2:=by simp[mz]; omega
theorem Mt(l:List Wd):(l=[]/\mz l=[])\/(l.length=1/\mz l=[l.getD (l.length-1) []])\/(1<l.length/\mz l=[l.getD (l.length-2) [],l.getD (l.length-1) []]):=by
 unfold mz
 match l with
 |[]=>exact Or.inl ⟨rfl,rfl⟩
 |[a]=>exact Or.inr (Or.inl ⟨rfl,rfl⟩)
 |a::b::r=>
  refine Or.inr (Or.inr ⟨by simp,?_⟩);have O:(a::b::r).length=r.length+2:=rfl;rw[O,show r.length+2-2=r.length by omega];have U:(a::b::r).drop _=(a::b::r)[r.length]'(by omega)::(a::b::r).drop _:=aJ _;have W:(a::b::r).drop _=(a::b::r)[r.length+1]'(by simp)::(a::b::r).drop _:=aJ _;have Y:(a::b::r).drop (r.length+2)=[]:=by simp
  rw[U,W,Y];simp only[ax];rw[a6 _,a6 _];rfl
def Gq(a p:Fr):Prop:=∃c d:Nat,(a=(c,d)/\p=(c*25,d))\/(a=(4*c,10*d)/\p=(c*10,d))\/(a=(16*c,100*d)/\p=(c*4,d))
theorem Gq.three(c d:Nat):Gq (c,d) (c*25,d):=⟨c,d,Or.inl ⟨rfl,rfl⟩⟩
theorem Gq.two(c d:Nat):Gq (4*c,10*d) (c*10,d):=⟨c,d,Or.inr (Or.inl ⟨rfl,rfl⟩)⟩
theorem Gq.one(c d:Nat):Gq (16*c,100*d) (c*4,d):=⟨c,d,Or.inr (Or.inr ⟨rfl,rfl⟩)⟩
theorem o8(O:List (List Wd))(l:List Wd)(x:Wd):Gq (qS O l x) (nH O x (mz l)):=by
 have Y:∀u v,eU O [u,v,x]=gT O [u,v,x]:=λu v=>by simp[eU]
 have n2:∀u v,eU O [u,v]=gT O [u,v]:=λu v=>by simp[eU]
 have n1:∀u,eU O [u]=gT O [u]:=λu=>by simp[eU]
 have n0:eU O []=ob O:=by simp[eU]
 unfold qS;rcases Mt l with⟨rfl,e⟩|⟨h1,e⟩|⟨h2,e⟩
 .exact Gq.one ..
 .rw[e,if_neg (by omega)];simp only[nH,n1,n2,n0];unfold Tm;by_cases U:gT O [l.getD (l.length-1) [],x]=0
  .rw[if_neg (by omega),if_pos U]; exact Gq.one ..
  .rw[if_pos (by omega),if_neg U]; exact Gq.two ..
 .rw[e];simp only[nH,n1,n2,Y,n0];unfold Tz Tm;by_cases U:gT O [l.getD (l.length-2) [],l.getD (l.length-1) [],x]=0
  .rw[if_neg (by omega),if_pos U];by_cases W:gT O [l.getD (l.length-1) [],x]=0
   .rw[if_neg (by omega),if_pos W]; exact Gq.one ..
   .rw[if_pos (by omega),if_neg W]; exact Gq.two ..
  .rw[if_pos (by omega),if_neg U]; exact Gq.three ..
theorem mc(c g d:Nat):c*g*d=g*(c*d):=by rw[Nat.mul_comm c g,ca]
theorem we(a b c d:Nat):a*c*(b*d)=a*b*(c*d):=Nat.mul_mul_mul_comm a c b d
theorem O'{b q:Fr}(W:Gq a p)(U:Gq b q):wF p q=wF a b:=by
 unfold wF;rw[decide_eq_decide];obtain⟨c,d,⟨rfl,rfl⟩|⟨rfl,rfl⟩|⟨rfl,rfl⟩⟩:=W
 .obtain⟨O,d',⟨rfl,rfl⟩|⟨rfl,rfl⟩|⟨rfl,rfl⟩⟩:=U
  .simp only[mc]; omega
  .simp only; rw[mc O 10,mc c 25,ca 4,bX c 10]; omega
  .simp only; rw[mc O 4,mc c 25,ca 16,bX c _]; omega
 .obtain⟨O,d',⟨rfl,rfl⟩|⟨rfl,rfl⟩|⟨rfl,rfl⟩⟩:=U
  .simp only; rw[mc O 25,mc c 10,ca 4,bX O 10]; omega
  .simp only; rw[mc O 10,mc c 10,we 4 10,we 4 10]; omega
  .simp only; rw[mc O 4,mc c 10,we 16 10,we 4 _]; omega
 .obtain⟨O,d',⟨rfl,rfl⟩|⟨rfl,rfl⟩|⟨rfl,rfl⟩⟩:=U
  .simp only; rw[mc O 25,mc c 4,ca 16,bX O _]; omega
  .simp only; rw[mc O 10,mc c 4,we 4 _,we 16 10]; omega
  .simp only; rw[mc O 4,mc c 4,we 16 _,we 16 100]; omega
theorem PI(h:Gq a p):0<p.2↔0<a.2:=by
 obtain⟨c,d,⟨rfl,rfl⟩|⟨rfl,rfl⟩|⟨rfl,rfl⟩⟩:=h<;>simp
theorem Oa(t ws:List Wd)(x:Wd)(k:Nat)(h:oI t (ws++[x]) k=true):oI t ws k=true:=by
 unfold oI zr at *;simp only[decide_eq_true_eq,be]at *;have:=congrArg (List.take ws.length) h;rw[bQ]at this;simpa using this
theorem vJ(h:0<r7 t ws):∃k,k+ws.length<=t.length/\oI t ws k=true:=by
 obtain⟨k,O⟩:=List.exists_mem_of_length_pos h;obtain⟨U,W⟩:=ay.1 O;have:=bo.1 U;exact⟨k,by omega,W⟩
theorem vY{k:Nat}(O:k+ws.length<=t.length)(h:oI t ws k=true):0<r7 t ws:=by
 exact bF (ay.2 ⟨bo.2 (by omega),h⟩)
theorem sG{α:Type}(f:α->Nat):∀(l:List α),0<(l.map f).sum↔∃x∈l,0<f x:=by
 intro l
 induction l with
 |nil=>simp
 |cons a l O=>
  simp only[a9,aO,az,exists_eq_or_imp];constructor
  .intro h;by_cases U:0<f a
   .exact Or.inl U
   .exact Or.inr (O.1 (by omega))
  .rintro(h|h)
   .omega
   .have:=O.2 h; omega
theorem xU(O:List (List Wd))(ws:List Wd)(x:Wd)(h:0<gT O (ws++[x])):0<gT O ws:=by
 unfold gT at *;rw[sG]at *;obtain⟨t,U,W⟩:=h;obtain⟨k,Y,h2⟩:=vJ W;simp at Y;exact⟨t,U,vY (by omega) (Oa _ _ _ _ h2)⟩
theorem Lc(U:List (List Wd))(x:Wd):0<gT U [x]↔∃t∈U,x∈t:=by
 unfold gT;rw[sG];constructor
 .rintro⟨t,O,W⟩;obtain⟨k,h1,h2⟩:=vJ W;refine⟨t,O,?_⟩;unfold oI zr at h2;simp only[aB,bm,decide_eq_true_eq]at h2;have:x∈(t.drop k).take (0+1):=by rw[h2]; simp
  exact bx (bG this)
 .rintro⟨t,O,Y⟩;obtain⟨k,hk,e⟩:=bI Y;refine⟨t,O,vY (k:=k) (by simp; omega) ?_⟩;unfold oI zr;simp only[aB,bm,decide_eq_true_eq];rw[aJ hk,e];rfl
theorem BA(O:List (List Wd))(l:List Wd)(x:Wd)(W:x∈eK O):0<(qS O l x).2:=by
 unfold qS;split
 .rename_i h; exact xU O _ x h.2
 .split
  .rename_i h;have:=xU O [_] x h.2;omega
  .obtain⟨t,Y,U⟩:=(jZ O x).1 W
   have:0<ob O:=by
    unfold ob;rw[sG];exact⟨t,Y,bF U⟩
   omega
theorem Qp(O:List (List Wd))(l:List Wd)(x:Wd)(U:x∈eK O):0<(nH O x (mz l)).2:=(PI (o8 O l x)).2 (BA O l x U)
theorem Kj(O:List (List Wd))(x:Wd):eU O [x]=0↔x ∉ eK O:=by
 have h:=Lc O x;rw[jZ];have e:eU O [x]=gT O [x]:=by simp[eU]
 constructor
 .intro U W; have:=h.2 W; omega
 .intro W;rcases ce _ with U|U
  .exact U
  .exact absurd (h.1 U) W
theorem QR(O:List (List Wd))(x:Wd)(l:List Wd):(nH O x l).1<=25*gp O/\(nH O x l).2<=gp O:=by
 have h:=nV O
 match l with
 |[]=>have:=h [x]; have:=h []; simp only[nH]; omega
 |[v]=>
  have:=h [x]; have:=h []; have:=h [v,x]; have:=h [v];simp only[nH];split<;>simp only<;>omega
 |u::v::_=>
  have:=h [x]; have:=h []; have:=h [v,x]; have:=h [v]; have:=h [u,v,x]; have:=h [u,v];simp only[nH];split
  .split<;>simp only<;>omega
  .omega
end
section
open Go.RowKit Go.Sort Go.Shelf
def zI(O:List (List Wd))(l:List Wd)(x:Wd):Fr:=if x∈eK O then nH O x (mz l)else(0,1)
theorem GD(O:List (List Wd))(l:List Wd)(x:Wd)(h:x∈eK O):zI O l x=nH O x (mz l):=by unfold zI; rw[if_pos h]
theorem ri(O:List (List Wd))(l:List Wd)(x:Wd):0<(zI O l x).2:=by
 unfold zI;split
 .rename_i h; exact Qp O l x h
 .exact Nat.one_pos
theorem M5(O:List (List Wd))(l:List Wd)(x:Wd):(zI O l x).1<=25*gp O/\(zI O l x).2<=gp O+1:=by
 unfold zI;split
 .have:=QR O x (mz l); omega
 .omega
def xE(a b:Nat):Int:=if a<b then -1 else if b<a then 1 else 0
def SK(sc:Wd->Fr)(x y:Wd):Int:=if xE ((sc y).1*(sc x).2) ((sc x).1*(sc y).2)≠0 then xE ((sc y).1*(sc x).2) ((sc x).1*(sc y).2)else cK x y
theorem PA:∀x y:Wd,(cK x y<0)↔ck x y=true:=by
 intro x
 induction x with
 |nil=>intro y; cases y<;>simp[cK,ck]
 |cons a x Y=>
  intro y
  cases y with
  |nil=>simp[cK,ck]
  |cons b y=>
   unfold cK ck;by_cases O:a<b
   .simp[O]
   .by_cases U:b<a
    .have W:a≠b:=by
      intro e; subst e;exact O U
     simp[O,U,W]
    .have he:a=b:=by
      apply cJ.1;rw[cH]at O U;omega
     subst he;simp[O,Y]
theorem C6(sc:Wd->Fr)(x y:Wd):ltOf (SK sc) x y=mD sc x y:=by
 unfold ltOf SK mD wF xE;by_cases O:(sc y).1*(sc x).2<(sc x).1*(sc y).2
 .simp[O]
 .by_cases U:(sc x).1*(sc y).2<(sc y).1*(sc x).2
  .simp[O,U]
  .simp only[O,U,if_false,ne_eq,not_true_eq_false,decide_false,cw,Bool.not_false,Bool.true_and];rw[cm,decide_eq_true_eq];exact PA x y
theorem OZ(O:List (List Wd))(l:List Wd):SWO (ltOf (SK (zI O l))) where
 irrefl x:=by rw[C6]; exact vW _ x
 trans x y z h1 h2:=by rw[C6]at *; exact sC _ (ri O l x) (ri O l y) (ri O l z) h1 h2
 ntrans x y z h1 h2:=by
  rw[C6]at *
  cases U:mD (zI O l) x z with
  |false=>rfl
  |true=>
   rcases ya (zI O l) x y with h|h|h
   .rw[h1]at h; cases h
   .subst h; rw[h2]at U; cases U
   .have:=sC _ (ri O l y) (ri O l x) (ri O l z) h U;rw[h2]at this; cases this
theorem Ou(O:List (List Wd))(l:List Wd)(x y:Wd)(U:x∈eK O)(W:y∈eK O):mD (zI O l) x y=mD (qS O l) x y:=by
 unfold mD;rw[GD O l x U,GD O l y W,O' (o8 O l x) (o8 O l y),O' (o8 O l y) (o8 O l x)]
theorem xx(O:List (List Wd))(l kn:List Wd)(most:Nat)(d':Array Wd)(hk:kn.Perm (eK O))(hp:PermIn 0 kn.toArray.size kn.toArray d')(hs:SortedIn (ltOf (SK (zI O l))) 0 kn.toArray.size d') :
  iA O l most=d'.toList.take (min most kn.length):=by
 obtain⟨p1,_,p3⟩:=hp
 have eA:=by
  have e1:d'.extract 0 kn.toArray.size=d':=by
   rw[<-p1]; simp
  have e2:kn.toArray.extract 0 kn.toArray.size=kn.toArray:=by simp
  rw[e1,e2]at p3;exact p3.trans hk
 rw[xI O l most _ (λx hx=>BA O l x hx) eA ?_,hk.length_eq];rw[aR];intro i j hi hj W;have aa:d'.toList.length=kn.toArray.size:=by simpa using p1
 have h:=hs i j (cb _) W (by omega);rw[C6]at h
 have gi:d'[i]! = d'.toList[i]:=by
  rw[getElem!_pos d' i _]; rfl
 have gj:d'[j]! = d'.toList[j]:=by
  rw[getElem!_pos d' j _]; rfl
 rw[gi,gj]at h;have mi:=eA.mem_iff.1 (aH hi);have mj:=eA.mem_iff.1 (aH hj);rw[Ou O l _ _ mj mi]at h;have Y:=eA.nodup_iff.2 (jN O).nodup;rcases ya .. with U|U|U
 .exact U
 .exfalso;have:=aR.1 Y i j hi hj W;exact this U
 .rw[h]at U; cases U
end
section
open Go.RowKit
variable {l m:List dp} {S T:List Wd} {α:Type} {q:Wd}
def dE(e:dp):Wd:=eo e.text
def qo(s p:Wd):Bool:=decide (p <+: s)
theorem nw(s p:Wd):qo s p=true↔p <+: s:=by simp[qo]
theorem JJ(s p:Wd):qo s p=(decide (p.length<=s.length)&&(s.take p.length==p)):=by
 rw[cm,nw,cl,decide_eq_true_iff,beq_iff_eq,List.prefix_iff_eq_take];constructor
 .intro h; refine⟨?_,h.symm⟩;have:=congrArg bR h; simp at this; omega
 .intro h; exact h.2.symm
def rX:Wd->Wd->Wd
 |a::u,b::bs=>if a=b then a::rX u bs else []
 |_,_=>[]
theorem rk:∀a b:Wd,rX a b <+: a
 |[],b=>by cases b<;>exact b9 _
 |a::u,[]=>aL
 |a::u,b::bs=>by
  unfold rX;split
  .exact aG.2 ⟨rfl,rk u bs⟩
  .exact aL
theorem pG:∀a b:Wd,rX a b <+: b
 |[],b=>by cases b<;>exact aL
 |a::u,[]=>b9 _
 |a::u,b::bs=>by
  unfold rX;split
  .rename_i h; subst h; exact aG.2 ⟨rfl,pG u bs⟩
  .exact aL
theorem qZ:∀(a b r:Wd),r <+: a->r <+: b->r <+: rX a b
 |[],b,r,h,_=>by have:=bO.1 h; subst this; exact aL
 |a::u,[],r,_,h=>by have:=bO.1 h; subst this; exact aL
 |a::u,b::bs,[],_,_=>aL
 |a::u,b::bs,c::r,U,W=>by
  have g1:=aG.1 U;have O:=aG.1 W;unfold rX;rw[if_pos (g1.1.symm.trans O.1)];exact aG.2 ⟨g1.1,qZ u bs r g1.2 O.2⟩
def Np:List Wd->Wd
 |[]=>[]
 |a::u=>u.foldl rX a
def rT(q:Wd)(S:List Wd):Prop:=(∀s∈S,q <+: s)/\∀r:Wd,(∀s∈S,r <+: s)->r <+: q
theorem Jg:∀(u:List Wd)(a:Wd),rT (u.foldl rX a) (a::u)
 |[],a=>⟨λs O=>by simp at O; subst O; exact b9 _,λr h=>h a (by simp)⟩
 |b::u,a=>by
  have U:=Jg u (rX a b)
  refine⟨λs O=>?_,λr h=>?_⟩
  .have W:=U.1 (rX a b) (by simp);simp only[az]at O;rcases O with rfl|rfl|O
   .exact W.trans (rk ..)
   .exact W.trans (pG ..)
   .exact U.1 s (by simp[O])
  .refine U.2 r (λs O=>?_);simp only[az]at O;rcases O with rfl|O
   .exact qZ _ _ _ (h a (by simp)) (h b (by simp))
   .exact h s (by simp[O])
theorem xf(h:S≠[]):rT (Np S) S:=by
 cases S with
 |nil=>exact absurd rfl h
 |cons a u=>exact Jg u a
theorem rT.one{p:Wd}(O:rT p S)(U:rT q S):p=q:=
 (U.2 p O.1).eq_of_length (cg (U.2 p O.1).length_le (O.2 q U.1).length_le)
theorem Pa(h:S≠[])(O:rT q S):Np S=q:=(xf h).one O
theorem rT.congr(h:∀s,s∈S↔s∈T)(U:rT q S):rT q T:=
 ⟨λs O=>U.1 s ((h s).2 O),λr W=>U.2 r (λs O=>W s ((h s).1 O))⟩
theorem Ii(h:∀s,s∈S↔s∈T):Np S=Np T:=by
 by_cases e:S=[]
 .subst e
  have:T=[]:=by
   cases T with
   |nil=>rfl
   |cons a T=>exact absurd ((h a).2 (by simp)) (by simp)
  rw[this]
 .exact((xf e).congr h).one (xf (λO=>by
   subst O
   cases S with
   |nil=>exact e rfl
   |cons a S=>exact absurd ((h a).1 (by simp)) (by simp)))
def Cg(a b:dp):Bool:=ck a.name b.name
def tW(out:List dp)(x:dp):List dp:=out.takeWhile (λy=>Cg y x)++x::out.dropWhile (λy=>Cg y x)
def fi(l:List dp):List dp:=l.foldl tW []
def lq(l:List dp):Prop:=l.Pairwise λa b=>Cg b a=false
def jz(l:List dp):Prop:=l.Pairwise λa b=>Cg a b=true
theorem EH(q:α->Bool)(A B:List α)(O:∀a∈A,q a=true)(U:∀b∈B,q b=false):(A++B).takeWhile q=A/\(A++B).dropWhile q=B:=by
 induction A with
 |nil=>
  cases B with
  |nil=>simp
  |cons b B=>have:=U b (by simp); simp[this]
 |cons a A W=>
  have Y:=O a (by simp);have:=W (λx hx=>O x (by simp[hx]));simp[Y,this.1,this.2]
theorem NP{p:α->Bool}:∀(l:List α)(y:α),y∈l.takeWhile p->p y=true:=by
 intro l
 induction l with
 |nil=>intro y h; simp at h
 |cons a l O=>
  intro y h;rw[aW]at h;split at h
  .rename_i U;rcases az.1 h with rfl|h
   .exact U
   .exact O y h
  .simp at h
theorem Jx{p:α->Bool}:∀(l:List α)(y:α)(r:List α),l.dropWhile p=y::r->p y=false:=by
 intro l
 induction l with
 |nil=>intro y r h; simp at h
 |cons a l O=>
  intro y r h;rw[b6]at h;split at h
  .exact O y r h
  .rename_i U;cases h;simpa using U
theorem Qj{x y z:dp}(U:Cg y x=false)(W:Cg z y=false):Cg z x=false:=by
 unfold Cg at *
 cases h:ck .. with
 |false=>rfl
 |true=>
  rcases im .. with O|O|O
  .rw[lW _ _ _ O h]at U; cases U
  .rw[O,h]at U; cases U
  .rw[O]at W; cases W
theorem AP(out:List dp)(x:dp)(h:lq out):∃A B,out=A++B/\tW out x=A++x::B/\(∀a∈A,Cg a x=true)/\∀b∈B,Cg b x=false:=by
 refine⟨out.takeWhile _,out.dropWhile _,(aV).symm,rfl,λa U=>NP out a U,λb hb=>?_⟩;have W:lq (out.dropWhile (λy=>Cg y x)):=cT (bw _) h;have Y:=Jx (p:=λy=>Cg y x) out;generalize out.dropWhile _=B at *
 cases B with
 |nil=>simp at hb
 |cons c B=>
  have O:=Y c B rfl;simp only[az]at hb;rcases hb with rfl|hb
  .exact O
  .exact Qj O (List.rel_of_pairwise_cons W hb)
theorem yv(out:List dp)(x:dp)(h:lq out):lq (tW out x):=by
 obtain⟨A,B,rfl,U,W,Y⟩:=AP out x h;rw[U];unfold lq at *;rw[bd]at h⊢;refine⟨h.1,a7.2 ⟨λb hb=>Y b hb,h.2.1⟩,λa O b hb=>?_⟩;simp only[az]at hb;rcases hb with rfl|hb
 .exact pM (W a O)
 .exact h.2.2 a O b hb
theorem BR(l:List dp):∀out,lq out->lq (l.foldl tW out):=by
 induction l with
 |nil=>intro out h; exact h
 |cons x l O=>intro out h; exact O _ (yv out x h)
theorem Cl(l:List dp):lq (fi l):=BR l [] List.Pairwise.nil
theorem Oe(out:List dp)(x:dp):(tW out x).Perm (x::out):=by
 refine bK.trans (List.Perm.cons x ?_);rw[aV]
theorem GY(l:List dp):∀out,(l.foldl tW out).Perm (l++out):=by
 induction l with
 |nil=>intro out; exact dc _
 |cons x l O=>
  intro out;refine(O _).trans ?_;refine(da l (Oe out x)).trans ?_;exact bK
theorem fR(l:List dp):(fi l).Perm l:=by have:=GY l []; rw[bi]at this; exact this
theorem mN{e:dp}:e∈fi l↔e∈l:=(fR l).mem_iff
theorem KT(l:List dp):(fi l).length=l.length:=(fR l).length_eq
theorem GL(p:dp->Bool)(out:List dp)(x:dp)(h:lq out):(tW out x).filter p=if p x=true then tW (out.filter p) x else out.filter p:=by
 obtain⟨A,B,rfl,W,Y,h4⟩:=AP out x h;rw[W];have hA:∀a∈A.filter p,(λy=>Cg y x) a=true:=λa O=>Y a (ay.1 O).1;have hB:∀a∈B.filter p,(λy=>Cg y x) a=false:=λa O=>h4 a (ay.1 O).1;have U:=EH _ _ _ hA hB;rw[aD,aD,bg];split
 .unfold tW; rw[U.1,U.2]
 .rfl
theorem C2(p:dp->Bool)(l:List dp):∀out,lq out->(l.foldl tW out).filter p=(l.filter p).foldl tW (out.filter p):=by
 induction l with
 |nil=>intro out _; rfl
 |cons x l O=>
  intro out h;rw[aN,O _ (yv out x h),GL p out x h,bg];split
  .rfl
  .rfl
theorem p8(p:dp->Bool)(l:List dp):(fi l).filter p=fi (l.filter p):=C2 p l [] List.Pairwise.nil
theorem Pm(out:List dp)(x:dp)(h:∀a∈out,Cg a x=true):tW out x=out++[x]:=by
 have:=EH _ out [] h (by simp);rw[bi]at this;unfold tW; rw[this.1,this.2]
theorem Ce(l:List dp):∀out,jz (out++l)->l.foldl tW out=out++l:=by
 induction l with
 |nil=>simp
 |cons x l O=>
  intro out h;have U:=(bd.1 h).2.2;rw[aN,Pm out x (λa W=>U a W x (by simp)),O]
  .simp
  .simpa using h
theorem C8(l:List dp)(h:jz l):fi l=l:=by simpa[fi]using Ce l [] (by simpa using h)
theorem KR(h:lq l)(U:(l.map dp.name).Nodup):jz l:=by
 rw[bS,b7]at U;refine(h.and U).imp ?_;rintro a b ⟨W,Y⟩;unfold Cg at *;rcases im .. with O|O|O
 .exact O
 .exact absurd O Y
 .rw[O]at W; cases W
theorem mJ(l:List dp)(O:(l.map dp.name).Nodup):jz (fi l):=
 KR (Cl l) (((fR l).map _).nodup_iff.2 O)
theorem jz.nodup(h:jz l):(l.map dp.name).Nodup:=by
 rw[bS,b7];exact h.imp (λh=>BH h)
theorem Hc(O:jz l)(hm:jz m)(h:l.Perm m):l=m:=by
 refine db (le:=λa b=>Cg a b=true) ?_ O hm h;intro a b _ _ U h2;have:=pM U;unfold Cg at h2;rw[h2]at this; cases this
theorem Gf(O:(l.map dp.name).Nodup)(h:l.Perm m):fi l=fi m:=
 Hc (mJ l O) (mJ m ((h.map _).nodup_iff.1 O)) (((fR l).trans h).trans (fR m).symm)
end
section
open Go.RowKit
variable {l:List dp} {p s:Wd}
def u8(n:Int):UInt8:=cI (n % 256).toNat
def dK(s:Wd):Wd:=u8 s.length::s
def gX(n:Int):Wd:=[u8 (n.tdiv 65536),u8 ((n.tdiv 256).tmod 256),u8 (n.tmod 256)]
def nv(e:dp):Wd:=dK e.name++(dK e.text++(gX e.dq++[u8 e.dB]))
def gI(l:List dp):Int:=l.foldl (λg e=>if g<e.dq then e.dq else g) 0
def RP(l:List dp)(p:Wd):List dp:=l.filter λe=>qo (dE e) p
def kV(l:List dp)(p:Wd):List dp:=l.filter λe=>dE e==p
def jH(G:List dp)(p:Wd)(c:UInt8):List dp:=G.filter λe=>qo (dE e) (p++[c])
def lm:List UInt8:=(aQ 256).map cI
def jL(G:List dp)(p:Wd):List UInt8:=lm.filter λc=>!(jH G p c).isEmpty
def mH(H:List dp):Wd:=Np (H.map dE)
def n9:Nat->Wd->List dp->Wd
 |0,_,_=>[]
 |f+1,p,G=>gX (gI G)++(u8 (kV G p).length::((kV G p).flatMap nv++(u8 (jL G p).length::(jL G p).flatMap λc=>dK ((mH (jH G p c)).drop p.length)++n9 f (mH (jH G p c)) (jH G p c))))
theorem jR(p s:Wd)(c:UInt8):p++[c] <+: s↔p <+: s/\p.length<s.length/\s.getD p.length 0=c:=by
 constructor
 .rintro⟨t,rfl⟩;simp[ax]
 .rintro⟨⟨t,rfl⟩,O,U⟩
  cases t with
  |nil=>simp at O
  |cons d t=>
   subst U;exact⟨t,by simp⟩
theorem yq(h:p <+: s)(U:s≠p):p.length<s.length:=by
 rcases Nat.lt_or_ge .. with O|O
 .exact O
 .exact absurd (h.eq_of_length (cg h.length_le O)).symm U
theorem Ee(h:p <+: s)(i:Nat)(hi:i<p.length):s.getD i 0=p.getD i 0:=by
 obtain⟨t,rfl⟩:=h;rw[ax,ax,bD hi]
theorem J7{e:dp}:e∈RP l p↔e∈l/\p <+: dE e:=by simp[RP,nw]
theorem uH(l:List dp)(p:Wd)(c:UInt8):jH l p c=RP l (p++[c]):=rfl
theorem pV{H:List dp}(h:H≠[]):rT (mH H) (H.map dE):=xf (by simpa using h)
theorem O5(h:RP l p≠[]):p <+: mH (RP l p):=
 (pV h).2 p (λs O=>by
  obtain⟨e,U,rfl⟩:=a5.1 O
  exact(J7.1 U).2)
theorem tv(i:Nat)(h:i<lm.length):lm[i]=cI i:=by simp[lm]
theorem BP:lm.length=256:=by simp[lm]
theorem ud{c:UInt8}(h:c∈jL l p):RP l (p++[c])≠[]:=by
 have:=(ay.1 h).2;rw[uH]at this;intro e; rw[e]at this; simp at this
theorem pj{α O:Type}{f g:α->List O}:∀{l:List α},(∀a∈l,f a=g a)->l.flatMap f=l.flatMap g
 |[],_=>rfl
 |a::l,h=>by rw[aE,aE,h a (by simp),pj (λx U=>h x (by simp[U]))]
end
section
open Go.RowKit
theorem Sx(s:ByteArray)(n:Nat):s.extract 0 n=⟨(s.data.toList.take n).toArray⟩:=by
 apply cY;apply eg.1;simp
theorem RJ(n:Int):((u8 n).toNat:Int)=n % 256:=by
 unfold u8;have:(cI (n % 256).toNat).toNat=(n % 256).toNat % 256:=by simp
 omega
theorem mf(n:Int):fF [u8 n]=[.int .u8 (n % 256)]:=by simp only[fF,a9,bf,RJ]
end
section
open Go.RowKit
theorem iU{B:Nat}{a w:World}(h:Below B a w)(q:Nat):Below B a (w.drewN q):=⟨h.os,h.tape,h.output,h.size,h.block⟩
end
section
open Go.RowKit
def vq(k:Nat):Wd:=[cI (97+k)]
theorem Bz(c:Int)(w:World)(Y : -9223372036854775808<=c)(h1:c<=9223372036854775807):c4 prog 23 #[.int .i64 c] w λe w'=>e=.returned (.string ⟨(vq (pk c 12)).toArray⟩)/\w=w':=by
 have O:=ib c 12 w Y h1 (by omega) (by omega);have U:=ma c 12 (by omega);obtain⟨k,W⟩:∃k,k=pk c 12:=⟨_,rfl⟩;rw[<-W]at O U⊢;clear W;go_enter func23,ntmps23;go_wp2_with fail;refine O.mono ?_;rintro e w1 ⟨rfl,rfl⟩;clear O;rcases(by omega:k=0\/k=1\/k=2\/k=3\/k=4\/k=5\/k=6\/k=7\/k=8\/k=9\/k=10\/k=11)with rfl|rfl|rfl|rfl|rfl|rfl|rfl|rfl|rfl|rfl|rfl|rfl
 all_goals
  go_wp2;go_ret;exact⟨rfl,rfl⟩
def w6:Nat->Wd
 |0=>[110,101,119]
 |1=>[89,111,114,107]
 |2=>[110,101,119,97,114,107]
 |3=>[110,101]
 |4=>[89,111,45,121,111]
 |_=>[107,57]
def Ac(n:Nat):Wd:=
 if n<6 then w6 n else if n<42 then w6 ((n-6) / 6)++[32]++w6 ((n-6) % 6)
 else w6 ((n-42) / 36)++[45]++w6 ((n-42) / 6 % 6)++[32]++w6 ((n-42) % 6)
def uB:Array Value:=#[.string ⟨#[110,101,119]⟩,.string ⟨#[89,111,114,107]⟩,.string ⟨#[110,101,119,97,114,107]⟩,.string ⟨#[110,101]⟩,.string ⟨#[89,111,45,121,111]⟩,.string ⟨#[107,57]⟩]
theorem I1(i:Nat)(h:i<6):uB[i]?=some (.string ⟨(w6 i).toArray⟩):=by
 rcases(by omega:i=0\/i=1\/i=2\/i=3\/i=4\/i=5)with rfl|rfl|rfl|rfl|rfl|rfl<;>rfl
theorem yM(i:Nat):(w6 i).length<=6:=by unfold w6; split<;>simp
theorem rh(a b:Wd):(⟨a.toArray⟩:ByteArray)++⟨b.toArray⟩=⟨(a++b).toArray⟩:=by
 apply cY;rw[cZ];simp
theorem Bf(c:Int)(w:World)(h0 : -9223372036854775808<=c)(h1:c<=9223372036854775807):c4 prog 45 #[.int .i64 c] w λe w'=>e=.returned (.string ⟨(Ac (pk c 258)).toArray⟩)/\Below w.heap.size w w':=by
 have aa:=ma c 258 (by omega);obtain⟨n,Y⟩:∃n,n=pk c 258:=⟨_,rfl⟩;have hb:Below w.heap.size w (w.alloc (.cells uB 9)):=(Below.refl _ _).alloc (bV _) _;have HB:Hid _:=hb
 have HC:Hid (∀i,i<6->(w.alloc (.cells uB 9)).cell? ⟨w.heap.size,i,none⟩=some (.string ⟨(w6 i).toArray⟩)):=λi hi=>by
  rw[dh (cs:=uB) (t:=9) (fz:=(0,0)) (by simp[World.alloc,-World.alloc_eq])];exact I1 i hi
 have hp:=ib c 258 (w.alloc (.cells uB 9)) h0 h1 (by omega) (by omega);rw[<-Y]at hp aa⊢;clear Y hb;unfold uB at HB HC hp;by_cases U:n<6
 .have g1:((n:Nat):Int)<6:=by omega
  have W:Ac n=w6 n:=by unfold Ac; rw[if_pos U]
  have hc:=HC.out n U;rw[W];go_enter func45,ntmps45;go_wp2_with fail;refine hp.mono ?_;rintro e w1 ⟨rfl,rfl⟩;clear hp;go_wp2;go_ret;exact⟨rfl,HB.out⟩
 .have g1:¬((n:Nat):Int)<6:=by omega
  by_cases O:n<42
  .obtain⟨i,j,hi,hj,Y⟩:∃i j,i<6/\j<6/\n=6+6*i+j:=⟨(n-6) / 6,(n-6) % 6,by omega,by omega,by omega⟩
   have W:Ac n=w6 i++[32]++w6 j:=by
    unfold Ac;rw[if_neg U,if_pos O,show(n-6) / 6=i by omega,show(n-6) % 6=j by omega]
   have ab:=HC.out i hi;have ac:=HC.out j hj;have zi:(⟨(w6 i).toArray⟩:ByteArray).size<=6:=by have:=yM i; simpa[cX]using this
   have zj:(⟨(w6 j).toArray⟩:ByteArray).size<=6:=by have:=yM j; simpa[cX]using this
   rw[W];have g3:(⟨(w6 i++[32]++w6 j).toArray⟩:ByteArray)=⟨(w6 i).toArray⟩++⟨#[32]⟩++⟨(w6 j).toArray⟩:=by rw[<-rh,<-rh]
   rw[g3];clear g3;generalize (⟨(w6 i).toArray⟩:ByteArray)=si at *;generalize (⟨(w6 j).toArray⟩:ByteArray)=sj at *;have g4:(n:Int)-6<36:=by omega
   have g5:((n:Int)-6).tdiv 6=(i:Nat):=by rw[cD (by omega)]; omega
   have g6:((n:Int)-6).tmod 6=(j:Nat):=by rw[cC (by omega)]; omega
   have m1:(i:Int)<6:=by omega
   have m2:(j:Int)<6:=by omega
   have k1:IntKind.i64.wrap ((i:Int))=i:=by simp only[cS]; omega
   have k2:IntKind.i64.wrap ((j:Int))=j:=by simp only[cS]; omega
   clear W Y O U;go_enter func45,ntmps45;go_wp2_with fail;refine hp.mono ?_;rintro e w1 ⟨rfl,rfl⟩;clear hp;generalize w.alloc _=wa at *;go_wp2;go_quiet (fail);go_wp2;go_ret;exact⟨rfl,iU HB.out _⟩
  .obtain⟨i,j,l,hi,hj,hl,Y⟩:∃i j l,i<6/\j<6/\l<6/\n=42+36*i+6*j+l:=⟨(n-42) / 36,(n-42) / 6 % 6,(n-42) % 6,by omega,by omega,by omega,by omega⟩
   have W:Ac n=w6 i++[45]++w6 j++[32]++w6 l:=by
    unfold Ac;rw[if_neg U,if_neg O,show(n-42) / 36=i by omega,show(n-42) / 6 % 6=j by omega,show(n-42) % 6=l by omega]
   have ab:=HC.out i hi;have ac:=HC.out j hj;have jv:=HC.out l hl;have zi:(⟨(w6 i).toArray⟩:ByteArray).size<=6:=by have:=yM i; simpa[cX]using this
   have zj:(⟨(w6 j).toArray⟩:ByteArray).size<=6:=by have:=yM j; simpa[cX]using this
   have zl:(⟨(w6 l).toArray⟩:ByteArray).size<=6:=by have:=yM l; simpa[cX]using this
   rw[W];have g3:(⟨(w6 i++[45]++w6 j++[32]++w6 l).toArray⟩:ByteArray)=⟨(w6 i).toArray⟩++⟨#[45]⟩++⟨(w6 j).toArray⟩++⟨#[32]⟩++⟨(w6 l).toArray⟩:=by rw[<-rh,<-rh,<-rh,<-rh]
   rw[g3];clear g3;generalize (⟨(w6 i).toArray⟩:ByteArray)=si at *;generalize (⟨(w6 j).toArray⟩:ByteArray)=sj at *;generalize (⟨(w6 l).toArray⟩:ByteArray)=sl at *;have g4:¬(n:Int)-6<36:=by omega
   have g6:((n:Int)-6-36).tdiv 36=(i:Nat):=by rw[cD (by omega)]; omega
   have g7:((n:Int)-6-36).tdiv 6=((6*i+j:Nat):Int):=by rw[cD (by omega)]; omega
   have g8:(6*(i:Int)+(j:Int)).tmod 6=(j:Nat):=by rw[cC (by omega)]; omega
   have g9:((n:Int)-6-36).tmod 6=(l:Nat):=by rw[cC (by omega)]; omega
   have m1:(i:Int)<6:=by omega
   have m2:(j:Int)<6:=by omega
   have k1:IntKind.i64.wrap ((i:Int))=i:=by simp only[cS]; omega
   have k2:IntKind.i64.wrap ((j:Int))=j:=by simp only[cS]; omega
   have m3:(l:Int)<6:=by omega
   have k3:IntKind.i64.wrap ((l:Int))=l:=by simp only[cS]; omega
   have k4:IntKind.i64.wrap (6*(i:Int)+(j:Int))=6*(i:Int)+(j:Int):=by simp only[cS]; omega
   clear W Y O U;go_enter func45,ntmps45;go_wp2_with fail;refine hp.mono ?_;rintro e w1 ⟨rfl,rfl⟩;clear hp;generalize w.alloc _=wa at *;go_wp2;go_quiet (fail);go_wp2;go_ret;exact⟨rfl,iU HB.out _⟩
end
section
open Go.RowKit
theorem mI(c:UInt8)(w:World) :
  c4 prog 98 #[.int .u8 c.toNat] w λe w'=>e=.returned (.bool (fc c))/\w=w':=by
 go_wp2
 all_goals
  go_ret;refine⟨eG ?_,rfl⟩;unfold fc;rw[cm];simp only[decide_eq_true_eq,cn,true_iff,false_iff,cv];omega
theorem qw(s:ByteArray)(w:World)(hs:s.size<=cx) :
  c4 prog 48 #[.string s] w λe w'=>e=.returned (.bool (ep s.data.toList))/\w=w':=by
 unfold cx at hs;by_cases aa:s.size<=24
 .have hd:decide (24<(s.size:Int))=false:=by simp; omega
  go_enter func48,ntmps48;go_wp2;go_loop [9] (λi=>∃k:Nat,k<=s.size/\i=.int .i64 k/\(s.data.toList.take k).all ow=true) (λi=>s.size-(intOf i).toNat)
  case atStart=>exact⟨0,cb _,rfl,rfl⟩
  case round=>
   obtain⟨k,hk,rfl,ft⟩:=hrel;have HA:Hid _:=ft;clear ft;by_cases U:k<s.size
   .have W:=AM s k U;have HS:Hid _:=W;clear W;by_cases O:ow s[k]=true
    .have HP:Hid _:=O;have Y:32<=(s[k].toNat:Int):=by simp[ow]at O; omega
     have h2:(s[k].toNat:Int)<=126:=by simp[ow]at O; omega
     clear O;go_wp2;go_round
     case rel=>exact⟨k+1,by omega,by go_num,by rw[HS.out,List.all_append,HA.out]; simp[HP.out]⟩
     case measure=>simp[intOf]; omega
    .have HP:Hid _:=O;have Y:(s[k].toNat:Int)<32\/126<(s[k].toNat:Int):=by simp[ow]at O; omega
     clear O;rcases Y with Y|Y
     all_goals
      go_wp2;go_ret;refine⟨eG ?_,rfl⟩;symm;rw[cr];intro hq;apply HP.out;simp only[ep,cl]at hq;exact List.all_eq_true.1 hq.2 _ (CK s k U)
   .go_wp2;go_ret;refine⟨eG ?_,rfl⟩;have e:s.data.toList.take k=s.data.toList:=bj (by simp; omega);have:=HA.out;rw[e]at this;simp[ep,this]; exact aa
 .go_enter func48,ntmps48;go_wp2;go_ret;refine⟨eG ?_,rfl⟩;simp[ep]; omega
theorem pJ(s:ByteArray)(w:World)(Y:s.size<=cx) :
  c4 prog 65 #[.string s] w λe w'=>e=.returned (.bool (decide (ep s.data.toList=true/\s.data.toList≠[])))/\w=w':=by
 by_cases O:s.data.toList=[]
 .have U:s=⟨#[]⟩:=by
   apply cY;apply eg.1;exact O
  subst U;go_wp2;go_ret;exact⟨eG (by simp),rfl⟩
 .have W:s.toList.isEmpty=false:=by
   rw[ByteArray.toList_eq]
   cases h:s.data.toList with
   |nil=>exact absurd h O
   |cons a l=>rfl
  have HQ:Hid (decide (ep s.data.toList=true/\s.data.toList≠[])=ep s.data.toList):=by
   rw[cm,decide_eq_true_eq];exact⟨λh=>h.1,λh=>⟨h,O⟩⟩
  go_enter func65,ntmps65;go_wp2_with fail;refine(qw _ _ Y).mono ?_;rintro e w' ⟨rfl,rfl⟩;go_wp2;go_ret;exact⟨eG (by rw[HQ.out]),rfl⟩
def ry(w:World)(g:Nat)(l:List UInt8):Prop:=∀j(h:j<l.length),w.cell? ⟨g,j,none⟩=some (.int .u8 l[j].toNat)/\w.frozen? ⟨g,j,none⟩=false
theorem ry.set{w:World}{g:Nat}{l:List UInt8}(h:ry w g l)(k:Nat)(c:UInt8)(v:Value)(W:v=.int .u8 c.toNat):ry (w.setCell ⟨g,k,none⟩ v) g (l.set k c):=by
 subst W;intro j Y;have O:j<l.length:=by simpa using Y
 obtain⟨U,h2⟩:=h j O;refine⟨?_,by rw[World.frozen?_setCell]; exact h2⟩;by_cases e:k=j
 .subst e;rw[World.cell?_setCell_same _ _ _ U];simp
 .rw[World.cell?_setCell_other _ _ _ _ (by intro hh; simp at hh),U];simp[e]
def iC(l:List UInt8)(k:Nat):List UInt8:=eo (l.take k)++l.drop k
theorem sk(l:List UInt8)(k:Nat):(iC l k).length=l.length:=by simp[iC,eo]; omega
theorem yW(l:List UInt8)(k:Nat)(h:k<l.length):(iC l k)[k]'(by rw[sk]; exact h)=l[k]:=by
 unfold iC;simp[eo,cf (Nat.le_of_lt h)]
theorem FW(l:List UInt8)(k:Nat)(h:k<l.length):iC l (k+1)=(iC l k).set k (y8 l[k]):=by
 unfold iC;rw[aA h,I0];have O:(eo (l.take k)).length=k:=by rw[fY]; simp; omega
 rw[List.set_append_right _ _ (by omega),O,Nat.sub_self,aI];rw[aJ h];rfl
theorem Hn(l:List UInt8):iC l l.length=eo l:=by simp[iC]
theorem Gh(l:List UInt8):iC l 0=l:=by simp[iC,eo]
theorem drawn_setCell(w:World)(a:Addr)(v:Value):(w.setCell a v).drawn=w.drawn:=by
 unfold de;split <;>(try split) <;>(try split)<;>rfl
theorem s7(s:ByteArray)(w:World)(hs:s.size<=1099511627776) :
  c4 prog 50 #[.string s] w λe w'=>e=.returned (.string ⟨(eo s.data.toList).toArray⟩)/\Below w.heap.size w w'/\w.drawn<=w'.drawn:=by
 have ab:=Lib.run_convert_string_bytes (P:=prog) w 9 60 5 s underlying9 underlying60 underlying5;go_enter func50,ntmps50;obtain⟨W0,O⟩:∃W0,Lib.bytesWorld w 5 s=W0:=⟨_,rfl⟩
 have hb0:Below w.heap.size w W0:=by
  subst O;exact⟨rfl,rfl,rfl,by rw[cN]; omega,λk hk=>Lib.bytesWorld_at_old w _ s k hk⟩
 have hd0:w.drawn<=W0.drawn:=by subst O; exact Nat.le_succ _
 have hz0:w.heap.size<W0.heap.size:=by subst O; rw[cN]; omega
 have hA0:ry W0 w.heap.size (iC s.data.toList 0):=by
  rw[Gh];intro j hj;have ac:j<s.size:=by simpa using hj
  subst O;refine⟨?_,?_⟩
  .rw[Lib.bytesWorld_cell w _ s j ac,ax,a6 hj]; rfl
  .simp[df,Lib.bytesWorld_at_new];intro h;simp[Lib.bytesCells]at h;omega
 rw[O]at ab;clear O;go_wp2;go_loopw [10] (λi wr=>∃k:Nat,k<=s.size/\i=.int .i64 k/\ry wr w.heap.size (iC s.data.toList k)/\Below w.heap.size w wr/\w.heap.size<wr.heap.size/\w.drawn<=wr.drawn) (λi _=>s.size-(intOf i).toNat)
 case atStart=>exact⟨0,cb _,rfl,hA0,hb0,hz0,hd0⟩
 case round=>
  obtain⟨k,hk,rfl,hA,hb,hz,hd⟩:=hrel;have HD:Hid (w.drawn<=wr.drawn):=hd;clear hd;by_cases ad:k<s.size
  .have W:k<s.data.toList.length:=by simpa using ad
   obtain⟨hc,hf⟩:=hA k (by rw[sk]; exact W);rw[yW _ _ W]at hc;have HE:Hid (iC s.data.toList (k+1)=(iC s.data.toList k).set k (y8 s.data.toList[k])):=FW _ _ W;have HG:Hid (s.data.toList.length=s.size):=by show _=_; simp
   have aa:Hid ((iC s.data.toList k)[k]'(by rw[sk]; exact W)=s.data.toList[k]):=yW _ _ W;have HA:Hid (ry wr w.heap.size (iC s.data.toList k)):=hA;generalize s.data.toList[k]=c at *;clear hA;by_cases U:65<=c.toNat/\c.toNat<=90
   .have h1:65<=(c.toNat:Int):=by omega
    have h2:(c.toNat:Int)<=90:=by omega
    have HL:Hid (((y8 c).toNat:Int)=(c.toNat:Int)+32):=OX _ U;clear U;go_wp2;go_roundw
    case rel=>exact⟨k+1,by omega,by go_num,by rw[HE.out]; exact HA.out.set k _ _ (by rw[HL.out]; go_num),Below.setCell hb (bV _) _,by simpa[de]using hz,by rw[drawn_setCell]; exact HD.out⟩
    case measure=>simp[intOf]; omega
   .have HL:Hid (y8 c=c):=Q1 _ U;have ae:(c.toNat:Int)<65\/90<(c.toNat:Int):=by omega
    have HS:Hid (iC s.data.toList (k+1)=iC s.data.toList k):=by
     show _=_;rw[HE.out,HL.out,<-aa.out];simp
    clear U;rcases ae with h1|h1
    all_goals
     go_wp2;go_roundw
     case rel=>exact⟨k+1,by omega,by go_num,by rw[HS.out]; exact HA.out,hb,hz,HD.out⟩
     case measure=>simp[intOf]; omega
  .have ek:k=s.size:=by omega
   subst ek;have W:(eo s.data.toList).length=s.size:=by rw[fY]; simp
   have e1:iC s.data.toList s.size=eo s.data.toList:=by
    have:s.size=s.data.toList.length:=by simp
    rw[this,Hn]
   rw[e1]at hA
   have Y:=run_convert_bytes_back (P:=prog) wr 60 9 5 ⟨w.heap.size,0,none⟩ (grownCap w s.size 0 5) (eo s.data.toList) underlying60 underlying5 underlying9 (λj hj=>by
    have:=(hA j hj).1
    have e2:(⟨w.heap.size,0,none⟩:Addr).add j=⟨w.heap.size,j,none⟩:=by
     unfold dj;split
     .rename_i h; rw[h]
     .simp
    rw[e2]; exact this)
   rw[W]at Y;clear W e1;go_wp2;go_ret;exact⟨rfl,hb,HD.out⟩
theorem pb(s:ByteArray)(w:World)(O:s.size<=1099511627776) :
  c4 prog 50 #[.string s] w λe w'=>e=.returned (.string ⟨(eo s.data.toList).toArray⟩)/\Below w.heap.size w w':=(s7 s w O).mono λ_ _ h=>⟨h.1,h.2.1⟩
end
section
open Go.RowKit
def rY(O:List (List Wd))(s:List UInt8):Nat×List (List Wd):=
 if ep s=true/\s≠[]then
  if 60<(eK (O++[iz (eo s)])).length then(4,O)else(0,O++[iz (eo s)])
 else(2,O)
end
section
open Go.RowKit
def uM(O:List (List Wd))(s:List UInt8)(most:Int):List Wd×Nat:=
 if most<1\/20<most then([],3)else if ep s=true then(iA O (iz (eo s)) most.toNat,0)else([],2)
def Mc(w:World):Prop:=w.cell? ⟨0,0,none⟩=some (.int .u64 4)/\w.cell? ⟨0,1,none⟩=some (.int .u64 10)/\w.cell? ⟨0,2,none⟩=some (.int .u64 25)
theorem Mc.below{w w':World}(h:Mc w)(hb:Below w.heap.size w w'):Mc w':=⟨c2 hb h.1,c2 hb h.2.1,c2 hb h.2.2⟩
end
section
open Go.RowKit Go.Maps
variable {D:DataW Value} {m:List (Wd×Value)} {r:Nat} {row:Option Nat} {e t:cy} {w':World}
def kK(v:Value):Option (DataW Value×List MemPlace):=some (.held v,[])
structure Nc(D:DataW Value)(l:List (Wd×Value)):Prop where
 nodup:(l.map en).Nodup
 short:∀p∈l,p.1.length<=cx
 size:ee D=l.length
 has:∀x:Wd,ef D (.string x)=l.any λp=>p.1==x
 at_:∀p∈l,∀z,D.atKey (.string p.1) z=.held p.2
def dL(P:Program)(k:cy)(w:World)(B:Nat)(l:List (Wd×Value)):Prop:=∃D:DataW Value,w.ownsMap P k kK B l.length D/\Nc D l
def qv(l:List (Wd×Value))(x:Wd)(v:Value):List (Wd×Value):=(l.filter λp=>p.1 != x)++[(x,v)]
theorem Et{α:Type}{l m:List α}(h:l.Perm m)(f:α->Bool):l.any f=m.any f:=by
 rw[cm];simp only[bt];exact⟨λ⟨x,O,U⟩=>⟨x,h.mem_iff.1 O,U⟩,λ⟨x,O,U⟩=>⟨x,h.mem_iff.2 O,U⟩⟩
theorem Nc.perm{l:List (Wd×Value)}(h:Nc D l)(O:l.Perm m):Nc D m where
 nodup:=(O.map en).nodup_iff.1 h.nodup
 short:=λp hm=>h.short p (O.mem_iff.2 hm);size:=by rw[h.size,O.length_eq]
 has:=λx=>by rw[h.has x,Et O]
 at_:=λp hm=>h.at_ p (O.mem_iff.2 hm)
theorem xk{P:Program}{k:cy}{w:World}{B n:Nat}{R:Value->Option (DataW Value×List MemPlace)}(h:w.ownsMap P k R B n D):w.ownsMap P k R B (ee D) D:=by
 obtain⟨es,clock,hb,F,_,rfl⟩:=h;exact⟨es,clock,hb,F,by simp[ee,length_sorted],rfl⟩
section
variable {P:Program} {k:cy} {w:World} {B:Nat} {l:List (Wd×Value)}
theorem dL.perm(h:dL P k w B l)(O:l.Perm m):dL P k w B m:=by
 obtain⟨D,U,W⟩:=h;exact⟨D,by rw[<-O.length_eq]; exact U,W.perm O⟩
theorem dL.lt(h:dL P k w B l):B<w.heap.size:=by
 obtain⟨D,O,_⟩:=h;exact O.lt
theorem dL.nodup(h:dL P k w B l):(l.map en).Nodup:=by
 obtain⟨D,_,O⟩:=h;exact O.nodup
theorem dL.stay(h:dL P k w B l)(hb:w'.heap[B]?=w.heap[B]?):dL P k w' B l:=by
 obtain⟨D,⟨es,clock,O,U⟩,W⟩:=h;exact⟨D,⟨es,clock,hb.trans O,U⟩,W⟩
theorem dL.below(h:dL P k w B l)(hb:Below w.heap.size w w'):dL P k w' B l:=h.stay (hb.block B h.lt)
theorem dL.kept(h:dL P k w B l)(U:w.grownBy w' row)(O:some B≠row):dL P k w' B l:=h.stay (U.block B h.lt O)
theorem dL.made(w:World):dL P k (w.alloc (.map #[] 0)) w.heap.size []:=
 ⟨.map [],World.ownsMap_made ..,⟨List.Pairwise.nil,nofun,rfl,λ_=>rfl,nofun⟩⟩
theorem JD(O:P.underlying k=some .string)(x:Wd)(U:x.length<=cx):keyOf P k (.string ⟨x.toArray⟩)=some (.string x):=by
 have:=WideMaps.keyOf_string_mk (P:=P) (k:=k) O (s:=⟨x.toArray⟩) (by show x.toArray.size<=cx; simpa using U);simpa using this
def mA(l:List (Wd×Value))(x:Wd)(z:Value):Value:=match l.find? λp=>p.1==x with
 |some p=>p.2
 |none=>z
theorem dL.look{z:Value}(h:dL P k w B l)(hk:P.underlying k=some .string)(ht:P.underlying t=some (.map k e))(hz:(zeroValue e).run P w=.ok z w)(x:Wd)(hx:x.length<=cx) :
  (Instr.lookup t (.map (some B)) (.string ⟨x.toArray⟩) false).run P w=.ok (mA l x z) w/\(Instr.lookup t (.map (some B)) (.string ⟨x.toArray⟩) true).run P w=.ok (.tuple #[mA l x z,.bool (l.any λp=>p.1==x)]) w:=by
 obtain⟨D,h1,O⟩:=h;have K:=dt hk;have gF:=JD hk x hx;obtain⟨v1,p1,r1,U⟩:=h1.lookup K ht hz (zd:=.held z) (zp:=[]) rfl gF;obtain⟨v2,p2,r2,W⟩:=h1.look_ok K ht hz (zd:=.held z) (zp:=[]) rfl gF
 have Y:D.atKey (.string x) (.held z)=.held (mA l x z):=by
  unfold mA
  cases hf:l.find? _ with
  |none=>
   have:ef D (.string x)=false:=by
    rw[O.has x,bq];intro p hp;simpa using List.find?_eq_none.1 hf p hp
   exact atKey_of_not_has this _
  |some p=>
   have hp:=List.mem_of_find?_eq_some hf;have he:=by simpa using List.find?_some hf
   have:=O.at_ p hp (.held z);rw[he]at this;exact this
 rw[Y]at U W;simp only[kK,cG,Prod.mk.injEq,DataW.held.injEq]at U W;rw[r1,r2,U.1,W.1,O.has x];exact⟨rfl,rfl⟩
theorem dL.len(h:dL P k w B l)(U:P.underlying t=some (.map k e))(O:cy):(cR #[t] O #[.map (some B)]).run P w=.ok (.int .i64 (l.length:Nat)) w:=by
 obtain⟨D,W,Y⟩:=h;rw[W.len U O,Y.size]
theorem EO(l:List (Wd×Value))(x y:Wd)(U:y≠x):(l.filter λp=>p.1 != x).any (λp=>p.1==y)=l.any λp=>p.1==y:=by
 rw[cm];simp only[bt,ay,beq_iff_eq,bne_iff_ne];constructor
 .rintro⟨p,⟨W,_⟩,O⟩; exact⟨p,W,O⟩
 .rintro⟨p,W,O⟩; exact⟨p,⟨W,by rw[O]; exact U⟩,O⟩
theorem N9(x:Wd):∀(l:List (Wd×Value)),(l.map en).Nodup->(l.filter λp=>p.1 != x).length+(if l.any (λp=>p.1==x)then 1 else 0)=l.length:=by
 intro l
 induction l with
 |nil=>intro _; rfl
 |cons p l W=>
  intro O;rw[a9,aT]at O;have h:=W O.2;by_cases e:p.1=x
  .have U:l.any (λp=>p.1==x)=false:=by
    rw[bq];intro q Y;simp only[beq_iff_eq];intro e2;exact O.1 (a5.2 ⟨q,Y,by rw[e2,e]⟩)
   rw[U]at h;simp[e]at h⊢;exact h
  .rw[bg,List.any_cons];simp only[bne_iff_ne,ne_eq,e,not_false_eq_true,if_true,aB];have:(p.1==x)=false:=by simpa using e
   rw[this,cw];omega
theorem dL.put(h:dL P k w B l)(hk:P.underlying k=some .string)(ht:P.underlying t=some (.map k e))(hn:l.length<cx)(x:Wd)(hx:x.length<=cx)(v:Value) :
  ∃w',(Instr.mapUpdate t (.map (some B)) (.string ⟨x.toArray⟩) v).run P w=.ok () w'/\dL P k w' B (qv l x v)/\w.grownBy w' (some B)/\w'.heap.size=w.heap.size:=by
 obtain⟨D,h1,O⟩:=h;have K:=dt hk;have gF:=JD hk x hx;obtain⟨w',hr,ho,U⟩:=h1.store K ht hn gF (d:=.held v) (ps:=[]) (val:=v) rfl;have hT:=h1.tidy K
 have W:ee (D.put (.string x) (.held v))=(qv l x v).length:=by
  rw[size_put hT,O.has x,O.size];have:=N9 x l O.nodup;unfold qv;rw[a0,List.length_singleton];split at this<;>rename_i hh
  .rw[if_pos hh]; omega
  .rw[if_neg hh]; omega
 refine⟨w',hr,⟨_,by rw[<-W]; exact xk ho,⟨?_,?_,W,?_,?_⟩⟩,U.grown,?_⟩
 .unfold qv;rw[aM,a9,bf,ba];refine⟨O.nodup.sublist ((bh).map _),by simp,?_⟩;intro a ha b hb;simp only[aC]at hb;subst hb;obtain⟨p,Y,rfl⟩:=a5.1 ha;have:=(ay.1 Y).2;simpa using this
 .intro p Y;rcases a8.1 Y with h|h
  .exact O.short p (ay.1 h).1
  .simp only[aC]at h; subst h; exact hx
 .intro y;unfold qv;rw[List.any_append];by_cases e:y=x
  .subst e;rw[has_put_same h1.isMap (show WideAt.IsKeyLit (.string y)from trivial)];simp
  .rw[has_put_other (by simpa using e),O.has y,EO l x y e];have:(x==y)=false:=by simpa using λh=>e h.symm
   simp[this]
 .intro p Y z;rcases a8.1 Y with h|h
  .have hm:=ay.1 h;have ab:=by simpa using hm.2
   rw[atKey_put_other (by simpa using ab)];exact O.at_ p hm.1 z
  .simp only[aC]at h;subst h;rw[atKey_put_same h1.isMap (show WideAt.IsKeyLit (.string x)from trivial)]
 .obtain⟨es,clock,ac,aa,_,rfl⟩:=U;simp[ChangeMaps.setBlock]
def eu(P:Program)(k:cy)(w:World)(B r:Nat)(l rest:List (Wd×Value)):Prop:=
 (rest.map en).Nodup/\(∀p∈rest,p∈l)/\∃D left cnt,w.ranges P k kK B r l.length D left cnt/\Nc D l/\∀x:Wd,left (.string x)=rest.any λp=>p.1==x
theorem eu.owns{rest:List (Wd×Value)}(h:eu P k w B r l rest):dL P k w B l:=by
 obtain⟨_,_,D,left,cnt,O,U,_⟩:=h;exact⟨D,O.owns,U⟩
theorem eu.lt{rest:List (Wd×Value)}(h:eu P k w B r l rest):r<w.heap.size:=by
 obtain⟨_,_,D,left,cnt,O,U,_⟩:=h;exact O.lt
theorem eu.kept{rest:List (Wd×Value)}(h:eu P k w B r l rest)(O:w.grownBy w' row)(U:some B≠row)(W:some r≠row):eu P k w' B r l rest:=by
 obtain⟨a,b,D,left,cnt,Y,h2,h3⟩:=h;exact⟨a,b,D,left,cnt,Y.kept O U W,h2,h3⟩
theorem eu.jA(O:w'.heap[B]?=w.heap[B]?)(U:w'.heap[r]?=w.heap[r]?):w'.rangeLeft B r=w.rangeLeft B r:=by
 unfold World.rangeLeft;rw[O,U]
theorem dL.range(h:dL P k w B l)(U:P.underlying k=some .string)(W:P.underlying t=some (.map k e)) :
  ∃w',(Instr.range t (.map (some B))).run P w=.ok (.pointer (some ⟨w.heap.size,0,none⟩)) w'/\eu P k w' B w.heap.size l l/\w.grownBy w' none/\w'.heap.size=w.heap.size+1:=by
 obtain⟨D,Y,O⟩:=h;obtain⟨w',hr,r1,r2,r3⟩:=Y.range (dt U) W;exact⟨w',hr,⟨O.nodup,λ_ h=>h,D,_,_,r1,O,O.has⟩,r2,r3⟩
theorem IQ(U:P.underlying k=some .string){key:Value}{O:Lit}(h:keyOf P k key=some O):∃x:Wd,key=.string ⟨x.toArray⟩/\O=.string x:=by
 cases key<;>simp[keyOf,U,mapKey]at h
 rename_i s;refine⟨s.data.toList,?_,h.2.symm⟩;simp
theorem P':∀{l:List (Wd×Value)},(l.map en).Nodup->∀{a b:Wd×Value},a∈l->b∈l->a.1=b.1->a=b:=by
 intro l
 induction l with
 |nil=>intro _ a b h; simp at h
 |cons c l W=>
  intro O a b U hb e;rw[a9,aT]at O;rcases az.1 U with ea|U
  .rcases az.1 hb with eb|hb
   .rw[ea,eb]
   .exact absurd (a5.2 ⟨b,hb,by rw[<-e,ea]⟩) O.1
  .rcases az.1 hb with eb|hb
   .exact absurd (a5.2 ⟨a,U,by rw[e,eb]⟩) O.1
   .exact W O.2 U hb e
theorem eu.next{rest:List (Wd×Value)}(h:eu P k w B r l rest)(hk:P.underlying k=some .string)(ty:cy) :
  (rest=[]/\(Instr.next (.pointer (some ⟨r,0,none⟩)) false ty).run P w=.ok (.tuple #[.bool false]) w)\/
  ∃p O w',rest.Perm (p::O)/\(Instr.next (.pointer (some ⟨r,0,none⟩)) false ty).run P w=.ok (.tuple #[.bool true,.string ⟨p.1.toArray⟩,p.2]) w'/\eu P k w' B r l O/\w'.rangeLeft B r<w.rangeLeft B r/\
   w.grownBy w' (some r)/\w'.heap.size=w.heap.size/\(Instr.entry (.pointer (some ⟨r,0,none⟩))).run P w'=.ok (.tuple #[.string ⟨p.1.toArray⟩,p.2]) w':=by
 obtain⟨hn,U,D,left,cnt,h1,h2,h3⟩:=h;rcases h1.next (dt hk) ty with⟨_,hl,hr⟩|⟨key,v,kl,y,w',aa,gF,ad,hv,ae,hr,ab,af,hg,hs,ag⟩
 .left;refine⟨?_,hr⟩
  cases rest with
  |nil=>rfl
  |cons p rest=>
   have:=hl (.string p.1);rw[h3]at this;simp at this
 .right;obtain⟨x,rfl,rfl⟩:=IQ hk gF;have hx:=ad;rw[h3,bt]at hx;obtain⟨p,hp,Y⟩:=hx;have Y:=by simpa using Y
  subst Y
  have ah:=by
   have e1:=h2.at_ p (U p hp) (.held v);rw[ae]at e1;simp only[kK,cG]at hv;rw[<-hv]at e1;simpa using e1
  subst ah;refine⟨p,rest.filter λq=>q.1 != p.1,w',?_,hr,⟨?_,?_,D,_,aa,ab,h2,λx=>?_⟩,?_,hg,hs,ag⟩
  .have ac:rest.Nodup:=cU _ (λa b ai e=>ai (by rw[e])) hn;rw[bn ac]
   .intro q;simp only[az,ay,bne_iff_ne];constructor
    .intro W;by_cases e:q.1=p.1
     .left;exact P' hn W hp e
     .right; exact⟨W,e⟩
    .rintro(rfl|⟨W,_⟩)
     .exact hp
     .exact W
   .rw[aT];refine⟨λh=>?_,ac.sublist bh⟩;have:=(ay.1 h).2;simp at this
  .exact hn.sublist (bh.map _)
  .exact λq W=>U q (ay.1 W).1
  .rw[h3];by_cases e:x=p.1
   .subst e;have:(Lit.string p.1).sameKey (.string p.1)=true:=by simp[Lit.sameKey]
    rw[this];simp only[Bool.not_true,Bool.and_false];symm;rw[bq];intro q W;have:=(ay.1 W).2;simpa using this
   .have:(Lit.string x).sameKey (.string p.1)=false:=by simp[Lit.sameKey,e]
    rw[this,EO rest _ x e];simp
  .rw[ab.left_eq,h1.left_eq];exact af
end
section
variable {P:Program} {k:cy} {B:Nat} {l:List (Wd×Value)} (w:World) {ops:Array Oper} {rest:List Oper} {o:Oper} {a:Act} {Q:Exit->Act->World->Prop}
theorem zY(Y:o.guard=none)(m:Operand)(t:cy)(U:o.op=Op.range t m)(e:cy)(hk:P.underlying k=some .string)(ht:P.underlying t=some (.map k e))
  (hm:a.eval m=.map (some B)) (h:dL P k w B l)
  (hK:∀w',eu P k w' B w.heap.size l l->w.grownBy w' none->w'.heap.size=w.heap.size+1->cz P ops Q rest (a.put o.dst (.pointer (some ⟨w.heap.size,0,none⟩))) w') :
  cz P ops Q (o::rest) a w:=by
 refine c0 Y λK' W=>?_;obtain⟨w',O,r1,r2,r3⟩:=h.range hk ht;unfold Oper.wp;simp[c5,U,hm,O,dk];exact W _ _ (hK w' r1 r2 r3)
theorem CL(hg:o.guard=none)(it:Operand)(Y:o.op=Op.next it false)(hk:P.underlying k=some .string)(r:Nat)(left:List (Wd×Value))
  (aa:a.eval it=.pointer (some ⟨r,0,none⟩)) (h:eu P k w B r l left)
  (W:left=[]->cz P ops Q rest (a.put o.dst (.tuple #[.bool false])) w)
  (hMore:∀p O w',left.Perm (p::O)->eu P k w' B r l O->w'.rangeLeft B r<w.rangeLeft B r->w.grownBy w' (some r)->w'.heap.size=w.heap.size->(Instr.entry (.pointer (some ⟨r,0,none⟩))).run P w'=.ok (.tuple #[.string ⟨p.1.toArray⟩,p.2]) w'->
    cz P ops Q rest (a.put o.dst (.tuple #[.bool true,.string ⟨p.1.toArray⟩,p.2])) w') :
  cz P ops Q (o::rest) a w:=by
 refine c0 hg λK' ab=>?_;unfold Oper.wp;rcases h.next hk o.type with⟨h0,U⟩|⟨p,O,w',hp,U,ac,ad,ae,af,ag⟩
 .simp[c5,Y,aa,U,dk];exact ab _ _ (W h0)
 .simp[c5,Y,aa,U,dk];exact ab _ _ (hMore p O w' hp ac ad ae af ag)
theorem jr(Y:o.guard=none)(m x v:Operand)(t:cy)(U:o.op=Op.mapUpdate t m x v)(e:cy)(hk:P.underlying k=some .string)(ht:P.underlying t=some (.map k e))
  (hm:a.eval m=.map (some B)) (h:dL P k w B l) (hn:l.length<cx) (y:Wd) (hy:y.length<=cx) (hx:a.eval x=.string ⟨y.toArray⟩) (u:Value) (hv:a.eval v=u)
  (hK:∀w',dL P k w' B (qv l y u)->w.grownBy w' (some B)->w'.heap.size=w.heap.size->cz P ops Q rest (a.put o.dst undef) w') :
  cz P ops Q (o::rest) a w:=by
 refine c0 Y λK' W=>?_;obtain⟨w',O,r1,r2,r3⟩:=h.put hk ht hn y hy u;unfold Oper.wp;simp[c5,U,hm,hx,hv,O,dk];exact W _ _ (hK w' r1 r2 r3)
end
end
section
open Go.RowKit
variable {n:Nat} {bs r:Wd}
def lL(n:Nat)(bs:Wd):Option (Wd×Wd):=if n<=bs.length then some (bs.take n,bs.drop n)else none
def rdNum:Wd->Option (Nat×Wd)
 |[]=>none
 |b::r=>some (b.toNat,r)
def j5(bs:Wd):Option (Wd×Wd):=(rdNum bs).bind λx=>lL x.1 x.2
def il:Wd->Option (Nat×Wd)
 |a::b::c::r=>some (a.toNat*65536+b.toNat*256+c.toNat,r)
 |_=>none
def mZ(ks:List Wd)(last bs:Wd):Option (Wd×Wd):=
 (j5 bs).bind λx=>if iL x.1=true/\ck last x.1=true/\x.1 ∉ ks then some x else none
def jV(O bs:Wd):Option (dp×Wd):=
 (j5 bs).bind λx=>if ep x.1=true/\x.1≠[]then(il x.2).bind λy=>if y.1<=1000000 then(rdNum y.2).bind λz=>some (⟨O,false,x.1,y.1,z.1⟩,z.2)else none else none
def ue:Nat->Wd->List Wd->Wd->Wd->Option (List dp×Wd)
 |0,_,_,_,bs=>some ([],bs)
 |n+1,path,ks,last,bs=>(mZ ks last bs).bind λx=>(jV x.1 x.2).bind λy=>if dE y.1=path then(ue n path (ks++[x.1]) x.1 y.2).bind λz=>some (y.1::z.1,z.2)else none
def uD(node:Wd->List Wd->Wd->Option (Nat×List dp×Wd)):Nat->Wd->List Wd->Int->Wd->Option (Nat×List dp×Wd)
 |0,_,_,_,bs=>some (0,[],bs)
 |n+1,path,ks,last,bs=>(j5 bs).bind λx=>if x.1≠[]/\last<((x.1.getD 0 0).toNat:Int)then
   (node (path++x.1) ks x.2).bind λy=>(uD node n path (ks++y.2.1.map dp.name) ((x.1.getD 0 0).toNat:Int) y.2.2).bind λz=>some (max y.1 z.1,y.2.1++z.2.1,z.2.2)else none
def rZ:Nat->Wd->List Wd->Wd->Option (Nat×List dp×Wd)
 |0,_,_,_=>none
 |f+1,path,ks,bs=>if path.length<=24 then
   (il bs).bind λa=>(rdNum a.2).bind λb=>(ue b.1 path ks [] b.2).bind λc=>(rdNum c.2).bind λd=>(uD (rZ f) d.1 path (ks++c.1.map dp.name) (-1) d.2).bind λe=>
    if(a.1:Int)=max (gI c.1) e.1/\(path=[]\/0<b.1\/1<d.1)then some (a.1,c.1++e.2.1,e.2.2)else none
  else none
def ur:Nat->List Wd->Wd->Wd->Option (List dp×Wd)
 |0,_,_,bs=>some ([],bs)
 |n+1,ks,last,bs=>(mZ ks last bs).bind λx=>(ur n (ks++[x.1]) x.1 x.2).bind λz=>some (⟨x.1,true,[],0,0⟩::z.1,z.2)
def Jw(bs:Wd):Option (List dp×List dp):=
 (rdNum bs).bind λa=>(ur a.1 [] [] a.2).bind λb=>(j5 b.2).bind λc=>if c.1=[]then(rZ 26 [] (b.1.map dp.name) c.2).bind λd=>
  if d.2.2=[]/\0<b.1.length+d.2.1.length/\a.1<=100/\d.2.1.length<=30 then some (b.1,d.2.1)else none else none
theorem Jj(b:UInt8):u8 (b.toNat:Int)=b:=by
 have h:=b.toNat_lt;unfold u8;rw[show((b.toNat:Int) % 256).toNat=b.toNat by omega];simp
theorem sJ(n:Nat)(h:n<256):(u8 (n:Int)).toNat=n:=by
 unfold u8;simp; omega
theorem gV(h:rdNum bs=some (n,r)):bs=u8 n::r/\n<256:=by
 cases bs with
 |nil=>simp[rdNum]at h
 |cons b t=>
  obtain⟨rfl,rfl⟩:=h;exact⟨by rw[Jj],b.toNat_lt⟩
theorem q8(n:Nat)(h:n<256)(r:Wd):rdNum (u8 n::r)=some (n,r):=by simp[rdNum,sJ n h]
theorem ik{t:Wd}(h:j5 bs=some (t,r)):bs=dK t++r/\t.length<256:=by
 unfold j5 at h
 cases O:rdNum bs with
 |none=>rw[O]at h; simp at h
 |some x=>
  obtain⟨n,b⟩:=x;obtain⟨rfl,U⟩:=gV O;rw[O]at h;simp only[bT,lL]at h;split at h
  .obtain⟨rfl,rfl⟩:=h;have W:(b.take n).length=n:=by simp; omega
   refine⟨?_,by omega⟩;unfold dK;rw[W,aY,aZ]
  .simp at h
theorem mF(t r:Wd)(h:t.length<256):j5 (dK t++r)=some (t,r):=by
 unfold j5 dK;rw[aY,q8 _ h];simp[lL]
theorem uF(n:Nat)(h:n<16777216):gX (n:Int)=[u8 ((n / 65536:Nat):Int),u8 ((n / 256 % 256:Nat):Int),u8 ((n % 256:Nat):Int)]:=by
 rfl
theorem jM(h:il bs=some (n,r)):bs=gX n++r/\n<16777216:=by
 match bs,h with
 |a::b::c::t,h=>
  obtain⟨rfl,rfl⟩:=h;have O:=a.toNat_lt;have hb:=b.toNat_lt;have U:=c.toNat_lt;refine⟨?_,by omega⟩;rw[uF _ (by omega)];rw[show(a.toNat*65536+b.toNat*256+c.toNat) / 65536=a.toNat by omega,show(a.toNat*65536+b.toNat*256+c.toNat) / 256 % 256=b.toNat by omega,show(a.toNat*65536+b.toNat*256+c.toNat) % 256=c.toNat by omega,Jj,Jj,Jj];rfl
 |[],h=>simp[il]at h
 |[_],h=>simp[il]at h
 |[_,_],h=>simp[il]at h
theorem q7(n:Nat)(h:n<16777216)(r:Wd):il (gX n++r)=some (n,r):=by
 rw[uF n h];simp only[aY,aU,il];rw[sJ _ (by omega),sJ _ (by omega),sJ _ (by omega)];congr 2;omega
theorem vm(l:List dp):∀g:Int,0<=g->l.foldl (λg e=>if g<e.dq then e.dq else g) g=max g (gI l)/\0<=gI l:=by
 induction l with
 |nil=>simp[gI]; omega
 |cons e l O=>
  intro g hg;have U:=O (if g<e.dq then e.dq else g) (by split<;>omega);have W:=O (if 0<e.dq then e.dq else 0) (by split<;>omega);have Y:gI (e::l)=l.foldl .. := rfl;rw[Y,aN,U.1,W.1];constructor
  .split<;>split<;>omega
  .split<;>omega
theorem mY(l:List dp):0<=gI l:=(vm l 0 (by omega)).2
theorem k6(e:dp)(l:List dp):gI (e::l)=max (max 0 e.dq) (gI l):=by
 have:=(vm l (if 0<e.dq then e.dq else 0) (by split<;>omega)).1;rw[show gI (e::l)=l.foldl .. from rfl,this];split<;>omega
theorem nM(l m:List dp):gI (l++m)=max (gI l) (gI m):=by
 induction l with
 |nil=>have:=mY m; simp only[aU]; rw[show gI []=0 from rfl]; omega
 |cons e l O=>rw[aY,k6,k6]; omega
theorem AB{l m:List dp}(h:l.Perm m):gI l=gI m:=by
 induction h with
 |nil=>rfl
 |cons e _ O=>rw[k6,k6,O]
 |swap a b l=>simp only[k6]; omega
 |trans _ _ U W=>rw[U,W]
def Ju(e:dp):Prop:=e.gone=false/\iL e.name=true/\ep e.text=true/\e.text≠[]/\0<=e.dq/\e.dq<=1000000/\0<=e.dB/\e.dB<=255
theorem nP{ks:List Wd}{last O:Wd}(h:mZ ks last bs=some (O,r)):bs=dK O++r/\iL O=true/\ck last O=true/\O ∉ ks:=by
 obtain⟨x,U,h⟩:=bU.1 h;split at h
 .rename_i W;simp only[cG]at h;subst h;exact⟨(ik U).1,W⟩
 .simp at h
end
section
open Go.RowKit
theorem bytes_eta(s:ByteArray):s=⟨s.data.toList.toArray⟩:=by simp
def jl(O:List dp)(ss:List (List dp))(name text:Wd)(dq dB:Int):Nat×List dp:=
 if iL name=true then
  if ep text=true/\text≠[]then
   if dq<0\/1000000<dq\/dB<0\/255<dB then(3,O)
   else if 30<=(eJ ss O).length/\nR (eJ ss O) name=none then(4,O)
   else(0,dH O [⟨name,false,text,dq,dB⟩])
  else(2,O)
 else(1,O)
end
section
open Go.RowKit
variable {l:List dp} {c:UInt8} {path:Wd}
def Part(f:Nat)(path:Wd)(x:UInt8×List dp):Wd:=dK ((mH x.2).drop path.length)++n9 f (mH x.2) (fi x.2)
def MB(O:List (UInt8×List dp)):Prop:=O.Pairwise λa b=>a.1.toNat<b.1.toNat
def Bp(path:Wd)(O:List (UInt8×List dp)):Prop:=∀x∈O,x.2≠[]/\∀e∈x.2,path++[x.1] <+: dE e
def mX(O:List (UInt8×List dp)):List dp:=O.flatMap λx=>x.2
theorem yC(h:∀e∈l,¬path++[c] <+: dE e):jH l path c=[]:=by
 unfold jH;rw[bv];intro e O hb;exact h e O ((nw ..).1 hb)
theorem Qd(h:∀e∈l,path++[c] <+: dE e):jH l path c=l:=by
 unfold jH;rw[b5];intro e O;exact(nw ..).2 (h e O)
theorem IG(l m:List dp)(path:Wd)(c:UInt8):jH (l++m) path c=jH l path c++jH m path c:=by unfold jH; rw[aD]
theorem qN{s:Wd}{d:UInt8}(O:path++[c] <+: s)(U:path++[d] <+: s):c=d:=by
 rw[<-((jR ..).1 O).2.2,((jR ..).1 U).2.2]
theorem Nt(path:Wd):∀(O:List (UInt8×List dp)),Bp path O->∀c,(∀x∈O,x.1≠c)->jH (mX O) path c=[]:=by
 intro O W c Y;refine yC λe he hp=>?_;obtain⟨x,U,hm⟩:=aP.1 he;exact Y x U (qN ((W x U).2 e hm) hp)
theorem OB(path:Wd):∀(O:List (UInt8×List dp)),MB O->Bp path O->∀x∈O,jH (mX O) path x.1=x.2:=by
 intro O
 induction O with
 |nil=>intro _ _ x U; simp at U
 |cons y O ih=>
  intro hH hU x U;have W:=a7.1 hH;have Y:Bp path O:=λz hz=>hU z (by simp[hz]);rw[show mX _=y.2++mX O from rfl,IG];simp only[az]at U;rcases U with rfl|U
  .rw[Qd (hU x (by simp)).2,Nt path O Y _ (λz hz e=>by have:=W.1 z hz; rw[e]at this; omega),bi]
  .rw[yC _,ih W.2 Y x U,aU];intro e he hp;have:=qN ((hU y (by simp)).2 e he) hp;have h2:=W.1 x U;rw[this]at h2; omega
theorem tu:lm.Pairwise λa b=>a.toNat<b.toNat:=by
 rw[aR];intro i j hi O U;rw[tv,tv];rw[BP]at hi O;simp;omega
theorem Bg(c:UInt8):c∈lm:=by
 exact a5.2 ⟨c.toNat,bo.2 c.toNat_lt,by simp⟩
theorem mE{cs:List UInt8}(h:cs.Pairwise λa b=>a.toNat<b.toNat):cs.Nodup:=h.imp (λh e=>by rw[e]at h; omega)
theorem CR(p:UInt8->Bool)(cs:List UInt8)(h:cs.Pairwise λa b=>a.toNat<b.toNat)(U:∀c,p c=true↔c∈cs):lm.filter p=cs:=by
 have O:=tu.filter p;refine db (le:=λa b=>a.toNat<b.toNat) (λa b _ _ O W=>by omega) O h ?_;rw[bn (mE O) (mE h)];intro c;rw[ay,<-U c];exact⟨λh=>h.2,λh=>⟨Bg c,h⟩⟩
theorem O1(h:∀e∈l,dE e≠path):kV l path=[]:=by
 unfold kV;rw[bv];intro e O hb;exact h e O (beq_iff_eq.1 hb)
theorem Pp(h:∀e∈l,dE e=path):kV l path=l:=by
 unfold kV;rw[b5];intro e O;exact beq_iff_eq.2 (h e O)
theorem Ns{O:List (UInt8×List dp)}(h:Bp path O):∀e∈mX O,dE e≠path:=by
 intro e U W;obtain⟨x,Y,hm⟩:=aP.1 U;have:=((jR ..).1 ((h x Y).2 e hm)).2.1;rw[W]at this; omega
theorem PF(h:∀e∈l,dE e=path)(c:UInt8):jH l path c=[]:=
 yC λe O U=>by have:=((jR ..).1 U).2.1; rw[h e O]at this; omega
theorem Iu(f:Nat)(path:Wd)(own:List dp)(O:List (UInt8×List dp))(h1:jz own)(h2:∀e∈own,dE e=path)(Y:MB O)(W:Bp path O) :
  n9 (f+1) path (fi (own++mX O))=gX (gI (own++mX O))++(u8 own.length::(own.flatMap nv++(u8 O.length::O.flatMap (Part f path)))):=by
 have e1:kV (fi (own++mX O)) path=own:=by
  rw[kV,p8,aD];have a:=Pp h2;have b:=O1 (Ns W);unfold kV at a b;rw[a,b,bi,C8 own h1]
 have e2:∀c,jH (fi (own++mX O)) path c=fi (jH (mX O) path c):=by
  intro c;unfold jH;rw[p8,aD];have a:=PF h2 c;unfold jH at a;rw[a,aU]
 have e3:jL (fi (own++mX O)) path=O.map (·.1):=by
  refine CR _ _ (b7.2 Y) (λc=>?_);rw[e2,a5];constructor
  .intro h;refine Classical.byContradiction λaa=>?_;rw[Nt path O W c (λx U e=>aa ⟨x,U,e⟩)]at h;simp[fi]at h
  .rintro⟨x,U,rfl⟩;rw[OB path O Y W x U];have:=(W x U).1;have hl:=KT x.2
   cases hq:fi _ with
   |nil=>rw[hq]at hl; cases h:x.2 with
    |nil=>exact absurd h this
    |cons a b=>rw[h]at hl; simp at hl
   |cons a b=>rfl
 rw[n9,e1,e3,AB (fR _),bP,bN];congr 4;refine pj λx U=>?_;rw[e2,OB path O Y W x U];unfold Part
 have:mH (fi _)=mH x.2:=Ii λs=>by
  rw[a5,a5];exact⟨λ⟨e,h,k⟩=>⟨e,mN.1 h,k⟩,λ⟨e,h,k⟩=>⟨e,mN.2 h,k⟩⟩
 rw[this]
def dS(l:List dp):Wd:=u8 ((fi l).filter λe=>e.gone).length::(((fi l).filter λe=>e.gone).flatMap (λe=>dK e.name)++(dK []++n9 26 [] ((fi l).filter λe=>!e.gone)))
def ON(e:dp):Prop:=Ju e\/(e=⟨e.name,true,[],0,0⟩/\iL e.name=true)
structure mT(l:List dp):Prop where
 each:∀e∈l,ON e
 nodup:(l.map dp.name).Nodup
 some:l≠[]
 gone:(l.filter λe=>e.gone).length<=100
 there:(l.filter λe=>!e.gone).length<=30
end
section
open Go.RowKit
variable {e:dp} {G:List dp} {c:UInt8} {s:Wd}
theorem gG(h:iL s=true):0<s.length/\s.length<=8:=by
 unfold iL at h;simp only[cl,decide_eq_true_eq]at h;exact⟨h.1.2,h.2⟩
theorem jC(h:ep s=true):s.length<=24:=by
 unfold ep at h;simp only[cl,decide_eq_true_eq]at h;exact h.1
theorem vg(h:iL s=true):ck [] s=true:=by
 have:=(gG h).1
 cases s with
 |nil=>simp at this
 |cons a s=>rfl
theorem tw(h:Ju e):(dE e).length<=24/\0<(dE e).length:=by
 have O:=jC h.2.2.1;have U:=h.2.2.2.1;unfold dE;rw[fY];refine⟨O,?_⟩
 cases W:e.text with
 |nil=>exact absurd W U
 |cons a b=>simp
theorem tT{ks:List Wd}{last O:Wd}(r:Wd)(U:iL O=true)(W:ck last O=true)(Y:O ∉ ks):mZ ks last (dK O++r)=some (O,r):=by
 unfold mZ;rw[mF O r (by have:=(gG U).2; omega)];simp[U,W,Y]
theorem En(e:dp)(h:Ju e)(r:Wd):jV e.name (dK e.text++(gX e.dq++(u8 e.dB::r)))=some (e,r):=by
 obtain⟨U,h2,O,W,Y,h6,h7,h8⟩:=h;obtain⟨nm,gn,tx,wt,tg⟩:=e;simp only at U h2 O W Y h6 h7 h8;subst U;obtain⟨n,rfl⟩:=cF Y;obtain⟨m,rfl⟩:=cF h7;have hw:n<=1000000:=by omega
 unfold jV;rw[mF tx _ (by have:=jC O; omega)];simp only[bT,O,W,ne_eq,not_false_eq_true,and_self,if_true];rw[q7 n (by omega)];simp only[bT,hw,if_true];rw[q8 m (by omega)];rfl
theorem F5(path:Wd):∀(es:List dp)(ks:List Wd)(last rest:Wd),(∀e∈es,Ju e/\dE e=path/\e.name ∉ ks/\ck last e.name=true)->jz es->ue es.length path ks last (es.flatMap nv++rest)=some (es,rest):=by
 intro es
 induction es with
 |nil=>intro ks last rest _ _; rfl
 |cons e es W=>
  intro ks last rest h Y;obtain⟨a1,a2,a3,a4⟩:=h e (by simp);have O:=a7.1 Y
  have e1:(e::es).flatMap nv++rest=dK e.name++(dK e.text++(gX e.dq++(u8 e.dB::(es.flatMap nv++rest)))):=by
   simp[nv]
  rw[e1,aB,ue,tT _ a1.2.1 a4 a3];simp only[bT];rw[En e a1];simp only[bT,a2,if_true];rw[W _ _ _ (λx U=>?_) O.2]
  .rfl
  .obtain⟨b1,b2,b3,b4⟩:=h x (by simp[U]);refine⟨b1,b2,?_,O.1 x U⟩;intro hm;simp only[a8,aC]at hm;rcases hm with hm|hm
   .exact b3 hm
   .exact BH (O.1 x U) hm.symm
theorem ER:∀(es:List dp)(ks:List Wd)(last rest:Wd),(∀e∈es,e=⟨e.name,true,[],0,0⟩/\iL e.name=true/\e.name ∉ ks/\ck last e.name=true)->jz es->ur es.length ks last (es.flatMap (λe=>dK e.name)++rest)=some (es,rest):=by
 intro es
 induction es with
 |nil=>intro ks last rest _ _; rfl
 |cons e es W=>
  intro ks last rest h Y;obtain⟨a1,a2,a3,a4⟩:=h e (by simp);have O:=a7.1 Y;rw[aE,aI,aB,ur,tT _ a2 a4 a3];simp only[bT];rw[W _ _ _ (λx U=>?_) O.2]
  .simp only[bT];rw[<-a1]
  .obtain⟨b1,b2,b3,b4⟩:=h x (by simp[U]);refine⟨b1,b2,?_,O.1 x U⟩;intro hm;simp only[a8,aC]at hm;rcases hm with hm|hm
   .exact b3 hm
   .exact BH (O.1 x U) hm.symm
theorem Km(h:(G.map dp.name).Nodup):G.Nodup:=cU _ (λa b O e=>O (by rw[e])) h
theorem iT{p:Wd}:e∈jH G p c↔e∈G/\p++[c] <+: dE e:=J7
theorem pT(G:List dp)(p:Wd):(jL G p).Pairwise λa b=>a.toNat<b.toNat:=tu.filter _
theorem uo{p:Wd}:c∈jL G p↔∃e∈G,p++[c] <+: dE e:=by
 unfold jL;rw[ay];constructor
 .rintro⟨_,h⟩
  cases O:jH G p c with
  |nil=>rw[O]at h; simp at h
  |cons e t=>
   have:=iT.1 (show e∈jH G p c by rw[O]; simp);exact⟨e,this⟩
 .rintro⟨e,U,W⟩;refine⟨Bg c,?_⟩;have:=iT.2 ⟨U,W⟩
  cases O:jH G p c with
  |nil=>rw[O]at this; simp at this
  |cons e t=>rfl
theorem GF{p:Wd}(h:G.Nodup):∀(cs:List UInt8),cs.Nodup->(cs.flatMap (jH G p)).Nodup:=by
 intro cs
 induction cs with
 |nil=>simp
 |cons c cs U=>
  intro W;have O:=aT.1 W;rw[aE,ba];refine⟨h.filter _,U O.2,λa Y b hb e=>?_⟩;subst e;obtain⟨d,hd,hb⟩:=aP.1 hb;have:=qN (iT.1 Y).2 (iT.1 hb).2;subst this;exact O.1 hd
theorem IC{p:Wd}(h:G.Nodup)(U:∀e∈G,p <+: dE e):(kV G p++(jL G p).flatMap (jH G p)).Perm G:=by
 rw[bn _ h]
 .intro e;rw[a8];constructor
  .rintro(h|h)
   .exact(ay.1 h).1
   .obtain⟨c,_,h⟩:=aP.1 h;exact(iT.1 h).1
  .intro O;by_cases W:dE e=p
   .exact Or.inl (ay.2 ⟨O,beq_iff_eq.2 W⟩)
   .have:=(jR ..).2 ⟨U e O,yq (U e O) W,rfl⟩;exact Or.inr (aP.2 ⟨_,uo.2 ⟨e,O,this⟩,iT.2 ⟨O,this⟩⟩)
 .rw[ba];refine⟨h.filter _,GF h _ (mE (pT G p)),λa Y b hb e=>?_⟩;subst e;obtain⟨c,_,hb⟩:=aP.1 hb;have h1:=beq_iff_eq.1 (ay.1 Y).2;have h2:=((jR ..).1 (iT.1 hb).2).2.1;rw[h1]at h2; omega
theorem yp(h:(G.map dp.name).Nodup){a b:dp}(O:a∈G)(hb:b∈G)(U:a.name=b.name):a=b:=by
 induction G with
 |nil=>simp at O
 |cons x G W=>
  rw[a9,aT]at h;simp only[az]at O hb;rcases O with rfl|O<;>rcases hb with rfl|hb
  .rfl
  .exact absurd (a5.2 ⟨b,hb,U.symm⟩) h.1
  .exact absurd (a5.2 ⟨a,O,U⟩) h.1
  .exact W h.2 O hb
theorem IP{l:List dp}(h:∀e∈l,e.dq<=1000000):gI l<=1000000:=by
 induction l with
 |nil=>simp[gI]
 |cons e l O=>
  have W:=h e (by simp);have Y:=O (λx U=>h x (by simp[U]));rw[k6]; omega
def Q6(node:Wd->List Wd->Wd->Option (Nat×List dp×Wd))(f:Nat):Prop:=
 ∀(path:Wd)(ks:List Wd)(G:List dp)(rest:Wd),jz G->(∀e∈G,Ju e/\path <+: dE e/\e.name ∉ ks)->G.length<=255->(path=[]\/(G≠[]/\mH G=path))->26<=f+path.length->
  ∃es,node path ks (n9 f path G++rest)=some ((gI G).toNat,es,rest)/\es.Perm G
theorem Eo{node:Wd->List Wd->Wd->Option (Nat×List dp×Wd)}{f:Nat}(hN:Q6 node f)(path:Wd)(G:List dp)(hG:jz G)(ag:∀e∈G,Ju e)(hl:G.length<=255)(hf:25<=f+path.length) :
  ∀(cs:List UInt8)(ks:List Wd)(last:Int)(rest:Wd),(cs.Pairwise λa b=>a.toNat<b.toNat)->(∀c∈cs,c∈jL G path/\last<(c.toNat:Int))->(∀e∈cs.flatMap (jH G path),e.name ∉ ks)->
   ∃es,uD node cs.length path ks last (cs.flatMap (λc=>dK ((mH (jH G path c)).drop path.length)++n9 f (mH (jH G path c)) (jH G path c))++rest)=some ((gI (cs.flatMap (jH G path))).toNat,es,rest)/\es.Perm (cs.flatMap (jH G path)):=by
 intro cs
 induction cs with
 |nil=>intro ks last rest _ _ _; exact⟨[],rfl,dc _⟩
 |cons c cs ih=>
  intro ks last rest hr hc hk;have aa:=a7.1 hr;obtain⟨ah,ai⟩:=hc c (by simp);have U:=ud ah;rw[<-uH]at U;have Y:=O5 (l:=G) (p:=path++[c]) (by rw[<-uH]; exact U);rw[<-uH]at Y;have aj:=pV U;have ak:jz (jH G path c):=hG.filter _;have ab:∀e∈jH G path c,Ju e/\mH (jH G path c) <+: dE e/\e.name ∉ ks:=λe O=>⟨ag e (iT.1 O).1,aj.1 _ (a5.2 ⟨e,O,rfl⟩),hk e (by rw[aE]; exact bH _ O)⟩;have al:(jH G path c).length<=255:=bZ (aF _ _) hl;obtain⟨t,ht⟩:=Y;obtain⟨e0,ad⟩:=aS _ U;have ap:(mH (jH G path c)).length<=24:=bZ (ab e0 ad).2.1.length_le (tw (ab e0 ad).1).1
  have ae:∀e∈cs.flatMap (jH G path),e.name ∉ (jH G path c).map dp.name:=by
   intro e O hm;obtain⟨d,hd,O⟩:=aP.1 O;obtain⟨x,hx,am⟩:=a5.1 hm;have:=yp hG.nodup (iT.1 hx).1 (iT.1 O).1 am;subst this;have:=qN (iT.1 hx).2 (iT.1 O).2;have h3:=aa.1 d hd;rw[this]at h3; omega
  have an:∀e∈cs.flatMap (jH G path),e.name ∉ ks:=λe O=>hk e (by rw[aE]; exact List.mem_append_right _ O);have ac:(mH (jH G path c)).drop path.length=c::t:=by rw[<-ht]; simp
  have W:path++c::t=mH (jH G path c):=by rw[<-ht]; simp
  have aq:path.length+1<=(mH (jH G path c)).length:=by rw[<-W]; simp
  obtain⟨e1,h1,af⟩:=hN _ ks _ _ ak ab al (Or.inr ⟨U,rfl⟩) (by omega)
  obtain⟨e2,h2,ao⟩:=ih _ c.toNat rest aa.2 (λd hd=>⟨(hc d (by simp[hd])).1,by have:=aa.1 d hd; omega⟩) (λe O hm=>by
   rw[a8]at hm;rcases hm with hm|hm
   .exact an e O hm
   .exact ae e O ((af.map _).mem_iff.1 hm))
  refine⟨e1++e2,?_,?_⟩
  .rw[aE,aE,aB,uD,ac,aI,aI,mF _ _ (by have:=congrArg bR W; simp at this; simp; omega)];simp only[bT,List.getD_cons_zero,ne_eq,reduceCtorEq,not_false_eq_true,ai,and_self,if_true,W];rw[h1];simp only[bT];rw[h2];simp only[bT,cG,Prod.mk.injEq,and_true];rw[nM];omega
  .exact af.append ao
theorem DJ:∀f:Nat,Q6 (rZ f) f:=by
 intro f
 induction f with
 |zero=>
  intro path ks G rest hr hm hl hp hf;rcases hp with rfl|⟨U,hs⟩
  .simp at hf
  .obtain⟨e,O⟩:=aS _ U;have:=(hm e O).2.1.length_le;have:=(tw (hm e O).1).1;omega
 |succ f ih=>
  intro path ks G rest hr hm hl hp hf
  have ai:path.length<=24:=by
   rcases hp with rfl|⟨U,hs⟩
   .simp
   .obtain⟨e,O⟩:=aS _ U;exact bZ (hm e O).2.1.length_le (tw (hm e O).1).1
  have eA:=IC (Km hr.nodup) (λe O=>(hm e O).2.1);have ac:=eA.length_eq;rw[a0]at ac
  have ad:∀e∈kV G path,Ju e/\dE e=path/\e.name ∉ ks/\ck [] e.name=true:=λe O=>by
   have h:=ay.1 O;exact⟨(hm e h.1).1,beq_iff_eq.1 h.2,(hm e h.1).2.2,vg (hm e h.1).1.2.1⟩
  have ao:gI G<=1000000:=IP (λe O=>(hm e O).1.2.2.2.2.2.1);have ap:=mY G
  have aq:(jL G path).length<=((jL G path).flatMap (jH G path)).length:=by
   rw[List.length_flatMap]
   have:∀cs:List UInt8,(∀c∈cs,c∈jL G path)->cs.length<=(cs.map λc=>(jH G path c).length).sum:=by
    intro cs
    induction cs with
    |nil=>intro _; simp
    |cons c cs aj=>
     intro h;have h1:=aj (λd hd=>h d (by simp[hd]));have h2:=ud (h c (by simp));rw[<-uH]at h2;have h3:=b0.2 h2;simp only[aB,a9,aO]; omega
   exact this _ (λ_ h=>h)
  obtain⟨es,hk,ak⟩:=Eo ih path G hr (λe O=>(hm e O).1) hl (by omega) (jL G path) (ks++(kV G path).map dp.name) (-1) rest (pT G path) (λc hc=>⟨hc,by omega⟩) (λe O W=>by
   obtain⟨c,hc,O⟩:=aP.1 O;have aa:=iT.1 O;rw[a8]at W;rcases W with W|W
   .exact(hm e aa.1).2.2 W
   .obtain⟨x,Y,al⟩:=a5.1 W;have ae:=ay.1 Y;have:=yp hr.nodup ae.1 aa.1 al;subst this;have h1:=beq_iff_eq.1 ae.2;have h2:=((jR _ _ _).1 aa.2).2.1
    rw[h1]at h2; omega)
  refine⟨kV G path++es,?_,(da _ ak).trans eA⟩;have hG:((gI G).toNat:Int)=gI G:=by omega
  have e1:n9 (f+1) path G++rest=gX (((gI G).toNat:Nat):Int)++(u8 ((kV G path).length:Int)::((kV G path).flatMap nv++(u8 ((jL G path).length:Int)::((jL G path).flatMap (λc=>dK ((mH (jH G path c)).drop path.length)++n9 f (mH (jH G path c)) (jH G path c))++rest)))):=by
   rw[hG,n9]; simp
  have an:gI G=max (gI (kV G path)) (gI ((jL G path).flatMap (jH G path))):=by rw[<-nM,AB eA]
  have ar:=mY (kV G path);have au:=mY ((jL G path).flatMap (jH G path))
  have af:path=[]\/0<(kV G path).length\/1<(jL G path).length:=by
   rcases hp with h|⟨U,hs⟩
   .exact Or.inl h
   .refine Or.inr (Classical.byContradiction λag=>?_);have ho:kV G path=[]:=aX.1 (by omega);have ah:=pV U;rw[hs]at ah;obtain⟨e,O⟩:=aS _ U
    have am:∀x∈G,dE x≠path:=λx Y hk=>by
     have:x∈kV G path:=ay.2 ⟨Y,beq_iff_eq.2 hk⟩;rw[ho]at this; simp at this
    have hb:∀x∈G,path++[(dE x).getD path.length 0] <+: dE x:=λx Y=>(jR _ _ _).2 ⟨(hm x Y).2.1,yq (hm x Y).2.1 (am x Y),rfl⟩
    have ab:∀x∈G,(dE x).getD path.length 0=(dE e).getD path.length 0:=by
     intro x Y;have i1:=uo.2 ⟨x,Y,hb x Y⟩;have i2:=uo.2 ⟨e,O,hb e O⟩
     match hh:jL G path with
     |[]=>rw[hh]at i1; simp at i1
     |[d]=>rw[hh]at i1 i2; simp only[aC]at i1 i2; rw[i1,i2]
     |d::d2::ds=>rw[hh]at ag; simp at ag
    have:=ah.2 (path++[(dE e).getD _ 0]) (λs hs=>by
     obtain⟨x,Y,rfl⟩:=a5.1 hs
     rw[<-ab x Y]; exact hb x Y)
    have:=this.length_le;simp at this;omega
  rw[e1,rZ,if_pos ai,q7 _ (by omega)];simp only[bT];rw[q8 _ (by omega)];simp only[bT];rw[F5 path _ ks [] _ ad (hr.filter _)];simp only[bT];rw[q8 _ (by omega)];simp only[bT];rw[hk];simp only[bT];rw[if_pos ⟨by omega,af⟩]
theorem yL{l:List dp}(h:mT l):∃gs es,Jw (dS l)=some (gs,es)/\(gs++es).Perm l:=by
 obtain⟨h1,h2,h3,h4,h5⟩:=h;have hR:=mJ l h2;have hp:=fR l;have aa:=hp.filter (λe=>e.gone);have ab:=hp.filter (λe=>!e.gone);have O:((fi l).filter (λe=>e.gone)++(fi l).filter _).Perm l:=(List.filter_append_perm ..).trans hp;have ai:=aa.length_eq;have aj:=ab.length_eq;have ac:jz ((fi l).filter λe=>e.gone):=hR.filter _;have ad:jz ((fi l).filter λe=>!e.gone):=hR.filter _
 have ae:∀e∈(fi l).filter (λe=>e.gone),e=⟨e.name,true,[],0,0⟩/\iL _=true/\e.name ∉ ([])/\ck [] _=true:=λe he=>by
  have hm:=ay.1 he;rcases h1 e (mN.1 hm.1)with U|U
  .rw[U.1]at hm; simp at hm
  .exact⟨U.1,U.2,by simp,vg U.2⟩
 have af:∀e∈(fi l).filter (λe=>!e.gone),Ju e/\([]) <+: dE e/\e.name ∉ ((fi l).filter λe=>e.gone).map _:=λe he=>by
  have hm:=ay.1 he;rcases h1 e (mN.1 hm.1)with U|U
  .refine⟨U,aL,λhx=>?_⟩;obtain⟨x,hx,hn⟩:=a5.1 hx;have W:=ay.1 hx;have:=yp hR.nodup W.1 hm.1 hn;subst this;have a:=W.2;have b:=hm.2;simp[a]at b
  .rw[U.1]at hm; simp at hm
 unfold dS;generalize (fi l).filter _=gs at *;generalize (fi l).filter _=es at *;obtain⟨ag,hn,Y⟩:=DJ 26 [] _ es [] ad af (by omega) (Or.inl rfl) (by simp);refine⟨gs,ag,?_,(da _ Y).trans O⟩;have ak:=Y.length_eq;have ah:=O.length_eq;rw[a0]at ah;have al:=b0.2 h3;rw[bi]at hn;unfold Jw;rw[q8 _ (by omega)];simp only[bT];rw[ER gs [] [] _ ae ac];simp only[bT];rw[mF [] _ (by simp)];simp only[bT,if_true];rw[hn];simp only[bT];rw[if_pos ⟨trivial,by omega,by omega,by omega⟩]
end
section
open Go.RowKit
variable {l:List dp} {x:Wd}
theorem uC(h:nR l x=none):x ∉ l.map dp.name:=by
 unfold nR at h;rw[bE]at h;intro hm;obtain⟨e,O,U⟩:=a5.1 hm;have:=h e O;rw[U]at this;simp at this
theorem pF(h:x ∉ l.map dp.name):nR l x=none:=by
 unfold nR;rw[bE];intro e O;rw[beq_eq_false_iff_ne];intro U;exact h (a5.2 ⟨e,O,U⟩)
end
section
open Go.RowKit
def kC(O:List dp)(ss:List (List dp))(name:Wd):Nat×List dp:=
 if iL name=true then
  if nR (eJ ss O) name=none then(5,O)
  else if 100<=O.length-(dw O).length then(4,O)
  else(0,dH O [⟨name,true,[],0,0⟩])
 else(1,O)
end
section
open Go.RowKit
def eY(O:List dp)(ss:List (List dp)):List dp:=if ss.length=0 then dw O else O
def eV(O:List dp)(ss:List (List dp)):Nat×List dp×List (List dp):=
 if O.length=0 then(5,O,ss)else if 6<=ss.length then(4,O,ss)
 else(0,[],if 0<(eY O ss).length then ss++[eY O ss]else ss)
end
section
open Go.RowKit
variable {ss:List (List dp)} {vs:List Value} {E:Value->List dp->Prop}
def Zip(E:Value->List dp->Prop)(vs:List Value)(ss:List (List dp)):Prop:=vs.length=ss.length/\∀i(h:i<ss.length),∃u,vs[i]?=some u/\E u ss[i]
theorem Zip.nil(E:Value->List dp->Prop):Zip E [] []:=⟨rfl,nofun⟩
theorem Zip.one{u:Value}{l:List dp}(h:E u l):Zip E [u] [l]:=⟨rfl,λi hi=>by
 have:=by simp at hi; omega
 subst this
 exact⟨u,rfl,h⟩⟩
theorem Zip.append{vt:List Value}{st:List (List dp)}(U:Zip E vs ss)(h2:Zip E vt st):Zip E (vs++vt) (ss++st):=by
 refine⟨by rw[a0,a0,U.1,h2.1],λi hi=>?_⟩;by_cases O:i<ss.length
 .obtain⟨u,W,Y⟩:=U.2 i O;exact⟨u,by rw[bD (by rw[U.1]; exact O)]; exact W,by rw[List.getElem_append_left O]; exact Y⟩
 .have Pq:i-ss.length<st.length:=by rw[a0]at hi; omega
  obtain⟨u,W,Y⟩:=h2.2 _ Pq;refine⟨u,?_,?_⟩
  .rw[List.getElem?_append_right (by rw[U.1]; omega),U.1]; exact W
  .rw[List.getElem_append_right (by omega)]; exact Y
theorem Zip.mono{E':Value->List dp->Prop}(h:Zip E vs ss)(O:∀u l,E u l->E' u l):Zip E' vs ss:=⟨h.1,λi hi=>by
 obtain⟨u,U,W⟩:=h.2 i hi
 exact⟨u,U,O u _ W⟩⟩
def iy(ss:List (List dp))(n:Nat):List dp:=if n=0 then dw (dH (ss.getD n []) (ss.getD (n+1) []))else dH (ss.getD n []) (ss.getD (n+1) [])
def eP(ss:List (List dp))(n:Int):Nat×List (List dp):=
 if n<0\/(ss.length:Int)-1<=n then(6,ss)
 else if 100<(iy ss n.toNat).length-(dw (iy ss n.toNat)).length then(4,ss)
 else(0,ss.take n.toNat++((if 0<(iy ss n.toNat).length then [iy ss n.toNat]else [])++ss.drop (n.toNat+2)))
end
section
open Go.RowKit
def Dr(a b:dp):Prop:=ck (dE a) (dE b)=true\/(dE a=dE b/\ck a.name b.name=true)
def gq(l:List dp):Prop:=l.Pairwise Dr
def eW(d:Nat)(e:dp):UInt8:=(dE e).getD d 0
def iJ(L:List dp)(d:Nat):Nat:=(L.takeWhile λe=>(dE e).length==d).length
def runs(d:Nat):List dp->List (List dp)
 |[]=>[]
 |e::l=>match runs d l with
  |[]=>[[e]]
  |[]::gs=>[e]::gs
  |(x::g)::gs=>if eW d e=eW d x then(e::x::g)::gs else [e]::(x::g)::gs
def ig(C:List dp):Wd:=match C with
 |[]=>[]
 |e::C=>rX (dE e) (dE ((e::C).getLast (by simp)))
def gU:Nat->Nat->List dp->Wd
 |0,_,_=>[]
 |f+1,d,L=>gX (gI L)++(u8 (iJ L d)::((L.take (iJ L d)).flatMap nv++(u8 (runs d (L.drop (iJ L d))).length::(runs d (L.drop (iJ L d))).flatMap λC=>dK ((ig C).drop d)++gU f (ig C).length C)))
theorem BQ{a b:dp}(h:Dr a b):ck (dE b) (dE a)=false:=by
 rcases h with h|h
 .exact pM h
 .rw[h.1]; exact gZ _
theorem JH:∀(r a b c:Wd),r <+: a->r <+: c->ck b a=false->ck c b=false->r <+: b
 |[],_,_,_,_,_,_,_=>aL
 |x::r,[],_,_,h,_,_,_=>by simp at h
 |x::r,_::_,_,[],_,h,_,_=>by simp at h
 |x::r,y::a,[],z::c,_,_,O,_=>by simp[ck]at O
 |x::r,y::a,w::b,z::c,h1,h2,O,U=>by
  have g1:=aG.1 h1
  have g2:=aG.1 h2;simp only[ck,cp,cu,decide_eq_false_iff_not,beq_iff_eq]at O U;obtain⟨W,Y⟩:=g1;obtain⟨aa,ab⟩:=g2;subst W;subst aa
  have e:w=x:=by
   have a1:=O.1;have a2:=U.1;apply cJ.1;simp only[cH]at a1 a2;omega
  subst e;exact aG.2 ⟨rfl,JH r a b c Y ab (O.2 rfl) (U.2 rfl)⟩
theorem O4:∀(C:List dp),C≠[]->gq C->mH C=ig C:=by
 intro C W Y
 cases C with
 |nil=>exact absurd rfl W
 |cons e C=>
  refine Pa (by simp) ⟨λs h=>?_,λr U=>?_⟩
  .obtain⟨x,O,rfl⟩:=a5.1 h;have hl:=rk (dE e) (dE ((e::C).getLast (by simp)));have U:=pG (dE e) (dE ((e::C).getLast (by simp)))
   have ha:x=e\/Dr e x:=by
    simp only[az]at O;rcases O with rfl|O
    .exact Or.inl rfl
    .exact Or.inr ((a7.1 Y).1 x O)
   have hb:x=(e::C).getLast (by simp)\/Dr x ((e::C).getLast (by simp)):=by
    obtain⟨i,hi,rfl⟩:=List.mem_iff_getElem.1 O;rw[List.getLast_eq_getElem];by_cases h:i=(e::C).length-1
    .simp[h]
    .right;exact aR.1 Y i _ hi _ (by omega)
   have h1:ck (dE x) (dE e)=false:=by
    rcases ha with rfl|h
    .exact gZ _
    .exact BQ h
   have h2:ck (dE ((e::C).getLast (by simp))) (dE x)=false:=by
    rcases hb with h|h
    .rw[<-h]; exact gZ _
    .exact BQ h
   exact JH _ _ _ _ hl U h1 h2
  .exact qZ _ _ _ (U _ (a5.2 ⟨e,by simp,rfl⟩)) (U _ (a5.2 ⟨_,List.getLast_mem _,rfl⟩))
theorem MW{p s:Wd}(h:p <+: s)(U:s≠p):ck p s=true:=by
 rcases im p s with O|O|O
 .exact O
 .exact absurd O.symm U
 .exfalso;obtain⟨t,rfl⟩:=h;clear U
  induction p with
  |nil=>cases t<;>simp[ck]at O
  |cons a p W=>
   simp only[aY,ck,cn,decide_eq_true_eq,cl,beq_self_eq_true,true_and]at O;rcases O with O|O
   .simp at O
   .exact W O
theorem P2{p a b:Wd}(W:p <+: a)(hb:p <+: b)(O:p.length<a.length)(U:p.length<b.length)(h:ck b a=false):(a.getD p.length 0).toNat<=(b.getD p.length 0).toNat:=by
 obtain⟨s,rfl⟩:=W;obtain⟨t,rfl⟩:=hb
 induction p with
 |nil=>
  cases s with
  |nil=>simp at O
  |cons x s=>
   cases t with
   |nil=>simp at U
   |cons y t=>
    simp only[aU,ck,cp,decide_eq_false_iff_not,cH]at h;simp;omega
 |cons x p Y=>
  simp only[aY,ck,cp,cu,decide_eq_false_iff_not,beq_self_eq_true,true_implies]at h;have:=Y (by simpa using O) (by simpa using U) h.2;simpa using this
theorem zq{p:Wd}{L:List dp}(hL:gq L)(W:∀e∈L,p <+: dE e):(∀e∈L.take (iJ L p.length),dE e=p)/\∀e∈L.drop (iJ L p.length),dE e≠p:=by
 have e1:L.take (iJ L p.length)=L.takeWhile λe=>(dE e).length==p.length:=by
  unfold iJ;conv=>lhs; arg 2; rw[<-aV (p:=λe=>(dE e).length==p.length) (l:=L)]
  rw[List.take_left]
 have e2:L.drop (iJ L p.length)=L.dropWhile λe=>(dE e).length==p.length:=by
  unfold iJ;conv=>lhs; arg 2; rw[<-aV (p:=λe=>(dE e).length==p.length) (l:=L)]
  rw[List.drop_left]
 rw[e1,e2];refine⟨λe O=>?_,λe O Y=>?_⟩
 .have h1:=NP L e O;have h2:=W e ((bu _).mem O);exact(h2.eq_of_length (by simpa using(beq_iff_eq.1 h1).symm)).symm
 .have hs:gq (L.dropWhile λe=>(dE e).length==p.length):=cT (bw _) hL;have hm:∀e∈L.dropWhile (λe=>(dE e).length==p.length),p <+: dE e:=λe O=>W e ((bw _).mem O);have hd:=Jx (p:=λe=>(dE e).length==p.length) L;generalize L.dropWhile _=B at *
  cases B with
  |nil=>simp at O
  |cons b B=>
   have hb:=hd b B rfl;have U:dE b≠p:=λh=>by rw[h]at hb; simp at hb
   simp only[az]at O;rcases O with rfl|O
   .exact U Y
   .have:=BQ ((a7.1 hs).1 e O);rw[Y,MW (hm b (by simp)) U]at this;cases this
theorem xN(p:Wd):∀(L:List dp),gq L->(∀e∈L,p <+: dE e/\dE e≠p)->∃W:List (UInt8×List dp),runs p.length L=W.map (·.2)/\MB W/\Bp p W/\mX W=L/\(∀x∈W,gq x.2)/\∀x∈W,∃e g,x.2=e::g/\x.1=eW p.length e:=by
 intro L
 induction L with
 |nil=>intro _ _; exact⟨[],rfl,List.Pairwise.nil,λ_ h=>by simp at h,rfl,λ_ h=>by simp at h,λ_ h=>by simp at h⟩
 |cons e L ih=>
  intro hL hp;have aa:=a7.1 hL;obtain⟨W,h1,h2,h3,h4,h5,h6⟩:=ih aa.2 (λx U=>hp x (by simp[U]));have ab:p++[eW p.length e] <+: dE e:=(jR _ _ _).2 ⟨(hp e (by simp)).1,yq (hp e (by simp)).1 (hp e (by simp)).2,rfl⟩
  cases W with
  |nil=>
   refine⟨[(eW p.length e,[e])],?_,br _ _,?_,?_,?_,?_⟩
   .rw[runs,h1]; rfl
   .intro x U; simp at U; subst U;exact⟨by simp,λy Y=>by simp at Y; subst Y; exact ab⟩
   .simp only[mX,List.flatMap_nil]at h4; rw[<-h4]; rfl
   .intro x U; simp at U; subst U; exact br _ _
   .intro x U; simp at U; subst U; exact⟨e,[],rfl,rfl⟩
  |cons y W=>
   obtain⟨x,g,Y,ac⟩:=h6 y (by simp);obtain⟨yc,yg⟩:=y;simp only at Y ac;subst Y;subst ac;have ad:runs p.length L=(x::g)::W.map (·.2):=h1;by_cases hb:eW p.length e=eW p.length x
   .refine⟨(eW p.length e,e::x::g)::W,?_,?_,?_,?_,?_,?_⟩
    .rw[runs,ad]; simp[hb]
    .have:=a7.1 h2;exact a7.2 ⟨λz O=>by have:=this.1 z O; rw[hb]; exact this,this.2⟩
    .intro z O;simp only[az]at O;rcases O with rfl|O
     .refine⟨by simp,λw hw=>?_⟩;rcases az.1 hw with rfl|hw
      .exact ab
      .show p++[eW p.length e] <+: dE w;rw[hb]; exact(h3 (eW _ x,x::g) (by simp)).2 w hw
     .exact h3 z (by simp[O])
    .rw[<-h4]; rfl
    .intro z O;simp only[az]at O;rcases O with rfl|O
     .refine a7.2 ⟨λw hw=>aa.1 w ?_,h5 (eW p.length x,x::g) (by simp)⟩;rw[<-h4]; exact bH _ hw
     .exact h5 z (by simp[O])
    .intro z O;simp only[az]at O;rcases O with rfl|O
     .exact⟨e,x::g,rfl,rfl⟩
     .exact h6 z (by simp[O])
   .refine⟨(eW p.length e,[e])::(eW p.length x,x::g)::W,?_,?_,?_,?_,?_,?_⟩
    .rw[runs,ad]; simp[hb]
    .have U:x∈L:=by rw[<-h4]; simp[mX]
     have ae:(eW p.length e).toNat<(eW p.length x).toNat:=by
      have a1:=hp e (by simp);have a2:=hp x (by simp[U]);have:=P2 a1.1 a2.1 (yq a1.1 a1.2) (yq a2.1 a2.2) (BQ (aa.1 x U));have af:(eW _ e).toNat≠(eW _ x).toNat:=λh=>hb (cJ.1 h);unfold eW at *;omega
     refine a7.2 ⟨λz O=>?_,h2⟩;simp only[az]at O;rcases O with rfl|O
     .exact ae
     .have:=(a7.1 h2).1 z O;exact Nat.lt_trans ae this
    .intro z O;rw[az]at O;rcases O with rfl|O
     .exact⟨by simp,λy Y=>by simp at Y; subst Y; exact ab⟩
     .exact h3 z O
    .rw[<-h4]; rfl
    .intro z O;rw[az]at O;rcases O with rfl|O
     .exact br ..
     .exact h5 z O
    .intro z O;rw[az]at O;rcases O with rfl|O
     .exact⟨e,[],rfl,rfl⟩
     .exact h6 z O
theorem E7{p:Wd}{l:List dp}(h:gq l)(O:∀e∈l,dE e=p):jz l:=by
 refine cV (fun {a b} ha hb h=>?_) h;rcases h with h|h
 .rw[O a ha,O b hb,gZ]at h; cases h
 .exact h.2
theorem PX:∀(f:Nat)(p:Wd)(L:List dp),gq L->(∀e∈L,p <+: dE e)->gU f p.length L=n9 f p (fi L):=by
 intro f
 induction f with
 |zero=>intro p L _ _; rfl
 |succ f ih=>
  intro p L hL hp;obtain⟨h1,h2⟩:=zq hL hp;have aa:gq (L.drop (iJ L p.length)):=cT (List.drop_sublist ..) hL;have ab:gq (L.take (iJ L p.length)):=cT (List.take_sublist ..) hL;obtain⟨hs,r1,r2,r3,r4,r5,r6⟩:=xN p _ aa (λe he=>⟨hp e (bx he),h2 e he⟩);have O:L.take (iJ L p.length)++mX hs=L:=by rw[r4,aZ]
  have hb:=Iu f p _ hs (E7 ab h1) h1 r2 r3;rw[O]at hb
  have U:(L.take (iJ L p.length)).length=iJ L p.length:=by
   have:iJ L p.length<=L.length:=(bu _).length_le;simp; omega
  rw[hb,gU,r1,bP,U,bN];congr 4;refine pj λx hx=>?_;have W:=(r3 x hx).1;have Y:=O4 _ W (r5 x hx);unfold Part;rw[Y,ih _ _ (r5 x hx) (λe he=>?_)];rw[<-Y];exact(pV W).1 _ (a5.2 ⟨e,he,rfl⟩)
end
section
open Go.RowKit
variable {e:dp} {a b l:List dp} {x:Wd}
def names(l:List dp):List Wd:=l.map dp.name
theorem ia:jf l e=true↔e.name ∉ names l:=by
 unfold jf names;constructor
 .intro h;refine uC ?_
  cases O:nR l _ with
  |none=>rfl
  |some i=>rw[O]at h; simp at h
 .intro h;rw[pF h]; rfl
theorem kJ:e∈dH a b↔(e∈a/\e.name ∉ names b)\/e∈b:=by
 unfold dH;rw[a8,ay,ia]
theorem oN:x∈names l↔∃e∈l,e.name=x:=by unfold names; rw[a5]
theorem G6:x∈names (dH a b)↔x∈names a\/x∈names b:=by
 rw[oN,oN,oN];constructor
 .rintro⟨e,O,rfl⟩;rcases kJ.1 O with h|h
  .exact Or.inl ⟨e,h.1,rfl⟩
  .exact Or.inr ⟨e,h,rfl⟩
 .rintro(⟨e,O,rfl⟩|⟨e,O,rfl⟩)
  .by_cases h:e.name∈names b
   .obtain⟨f,U,W⟩:=oN.1 h;exact⟨f,kJ.2 (Or.inr U),W⟩
   .exact⟨e,kJ.2 (Or.inl ⟨O,h⟩),rfl⟩
  .exact⟨e,kJ.2 (Or.inr O),rfl⟩
theorem pB(O:(a.map dp.name).Nodup)(hb:(b.map dp.name).Nodup):((dH a b).map dp.name).Nodup:=by
 unfold dH;rw[aM,ba];refine⟨O.sublist (bh.map _),hb,?_⟩;intro x U y W e;subst e;obtain⟨f,Y,rfl⟩:=a5.1 U;exact(ia.1 (ay.1 Y).2) W
theorem mG(O:(a.map dp.name).Nodup):((dw a).map dp.name).Nodup:=O.sublist (bh.map _)
theorem Em{c:List dp}(h:∀x,x∈names b↔x∈names c)(e:dp):jf b e=jf c e:=by
 rw[cm,ia,ia,h]
theorem Lp{O U:List dp}(Y:a.Perm O)(W:b.Perm U):(dH a b).Perm (dH O U):=by
 refine dd ?_ W;have:a.filter _=a.filter _:=bc λe _=>Em (λx=>(W.map _).mem_iff) e;rw[this];exact Y.filter _
theorem ve(h:a.Perm b):(dw a).Perm (dw b):=h.filter _
theorem pX(a b c:List dp):dH (dH a b) c=dH a (dH b c):=by
 have h:∀e,jf (dH b c) e=(jf b e&&jf c e):=by
  intro e;rw[cm,cl,ia,ia,ia,G6];exact not_or
 unfold dH at h⊢;rw[aD,aK,aI];congr 1;refine bc λe _=>?_;rw[h e,ct]
theorem mg(a:List dp):dH [] a=a:=by simp[dH]
theorem oT(a:List dp):dH a []=a:=by
 unfold dH;rw[bi,b5];intro e _;exact ia.2 (by simp[names])
theorem s9(a b:List dp):dw (dH (dw a) b)=dw (dH a b):=by
 unfold dw dH;rw[aD,aD,aK,aK];congr 1;rw[aK];refine bc λe _=>?_;cases e.gone<;>simp
theorem jP(a:List dp):dw (dw a)=dw a:=by
 unfold dw;rw[aK];refine bc λe _=>?_;cases e.gone<;>simp
theorem EW(L:List (List dp)):∀a:List dp,dw (L.foldl dH (dw a))=dw (L.foldl dH a):=by
 induction L with
 |nil=>intro a; exact jP a
 |cons b L O=>
  intro a;rw[aN,aN,<-O _,s9,O]
def fV(L:List (List dp)):List dp:=L.foldl dH []
theorem lj(L M:List (List dp)):fV (L++M)=M.foldl dH (fV L):=by unfold fV; rw[bp]
theorem fg(L:List (List dp))(b:List dp):fV (L++[b])=dH (fV L) b:=by rw[lj]; rfl
theorem xH(ss:List (List dp))(k:Nat):lQ ss k=fV (ss.take k):=rfl
theorem fp(ss:List (List dp))(O:List dp):eJ ss O=dw (fV (ss++[O])):=by
 unfold eJ;rw[fg,xH,be]
theorem kZ(a b:List dp):(dw b).length<=(dw (dH a b)).length:=by
 unfold dH dw;rw[aD,a0];omega
theorem oE(a:List dp):(dw a).length<=a.length:=aF ..
theorem jo(l:List dp):l.length-(dw l).length=(l.filter λe=>e.gone).length:=by
 have h:∀l,(l.filter λe=>e.gone).length+(dw l).length=l.length:=by
  intro l;unfold dw
  induction l with
  |nil=>rfl
  |cons e l O=>
   cases h:e.gone<;>simp[h]<;>omega
 have:=h l;omega
structure Inv(buf:List dp)(ss:List (List dp)):Prop where
 each:∀e∈buf,ON e
 nodup:(buf.map dp.name).Nodup
 gone:(buf.filter λe=>e.gone).length<=100
 jg:∀s∈ss,mT s
 qi:ss.length<=6
 there:∀k,k<=ss.length->(dw (fV (ss.take k))).length<=30
 all:(eJ ss buf).length<=30
theorem JA:Inv [] []:=⟨nofun,List.Pairwise.nil,by simp,nofun,by simp,λk _=>by simp[fV,dw],by simp[eJ,lQ,dH,dw]⟩
theorem rJ(O:List dp)(e:dp):((dH O [e]).filter λe=>e.gone).length<=(O.filter λe=>e.gone).length+(if e.gone then 1 else 0):=by
 unfold dH
 have U:(O.filter λx=>x.gone&&jf [e] x).length<=(O.filter λx=>x.gone).length:=by
  rw[show(O.filter _)=(O.filter λx=>x.gone).filter _ by rw[aK]; exact bc λx _=>ct ..];exact aF ..
 cases h:e.gone<;>simp[h]<;>omega
theorem Inv.Dw{O:List dp}{ss:List (List dp)}(h:Inv O ss)(W:ON e)(Y:((dH O [e]).filter λe=>e.gone).length<=100)(ha:(eJ ss (dH O [e])).length<=30):Inv (dH O [e]) ss where
 each:=λx hx=>by
  rcases kJ.1 hx with U|U
  .exact h.each x U.1
  .simp only[aC]at U; subst U; exact W
 nodup:=pB h.nodup (by simp);gone:=Y;jg:=h.jg;qi:=h.qi;there:=h.there;all:=ha
theorem qD(ss:List (List dp))(O:List dp)(e:dp):eJ ss (dH O [e])=dw (dH (fV (ss++[O])) [e]):=by
 rw[fp,fg,fg,pX]
theorem pU(T:List dp)(e:dp):dw (dH T [e])=(dw T).filter (jf [e])++dw [e]:=by
 unfold dw dH;rw[aD,aK,aK];congr 1;exact bc λx _=>ct ..
theorem Jp{O:List dp}{ss:List (List dp)}(h:Inv O ss)(name text:Wd)(dq dB:Int):Inv (jl O ss name text dq dB).2 ss:=by
 unfold jl;split
 .rename_i hn;split
  .rename_i ht;split
   .exact h
   .split
    .exact h
    .rename_i hm;refine h.Dw (Or.inl ⟨rfl,hn,ht.1,ht.2,by simp; omega,by simp; omega,by simp; omega,by simp; omega⟩) ?_ ?_
     .have:=rJ O ⟨name,false,text,dq,dB⟩;have:=h.gone;simp only[cv,if_false]at *;omega
     .rw[qD,pU,a0];have e1:(dw [(⟨name,false,text,dq,dB⟩)]).length=1:=rfl;have ha:=h.all;rw[fp]at ha hm;generalize dw _=T at *;by_cases U:30<=T.length
      .have W:=λW=>hm ⟨U,W⟩
       have Y:name∈names T:=by
        by_cases hc:name∈names T
        .exact hc
        .exact absurd (pF hc) W
       obtain⟨x,hx,aa⟩:=oN.1 Y
       have:(T.filter (jf [⟨name,false,text,dq,dB⟩])).length<T.length:=by
        rw[List.length_filter_lt_length_iff_exists];refine⟨x,hx,?_⟩;rw[ia];simp[names,aa]
       omega
      .have:=aF (jf [⟨name,false,text,dq,dB⟩]) T;omega
  .exact h
 .exact h
theorem JK{O:List dp}{ss:List (List dp)}(h:Inv O ss)(name:Wd):Inv (kC O ss name).2 ss:=by
 unfold kC;split
 .rename_i U;split
  .exact h
  .split
   .exact h
   .rename_i W;rw[jo]at W;refine h.Dw (Or.inr ⟨rfl,U⟩) ?_ ?_
    .have:=rJ O ⟨name,true,[],0,0⟩;simp only[if_true]at this;omega
    .rw[qD,pU,a0];have e1:(dw [(⟨name,true,[],0,0⟩)]).length=0:=rfl;have Y:=h.all;rw[fp]at Y;have:=aF (jf [⟨name,true,[],0,0⟩]) (dw (fV (ss++[O])));omega
 .exact h
theorem sx(l:List dp):((dw l).filter λe=>e.gone)=[]:=by
 rw[bv];intro e O;have:=(ay.1 O).2;simpa using this
theorem yG(U:∀e∈l,ON e)(W:(l.map dp.name).Nodup)(O:0<l.length)(Y:(l.filter λe=>e.gone).length<=100)(h5:(dw l).length<=30):mT l:=
 ⟨U,W,λe=>by rw[e]at O; simp at O,Y,h5⟩
theorem AG{W:List dp}{ss:List (List dp)}(h:Inv W ss):Inv (eV W ss).2.1 (eV W ss).2.2:=by
 unfold eV;split
 .exact h
 .split
  .exact h
  .have U:∀O,(∀s∈O,mT s)->O.length<=6->(∀k,k<=O.length->(dw _).length<=30)->Inv [] O:=λO g1 g2 g3=>
    ⟨nofun,List.Pairwise.nil,by simp,g1,g2,g3,by
      rw[fp,fg,oT]
      have:=g3 _ (bV _)
      rw[be]at this
      exact this⟩
   have ft:=h.all;rw[fp,fg]at ft;have Y:=bZ (kZ ..) ft;split
   .rename_i hpos;refine U _ ?_ (by simp; omega) ?_
    .intro s hs;rcases a8.1 hs with h1|h1
     .exact h.jg s h1
     .simp only[aC]at h1;subst h1;unfold eY at hpos⊢;split
      .rename_i h0;rw[if_pos h0]at hpos;refine yG (λe he=>h.each e (ay.1 he).1) (mG h.nodup) hpos ?_ ?_
       .rw[sx]; simp
       .rw[jP]; exact Y
      .rename_i h0;rw[if_neg h0]at hpos;exact yG h.each h.nodup hpos h.gone Y
    .intro k hk;by_cases aa:k<=ss.length
     .rw[bB aa];exact h.there k aa
     .rw[bj (by simp; omega),fg];unfold eY;split
      .rename_i h0;have:=aX.1 h0;subst this;show(dw (dH [] _)).length<=30;rw[mg,jP];exact Y
      .exact ft
   .exact U ss h.jg h.qi h.there
theorem vj(L M:List (List dp))(a b:List dp):fV (L++[dH a b]++M)=fV (L++[a,b]++M):=by
 rw[lj _ M,lj _ M,fg];rw[show L++[a,b]=(L++[a])++[b] by simp,fg,fg,pX]
def Ha(n:Nat)(a b:List dp):List dp:=if n=0 then dw (dH a b)else dH a b
def o9(n:Nat)(a b:List dp):List (List dp):=if 0<(Ha n a b).length then [Ha n a b]else []
theorem Jb{n:Nat}{s:List dp}(h:s∈o9 n a b):s=Ha n a b/\0<s.length:=by
 unfold o9 at h;split at h
 .rename_i O;simp only[aC]at h;subst h;exact⟨rfl,O⟩
 .simp at h
theorem tV(L X:List (List dp))(a b:List dp):dw (fV (L++(o9 L.length a b++X)))=dw (fV (L++([a,b]++X))):=by
 unfold o9 Ha;by_cases O:L.length=0
 .have:=aX.1 O;subst this;simp only[bm,if_true,aU]
  have U:fV ([a,b]++X)=X.foldl dH (dH a b):=by
   show X.foldl dH _=_;rw[mg]
  rw[U,<-EW X _];split
  .show dw (X.foldl dH _)=_;rw[mg]
  .have:dw (dH a b)=[]:=aX.1 (by omega);rw[this];rfl
 .rw[if_neg O];split
  .rw[<-aI,<-aI,vj]
  .have W:dH a b=[]:=aX.1 (by omega);have e:=vj L X a b;rw[W]at e
   have Y:fV (L++[[]]++X)=fV (L++([]++X)):=by
    rw[lj,fg,oT,aU,lj]
   rw[<-Y,e,aI]
theorem BC(ss:List (List dp))(n:Nat)(h:n+1<ss.length):ss=ss.take n++([ss.getD n [],ss.getD (n+1) []]++ss.drop (n+2)):=by
 have O:ss.getD n []=ss[n]:=by rw[ax,a6 _]; rfl
 have U:ss.getD (n+1) []=ss[n+1]:=by rw[ax,a6 _]; rfl
 rw[O,U]
 have W:ss.drop n=ss[n]::ss[n+1]::ss.drop (n+2):=by
  rw[aJ _,aJ _]
 have:=aZ n ss;rw[W]at this;exact this.symm
theorem yk(ss:List (List dp))(n:Nat):(if 0<(iy ss n).length then [iy ss n]else [])=o9 n (ss.getD n []) (ss.getD (n+1) []):=rfl
theorem vU(ss:List (List dp))(n:Nat)(h:n+1<ss.length)(Y:List (List dp)):dw (fV ((ss.take n++(o9 n (ss.getD n []) (ss.getD (n+1) [])++ss.drop (n+2)))++Y))=dw (fV (ss++Y)):=by
 have O:(ss.take n).length=n:=by simp; omega
 have e:=tV (ss.take n) (ss.drop (n+2)++Y) (ss.getD n []) (ss.getD (n+1) []);rw[O]at e;conv=>rhs; rw[BC ss n h]
 simp only[aI]at e⊢;exact e
theorem IJ(n:Nat)(a b:List dp):(o9 n a b).length<=1:=by unfold o9; split<;>simp
theorem oB{α:Type}(A B:List α)(k:Nat)(h:A.length<=k):(A++B).take k=A++B.take (k-A.length):=by
 rw[List.take_append,bj h]
theorem AF{O:List dp}{ss:List (List dp)}(h:Inv O ss)(n:Int):Inv O (eP ss n).2:=by
 unfold eP;split
 .exact h
 .split
  .exact h
  .rename_i hn hg;obtain⟨m,rfl⟩:∃m:Nat,n=(m:Int):=⟨n.toNat,by omega⟩;have hm:m+1<ss.length:=by omega
   rw[Int.toNat_natCast]at *;rw[yk]at *;show Inv O (ss.take m++(o9 m (ss.getD m []) (ss.getD (m+1) [])++ss.drop (m+2)));have aa:=BC ss m hm;have af:=vU ss m hm [O]
   have U:ss.getD m []∈ss/\ss.getD (m+1) []∈ss:=by
    rw[ax,ax,a6 (by omega),a6 hm];exact⟨aH _,aH _⟩
   have hA:mT (ss.getD m []):=h.jg _ U.1;have hB:mT (ss.getD (m+1) []):=h.jg _ U.2;change ¬100<(Ha m (ss.getD m []) (ss.getD (m+1) [])).length-(dw (Ha m (ss.getD m []) (ss.getD (m+1) []))).length at hg;clear U;generalize ss.getD m []=A at *;generalize ss.getD (m+1) []=B at *;have ah:=IJ m A B
   have ab:(dw (dH A B)).length<=30:=by
    have W:=h.there (m+2) (by omega)
    have e:ss.take (m+2)=ss.take m++[A,B]:=by
     conv=>lhs; rw[aa]
     rw[oB _ _ _ (by simp; omega)];have:(ss.take m).length=m:=by simp; omega
     rw[this,show m+2-m=2 by omega];simp
    rw[e,show ss.take m++[A,B]=(ss.take m++[A])++[B] by simp,fg,fg,pX]at W;exact bZ (kZ _ _) W
   refine⟨h.each,h.nodup,h.gone,?_,?_,?_,?_⟩
   .intro s hs;rcases a8.1 hs with h1|h1
    .exact h.jg s (bG h1)
    .rcases a8.1 h1 with h1|h1
     .obtain⟨h1,ac⟩:=Jb h1
      .rw[<-h1,jo]at hg;unfold Ha at h1
       have ad:∀e∈s,e∈dH (A) (B):=by
        intro e Y;rw[h1]at Y;split at Y
        .exact(ay.1 Y).1
        .exact Y
       have ae:=pB hA.nodup hB.nodup;refine yG (λe Y=>?_) ?_ ac (by omega) ?_
       .rcases kJ.1 (ad e Y)with W|W
        .exact hA.each e W.1
        .exact hB.each e W
       .rw[h1];split
        .exact mG ae
        .exact ae
       .rw[h1];split
        .rw[jP]; exact ab
        .exact ab
     .exact h.jg s (bx h1)
   .have:=h.qi;simp only[a0,bM,bA];omega
   .intro k hk;by_cases ag:k<=m
    .rw[bB (by simp; omega),bQ,cf ag];exact h.there k (by omega)
    .have e0:(ss.take m).length=m:=by simp; omega
     rw[oB _ _ _ (by omega),e0,oB _ _ _ (by omega)];have e:=tV (ss.take m) ((ss.drop (m+2)).take (k-m-(o9 m A B).length)) (A) (B);rw[e0]at e;rw[e]
     have e4:ss.take m++([A,B]++(ss.drop (m+2)).take (k-m-(o9 m A B).length))=ss.take (m+2+(k-m-(o9 m A B).length)):=by
      conv=>rhs; rw[aa]
      rw[oB _ _ _ (by omega),oB _ _ _ (by simp; omega)];simp;omega
     rw[e4];refine h.there _ ?_;simp only[a0,bM,bA]at hk;omega
   .rw[fp,af,<-fp];exact h.all
end
section
open Go.RowKit
def Je(e:dp):Prop:=e.name.length<=1048576/\e.text.length<=1048576/\(-9223372036854775808<=e.dq/\e.dq<=9223372036854775807)/\-9223372036854775808<=e.dB/\e.dB<=9223372036854775807
theorem Mg{e:dp}(h:Je e):(nv e).length<=2097160:=by
 have O:=h.1;have U:=h.2.1;simp[nv,dK,gX]; omega
theorem O0(m:List dp)(h:∀e∈m,Je e):(m.flatMap nv).length<=m.length*2097160:=by
 induction m with
 |nil=>simp
 |cons e m O=>
  have W:=Mg (h e (by simp));have Y:=O (λx U=>h x (by simp[U]));rw[aE,a0,aB]; omega
def FV(p:Wd)(e:dp)(c:UInt8):Nat:=if qo (dE e) (p++[c])=true then 1 else 0
theorem DL(p:Wd)(e:dp):∀(cs:List UInt8),(∀c∈cs,qo (dE e) (p++[c])=false)->(cs.map (FV p e)).sum=0:=by
 intro cs
 induction cs with
 |nil=>intro _; rfl
 |cons c cs O=>
  intro h;have U:=h c (by simp);rw[a9,aO,O (λd W=>h d (by simp[W]))];simp[FV,U]
theorem Qg(p:Wd)(e:dp):∀(cs:List UInt8),cs.Nodup->(cs.map (FV p e)).sum<=1:=by
 intro cs
 induction cs with
 |nil=>simp
 |cons c cs W=>
  intro h;have U:=aT.1 h;rw[a9,aO]
  cases hb:qo (dE e) (p++[c])with
  |false=>have:=W U.2; simp only[FV,hb]; simpa using this
  |true=>
   rw[DL p e cs (λd Y=>?_)]
   .simp[FV,hb]
   .rw[cr];intro O;have:=qN ((nw ..).1 hb) ((nw ..).1 O);subst this;exact U.1 Y
theorem Qt(p:Wd)(cs:List UInt8)(e:dp)(G:List dp):(cs.map λc=>(jH (e::G) p c).length).sum=(cs.map (FV p e)).sum+(cs.map λc=>(jH G p c).length).sum:=by
 induction cs with
 |nil=>rfl
 |cons c cs O=>
  simp only[a9,aO,O]
  have:(jH (e::G) p c).length=FV p e c+(jH G p c).length:=by
   unfold jH FV;rw[bg];split
   .simp; omega
   .simp
  omega
theorem KN(p:Wd)(cs:List UInt8)(W:cs.Nodup):∀G:List dp,(kV G p).length+(cs.map λc=>(jH G p c).length).sum<=G.length:=by
 intro G
 induction G with
 |nil=>
  have:∀cs:List UInt8,(cs.map λc=>(jH [] p c).length).sum=0:=by
   intro cs
   induction cs with
   |nil=>rfl
   |cons c cs U=>rw[a9,aO,U]; rfl
  rw[this]; simp[kV]
 |cons e G U=>
  rw[Qt];by_cases O:dE e=p
  .have Y:=DL p e cs (λc _=>by
    rw[cr];intro hb;have:=((jR ..).1 ((nw ..).1 hb)).2.1
    rw[O]at this; omega)
   have h1:(kV (e::G) p).length=(kV G p).length+1:=by
    unfold kV; rw[bg,if_pos (beq_iff_eq.2 O)]; rfl
   rw[aB]; omega
  .have Y:=Qg p e cs W
   have h1:(kV (e::G) p).length=(kV G p).length:=by
    unfold kV; rw[bg,if_neg (by simpa using O)]
   rw[aB]; omega
theorem M6:∀(f:Nat)(p:Wd)(G:List dp),(∀e∈G,Je e)->(n9 f p G).length<=f*(G.length*3145743)+5:=by
 intro f
 induction f with
 |zero=>simp[n9]
 |succ f ih=>
  intro p G W;have ab:=O0 (kV G p) (λe Y=>W e (ay.1 Y).1);have ac:=KN p _ (mE (pT G p)) G
  have hk:∀cs:List UInt8,(∀c∈cs,c∈jL G p)->(cs.flatMap λc=>dK ((mH (jH G p c)).drop p.length)++n9 f (mH (jH G p c)) (jH G p c)).length<=(cs.map λc=>(jH G p c).length).sum*(1048582+f*3145743):=by
   intro cs
   induction cs with
   |nil=>simp
   |cons c cs aa=>
    intro hc;have h1:=aa (λd hd=>hc d (by simp[hd]));have O:=ud (hc c (by simp));rw[<-uH]at O;have ad:=b0.2 O;obtain⟨e0,U⟩:=aS _ O
    have ae:(mH (jH G p c)).length<=1048576:=by
     have a:=((pV O).1 _ (a5.2 ⟨e0,U,rfl⟩)).length_le;have b:=(W e0 (iT.1 U).1).2.1;unfold dE at a;rw[fY]at a;omega
    have h2:=ih (mH (jH G p c)) (jH G p c) (λe Y=>W e (iT.1 Y).1);have h3:(dK ((mH (jH G p c)).drop p.length)).length<=1048577:=by simp[dK]; omega
    rw[aE,a0,a0,a9,aO,cd];generalize (jH G p c).length=n at *;have e1:n*(1048582+f*3145743)=n*1048582+f*(n*3145743):=by rw[cj,bX]
    omega
  have af:=hk _ (λ_ h=>h);rw[n9];simp only[a0,aB];have h3:(gX (gI G)).length=3:=rfl;generalize ((jL G p).map λc=>(jH G p c).length).sum=m at *;have e1:m*(1048582+f*3145743)=m*1048582+m*(f*3145743):=cj ..;have e2:(f+1)*(G.length*3145743)=G.length*3145743+G.length*(f*3145743):=by rw[cd,bX]; omega
  have e3:m*(f*3145743)<=G.length*(f*3145743):=bY _ (by omega);omega
end
section
open Go.RowKit
variable {e:dp} {es gs ps:List (Nat×dp)} {ks:List Wd} {N a b c f g n:Nat} {bs ls path r rf:Wd}
abbrev sn(l:List (Nat×dp)):List dp:=l.map Prod.snd
def kH(N:Nat):Nat->Wd->List Wd->Wd->Wd->Option (List (Nat×dp)×Wd)
 |0,_,_,_,bs=>some ([],bs)
 |n+1,path,ks,last,bs=>(mZ ks last bs).bind λx=>(jV x.1 x.2).bind λy=>if dE y.1=path then(kH N n path (ks++[x.1]) x.1 y.2).bind λz=>some ((N-bs.length,y.1)::z.1,z.2)else none
def lT(node:Wd->List Wd->Wd->Option (Nat×List (Nat×dp)×Wd)):Nat->Wd->List Wd->Int->Wd->Option (Nat×List (Nat×dp)×Wd)
 |0,_,_,_,bs=>some (0,[],bs)
 |n+1,path,ks,last,bs=>(j5 bs).bind λx=>if x.1≠[]/\last<((x.1.getD 0 0).toNat:Int)then
   (node (path++x.1) ks x.2).bind λy=>(lT node n path (ks++(sn y.2.1).map dp.name) ((x.1.getD 0 0).toNat:Int) y.2.2).bind λz=>some (max y.1 z.1,y.2.1++z.2.1,z.2.2)else none
def jW(N:Nat):Nat->Wd->List Wd->Wd->Option (Nat×List (Nat×dp)×Wd)
 |0,_,_,_=>none
 |f+1,path,ks,bs=>if path.length<=24 then
   (il bs).bind λa=>(rdNum a.2).bind λb=>(kH N b.1 path ks [] b.2).bind λc=>(rdNum c.2).bind λd=>(lT (jW N f) d.1 path (ks++(sn c.1).map dp.name) (-1) d.2).bind λe=>
    if(a.1:Int)=max (gI (sn c.1)) e.1/\(path=[]\/0<b.1\/1<d.1)then some (a.1,c.1++e.2.1,e.2.2)else none
  else none
def jU(N:Nat):Nat->List Wd->Wd->Wd->Option (List (Nat×dp)×Wd)
 |0,_,_,bs=>some ([],bs)
 |n+1,ks,last,bs=>(mZ ks last bs).bind λx=>(jU N n (ks++[x.1]) x.1 x.2).bind λz=>some ((N-bs.length,⟨x.1,true,[],0,0⟩)::z.1,z.2)
def jd(N:Nat)(bs:Wd):Option (List (Nat×dp)×List (Nat×dp)):=
 (rdNum bs).bind λa=>(jU N a.1 [] [] a.2).bind λb=>(j5 b.2).bind λc=>if c.1=[]then(jW N 26 [] ((sn b.1).map dp.name) c.2).bind λd=>
  if d.2.2=[]/\0<b.1.length+d.2.1.length/\a.1<=100/\d.2.1.length<=30 then some (b.1,d.2.1)else none else none
theorem sQ(h:jU N (n+1) ks ls r=some (gs,rf)):∃O U gs',mZ ks ls r=some (O,U)/\jU N n (ks++[O]) O U=some (gs',rf)/\gs=(N-r.length,⟨O,true,[],0,0⟩)::gs':=by
 rw[jU]at h;simp only[bU]at h;obtain⟨⟨O,U⟩,W,⟨gs',r2⟩,Y,h3⟩:=h;cases h3;exact⟨O,U,gs',W,Y,rfl⟩
theorem Da(h:kH N (n+1) path ks ls r=some (es,rf)):∃U W e Y O,mZ ks ls r=some (U,W)/\jV U W=some (e,Y)/\dE e=path/\kH N n path (ks++[U]) U Y=some (O,rf)/\es=(N-r.length,e)::O:=by
 rw[kH]at h;simp only[bU]at h;obtain⟨⟨U,W⟩,h1,⟨e,Y⟩,h2,h3⟩:=h;split at h3
 .rename_i hk;simp only[bU]at h3;obtain⟨⟨O,r4⟩,h4,h5⟩:=h3;cases h5;exact⟨U,W,e,Y,O,h1,h2,hk,h4,rfl⟩
 .cases h3
theorem CF{node:Wd->List Wd->Wd->Option (Nat×List (Nat×dp)×Wd)}{la:Int}(h:lT node (n+1) path ks la r=some (g,es,rf)) :
  ∃c cs W g1 O Y g2 U,j5 r=some (c::cs,W)/\la<(c.toNat:Int)/\node (path++(c::cs)) ks W=some (g1,O,Y)/\lT node n path (ks++(sn O).map dp.name) (c.toNat:Int) Y=some (g2,U,rf)/\g=max g1 g2/\es=O++U:=by
 rw[lT]at h;simp only[bU]at h;obtain⟨⟨lb,W⟩,h1,h⟩:=h;split at h
 .rename_i hc;simp only[bU]at h;obtain⟨⟨g1,O,Y⟩,h2,⟨g2,U,r3⟩,h3,h4⟩:=h
  cases lb with
  |nil=>exact absurd rfl hc.1
  |cons c cs=>
   cases h4;exact⟨c,cs,W,g1,O,Y,g2,U,h1,hc.2,h2,h3,rfl,rfl⟩
 .cases h
theorem Dm(h:jW N f path ks bs=some (g,es,r)):∃f',f=f'+1/\path.length<=24/\∃r0 nb U own W O Y gb below,il bs=some (g,r0)/\rdNum r0=some (nb,U)/\kH N nb path ks [] U=some (own,W)/\rdNum W=some (O,Y)/\lT (jW N f') O path (ks++(sn own).map dp.name) (-1) Y=some (gb,below,r)/\(g:Int)=max (gI (sn own)) gb/\(path=[]\/0<nb\/1<O)/\es=own++below:=by
 cases f with
 |zero=>cases h
 |succ f=>
  rw[jW]at h;split at h
  .rename_i hp;simp only[bU]at h;obtain⟨⟨wg,r0⟩,h1,⟨nb,U⟩,h2,⟨own,W⟩,h3,⟨O,Y⟩,h4,⟨gb,below,r4⟩,h5,h6⟩:=h;split at h6
   .rename_i hc;cases h6;exact⟨f,rfl,hp,r0,nb,U,own,W,O,Y,gb,below,h1,h2,h3,h4,h5,hc.1,hc.2,rfl⟩
   .cases h6
  .cases h
theorem DY(h:jd N bs=some (gs,es)):∃n r r0 O g,rdNum bs=some (n,r)/\jU N n [] [] r=some (gs,r0)/\j5 r0=some ([],O)/\jW N 26 [] ((sn gs).map dp.name) O=some (g,es,[])/\0<gs.length+es.length/\n<=100/\es.length<=30:=by
 unfold jd at h;simp only[bU]at h;obtain⟨⟨n,r⟩,W,⟨gs',r0⟩,Y,⟨lb,O⟩,h3,h⟩:=h;split at h
 .rename_i hc;simp only[bU]at h;obtain⟨⟨g,aa,r2⟩,h4,h⟩:=h;split at h
  .rename_i U;cases h;obtain⟨e,U⟩:=U;subst hc e;exact⟨n,r,r0,O,g,W,Y,h3,h4,U⟩
  .cases h
 .cases h
theorem vy:∀{n:Nat}{ks:List Wd}{ls r rf:Wd}{gs:List (Nat×dp)},jU N n ks ls r=some (gs,rf)->gs.length=n
 |0,_,_,_,_,_,h=>by cases h; rfl
 |n+1,_,_,_,_,_,h=>by
  obtain⟨_,_,_,_,O,rfl⟩:=sQ h
  simp[vy O]
def pW(a b:Nat)(ps:List (Nat×dp)):Prop:=a<=b/\(∀p∈ps,a<=p.1/\p.1<b)/\ps.Pairwise λx y=>x.1<y.1
theorem pW.nil(h:a<=b):pW a b []:=⟨h,by simp,.nil⟩
theorem pW.append{qs:List (Nat×dp)}(h:pW a b ps)(W:pW b c qs):pW a c (ps++qs):=by
 obtain⟨h1,O,Y⟩:=h;obtain⟨k1,U,k3⟩:=W;refine⟨by omega,λp hp=>?_,bd.2 ⟨Y,k3,λx hx y hy=>?_⟩⟩
 .rcases a8.1 hp with h|h
  .have:=O p h; omega
  .have:=U p h; omega
 .have:=O x hx; have:=U y hy; omega
theorem pW.one(h:a<b):pW a b [(a,e)]:=⟨by omega,by simp; omega,by simp⟩
theorem pW.from(h:pW b c ps)(U:a<=b):pW a c ps:=⟨by have:=h.1; omega,λp O=>by have:=h.2.1 p O; omega,h.2.2⟩
theorem xr(N:Nat):∀{n:Nat}{ks:List Wd}{ls r rf:Wd}{gs:List dp},ur n ks ls r=some (gs,rf)->r.length<=N->∃ps,jU N n ks ls r=some (ps,rf)/\sn ps=gs/\rf.length<=r.length/\pW (N-r.length) (N-rf.length) ps
 |0,_,_,_,_,_,h,_=>by cases h; exact⟨[],rfl,rfl,bV _,.nil (bV _)⟩
 |n+1,ks,ls,r,rf,gs,h,hN=>by
  rw[ur]at h
  simp only[bU]at h
  obtain⟨⟨U,W⟩,O,⟨gs',r2⟩,Y,h3⟩:=h
  cases h3
  try dsimp only at *
  have hl:W.length+1<=r.length:=by rw[(nP O).1]; simp[dK]
  obtain⟨ps,k1,k2,k3,k4⟩:=xr N Y (by omega);refine⟨(N-r.length,⟨U,true,[],0,0⟩)::ps,?_,by simp[sn,<-k2],by omega,(pW.one (by omega)).append k4⟩;rw[jU,O,bT,k1];rfl
theorem Gp{U O:Wd}(h:jV U r=some (e,O)):O.length<=r.length:=by
 unfold jV at h;simp only[bU]at h;obtain⟨⟨tx,r'⟩,W,h⟩:=h;split at h
 .simp only[bU]at h;obtain⟨⟨wt,r3⟩,Y,h⟩:=h;split at h
  .simp only[bU]at h;obtain⟨⟨tg,r4⟩,h3,h⟩:=h;cases h;have e1:=(ik W).1;have e2:=(jM Y).1;have e3:=(gV h3).1;rw[e1,e2,e3];simp;omega
  .cases h
 .cases h
theorem xG(N:Nat):∀{n:Nat}{path:Wd}{ks:List Wd}{ls r rf:Wd}{es:List dp},ue n path ks ls r=some (es,rf)->r.length<=N->∃ps,kH N n path ks ls r=some (ps,rf)/\sn ps=es/\rf.length<=r.length/\pW (N-r.length) (N-rf.length) ps
 |0,_,_,_,_,_,_,h,_=>by cases h; exact⟨[],rfl,rfl,bV _,.nil (bV _)⟩
 |n+1,path,ks,ls,r,rf,es,h,hN=>by
  rw[ue]at h
  simp only[bU]at h
  obtain⟨⟨nm,Y⟩,U,⟨e,r2⟩,W,O⟩:=h
  split at O
  .rename_i hk;simp only[bU]at O;obtain⟨⟨aa,r4⟩,h4,h5⟩:=O;cases h5
   try dsimp only at *
   have hl:Y.length+1<=r.length:=by rw[(nP U).1]; simp[dK]
   have ab:=Gp W;obtain⟨ps,k1,k2,k3,k4⟩:=xG N h4 (by omega);refine⟨(N-r.length,e)::ps,?_,by simp[sn,<-k2],by omega,(pW.one (by omega)).append k4⟩;rw[kH,U,bT,W,bT,if_pos hk,k1];rfl
  .cases O
def MY(N:Nat)(f:Nat):Prop:=∀(path:Wd)(ks:List Wd)(r rf:Wd)(g:Nat)(es:List dp),rZ f path ks r=some (g,es,rf)->r.length<=N->∃ps,jW N f path ks r=some (g,ps,rf)/\sn ps=es/\rf.length<=r.length/\pW (N-r.length) (N-rf.length) ps
theorem yz(U:MY N f):∀{n:Nat}{path:Wd}{ks:List Wd}{O:Int}{r rf:Wd}{g:Nat}{es:List dp},uD (rZ f) n path ks O r=some (g,es,rf)->r.length<=N->∃ps,lT (jW N f) n path ks O r=some (g,ps,rf)/\sn ps=es/\rf.length<=r.length/\pW (N-r.length) (N-rf.length) ps
 |0,_,_,_,_,_,_,_,h,_=>by cases h; exact⟨[],rfl,rfl,bV _,.nil (bV _)⟩
 |n+1,path,ks,O,r,rf,g,es,h,hN=>by
  rw[uD]at h
  simp only[bU]at h
  obtain⟨⟨lb,r1⟩,W,h⟩:=h
  split at h
  .rename_i hc;simp only[bU]at h;obtain⟨⟨g1,aa,r2⟩,h2,⟨g2,ab,r3⟩,h3,h4⟩:=h;cases h4
   try dsimp only at *
   have hl:r1.length<=r.length:=by rw[(ik W).1]; simp
   obtain⟨ps,k1,Y,k3,k4⟩:=U _ _ _ _ _ _ h2 (by omega);obtain⟨qs,j1,j2,j3,j4⟩:=yz U h3 (by omega);refine⟨ps++qs,?_,by simp[sn]at *; rw[Y,j2],by omega,(k4.append j4).from (by omega)⟩;rw[lT,W,bT,if_pos hc,k1];simp only[Y,j1,bT]
  .cases h
theorem xq(N:Nat):∀f,MY N f
 |0=>nofun
 |f+1=>λpath ks r rf g es h hN=>by
  rw[rZ]at h
  split at h
  .rename_i hp
   simp only[bU]at h
   obtain⟨⟨wg,r0⟩,U,⟨nb,r1⟩,W,⟨own,r2⟩,h3,⟨nc,r3⟩,Y,⟨gb,below,r4⟩,h5,O⟩:=h
   split at O
   .rename_i hc;cases O
    try dsimp only at *
    have l1:r0.length<=r.length:=by rw[(jM U).1]; simp
    have l2:r1.length<=r0.length:=by have:=(gV W).1; rw[this]; simp
    obtain⟨ps,k1,k2,k3,k4⟩:=xG N h3 (by omega);have l3:r3.length<=r2.length:=by have:=(gV Y).1; rw[this]; simp
    obtain⟨qs,j1,j2,j3,j4⟩:=yz (xq N f) h5 (by omega);refine⟨ps++qs,?_,by simp[sn]at *; rw[k2,j2],by omega,(k4.append (j4.from (by omega))).from (by omega)⟩;rw[jW,if_pos hp,U,bT,W,bT,k1,bT,Y];simp only[k2,j1,bT];rw[if_pos hc]
   .cases O
  .cases h
theorem A9{gs es:List dp}(h:Jw bs=some (gs,es)):∃ps qs,jd bs.length bs=some (ps,qs)/\sn ps=gs/\sn qs=es/\pW 0 bs.length (ps++qs):=by
 unfold Jw at h;simp only[bU]at h;obtain⟨⟨n,r⟩,W,⟨gs',r0⟩,h2,⟨lb,r1⟩,Y,h⟩:=h;split at h
 .rename_i hc;simp only[bU]at h;obtain⟨⟨g,O,r2⟩,h4,h⟩:=h;split at h
  .rename_i hd;cases h
   try dsimp only at *
   have l1:r.length<=bs.length:=by have:=(gV W).1; rw[this]; simp
   obtain⟨ps,k1,U,k3,k4⟩:=xr _ h2 (by omega);have l3:r1.length<=r0.length:=by rw[(ik Y).1]; simp
   obtain⟨qs,j1,j2,j3,j4⟩:=xq bs.length 26 _ _ _ _ _ _ h4 (by omega);refine⟨ps,qs,?_,U,j2,?_⟩
   .have a1:ps.length=gs.length:=by rw[<-U]; simp
    have a2:qs.length=O.length:=by rw[<-j2]; simp
    unfold jd;rw[W,bT,k1,bT,Y,bT,if_pos hc];simp only[U,j1,bT];rw[if_pos (by rw[a1,a2]; exact hd)]
   .have:=(k4.append (j4.from (by omega))).from (cb _);rw[hd.1]at this;exact this
  .cases h
 .cases h
end
section
open Go.RowKit
def iB(a:Wd)(c:UInt8)(row:List Nat)(z:Nat):Nat->List Nat
 |0=>[z]
 |i+1=>iB a c row z i++[min (min (row.getD i 0+(if a.getD i 0=c then 0 else 1)) (row.getD (i+1) 0+1)) ((iB a c row z i).getD i 0+1)]
def kR(a s:Wd):Nat->List Nat
 |0=>aQ (a.length+1)
 |k+1=>iB a (s.getD k 0) (kR a s k) (k+1) a.length
def yY(a s:Wd)(k:Nat):Nat:=(kR a s k).getD a.length 0
theorem kh(a:Wd)(c:UInt8)(row:List Nat)(z:Nat):∀i,(iB a c row z i).length=i+1:=by
 intro i
 induction i with
 |zero=>rfl
 |succ i O=>rw[iB,a0,O]; rfl
theorem uG(a s:Wd)(k:Nat):(kR a s k).length=a.length+1:=by
 cases k with
 |zero=>simp[kR]
 |succ k=>rw[kR,kh]
theorem tM(a:Wd)(c:UInt8)(row:List Nat)(z m:Nat)(Y:z<=m)(U:∀x∈row,x+1<=m):∀i,i<row.length->∀x∈iB a c row z i,x<=m:=by
 intro i
 induction i with
 |zero=>intro _ x O; simp[iB]at O; omega
 |succ i W=>
  intro hi x O;rcases a8.1 O with h|h
  .exact W (by omega) x h
  .simp only[az,List.not_mem_nil,or_false]at h;have h1:=U (row.getD _ 0) (by rw[ax,a6 hi]; exact aH hi);omega
theorem Ek(a s:Wd):∀k,∀x∈kR a s k,x<=a.length+k:=by
 intro k
 induction k with
 |zero=>intro x O; simp[kR]at O; omega
 |succ k U=>
  intro x O;exact tM a _ _ _ _ (by omega) (λy W=>by have:=U y W; omega) _ (by rw[uG]; omega) x O
def kz(mode:Nat)(q s:Wd):Bool:=
 if mode=0 then qo s q
 else if mode=1 then(aQ s.length).any λi=>fM s i&&qo (s.drop i) q
 else(aQ (s.length+1)).any λk=>decide (yY q s k<mode)
end
section
open Go.RowKit
theorem vF{x y:UInt8}:((x.toNat:Int)==(y.toNat:Int))=decide (x=y):=by
 rw[cm,beq_iff_eq,decide_eq_true_eq];constructor
 .intro h; exact cJ.1 (by omega)
 .intro h; rw[h]
end
section
open Go.RowKit
variable {n:Nat} {p:Nat->Bool}
theorem O8(s:ByteArray)(n:Nat):(s.extract n s.size).data.toList=s.data.toList.drop n:=by
 simp;rw[bj (by simp)]
theorem any_none(h:∀i,i<n->p i=false):(aQ n).any p=false:=by
 rw[bq];intro x O;rw[h x (bo.1 O)]; simp
theorem any_some(i:Nat)(hi:i<n)(h:p i=true):(aQ n).any p=true:=
 bt.2 ⟨i,bo.2 hi,h⟩
end
end Go.Proofs.YtocbogeoffeolaaGreatDoor
