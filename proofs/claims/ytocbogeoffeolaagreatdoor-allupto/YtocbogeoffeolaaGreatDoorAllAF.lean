import Derived.Test.YtocbogeoffeolaaGreatDoorAllAE
import Derived.Test.YtocbogeoffeolaaGreatDoorCards
import Derived.Test.YtocbogeoffeolaaGreatDoorTie
set_option linter.all false
set_option maxHeartbeats 8000000
set_option maxRecDepth 1000000
open List renaming range->cC,map_map->cH,length_set->cK,length_take->cX,getElem?_range->de,getElem_range->dB,size_toArray->eg,ext_getElem?->ep,mem_or_eq_of_mem_set->e6,length_range->fB,sum_append->gi,all->gx
open Nat renaming pow_le_pow_right->hH,mul_le_mul->hU,div_le_self->i0,pow_succ->i2
open Array renaming getElem_ofFn->jt,replicate->j2,ofFn->j3,mem_of_getElem?->j4,getElem?_mapIdx->ka,sizeOf_getElem->kj,length_toList->ko,getElem_map->ks,ext->kx
open Classical renaming choose_spec->n7,choose->n8,propDecidable->oa
open Option renaming isNone_some->oo,isNone_none->op
open ByteArray renaming size->oA
open Int renaming toNat_natCast->sd,tmod_eq_emod_of_nonneg->sg,tdiv_eq_ediv_of_nonneg->si
open Option.some renaming inj->sz
open Prod renaming fst->xb
open And renaming intro->A?
open Array renaming setIfInBounds->S?
open Bool renaming false->f?,true->t?
open List renaming length->l?,toArray->a?
open Option renaming none->x?,some->y?
namespace Go.Proofs.YtocbogeoffeolaaGreatDoor
open Go renaming maxLen->la,Calls->ld,results->lf,TypeId->ln,yielded->lo,ReturnsInLeavingWide->ls,joinedFacts->lv,below_drewN->lx,laidMetH->l0,FuncId->mm
open World renaming setCell->m4,cell?->m5,cells?_some->m6,doorLaid->m8,cell?_spot->m',var?->nc
open Proofs.YtocbogeoffeolaaGreatDoor.Rows renaming uptoBulkAll->ne,uptoBulk->nl,allSpec->nn,allUptoRow->no
open RowKit.Below renaming refl->nr,setCell->n6
open Proofs.Tryz renaming underlying9->oC,underlying3->oK,underlying118->oN,results41->oQ,underlying75->oT,underlying22->pc,underlying4->pd,func78->pi,func41->pm,func12->pr,ntmps77->pt,results78->pv,ntmps111->p5,ntmps110->p6,ntmps108->p7,func77->qr,underlying141->qt,f13->qz,underlying77->ra,underlying31->rb,func111->re,func110->rf,func108->ro,checked->rt,f12->rv,func17->rx,func13->ry
open Region renaming ready->s8,wanted->sA,noSelect->sB,free->te
open DataW renaming trod_int->ti,trod_string->tt,trod->ty,trod_struct->un,trod_bool->ut
open Value renaming ownBlock->wd,okWide->wg,cells->wh
open Value.slice renaming injEq->wi
open Addr renaming add_lit->wn,add->wu
open Lib renaming TabIs->yd,pow10Tab->yg,tabIs_of_head->yh
open OpenClaim renaming world->yt,startTold->yu,startFits->zk,pre_eq_preRow->z8,post_not_still->z9,okInput->Bk,namedList->Bs,lists->Bv,form->Bx,atReturn->B0,always->B1
open Go renaming undef->B3
open Go renaming Program->P?,Value->v?,World->w?
open Ending renaming returned->e?
open IntKind renaming i64->i?
open Item renaming inRegion->r?
open Obj renaming cells->c?
open Value renaming int->n?,ownBlock->O?,pointer->p?,string->s?
open World renaming cell?->C?,ownsRow->R?
open Proofs.Tryz
section
open RowKit
variable {f J y2 y5 i:Nat}{o p x4:w?}{C z7:E?}{I P x0 x5 y8:v?}{U:L?}{x1:W?}{x2 y3:b?}{x3:List DJ}{x7:Oper}{x8:List (E?)}{x9 y7 z6:F?}{y0 z1 z2:Sg}{y1:P?}{y6 z3 z4 z5:Int}
def Y1(base:Nat)(e:Ending)(w':w?):Option (E?)->Prop
 |none=>∃a n c,e=e? (.tuple #[.slice a n c,.bool f?])|some l=>∃a c,e=e? (.tuple #[.slice a l.length c,.bool t?])/\R? w' base 202 5 (.slice a l.length c) l.length (dG l)
def CQ(l:E?)(k)(nm tx)(gn)(wt tg):oL l k ⟨nm,gn,tx,wt,tg⟩=t?↔gr nm=t?/\eh tx=t?/\(gn=t?\/tx≠[])/\wt<=1000000/\jC (l.take k) nm=x?:=by unfold oL;simp only[IT,Z7,bne_iff_ne,decide_eq_true_eq,Option.isNone_iff_eq_none];exact⟨λh=>⟨h.1.1.1.1,h.1.1.1.2,h.1.1.2,h.1.2,h.2⟩,λh=>⟨⟨⟨⟨h.1,h.2.1⟩,h.2.2.1⟩,h.2.2.2.1⟩,h.2.2.2.2⟩⟩
def JW(A:E?)(h:∀e∈A,l? e.3<=24)(B:l? A<=1000):(A.map λe=>l? e.3).sum<=1048576:=by
 have:(A.map λe=>l? e.3).sum<=l? A*24:=by
  clear B;induction A with
  |nil=>simp|cons e A J=>have U:=h e i!;have V:=J (λx O=>h x<|by simp[O]);rw[ZK,J!,w!];omega
 omega
def yE{u:Option<|E?}{a c}(h:u=x?):Y1 f (e?<|.tuple #[.slice a J c,.bool f?]) o u:=by subst h;exact⟨_,_,_,q?⟩
def RF(B:b?)(w)(hs:B.size<=la) :
  ld prog 151 #[.string B] w λe w'=>Below w.1.size w w'/\Y1 w.1.size e w' (gG B.1.1):=by
 obtain⟨i5,bw,b0,b1,b2⟩:=Zz xe;have ag:=JP B.1.1;have ar:B.1.1.length=B.size:=i!;rw[ar]at ag;unfold la at hs;by_cases h4:4000<B.size
 .have b3:(4000:Int)<(B.size:Int):=o!;have J:J?<|gG B.1.1=x?:=h!<|by rw[ag,if_pos h4]
  clear ag ar;go_enter func151,ntmps151;go_wp2;go_ret2;exact⟨nr _ _,yE J.o⟩
 have b3:¬((4000:Int)<(B.size:Int)):=o!;rw[if_neg h4]at ag
 have HU:J? (gG _=match (nT _).2.1 with
  |none=>x?|some r=>if r≠[]\/(nT _).2.2.length=0\/100<(nT _).1\/30<((nT _).2.2.length:Int)-(nT _).1 then x?
   else if ∀i,(h:i<(nT B.1.1).2.2.length)->oL _ i _=t? then(if oq _=B.1.1 then y? _ else x?)else x?):=ag
 have Y:B.size<=1048576:=o!
 have aO:na w.1.size (w.alloc<|.cells #[.string B,.int i? 0,.bool f?,.slice x? 0 0] 259) w.1.size B (y? B.1.1,[]):=by refine⟨Zu _,i!,.slice x? 0 0,⟨0,?_,ZP _,λr h=>?_⟩,Z9 _ _ _ _⟩;exact U! w _;simp only[m?]at h;rw[<-h];rfl
 have au:=kD _ _ B _ 1 _ aO Y o!;have aP:=jA<|y? B.1.1;rcases hx1:eU 1 (y? B.1.1)with⟨n,t1⟩;rw[hx1]at au aP;simp only at au aP;have aQ:=h! hx1
 have aR:gZ (t1,([]:E?))<=100000:=by
  have h1:=lS 1<|y? B.1.1;rw[hx1]at h1;have h2:mK (y? B.1.1)=B.size+1:=by show B.1.1.length+1=_;rw[ar]
  unfold gZ;simp only[F!]at h1⊢;omega
 have aS:J?<|Below _ w<|w.alloc<|.cells #[.string B,.int i? 0,.bool f?,.slice x? 0 0] 259:=(nr _ _).alloc (Zu _) _;clear ag ar hx1 aO;go_enter func151,ntmps151;go_wp2_with fail;apply au.mono;rintro e w1 ⟨rfl,aa,aT⟩;have b4:=h! aa;have b5:=h!<|aS.o.trans aT;obtain⟨D,hD⟩:∃D,D=nS n (t1,[]):=⟨_,q?⟩;have HD:=h! hD;clear au aa aT hD aS;go_wp2_with fail;go_loopw [6] (λi wr=>∃(k:Nat)(s':jw),k<=n/\i=.int i? k/\nS (n-k) s'=D/\na w.1.size wr w.1.size B s'/\Below w.1.size w wr/\gZ s'<=100000) (λi _=>n-(intOf i).toNat);exact⟨0,_,ZP _,q?,HD.o.symm,b4.o,b5.o,aR⟩;obtain⟨k,s',hk,rfl,a4,ai,aU,hrS⟩:=hrel;have a5:=ai.bad;have aC:=h! a4;have W:=h! aU;clear a4 aU;by_cases aj:k<n
 .have aV:(k:Int)<(n:Int):=o!;obtain⟨u0,A⟩:=s'
  cases u0 with
  |none=>
   simp only[op]at a5;have ab:D=(x?,A):=by rw[<-aC.o,Ce]
   have O:=J4 _ _ B Y 32 0 D wr (by rwa[ab]) q? o! (by rwa[ab]);rcases hE:jX 32 0 D with⟨st,A'⟩;obtain rfl:st=x?:=by have h:=D4 32 0 A;rwa[<-ab,hE]at h
   have aW:nT B.1.1=(n,x?,A'):=by unfold nT;rw[aQ.o];simp only;rw[<-HD.o,hE]
   have J:J?<|gG B.1.1=x?:=by show _=_;rw[HU.o,aW]
   rw[hE]at O;clear ab ai hE aW;go_wp2_with fail;apply O.mono;rintro e x1 ⟨rfl,⟨_,_,vA,⟨pp,hh,_,_⟩,_⟩,ac⟩;have ad:=h!<|W.o.trans ac;have aD:=dx hh;clear O ac W hh;go_wp2;go_ret2;exact⟨ad.o,yE J.o⟩
  |some r=>
   simp only[oo]at a5;have av:=kD _ _ B _ 1 wr ai Y o!;have aX:=jA<|y? r;rcases hy0:eU 1 (y? r)with⟨a1,u1⟩;rw[hy0]at av aX;simp only at av aX;clear ai;go_wp2_with fail;apply av.mono;rintro e v1 ⟨rfl,aa,a6⟩;have a8:=h!<|W.o.trans a6;clear av a6 W;have aw:=s9 _ _ B _ a1 v1 aa Y o!;rcases hy1:iy a1 u1 with⟨c2,u2⟩;rw[hy1]at aw;simp only at aw;clear aa;go_wp2_with fail;apply aw.mono;rintro e v6 ⟨rfl,aY,a9⟩;have aZ:=h!<|a8.o.trans a9;clear aw a9 a8
   have HY:J?<|oneG (y? r,A)=(u2,A++[⟨c2,t?,[],0,0⟩]):=by show oneG _=_;unfold oneG fe;simp only[hy0,hy1]
   obtain⟨q1,q2,vA,⟨pp,hh,ba,ak⟩,U⟩:=id aY;obtain⟨aA,cA,rfl,b6⟩:=dK U;have aE:C? v6 ⟨w.1.size,3,x?⟩=y? (.slice aA A.length cA):=by rw[dx hh];rfl
   have bL:A.length<=100000:=by unfold gZ at hrS;simp only at hrS;omega
   have ah:J?<|R? v6 _ 202 5 (.slice aA A.length cA) A.length<|dG A:=U;have aF:J?<|v6.1[w.1.size]?=y? (.cells #[.string B,.int _ pp,.bool u2.isNone,.slice aA A.length cA] 259 _):=hh;have b7:J? (∀r',u2=y? r'->B.1.1.drop pp=r'):=ak;clear aY hh U hy0 hy1 ak;go_wp2_with (at_builtin;go_must (refine gE _ q? _ _ 75 q? _ 202 i5 _ 5 56 oT bw b0 b1 b2 q? d! _ _ _ q? (ah.o.alloc _) _ 1 (e9 ⟨c2,t?,[],0,0⟩) q? ?cr ?c0 ?c1 ?c2 ?c3 ?_))
   case cr=>exact Za5 rfl
   case c0=>intro u hu;simp[e9]at hu;obtain rfl|rfl|rfl|rfl|rfl:=hu<;>rfl
   case c1=>omega
   case c2=>unfold la;omega
   case c3=>simp;omega
   intro v7 w7 aG ae _;obtain⟨a7,c7,rfl,bM⟩:=dK aG;have b8:=(AI.1 aF.o).1
   have ax:w7.1[w.1.size]?=y? (.cells #[.string B,.int i? pp,.bool u2.isNone,.slice aA A.length cA] 259 (0,0)):=by rw[ae.5 _ j!<|λe=>fC aF.o ah.o d! e.symm,e! _ _ _ b8];exact aF.o
   have bG:C? w7 ⟨w.1.size,3,x?⟩=y? (.slice aA A.length cA):=by rw[dx ax];rfl
   have bH:=dO ax 3;have b9:=h!<|((aZ.o.trans<|(nr w.1.size v6).alloc q2 _)).trans ⟨ae.1,ae.2,ae.3,ae.4,λj hj=>ae.5 j j! (λe=>by have:=(ah.o.lt j e.symm).1;omega)⟩;have bc:=h! ax;have bd:=h! aG;have bN:w.1.size<=w7.1.size:=by have:=ae.4;simp at this;omega
   clear aG ae ax aE;go_wp2;go_roundw
   .refine⟨k+1,oneG (y? r,A),o!,by go_num,?_,?_,?_,ZE (QY i!) hrS⟩;have:=aC.o;rw[(o!:n-k=(n-(k+1))+1)]at this;simpa[nS]using this;rw[HY.o];refine⟨q1,by simp[m4];omega,.slice a7 _ c7,⟨pp,by rw[heap_set bc.o];rfl,ba,b7.o⟩,?_⟩;have e1:dG (A++[⟨c2,t?,[],0,0⟩])=dG A++e9 ⟨c2,t?,[],0,0⟩:=by simp[dG]
    simp only[e1,Zh,w!,F!];exact dJ bd.o (λj hj=>ZH _ _ _ _<|λe=>fC bc.o bd.o d!<|by rw[hj,e]);exact n6 b9.o q1 _
   exact M!
 have ab:D=s':=by rw[<-aC.o,(o!:n-k=0)];rfl
 have be:na w.1.size wr w.1.size B D:=by rwa[ab]
 have bf:gZ D<=100000:=by rwa[ab]
 have aV:¬(k:Int)<(n:Int):=o!;clear ab ai;have O:=J4 _ _ B Y 32 0 D wr be q? o! bf
 have bg:J?<|nT B.1.1=(n,jX 32 0 D):=by show nT _=_;unfold nT;rw[aQ.o];simp only;rw[<-HD.o]
 clear be;go_wp2_with fail;apply O.mono;rintro e x1 ⟨rfl,aa,ac⟩;have ad:=h!<|W.o.trans ac;clear O ac W;rcases hE:jX 32 0 D with⟨st,A⟩;rw[hE]at aa;have aH:J?<|nT B.1.1=(n,st,A):=h!<|by rw[bg.o,hE]
 have bh:J? (∀e∈A,okT e):=by have h:=YU B.1.1;rwa[aH.o]at h
 have bO:A.length<=100000:=by have h1:=EM 32 0 D;rw[hE]at h1;have h2:gZ (st,A)=A.length+mK st:=rfl;omega
 clear hE bg;obtain⟨q1,q2,vA,⟨pp,hh,ba,ak⟩,U⟩:=aa;obtain⟨aA,cA,rfl,b6⟩:=dK U;have bP:C? x1 ⟨w.1.size,1,x?⟩=y? (.int i? pp):=by rw[dx hh];rfl
 have aD:C? x1 ⟨w.1.size,2,x?⟩=y? (.bool st.isNone):=by rw[dx hh];rfl
 have aE:C? x1 ⟨w.1.size,3,x?⟩=y? (.slice aA A.length cA):=by rw[dx hh];rfl
 have ah:J?<|R? x1 _ 202 5 (.slice aA A.length cA) A.length<|dG A:=U;have ay:J?<|jB x1 5 (.slice aA A.length cA) A.length<|dG A:=jB.eo U
 have b':J?<|cA<=9223372036854775807:=by obtain⟨a',c',he,_,hm,_⟩:=ay.o;simp only[wi]at he;unfold la at hm;have:=he.2.2;show cA<=_;omega
 clear hh U
 cases st with
 |none=>
  simp only[op]at aD
  have J:J?<|gG B.1.1=x?:=by show _=_;rw[HU.o];rw[aH.o]
  go_wp2;go_ret2;exact⟨ad.o,yE J.o⟩
 |some r=>
  simp only[oo]at aD;have hr:=ak r rfl
  have aI:J? (gG B.1.1=if r≠[]\/A.length=0\/100<n\/30<(A.length:Int)-n then x? else if ∀i,(h:i<A.length)->oL A i A[i]=t? then(if oq A=B.1.1 then y? A else x?)else x?):=by show _=_;rw[HU.o,aH.o]
  have bA:r.length=B.size-pp:=by rw[<-hr];simp
  clear ak hr
  have aJ:(J? (gG B.1.1=x?)/\(pp≠B.size/\((pp:Int)==(B.size:Int))=f?\/pp=B.size/\(((A.length:Int)==0)=t?\/((A.length:Int)==0)=f?/\((100:Int)<(n:Int)\/¬((100:Int)<(n:Int))/\30<(A.length:Int)-n))))\/
    (J? (gG B.1.1=if ∀i,(h:i<A.length)->oL A i A[i]=t? then(if oq A=B.1.1 then y? A else x?)else x?)/\pp=B.size/\((A.length:Int)==0)=f?/\¬((100:Int)<(n:Int))/\¬30<(A.length:Int)-n):=by
   have hz:r=[]↔pp=B.size:=by rw[<-List.length_eq_zero_iff];omega
   simp only[beq_iff_eq,beq_eq_false_iff_ne];by_cases hb:r≠[]\/A.length=0\/100<n\/30<(A.length:Int)-n;refine .inl ⟨by show _=_;rw[aI.o,if_pos hb],?_⟩;rw[Ne,hz]at hb;omega;refine .inr ⟨by show _=_;rw[aI.o,if_neg hb],?_⟩;rw[Ne,hz]at hb;omega
  clear bA aI;obtain⟨J,⟨c0,c1⟩|⟨rfl,c2|⟨c2,c3|⟨c3,c4⟩⟩⟩⟩|⟨aK,rfl,c2,c3,c4⟩:=aJ
  any_goals
   go_wp2;go_ret2;exact⟨ad.o,yE J.o⟩
  go_wp2;go_loopw [8] (λiv wr=>∃k:Nat,k<=A.length/\iv=.int i? k/\OX A k/\gR x1 wr) (λi _=>A.length-(intOf i).toNat);exact⟨0,ZP _,q?,λi h hi=>o!,gR.refl _⟩;obtain⟨k,hk,rfl,aB,af⟩:=hrel;have al:=h! aB;have az:=h! af;have am:=Z0 af aE;clear aB;by_cases aj:k<A.length
  .have bQ:(k:Int)<(A.length:Int):=o!;obtain⟨b,off,rfl,c0,c1,c2,c3,c4⟩:=jo (ay.o.below af) k aj;let ⟨o1,o2,⟨o3,o4⟩,o5,o6⟩:=bh.o _<|Zw aj;rcases hxk:A[k]with⟨nm,V,tx,wt,tg⟩;rw[hxk]at c0 c1 c2 c3 c4 o1 o2 o3 o4 o5 o6;simp only at c0 c1 c2 c3 c4 o1 o2 o3 o4 o5 o6;have aL:=h! hxk;clear hxk;obtain⟨nb,an⟩:∃nb:b?,nb=⟨a? nm⟩:=⟨_,q?⟩;obtain⟨tb,ao⟩:∃tb:b?,tb=⟨a? tx⟩:=⟨_,q?⟩;rw[<-an]at c0;rw[<-ao]at c2;have bi:nb.size<=la:=by rw[an];show nm.toArray.size<=_;unfold la;simp;omega
   have bj:tb.size<=la:=by rw[ao];show tx.toArray.size<=_;unfold la;simp;omega
   obtain⟨bn,aM⟩:∃bn,bn=gr nm:=⟨_,q?⟩;obtain⟨bq,ap⟩:∃bq,bq=eh tx:=⟨_,q?⟩;obtain⟨fv,aq⟩:∃fv,fv=zx (jC (A.take k) nm):=⟨_,q?⟩
   have bk:J? (∀y:w?,ld _ 141 #[.string nb] y λe w'=>e=.returned (.bool bn)/\y=w'):=λy=>by have h:=lg nb y bi;rw[aM];rw[an]at h⊢;exact h
   have bl:J? (∀y:w?,ld _ 142 #[.string tb] y λe w'=>e=.returned (.bool bq)/\y=w'):=λy=>by have h:=gY tb y bj;rw[ap];rw[ao]at h⊢;exact h
   have bm:J? (∀y:w?,gR x1 y->ld _ 144 #[.slice _ k cA,.string nb] y λe w'=>e=.returned (.int _ fv)/\y=w'):=λy hy=>by
    have h0:=(ay.o.below hy).Za6 k o! rfl;have e:(A.take k).length=k:=by rw[cX];omega
    have h:=xP _ _ nm y (by rwa[e]);rwa[aq,an]
   have bo:=h! aM;have bp:=h! ap;have br:=h! aq;have bs:=h! ao;have bR:=trivial;have bI:k<=cA:=o!;have bJ:(k:Int)<=(cA:Int):=o!;have bK:=b'.o;clear af an ao aM ap aq;go_wp2_with fail;apply g!<|bk.o _;go_wp2_with fail;apply g!<|bl.o _;have hX:gR wr<|wr.alloc<|.cells #[.string nb,.bool V,.string tb,.int i? wt,.int i? tg] 202:=gR.alloc _ _;have d0:C? (wr.alloc<|.cells #[.string nb,.bool V,.string tb,.int i? wt,.int i? tg] 202) ⟨wr.1.size,0,x?⟩=y? (.string nb):=by rw[Zl _ _ _ _ rfl];rfl
   have d1:C? (wr.alloc<|.cells #[.string nb,.bool V,.string tb,.int i? wt,.int i? tg] 202) ⟨wr.1.size,1,x?⟩=y? (.bool V):=by rw[Zl _ _ _ _ rfl];rfl
   have d2:C? (wr.alloc<|.cells #[.string nb,.bool V,.string tb,.int i? wt,.int i? tg] 202) ⟨wr.1.size,2,x?⟩=y? (.string tb):=by rw[Zl _ _ _ _ rfl];rfl
   have d3:C? (wr.alloc<|.cells #[.string nb,.bool V,.string tb,.int i? wt,.int i? tg] 202) ⟨wr.1.size,3,x?⟩=y? (.int i? wt):=by rw[Zl _ _ _ _ rfl];rfl
   have d9:=Z0 hX am;have aN:=h!<|az.o.trans hX;clear hX c0 c1 c2 c3 c4 am bk bl az bi bj o1 o2 o3 o4 o5 o6;generalize (wr.alloc<|.cells #[.string nb,.bool V,.string tb,.int i? wt,.int i? tg] 202)=wx at *;generalize wr.1.size=g at *;have bB:J? (∀m,ld _ 144 _ _ λe w'=>e=.returned _/\w'=wx.drewN m):=λm=>(bm.o _<|j5 aN.o m).mono<|λe w' h=>⟨h.1,h.2.symm⟩;clear bm
   have aJ:(J? (gG B.1.1=x?)/\(bn=f?\/bn=t?/\(bq=f?\/bq=t?/\(V=f?/\tb.toList.isEmpty=t?\/(V=t?\/V=f?/\tb.toList.isEmpty=f?)/\(1000000<wt\/¬1000000<wt/\0<=fv)))))\/
     (J? (OX A<|k+1)/\bn=t?/\bq=t?/\(V=t?\/V=f?/\tb.toList.isEmpty=f?)/\¬1000000<wt/\fv = -1):=by
    have he:tb.toList.isEmpty=tx.isEmpty:=by rw[X!,bs.o]
    have hf:fv = -1/\jC (A.take k) nm=x?\/0<=fv/\jC (A.take k) nm≠x?:=by
     rw[br.o]
     cases jC (A.take k) nm with
     |none=>exact .inl ⟨q?,q?⟩|some fi=>exact .inr ⟨Int.natCast_nonneg fi,i!⟩
    rw[he,bo.o,bp.o];have hs:=CQ A k nm tx V wt tg;by_cases a0:oL A k ⟨nm,V,tx,wt,tg⟩=t?;let ⟨h1,h2,h3,h4,h5⟩:=hs.1 a0;refine .inr ⟨λi h hi=>?_,h1,h2,?_,o!,hf.elim (λh=>h.1) λh=>absurd h5 h.2⟩;obtain h6|h6:=H! i k
    exact al.o i h h6;obtain rfl:i=k:=o!;rwa[aL.o]
    cases V<;>simp at h3⊢;exact h3;refine .inl ⟨by show _=_;rw[aK.o,if_neg<|λh=>a0 (by have:=h k aj;rwa [aL.o]at this)],?_⟩;rw[hs]at a0;cases h1:gr nm
    .exact .inl rfl
    cases h2:eh tx
    .exact .inr ⟨q?,.inl q?⟩
    refine .inr ⟨q?,.inr ⟨q?,?_⟩⟩;have h3:V=f?/\tx.isEmpty=t?\/V=t?\/V=f?/\tx.isEmpty=f?:=by cases V<;>cases tx<;>simp
    obtain h3|h3:=h3
    exact .inl h3;refine .inr ⟨h3,?_⟩;have h4:V=t?\/tx≠[]:=h3.imp_right λh=>by have:=h.2;cases tx<;>simp at this⊢
    by_cases h5:1000000<wt;exact .inl h5;exact .inr ⟨h5,hf.elim (λh=>absurd ⟨h1,h2,h4,o!,h.2⟩ a0) λh=>h.1⟩
   clear aK al bo bp br bs aL;obtain⟨J,rfl|⟨rfl,rfl|⟨rfl,⟨rfl,c1⟩|⟨rfl|⟨rfl,c1⟩,c2|⟨c2,c3⟩⟩⟩⟩⟩|⟨bC,rfl,rfl,rfl|⟨rfl,c1⟩,c2,rfl⟩:=aJ
   all_goals
    go_wp2;go_quiet (first|(go_at_call 144;exact ld.quiet_of_same<|bB.o _));go_wp2
   any_goals
    go_ret2;exact⟨j5 (ad.o.trans<|Below.mono aN.o ad.o.4) nq,yE J.o⟩
   all_goals
    go_roundw
    .exact⟨k+1,o!,by go_num,bC.o,j5 aN.o nq⟩
    exact M!
  have bD:k=A.length:=o!;subst bD
  have bt:J? (gG B.1.1=if oq A=B.1.1 then y? A else x?):=by show _=_;rw[aK.o,if_pos<|λi h=>al.o i h h]
  have bu:J? (∀e∈A,oX e/\e.3.length<=24):=λe he=>by obtain⟨i,hi,rfl⟩:=ZF.1 he;obtain⟨o1,o2,⟨o3,o4⟩,o5,o6⟩:=bh.o _ he;refine⟨⟨o!,o!,⟨o!,o!⟩,o!,o!⟩,?_⟩;have h1:=al.o i hi hi;rcases hxk:A[i]with⟨nm,V,tx,wt,tg⟩;rw[hxk,CQ]at h1;have h2:=h1.2.1;simp only[eh,IT,decide_eq_true_eq]at h2;exact h2.1
  have bE:A.length<=1000:=o!;obtain⟨pk,a2⟩:∃pk:b?,pk=⟨(oq A).toArray⟩:=⟨_,q?⟩
  have bF:J? (∀y:w?,gR wr y->ld _ 109 _ y λe w'=>e=.returned (.string pk)/\gR y w'):=λy hy=>by rw[a2];exact Gr _ A y (ay.o.below<|az.o.trans hy) (λe he=>(bu.o e he).1) o!<|JW A (λe he=>(bu.o e he).2) bE
  clear aj hk al af;by_cases a3:oq A=B.1.1
  case' pos=>
   have ap:(pk.toList==B.toList)=t?:=by rw[a2,X!,X!,<-a3];simp
   have J:J?<|gG B.1.1=y? A:=h!<|by rw[bt.o,if_pos a3]
  case' neg=>
   have ap:(pk.toList==B.toList)=f?:=by rwa[a2,X!,X!,beq_eq_false_iff_ne]
   have J:J?<|gG B.1.1=x?:=h!<|by rw[bt.o,if_neg a3]
  all_goals
   clear a2 a3;go_wp2_with fail;refine j0 k! ?_;refine dA 0 ?_ ?_<|dA 1 ?_ ?_<|dA 2 ?_ ?_<|dA 3 ?_ ?_<|dA 4 ?_ ?_<|dA 5 ?_ ?_<|dA 6 ?_ ?_<|dA 7 ?_ ?_ ?_
   any_goals(intro y hy;have q:=Z0 hy am;exact no_implicit_lambda%x!)
   refine dA 8 ?_ ?_ ?_;rotate_left
   .intro y hy;exact z!<|bF.o y hy
   refine dA 9 ?_ ?_<|dA 10 ?_ ?_<|dA 11 ?_ ?_<|dA 12 ?_ ?_ ?_
   any_goals(intro y hy;exact no_implicit_lambda%x!)
   refine qF k! ?_ _;intro y hy;have bv:=h!<|az.o.trans hy;clear hy;go_simp;go_wp2;go_ret2;refine⟨ad.o.trans<|Below.mono bv.o ad.o.4,?_⟩
   first|exact yE J.o|(unfold Y1;rw[J.o];exact⟨_,_,rfl,dJ ah.o<|λk hk=>bv.o.5 k (ah.o.lt k hk).2⟩)
def BH{a}{B:v?->w?->Prop}(s x)(t)
  (ho:x7.2=.call {callee:=.builtin .append,args:=#[s,x],argTypes:=#[t,t]})
  (base) (e) (i) (z) (bytes) (ht:y1.underlying t=y? (.slice e)) (hi:y1.info? e=y? i) (hz:i.8=y? z)
  (O:i.3=1) (Y:i.4=bytes) (aa:z.cells.size=1)
  (v) (n) (xs:L?) (hs:a.eval s=v) (W:R? o base e 1 v n xs)
  (y) (news:L?) (hx:a.eval x=y) (hy:Rd o y news) (h1:∀u∈news,u.oneCell'=t?)
  (J:(n+l? news)*bytes<=140737488355328) (ab:n+l? news<=la) (U:base<=o.1.size)
  (h:∀V w',R? w' base e 1 V (n+l? news) (xs++news)->o.grownBy w' (O? v)->(O? V=O? v\/O? V=y? o.1.size)->B V w'):lO y1 x7 a o B:=by
 obtain⟨V,w',hr,h2,h3,h4⟩:=mc o base t x7.3 e i z bytes ht hi hz O Y aa v n xs W y news hy h1 J ab U;unfold lO execOp;simp only[ho,resolve,invoke,builtin,Sem.run_bind,Sem.run_pure,Result.andThen_ok,List.map_toArray,ZK,ZU,hs,hx,hr];exact h V w' h2 h3 h4
def VW{ops}{C:w?->Prop}{a}{K:(w?->Prop)->Act->Prop}{X:Type}(U:ops[i]?=y? x7)(V:sA x7 (lo ops a.1)=t?)(B:X->w?->Prop)(J:X->v?)(W:∀x,gp gR<|B x)(Y:∀x,iA<|B x)(hc:∀x y,B x y->C y)
  (hy:∀y,C y->lO y1 x7 a y (λv O=>gR y O/\∃x,v=J x/\B x O)) (h:∀x,K (B x)<|a.put x7.1<|J x):wJ y1 ops i C K a:=by
 unfold wJ;simp only[U,V,if_true];exact⟨X,B,J,W,Y,hc,hy,h⟩
def Hx{e}(h:Sh e):oX e/\l? e.3<=24:=by
 have O:∀x,gr x=t?->l? x<=8:=λx B=>by simp only[gr,IT,decide_eq_true_eq]at B;omega
 have U:∀x,eh x=t?->l? x<=24:=λx B=>by simp only[eh,IT,decide_eq_true_eq]at B;exact B.1
 obtain⟨_,J,V,_,Y,h6,h7,h8⟩|⟨W,J⟩:=h
 have:=O _ J;have:=U _ V;exact⟨⟨o!,o!,⟨o!,o!⟩,o!,o!⟩,o!⟩;have:=O _ J;rw[W];exact⟨⟨by simp only;omega,i!,⟨i!,i!⟩,i!,i!⟩,i!⟩
def PI(h:nz C):(∀e∈C,oX e)/\l? C<=1048576/\(C.map λe=>l? e.3).sum<=1048576:=by have:=kF h;exact⟨λe B=>(Hx<|h.1 e B).1,o!,JW C (λe B=>(Hx<|h.1 e B).2) o!⟩
def Xm(F:F?)(b)(af:E?)(ss:List<|E?)(ts:List<|W?)(n)(w)(hR:lc w F b af ss ts)(J:∀l∈ss,nz l) :
  ld prog 108 #[p?<|y? ⟨b,0,x?⟩,n? i? n] w λe w'=>e=e? (.tuple #[s? ⟨(jW ss n).1.toArray⟩,n? i? (jW ss n).2])/\B? w w':=by
 obtain⟨vB,vS,vT,hh,ah,W,O,Y⟩:=id hR;obtain⟨vs,aa,B,ab,U⟩:=id O;obtain⟨aS,cS,rfl,ai⟩:=dC B;have aj:C? w ⟨b,1,x?⟩=y? (.slice aS ss.length cS):=by rw[dx hh];rfl
 by_cases V:n<0
 .have HU:J?<|jW ss n=([],6):=h!<|by unfold jW;rw[if_pos<|.inl V]
  clear hR hh W Y O B U aa ab J;go_enter ro,p7;go_wp2;go_ret2;rw[HU.o];exact⟨q?,nr _ _⟩
 by_cases ad:(l? ss:Int)<=n
 .have HU:J?<|jW ss n=([],6):=h!<|by unfold jW;rw[if_pos<|.inr ad]
  clear hR hh W Y O B U aa ab J;go_enter ro,p7;go_wp2;go_ret2;rw[HU.o];exact⟨q?,nr _ _⟩
 obtain⟨m,rfl⟩:=N? (o!:0<=n);have hm:m<l? ss:=o!;let ⟨u,hu,hE⟩:=U m hm;obtain⟨bS,oS,rfl,kO⟩:=eM B m _ hu;obtain⟨au,cu,rfl,ak⟩:=dK hE.1;have hk:=J _<|Zw hm;let ⟨k1,k2,k3⟩:=PI hk;have ac:=Gr _ _ w (jB.eo hE.1) k1 k2 k3;rw[G7<|yA hk]at ac
 have HU:J?<|jW ss (m:Int)=(fc ss[m],0):=by
  show jW _ _=_;unfold jW;rw[if_neg o!];have e:ss.getD ((m:Int)).toNat []=ss[m]:=by rw[sd,AS,BY hm];rfl
  rw[e]
 have al:(m:Int)<(l? ss:Int):=o!;clear hR hh W Y O B U aa ab J V k1 k2 k3 hk hE hu;go_enter ro,p7;go_wp2_with fail;apply ac.mono;rintro e w1 ⟨rfl,ae⟩;have ag:=h! ae;clear ac ae;go_wp2;go_ret2;rw[HU.o];exact⟨q?,ag⟩
def M8(h:Inv C x8)(J:l? z7<=130):gO (x8++[z7])<=536870912:=by have B:=xg h;simp[gO]at B⊢;omega
structure Fz(w:w?)(g:Nat)(l:E?)(uL:v?)(w':w?)(v:v?)(n:Nat)(vs:L?):Prop where
 below:B? w w'
 blk:w'.1[g]?=some (.cells #[.slice none 0 0,v,.slice none 0 0] 120 (0,0))
 row:R? w' w.1.size 75 1 v n vs
 Og:R? w' w.1.size 202 5 uL l.length (dG l)
 gz:w.1.size<=g
def LV(hb:B? o p)(hk:p.1[f]?=y? (c? #[.slice x? 0 0,.slice x? 0 0,.slice x? 0 0] 120 (0,0)))
  (hl:R? p o.1.size 202 5 I C.length<|dG C) (ho:R? x4 o.1.size 75 1 P J U) (Y:p.grownBy x4<|O?<|Value.slice x? 0 0) (aa:o.1.size<=f) :
  Fz o f C I (x4.setCell ⟨f,1,x?⟩ P) P J U:=by
 have hz:=hb.4;have ac:=Y.4;have V:∀k,k<p.1.size->x4.1[k]?=p.1[k]?:=λk hk=>Y.5 k hk (by simp[wd]);have W:x4.1[f]?=y? (c? #[.slice x? 0 0,.slice x? 0 0,.slice x? 0 0] 120 (0,0)):=by rwa[V f<|eN hk]
 have ab:=dJ hl<|λk B=>V k (hl.lt k B).2;have O:∀k,k≠f->(x4.setCell ⟨f,1,x?⟩ P).1[k]?=x4.1[k]?:=λk hk=>ZH _ _ _ _ hk;refine⟨?_,by rw[heap_set W];rfl,dH ho<|λk B=>O k (λe=>by subst e;exact fD W ho d! B),dJ ab<|λk B=>O k (λe=>by subst e;exact fC W ab d! B),aa⟩;exact n6 (hb.trans ⟨Y.1,Y.2,Y.3,Y.4,λk B=>V k o!⟩) aa _
def Ky{V o}(h:Fz p f C I x4 P J U)(ho:R? V p.1.size 75 1 x0 (J+1)<|U++[I])(hg:(x4.alloc o).grownBy V<|O? P) :
  V.1[f]?=y? (c? #[.slice x? 0 0,P,.slice x? 0 0] 120 (0,0))/\Fz p f C I (V.setCell ⟨f,1,x?⟩ x0) x0 (J+1) (U++[I]):=by
 have hz:=h.1.4;have Y:∀k,k<x4.1.size->O? P≠y? k->V.1[k]?=x4.1[k]?:=λk hk ab=>by rw[hg.5 k j!<|λe=>ab e.symm,e! _ _ _ hk]
 have O:V.1[f]?=y? (c? #[.slice x? 0 0,P,.slice x? 0 0] 120 (0,0)):=by rw[Y f (eN h.2)<|fD h.2 h.3 d!];exact h.2
 have aa:=dJ h.4<|λk B=>Y k (h.4.lt k B).2<|λe=>fX h.4 h.3 d! k B e;have W:∀k,k≠f->(V.setCell ⟨f,1,x?⟩ x0).1[k]?=V.1[k]?:=λk hk=>ZH _ _ _ _ hk;refine⟨O,?_,by rw[heap_set O];rfl,dH ho<|λk B=>W k (λe=>by subst e;exact fD O ho d! B),dJ aa<|λk B=>W k (λe=>by subst e;exact fC O aa d! B),h.5⟩;refine n6 (h.1.trans ⟨?_,?_,?_,(by have:=hg.4;simp at this;omega),λk B=>Y k o! (λe=>by have:=(h.3.lt k e).1;omega)⟩) h.5 _;exact hg.1;exact hg.2;exact hg.3
def I5(hF:∀k,x9 k->k<o.1.size)(V:Zip (kX o x9) U x8)(h:Fz o f C I p P J<|U++[I]) :
  Zip (kX p<|iJ x9 o p) (U++[I]) (x8++[C]):=by
 refine Zip.append (V.mono<|λu x O=>⟨dJ O.1<|λk B=>h.1.5 k<|hF k<|O.2 k B,λk B=>Or.inl<|O.2 k B⟩)<|Zip.one ⟨eH h.4<|ZP _,λk B=>Or.inr ⟨(h.4.lt k B).1,(h.4.lt k B).2⟩⟩
def Cg(hF:∀k,x9 k->k<o.1.size)(W:Zip (kX o x9) U x8)(h:Fz o f C I p P (l? x8+1)<|U++[I])(J:gO (x8++[C])<=536870912) :
  ld prog 143 #[p?<|y? ⟨f,0,x?⟩] p λe B=>∃u,e=e? u/\R? B p.1.size 202 5 u (dV (x8++[C]) []).length (dG<|dV (x8++[C]) [])/\B? p B:=by
 have V:=I5 hF W h;exact uB _ f _ P _ [] _ p h.2 ⟨Z9 _ _ _ _,λk O=>by simp[wd]at O⟩ ⟨U++[I],V.1,(by rw[Zh];exact eH h.3<|ZP _),λk O=>Or.inr<|h.3.lt k O,V.2⟩ J i!
def Vd{b}{ts:List<|W?}(hF:∀k,x9 k->k<o.1.size)
  (hh:o.1[b]?=y? (c? #[x0,x5,y8] 120 (0,0))) (V:x9 b) (W:kX o x9 x0 z7) (hT:nM o x9 y8 ts) (hZ:Zip (kX o x9) U x8) (h:Fz o f C I p P (l? x8+1)<|U++[I]) (B:B? p x4) :
  x4.1[b]?=y? (c? #[x0,x5,y8] 120 (0,0))/\lc (x4.setCell ⟨b,1,x?⟩ P) (iJ x9 o<|x4.setCell ⟨b,1,x?⟩ P) b z7 (x8++[C]) ts/\dy x9 o (x4.setCell ⟨b,1,x?⟩ P):=by
 have aa:=B.4;have J:=I5 hF hZ h;refine Jb hF hh V W hT (h.1.trans<|B.mono h.1.4) (by rw[Zh];exact dH h.3<|λk O=>B.5 k (h.3.lt k O).2) J.1<|λi hi=>?_;obtain⟨u,hu,Y⟩:=J.2 i hi
 exact⟨u,hu,dJ Y.1<|λk O=>B.5 k (Y.1.lt k O).2,λk O=>by
  obtain h1|h1:=Y.2 k O
  exact .inl h1
  exact .inr ⟨h1.1,o!⟩⟩
def W9(F:F?)(b)(J:E?)(ss:List<|E?)(ts:List<|W?)(B:b?)(w:w?)(hF:∀k,F k->k<w.1.size)(hR:lc w F b J ss ts)(hI:Inv J ss)(hs:B.size<=la) :
  ld prog 110 #[p?<|y? ⟨b,0,x?⟩,s? B] w λe w'=>e=e? (n? i? (iT J ss B.1.1).1)/\
   lc w' (iJ F w w') b J (iT J ss B.1.1).2 ts/\dy F w w':=by
 obtain⟨i8,a0,a1,a2,a4⟩:=Zz My;have HR:=h! hR;have HF:=h! hF;have a5:=h! hI;have bn:=hI.5;have V:=RF B w hs;let ⟨vB,vS,vT,hh,a7,aq,a9,a'⟩:=hR;let ⟨vs,ar,au,aV,av⟩:=id a9;obtain⟨aS,cS,rfl,bo⟩:=dC au;obtain⟨aB,cB,rfl,bp⟩:=dK aq.1;have bq:=hF b a7;have aA:C? w ⟨b,0,x?⟩=y? (.slice aB J.length cB):=by rw[dx hh];rfl
 have aW:C? w ⟨b,1,x?⟩=y? (.slice aS ss.length cS):=by rw[dx hh];rfl
 have HH:=h! hh;have aX:=h! aq;have aY:=h! a';have aC:=h! au;have HZ:J?<|Zip _ vs ss:=⟨ar,av⟩;have HVL:=h! ar
 have aD:J? (∀u∈vs,u.oneCell'=t?):=λu hu=>by obtain⟨i,hi,rfl⟩:=ZF.1 hu;obtain⟨u',aw,hE⟩:=av i o!;rw[BY hi]at aw;simp only[m?]at aw;obtain⟨a,c,e,_⟩:=dK hE.1;rw[aw,e];rfl
 clear hR hh aq a' a9 au av hF hI aV ar
 cases hu:gG B.1.1 with
 |none=>
  have HU:J?<|iT J ss B.1.1=(7,ss):=h!<|by unfold iT;rw[hu]
  rw[hu]at V;clear hu;go_enter rf,p6;go_wp2_with fail;apply V.mono;rintro e w1 ⟨O,aU,nU,cU,rfl⟩;have W:=h! O;clear O V;go_wp2;go_ret;refine⟨dQ (by rw[HU.o];rfl),?_,dy.eF W⟩;rw[HU.o];exact kH HR HF W
 |some l=>
  have HU:J? (iT J ss B.1.1=if 0<J.length then(3,ss)else if 6<l? ss+1\/30<(dV (ss++[l]) []).length then(4,ss)else(0,ss++[l])):=h!<|by unfold iT;rw[hu]
  have aZ:=kF (uO hu).1;rw[hu]at V;clear hu;by_cases ah:0<l? J
  .have U:J?<|iT J ss B.1.1=(3,ss):=h!<|by rw[HU.o,if_pos ah]
   have aE:(0:Int)<(l? J:Int):=o!;go_enter rf,p6;go_wp2_with fail;apply V.mono;rintro e w1 ⟨O,aU,cU,rfl,ai⟩;have W:=h! O;have an:=Z0 O aA;clear O V ai;go_wp2;go_ret;refine⟨dQ (by rw[U.o];rfl),?_,dy.eF W⟩;rw[U.o];exact kH HR HF W
  have aE:¬((0:Int)<(l? J:Int)):=o!;go_enter rf,p6;go_wp2_with fail;apply V.mono;rintro e w1 ⟨O,aU,cU,rfl,ai⟩;have W:=h! O;have an:=Z0 O aA;have ao:=Z0 O aW;have aF:=h! ai;clear O V ai;go_wp2;have ax:=W.o.4;obtain⟨w2,aj⟩:∃w2,w2=w1.alloc (c? #[.slice x? 0 0,.slice x? 0 0,.slice x? 0 0] 120):=⟨_,q?⟩;have aa:Below w1.1.size w1 w2:=by rw[aj];exact(nr _ _).alloc (Zu _) _
  have ac:=h!<|W.o.trans<|aa.mono ax;have Y:J?<|w2.1[w1.1.size]?=y? (c? #[.slice x? 0 0,.slice x? 0 0,.slice x? 0 0] 120 (0,0)):=h!<|by rw[aj];exact U! w1 _
  have ak:=h!<|dJ aF<|λk hk=>aa.5 k (aF.o.lt k hk).2
  have ba:J?<|Rd w2 (.slice aS ss.length cS) vs:=by have h:=Rd.eo<|dH aC<|λk hk=>ac.o.5 k (aC.o.lt k hk).2;exact h
  have ap:=Z0 aa ao;have aG:C? w2 ⟨w1.1.size,1,x?⟩=y? (.slice x? 0 0):=by rw[dx Y.o];rfl
  rw[<-aj];clear aj aa an ao;have bc:=ax;clear ax;generalize w1.1.size=g at *;refine jS (Sd:=λa y=>y.2=w2.2->qP _ _ _ [12] a y) (last:=12) (tl:=[]) k! ?_<|λa y h ht=>h ht;refine ew 0 ?_ ?_<|ew 1 ?_ ?_<|ew 2 ?_ ?_<|ew 3 ?_ ?_<|ew 4 ?_ ?_ ?_
  any_goals(intro y hy;have q:=eT hy aG;exact x!)
  refine ew 5 ?_ ?_<|ew 6 ?_ ?_<|ew 7 ?_ ?_<|ew 8 ?_ ?_ ?_
  any_goals(intro y hy;have q:=eT hy ap;exact x!)
  go_simp;have st:∀x,gp gR<|λy=>lu w2 y/\R? y w.1.size 75 1 x ss.length vs:=λx y y' h hx=>⟨lu.zc _ _ _ h.1 hx,dH h.2 λk hk=>hx.5 k (h.2.lt k hk).2⟩;have fr:∀x,iA<|λy=>lu w2 y/\R? y w.1.size 75 1 x ss.length vs:=λx y τ h=>⟨lu.free _ _ _ h.1,h.2⟩;refine M5 (i:=9) k! d!<|VW q? l! _ id st fr (λ_ _ h=>h.1) (λy hy=>?_) λx=>?_
  .obtain⟨τ,hx⟩:=id hy;refine BH _ _ 118 q? _ 75 i8 _ 24 oN a0 a1 a2 a4 q? (.slice x? 0 0) 0 [] q? (Z9 _ _ _ _) _ _ q? (Rd.below (w:=tp w2 τ) ba hx) aD ?c1 ?c2 (ZE ac.o.4 hx.4) ?_
   case c1=>rw[HVL.o];omega
   case c2=>rw[HVL.o];unfold la;omega
   intro v3 w3 ad af br;rw[ZD,E!,HVL.o]at ad;have aH:gR y w3:=⟨af.1,af.2,af.3,af.4,λk hk=>af.5 k hk<|by simp[wd]⟩;exact⟨aH,v3,q?,lu.zc _ _ _ hy aH,ad⟩
  refine ew 10 ?_ ?_ (ew 11 ?_ ?_ ?_ (hC:=st x) (hT:=fr x)) (hC:=st x) (hT:=fr x)
  any_goals(intro y hy;exact x!)
  refine sJ k! (λt=>GG k! _ _) ?_;intro y ⟨hy,ad⟩ ht;have hx:=xS hy ht;have ak:=h!<|dJ ak<|λk hk=>hx.5 k (ak.o.lt k hk).2;have Y:=h!<|(hx.5 g<|eN Y).trans Y;have ac:=h!<|ac.o.trans<|hx.mono ac.o.4;clear hy ht hx ap aG st fr;obtain⟨a3,c3,rfl,bs⟩:=dC ad;have bd:=dx Y;have be:=dO Y 1;apply pX q? rfl;unfold lO;go_simp;apply uX;clear bd be;have ay:=LV ac Y ak ad ⟨q?,q?,q?,Zu _,λ_ _ _=>rfl⟩ bc;obtain⟨w4,aI⟩:∃w4,w4=y.setCell ⟨g,1,x?⟩ (.slice a3 ss.length c3):=⟨_,q?⟩;rw[<-aI]at ay⊢;have al:=h! ay;clear ay ad aI;have aJ:C? w4 ⟨g,1,x?⟩=y? (.slice a3 ss.length c3):=by rw[dx al.o.2];rfl
  have bt:=al.o.1.4;go_wp2_with (at_builtin;go_must (refine dU _ q? _ _ 118 q? _ 75 i8 _ 24 oN a0 a1 a2 a4 q? _ _ _ q? (al.o.3.alloc _) _ [.slice aU l.length cU] q? ?k0 ?k9 ?k1 ?k2 ?k3 ?_))
  case k0=>go_light;exact Rd.one<|jn q?
  case k9=>intro u hu;simp at hu;subst hu;rfl
  case k1=>simp;omega
  case k2=>simp[la];omega
  case k3=>simp;omega
  intro v6 w6 az aK bf;obtain⟨a6,c6,rfl,bu⟩:=dC az;have am:=Ky al az aK;have bi:C? w6 ⟨g,1,x?⟩=y? (.slice a3 ss.length c3):=by rw[dx am.1];rfl
  have bj:=dO am.1 1;have ae:=h! am.2;clear am az aK bf aJ;by_cases h6:6<l? ss+1
  .have bg:(6:Int)<(l? ss:Int)+1:=o!;have U:J?<|iT J ss B.1.1=(4,ss):=h!<|by rw[HU.o,if_neg ah,if_pos<|.inl h6]
   have aL:=h! ae.o.1;go_wp2;go_ret;refine⟨dQ (by rw[U.o];rfl),?_,dy.eF aL⟩;rw[U.o];exact kH HR HF aL
  have bg:¬((6:Int)<(l? ss:Int)+1):=o!;have aM:C? (w6.setCell ⟨g,1,x?⟩<|.slice a6 (l? ss+1) c6) ⟨g,1,x?⟩=y? (.slice a6 (l? ss+1) c6):=by rw[dx ae.o.2];rfl
  have aN:=Cg HF HZ ae<|M8 a5 aZ;have bh:=ae.o.1.4;go_wp2_with fail;apply aN.mono;rintro e w8 ⟨u8,rfl,aO,ag⟩;obtain⟨a8,c8,rfl,bv⟩:=dK aO;have aP:=h!<|ae.o.1.trans<|ag.mono bh;have bk:=Z0 ag aM;clear aN aO;by_cases aQ:30<(dV (ss++[l]) []).length
  .have aR:(30:Int)<((dV (ss++[l]) []).length:Int):=o!;have U:J?<|iT J ss B.1.1=(4,ss):=h!<|by rw[HU.o,if_neg ah,if_pos<|.inr aQ]
   clear ag;go_wp2;go_ret;refine⟨dQ (by rw[U.o];rfl),?_,dy.eF aP⟩;rw[U.o];exact kH HR HF aP
  have aR:¬((30:Int)<((dV (ss++[l]) []).length:Int)):=o!
  have U:J?<|iT J ss B.1.1=(0,ss++[l]):=by show iT _ _ _=_;rw[HU.o,if_neg ah,if_neg (by rintro(h|h);exact h6 h;exact aQ h)]
  have ab:=Vd HF HH a7 aX aY HZ ae ag;have bl:C? w8 ⟨b,1,x?⟩=y? (.slice aS ss.length cS):=by rw[dx ab.1];rfl
  have bm:=dO ab.1 1;have aT:=h! ab.2;clear ab ag;go_wp2;go_ret;refine⟨dQ (by rw[U.o];rfl),?_⟩;rw[U.o];exact aT
def XK{s}(n:b?)(J:n.size<=la):XX 110 (λp=>#[p,s? n]) s (n? i? (iT s.b s.s n.1.1).1) ⟨s.b,(iT s.b s.s n.1.1).2,s.t⟩:=
 λ_ _ _ h hF B=>(W9 _ _ _ _ _ n _ hF h B J).mono λ_ _ ⟨O,U,V⟩=>⟨O,U,V,Hp B _⟩
def Zaz{s}(n):XX 108 (λp=>#[p,n? i? n]) s (.tuple #[s? ⟨(jW s.s n).1.toArray⟩,n? i? (jW s.s n).2]) s:=
 λ_ _ _ h hF B=>(Xm _ _ _ _ _ n _ h B.4).mono λ_ _ ⟨O,J⟩=>⟨O,kH h hF J,.eF J,B⟩
def K2(O:∀e∈C,oX e)(B:l? C<=1048576)(U:(C.map λe=>l? e.3).sum<=1048576):(⟨(oq C).toArray⟩:b?).size<=la:=by show(oq C).toArray.size<=_;rw[eg];unfold oq la;rw[w!,Zh];have h1:=Du ((eY C).filter λe=>e.2)<|λe J=>O e<|jG.1 (Zb.1 J).1;have V:((eY C).filter λe=>e.2).length<=(eY C).length:=No _ _;have W:((eY C).filter λe=>!e.2).length<=(eY C).length:=No _ _;rw[uV]at V W;have Y:=Cy (oU C) ((eY C).filter λe=>!e.2) [] []<|λe J=>O e<|jG.1 (Zb.1 J).1;have h5:oU C*(((eY C).filter λe=>!e.2).length*3145743)<=2097153*(1048576*3145743):=hU (by unfold oU;omega)<|IN _ o!;have h6:=IN 1048577<|ZE V B;simp only[F!]at Y;omega
def Rp(w:w?)(v:v?):Prop:=∃B:E?,jB w 5 v B.length (dG B)/\(∀e∈B,oX e)/\l? B<=1048576/\(B.map λe=>l? e.3).sum<=1048576
def Rp.low(h:Rp o I)(B:pP o p):Rp p I:=by obtain⟨l,J,O⟩:=h;exact⟨l,J.low B,O⟩
def VM{c K aL made}(h:PS o p c f I P x0 J U x1 x3)(hi)(hx:x3[i].x=y0)(hy:x3[i].y=y0)(ho:VG z4 z5 K z3 x2 y3)(hL:Rp p<|.slice aL y2 y5)(h2:6<=y6)(h5:y6<=8) :
  ld prog 77 #[.agg #[p?<|y? ⟨x3[i].1,0,x?⟩,p?<|y? ⟨x3[i].2,0,x?⟩],.agg<|GQ y6 z3 z4 z5 K x2 y3 (.slice aL y2 y5) made] p λe w'=>e=e? (.bool t?)/\∃c' s',s'.t=y0.t/\PS o w' c' f I P x0 J U x1 (x3.set i ⟨x3[i].1,x3[i].2,s',s'⟩):=by
 have hk:y6=6\/y6=7\/y6=8:=o!;let ⟨c1,h1,z1,z2,Y,p2,B,ad⟩:=(h.ma hi hx hy).two (c? #[p?<|y? ⟨x3[i].1,0,x?⟩,p?<|y? ⟨x3[i].2,0,x?⟩] 122)<|c? (GQ y6 z3 z4 z5 K x2 y3 (.slice aL y2 y5) made) 77;generalize x3[i].1=b1 at *;generalize x3[i].2=b2 at *;have H1:=h! h1;have d1:=dx Y;have d2:=dx p2;let ⟨lE,l1,l2,l3,l4⟩:=hL.low ad;have aa:i<(x3.set i ⟨b1,b2,y0,y0⟩).length:=by rwa[cK]
 have O:=H1.x i aa;have V:=H1.y i aa;rw[tq]at O V;clear h hx hy h2 h5 h1 ad hL aa;unfold GQ at *;obtain rfl|rfl|rfl:=hk
 .obtain⟨F1,F2,hA,_⟩:=O;obtain⟨F,⟨vB,vS,vT,hh,_,_,⟨vs,_,ae,_,_⟩,_⟩,_,_⟩:=V;obtain⟨aS,cS,rfl,_⟩:=dC ae;have d3:=dx hh;have C:=hA.CP;clear ae hh;go_enter qr,pt;go_wp2_with fail;apply g! C;clear C;go_wp2;go_ret;exact⟨dW i!,_,_,q?,H1⟩
 .clear O V l1 l2 l3 l4;have HX:=h!<|Za0 (s:=y0) z4;have HY:=h!<|Zaz (s:=y0) z4;generalize (⟨(jW y0.s z4).1.toArray⟩:b?)=dS at *;generalize (jW y0.s z4).2=dN at *;have af:(dS.toList==dS.toList)=t?:=i!;go_enter qr,pt;go_wp2_with fail;apply (H1.opX hi HX).mono;rintro e w1 ⟨rfl,c2,h2,z⟩;have q1:=dx<|(z.2 _ o! z1).1.trans Y;have q2:=dx<|(z.2 _ o! z2).1.trans p2;have H2:=h! h2;clear h2 z d1 d2 Y p2 H1;go_wp2_with fail;apply (H2.opY hi HY).mono;rintro e w2 ⟨rfl,c3,h3,_⟩;have H3:=h! h3;clear h3 H2 q1 q2;go_wp2_with fail;apply g!<|uR _ _;go_wp2;go_ret;exact⟨dW i!,_,_,q?,H3⟩
 clear O V
 obtain rfl:y2=l? lE:=by obtain⟨a',c',he,_⟩:=id l1;simp only[wi]at he;exact he.2.1
 cases made
 case' false=>have HX:=h!<|Yc (s:=y0) x2 ho.s;have HY:=h!<|XK (s:=y0) x2 ho.s;clear l1 l2 l3 l4;go_enter qr,pt;go_wp2_with fail;have HP:=h! H1
 case' true=>have C:=Gr _ lE _ l1 l2 l3 l4;have ab:=K2 l2 l3 l4;generalize (⟨(oq lE).toArray⟩:b?)=pk at *;have HX:=h!<|Yc (s:=y0) pk ab;have HY:=h!<|XK (s:=y0) pk ab;clear l1 l2 l3 l4 ab;go_enter qr,pt;go_wp2_with fail;apply C.mono;rintro e w9 ⟨rfl,W⟩;have ac:=pP.of W;have HP:=h!<|H1.same ac 0;have Y:=(W.5 _ o!).trans Y;have p2:=(W.5 _ o!).trans p2;have z1:=(jm (m:=0)<|AT (o!:p.1.size<p.1.size+2) B).trans z1;have z2:=(jm (m:=0)<|AT (o!:p.1.size+1<p.1.size+2) B).trans z2;have B:=ZE B ac.2;have d1:=dx Y;have d2:=dx p2;clear C W ac;go_wp2_with fail
 all_goals
  apply (HP.opX hi HX).mono;rintro e w1 ⟨rfl,c2,h2,z⟩;have q1:=dx<|(z.2 _ o! z1).1.trans Y;have q2:=dx<|(z.2 _ o! z2).1.trans p2;have H2:=h! h2;clear h2 z d1 d2 Y p2 H1 HP;go_wp2_with fail;apply (H2.opY hi HY).mono;rintro e w2 ⟨rfl,c3,h3,_⟩;have H3:=h! h3;clear h3 H2 q1 q2;go_wp2_with fail;apply g!<|uR _ _;go_wp2;go_ret;refine⟨dW i!,_,_,?_,H3⟩;rfl
open Conc Maps
def MM(m)(w):ld prog 46 #[n? i? m] w λe w'=>e=e? (.bool<|decide<|0<=m/\m<=3)/\w=w':=by
 by_cases B:0<=m
 case' pos=>by_cases J:m<=3
 all_goals
  go_enter func46,ntmps46;go_wp2;go_ret;exact⟨dW j!,q?⟩
def AW.PV{Z:oJ prog}{fn}{tm:V?}{os:List OF}{k:List Item}{b}{ts:List<|W?}{ops:Array Oper}{rest:List Nat}(hi:ops[i]?=y? x7)(h:AW x4 p y7 z6 b C x8 ts)(h5:5<=x4.1.size)(aa:qv p)
  (hm:J<=3) (ht:y2<=255) (ac:1<=y5) (ad:y5<=20) (hq:eh x2.1.1=t?)
  (hn:∀(w2)(u)(L:E?),AW x4 w2 y7 z6 b C x8 ts->pP p w2->L.Perm ((dV x8 C).filter<|Ask.has ⟨J,⟨(dP x2.1.1).toArray⟩,y2⟩)->(L.Pairwise λx y=>fw x y=t?)->R? w2 p.1.size 9 1 u ((L.take y5).map jV).length (du<|(L.take y5).map jV)->dv (jj Z o x9) (⟨fn,fV x7.1 tm<|.tuple #[u,n? i? 0],r? ops rest::k⟩::os) w2 []) :
  dv (jj Z o x9) (⟨17,#[p?<|y? ⟨b,0,x?⟩,n? i? J,s? x2,n? i? y2,n? i? y5,B3,B3,B3,B3,B3,B3,B3,B3,B3,B3,B3,B3,B3,B3,B3,B3,B3,B3,B3,B3,B3,B3,B3,B3,B3,B3,B3,B3,B3,B3,B3,B3,B3,B3,B3,B3,B3,B3,B3,B3,B3,B3,B3,B3,B3,B3,B3,B3,B3,B3,B3,B3,B3,B3,B3,B3,B3,B3,B3,B3,B3,B3],[.code<|eG f17]⟩::⟨fn,tm,r? ops (i::rest)::k⟩::os) p []:=by
 obtain⟨⟨h1,h2,h3,Bb,vS,B,n,vK,kn,h4,h6⟩,k1,k2,k3⟩:=id h
 have ae:x2.size<=1000:=by
  have:=l9 hq;have e:x2.size=l? x2.1.1:=by show x2.1.size=_;rw[ko]
  omega
 have af:=ZE h5 k3.2;have hI:=h4.7;have ao:=pf hI
 have ag:∀e∈C,l? e.1<=65536/\l? e.3<=1048576/\(e.2=f?->0<=e.5/\e.5<=255):=λe he=>by
  have O:=hI.1 e he;have h1:=(iq<|tX O).2;refine⟨o!,(yM O).2,λe0=>?_⟩;obtain O|O:=O
  exact⟨O.2.2.2.2.2.2.1,O.2.2.2.2.2.2.2⟩;rw[O.1]at e0;cases e0
 let ⟨P,ah,ai⟩:=UX hI
 have W:∃sa sc,vS=.slice sa x8.length sc/\((sa=x?/\l? x8=0)\/∃sb so c f,sa=y? ⟨sb,so,x?⟩/\5<=sb/\p.1[sb]?=y? (c? c 9 f)/\∀j,j<l? x8->c[so+j]?=y? (s? ⟨(fc<|x8.getD j []).toArray⟩)):=by
  obtain⟨rfl,h0⟩|⟨g,cap,cur,rfl,_,O,c1,c2,c3,c4⟩:=h4.5.2
  exact⟨x?,0,by rw[h0],.inl ⟨q?,h0⟩⟩;refine⟨_,cap,q?,.inr ⟨g,0,cur,_,q?,ZE h5<|k1 g<|h4.6 g q?,O,λj U=>?_⟩⟩;have Y:=fI (x8.map fc) j<|u! U;rw[<-c4,Zi,if_pos<|u! U]at Y
  have e1:(x8.map fc)[j]'(u! U)=fc (x8.getD j []):=by rw[z?,AS,BY U];rfl
  rw[e1]at Y;simpa using Y
 let ⟨sa,sc,aj,ak⟩:=W;refine Qc hi aj h4.1 h4.4 (ZE h5<|k1 Bb h4.3) ⟨ak,hI.5,λj U=>?_,λA _=>ai A⟩ o! ag hm ht ac ad hq ae (λe he O y hy=>?_) af ?_;have e1:x8.getD j []=x8[j]:=by rw[AS,BY U];rfl
 have hl:=r7<|hI.4 _<|Zw U;let ⟨ps,qs,q1,q2⟩:=ah j U;simp only[e1];have e2:(⟨(fc x8[j]).toArray⟩:b?).size=(fc x8[j]).length:=by simp[oA]
 rw[e2];exact⟨o!,ps,qs,q1,q2⟩;exact SH (yq hI he) y (MB aa hy) (by have:=hy 4 o!;rw[Z1 (o!:4<p.1.size)]at this;have:=(AI.1 this).1;omega);intro w2 v hb hz ho ab;obtain⟨L,al,am,u,rfl,an⟩:=ab;have V:pP p w2:=⟨ho,hz,hb⟩;apply hn w2 u L (h.same V) V al am;rwa[Z5]
def AW.Zbp{Z fn}{tm:V?}{os k b}{ts:List<|W?}{ops rest xs tys mode dY most}(h:AW x4 p y7 z6 b C x8 ts)(h5:5<=x4.1.size)(O:qv p)(aa:x2.size<=la)
  (hn:∀(w2)(u),pP p w2->R? w2 p.1.size 9 1 u (kW (dV x8 C) mode x2.1.1 dY most).1.length (du (kW (dV x8 C) mode x2.1.1 dY most).1)->dv (jj Z o x9) (⟨fn,fV x7.1 tm<|.tuple #[u,n? i? (kW (dV x8 C) mode x2.1.1 dY most).2],r? ops rest::k⟩::os) w2 [])
  (hi:ops[i]?=y? x7:=by rfl) (ab:sA x7 (lo ops tm)=t?:=by rfl) (ho:x7.2=.call {callee:=.value<|.func 17,args:=xs,argTypes:=tys}:=by rfl) (ac:∀x∈xs.1,eI (jj Z o x9).7 (jj Z o x9).5 x:=by simp[eI,Plain])
  (ha:xs.map (mE tm)=#[p?<|y? ⟨b,0,x?⟩,n? i? mode,s? x2,n? i? dY,n? i? most]:=by kernel_rfl):dv (jj Z o x9) (⟨fn,tm,r? ops (i::rest)::k⟩::os) p []:=by
 have ad:xs.size=5:=by have:=congrArg Array.size ha;simpa using this
 refine dv.su (#[p?<|y? ⟨b,0,x?⟩,n? i? mode,s? x2,n? i? dY,n? i? most,B3,B3,B3,B3,B3,B3,B3,B3,B3,B3,B3,B3,B3,B3,B3,B3,B3,B3,B3,B3,B3,B3,B3,B3,B3,B3,B3,B3,B3,B3,B3,B3,B3,B3,B3,B3,B3,B3,B3,B3,B3,B3,B3,B3,B3,B3,B3,B3,B3,B3,B3,B3,B3,B3,B3,B3,B3,B3,B3,B3,B3,B3]:V?) (iI:=f17) (c:=eG f17) hi ab rx k! QB ho ac (by rw[ha,ad];kernel_rfl) ?_;clear ha ab ho ac ad;have hI:Inv C x8:=by obtain⟨_,_,_,_,_,_,_,_,_,h4,_⟩:=h.j;exact h4.7
 by_cases B:¬(mode<0\/3<mode\/dY<0\/255<dY\/most<1\/20<most)/\eh x2.1.1=t?
 .obtain⟨hb,Y⟩:=B;obtain⟨m,rfl⟩:=N? (o!:0<=mode);obtain⟨t,rfl⟩:=N? (o!:0<=dY);obtain⟨n,rfl⟩:=N? (o!:0<=most);refine h.PV hi h5 O o! o! o! o! Y λw2 u L _ V hp hs U=>?_;rw[IF (zu hI) (λe he=>(yq hI he).1) o! o! o! o! Y hp hs]at U;have h2:=hn w2 u V U;rwa [show(kW (dV x8 C) m x2.1.1 t n).2=0 by unfold kW;rw[if_neg hb,if_pos Y]]at h2
 have ae:(J? (kW (dV x8 C) mode x2.1.1 dY most=([],3))/\((decide<|0<=mode/\mode<=3)=f?\/(decide<|0<=mode/\mode<=3)=t?/\(dY<0\/¬dY<0/\(255<dY\/¬255<dY/\(decide<|1<=most/\most<=20)=f?))))\/(J? (kW (dV x8 C) mode x2.1.1 dY most=([],2))/\(decide<|0<=mode/\mode<=3)=t?/\¬dY<0/\¬255<dY/\(decide<|1<=most/\most<=20)=t?/\eh x2.1.1=f?):=by simp only[decide_eq_false_iff_not,decide_eq_true_eq];by_cases hb:mode<0\/3<mode\/dY<0\/255<dY\/most<1\/20<most;exact .inl ⟨by show _=_;unfold kW;rw[if_pos hb],o!⟩;have Y:¬eh _=t?:=λh=>B ⟨hb,h⟩;exact .inr ⟨by show _=_;unfold kW;rw[if_neg hb,if_neg Y],o!,o!,o!,o!,u! Y⟩
 clear B;have c1:=λy=>MM mode y;have c2:=λy=>Bf most y;have c3:=λy=>qC x2 y aa;generalize decide (0<=mode/\mode<=3)=d1 at *;generalize decide (1<=most/\most<=20)=d2 at *;generalize eh x2.1.1=d3 at *;have HN:=h! hn;have HC:=h!<|A? c1<|A? c2 c3;clear hn c1 c2 c3 h hI O h5 aa;show dv _ (⟨_,_,[.code<|.seq (.region 0 _ f?)<|.seq (.seq (.region 1 _ f?)<|.cond _ (.seq (.region 2 _ f?) .ret) .skip)<|.seq (.seq (.region 3 _ f?)<|.cond _ (.seq (.region 4 _ f?) .ret) .skip) _]⟩::_) _ _;refine dv.sr λW J=>?_
 (iterate 2 (refine fH ?_;go_simp));apply dv.ie J;clear J W;refine dv.seq<|gD λW J y V=>?_;have HL:=h! V;clear V;obtain⟨HE,rfl|⟨rfl,e1|⟨e1,e2|⟨e2,rfl⟩⟩⟩⟩|⟨HE,rfl,e1,e2,rfl,rfl⟩:=ae
 all_goals
  go_wp2_with fail;apply g!<|HC.1 _;go_wp2_with (first|(go_at_call 47;apply g!<|HC.2.1 _));apply eV J;clear J W
 rotate_right;refine dv.ni trivial (congrArg _ (j!:(decide _ || decide _)=f?)) (dv.skip<|dv.seq<|gD λW J y2 V=>?_);have HL:=h!<|HL.trans V;clear V;go_wp2_with fail;apply g!<|HC.2.2 _;go_wp2;apply eV J;clear J W
 all_goals
  refine dv.rG trivial (by first|rfl|exact congrArg Value.bool (j!:(decide (dY<0) || decide (255<dY))=t?)) (dv.sr λW J=>?_)
  (iterate 2 (refine fH ?_;go_simp));apply dv.ie J;clear J W;have h2:=HN.o _ _ HL (by rw[HE.o];exact Z9 _ _ _ _);rw[HE.o]at h2;exact dv.back (.inr ⟨_,q?⟩) rx hi (λτ=>by simp[lf,results17,go_sem]) h2
end
section
open RowKit
section
variable {f:E?}{g i:Nat}
def Iq:Option Nat->Int
 |none=>-1|some b=>(b:Int)
def lenOf:v?->Nat
 |.slice _ n _=>n|_=>0
def MW{ok b told}(h:ib f ok g []=told++ib f ok (g-l? told) told)(J:l? told<g)(hb:jY f (λi=>ok i && !told.contains i) f.length=y? b) :
  ib f ok g []=(told++[b])++ib f ok (g-(told++[b]).length) (told++[b]):=by
 rw[h];obtain⟨r,B⟩:∃r,g-l? told=r+1:=⟨g-l? told-1,o!⟩;rw[B,ib,hb,(j!:g-(told++[b]).length=r)];simp
def ME{ok told}(h:ib f ok g []=told++ib f ok (g-l? told) told)(hb:jY f (λi=>ok i && !told.contains i) f.length=x?):ib f ok g []=told:=by
 rw[h]
 cases g-told.length with
 |zero=>simp[ib]|succ r=>rw[ib,hb];simp
def LD{ok told}(h:ib f ok g []=told++ib f ok (g-l? told) told)(B:¬told.length<g):ib f ok g []=told:=by rw[h,(o!:g-l? told=0)];simp[ib]
def Xz{ok}(h:ok i=f?):jY f ok (i+1)=jY f ok i:=by rw[jY];cases jY f ok i<;>simp[h]
def LP{ok}(h:ok i=t?)(hb:jY f ok i=x?):jY f ok (i+1)=y? i:=by rw[jY,hb];simp[h]
def RV{ok b}(h:ok i=t?)(hb:jY f ok i=y? b):jY f ok (i+1)=if fw (f.getD i je) (f.getD b je)=t? then y? i else y? b:=by rw[jY,hb];simp[h]
def Q9{t j}:((cC<|j+1).all λi=>zy t g i)=(((cC j).all λi=>zy t g i)&&((t / 2 ^ j % 2==0) || (g / 2 ^ j % 2==1))):=by rw[D!,List.all_append];simp[zy]
def tc(l:E?)(told:List Nat):List Wd:=told.map λi=>jV<|l.getD i je
def xu(n:Nat)(told:List Nat):List v?:=(cC n).map λi=>.bool<|told.contains i
def Rl(n):(madeCells #[Value.bool f?] n).1=xu n []:=by rw[CJ];unfold jK xu;apply List.ext_getElem<;>simp
def Fq{told}(h:i<g):(xu g told)[i]?=y? (.bool<|told.contains i):=by unfold xu;rw[ZZ,de h];rfl
def R4{told b}(h:b<g):(xu g told).set b (.bool t?)=xu g (told++[b]):=by apply ep;intro j;unfold xu;rw[List.getElem?_set];simp only[ZZ,Z5,fB];by_cases e:b=j;subst e;simp[h,de h];rw[if_neg e];by_cases B:j<g;rw[de B];simp[Ne.symm e];rw[ZA j!];rfl
end
section
open Conc
def Zag(B:Region.Mode)(ops:Array Oper):Nat->List Nat->List Nat
 |0,acc=>acc|n+1,acc=>Zag B ops n (if acc.any (λk=>(vO B ops k).contains n)then n::acc else acc)
def OP{ops md last}:∀(n)(acc),(∀i∈acc,i=last\/XQ md ops last i)->∀i∈Zag md ops n acc,i=last\/XQ md ops last i
 |0,_,h=>h|n+1,acc,h=>OP n _ (by
  intro i B;split at B;rename_i V;obtain rfl|B:=Zm.1 B
  obtain⟨k,W,Y⟩:=C!.1 V;obtain⟨o,e,J,O,U,rfl⟩:=Cr<|List.contains_iff_mem.1 Y;obtain rfl|ha:=h k W
  exact .inr (.base J O U);exact .inr (.step ha J O U);exact h i B
  exact h i B)
def XZ(B:Region.Mode)(ops:Array Oper)(last:Nat)(listed:Array Bool)(i:Nat):Bool:=sB ops&&te B ops listed i&&(s8 B ops listed).contains i&&(Zag B ops last [last]).contains i&&i != last&&OJ B ops listed
def eJ{P ops md last tl Sd}(i)(v){oi fuel listed C a}(O:∀y,C y->lO P oi a y (λu U=>gR y U/\u=v))
  (h:WS P md ops last tl Sd fuel (S? listed i t?) C<|a.put oi.1 v) (B:ops[i]?=y? oi:=by rfl) (hb:XZ md ops last listed i=t?:=by kernel_rfl) (hC:gp gR C:=by exact lu.zc _) (hT:iA C:=by exact lu.free _)
  (V:sA oi (lo ops a.1)=t?:=by rfl):WS P md ops last tl Sd (fuel+1) listed C a:=by
 simp only[XZ,IT]at hb;obtain⟨⟨⟨⟨⟨W,Y⟩,h3⟩,h4⟩,J⟩,h6⟩:=hb;exact IK B ((OP last [last] (λi B=>.inl<|u! B) i<|u! h4).resolve_left<|u! J) (u! J) (Region.noSelect_spec W) fuel listed C a (NT h6) (λj oj a b c d=>.inl<|Region.free_spec B Y j oj a b c d) (u! h3) hC hT (.inl ⟨V,O⟩) h
end
def Xn{e}(h:Es e){N:Nat}(B:e.4=N):(⟨(jV e).toArray⟩)=(⟨a? e.1⟩:b?)++⟨#[32]⟩++⟨(oE N).toArray⟩++⟨#[32]⟩++⟨a? e.3⟩/\
  (⟨a? e.1⟩:b?).size<=1000/\(⟨a? e.3⟩:b?).size<=1000/\(⟨(oE N).toArray⟩:b?).size<=7/\N<=1000000:=by
 have hb:N<=1000000:=by have:=h.2.2.2.2.2.1;omega
 refine⟨?_,?_,?_,?_,hb⟩;rw[XF];simp[jV,B];have:=(AN h).1;show e.1.toArray.size<=_;simp;omega;have:=(AN h).2;show e.3.toArray.size<=_;simp;omega;have:=JG 7 N o! o!;show(oE N).toArray.size<=_;simpa using this
def BB{F:F?}{b vB vS vT}{am:E?}{ss:List<|E?}{m t n:Nat}{qb:b?}{w}(hh:w.1[b]?=y? (c? #[vB,vS,vT] 120 (0,0)))(a9:kX w F vB am)(a':Cc w F vS ss)(hI:Inv am ss)
  (hm:m<=3) (ht:t<=255) (b5:1<=n) (hn:n<=20) (hq:eh qb.1.1=t?) (aV:qb.size<=1048576) {L:E?} (hL:L=dV ss am) :
  ld prog 111 #[p?<|y? ⟨b,0,x?⟩,n? i? m,s? qb,n? i? t,n? i? n] w λe w'=>∃v,e=e? (.tuple #[v,n? i? 0])/\
   R? w' w.1.size 9 1 v (ib L (λi=>pT m t qb.1.1<|L.getD i je) n []).length (du<|tc L<|ib L (λi=>pT m t qb.1.1<|L.getD i je) n [])/\Below w.1.size w w':=by
 have aA:J? (ld prog 143 #[p?<|y? ⟨b,0,x?⟩] w λe w'=>∃u,e=e? u/\R? w' w.1.size 202 5 u L.length (dG L)/\Below w.1.size w w'):=by rw[hL];exact uB F b vB vS vT am ss w hh a9 a' (by have:=xg hI;simp[gO]at this⊢;omega)<|v!<|pf hI
 have aB:J?<|(L.map eE.name).Nodup:=by rw[hL];exact zu hI
 have aw:J? (∀e∈L,Es e):=by rw[hL];exact λe he=>yq hI he
 have bw:l? L<=30:=by rw[hL];exact hI.7
 obtain⟨ok,ax⟩:∃ok:Nat->Bool,ok=λi=>pT m t qb.1.1<|L.getD i je:=⟨_,q?⟩;rw[<-ax];have aW:=h! ax;clear ax hL hh a9 a' hI;have b6:(0:Int)<=m:=o!;have b7:(m:Int)<=3:=o!;have b8:(0:Int)<=t:=o!;have b9:(t:Int)<=255:=o!;have b':(1:Int)<=n:=o!;have bA:(n:Int)<=20:=o!;let ⟨i4,aX,aY,aZ,hx2⟩:=Zz XJ;let ⟨i9,ba,bc,bd,be⟩:=Zz rH;go_enter re,p5;go_wp2_with fail;apply g!<|gY qb _ (by unfold la;omega);rw[hq];go_wp2_with fail;apply aA.o.mono;rintro e w1 ⟨u,rfl,an,O⟩;obtain⟨au,cu,rfl,bB⟩:=dK an;have hz1:=O.4;clear aA;go_wp2_with (at_make;go_must (refine wpList_make_full _ q? _ _ 209 q? w.1.size 4 i4 _ 1 underlying209 aX aY aZ _ _ _ _ _ q? q? q? q? ?m1 ?m2 ?m3 ?_))
 case m1=>rw[hx2];omega
 case m2=>unfold la;omega
 case m3=>exact hz1
 intro w5 ay az;rw[Rl]at ay;have aC:=h!<|dJ an<|λk U=>az.5 k (an.lt k U).2 i!;have aD:=h!<|O.grown az hz1 i!;have aE:J? _:=ay;clear ay az an O hz1;generalize w1.1.size=g at *;go_wp2;go_loopw [14] (λv wr=>∃told:List Nat,l? told<=n/\ib L ok n []=told++ib L ok (n-l? told) told/\R? wr w.1.size 4 1 (.slice (y? ⟨g,0,x?⟩) L.length L.length) L.length (xu L.length told)/\R? wr w.1.size 9 1 v told.length (du<|tc L told)/\R? wr w.1.size 202 5 (.slice au L.length cu) L.length (dG L)/\Below w.1.size w wr) (λv _=>n-(lenOf v));exact⟨[],i!,i!,aE.o,Z9 _ _ _ _,aC.o,aD.o⟩;obtain⟨told,bC,aF,aG,ag,aH,B⟩:=hrel;obtain⟨aR,cR,rfl,bD⟩:=dC ag;have HP:=h! aF;have HU:=h! aG;have HO:=h! ag;have HR:=h! aH;have HB:=h! B;clear aF aG ag aH B aC aD aE;by_cases aI:l? told<n
 .have b0:(l? told:Int)<(n:Int):=o!;obtain⟨Y,ar⟩:∃Y:Nat->Bool,Y=λi=>ok i && !told.contains i:=⟨_,q?⟩;have HT:=h! ar;clear ar;generalize wr=wo at *;go_wp2;go_loopw [16,17] (λbv iv wr=>∃i:Nat,i<=l? L/\iv=n? i? i/\bv=n? i? (Iq (jY L Y i))/\Below wo.1.size wo wr) (λ_ i _=>l? L-(intOf i).toNat);exact⟨0,o!,q?,q?,nr _ _⟩;obtain⟨i,hi,rfl,rfl,B⟩:=hrel;have V:=h! B;by_cases ai:i<l? L
  .have b3:(i:Int)<(l? L:Int):=o!;obtain⟨bl,off,rfl,d0,d1,d2,d3,d4⟩:=jo ((jB.eo HR.o).below B) i ai;let ⟨bu,ou,aj,hu⟩:=eM HU.o i _<|Fq ai;simp only[m?,O!]at aj;obtain⟨rfl,rfl,_⟩:=aj;rw[ZD]at hu;have hu:=Z0 B hu;have HE:=h!<|aw.o _<|Zw ai;have a0:J?<|L.getD i je=L[i]:=h!<|by rw[AS,BY ai];rfl
   obtain⟨tg,hg⟩:∃tg:Nat,L[i].5=tg:=⟨L[i].5.toNat,by have:=HE.o.2.2.2.2.2.2.1;omega⟩;have bf:tg<=255:=by have:=HE.o.2.2.2.2.2.2.2;omega
   have a1:J?<|L[i].3.length<=1048576:=ZE (AN HE.o).2 o!
   have ao:J?<|Y i=(nB t tg&&iz m (dP qb.1.1) (dP L[i].3) && !told.contains i):=by show _=_;rw[HT.o];show(ok i&&_)=_;rw[aW.o];show(pT _ _ _ (L.getD i je)&&_)=_;rw[a0.o];unfold pT dF;rw[hg];rfl
   have aJ:J? (∀y,ld _ 152 _ y λee w'=>ee=e? (.bool<|iz m _<|dP L[i].3)/\Below _ y w'):=λy=>SS m qb ⟨L[i].3.toArray⟩ y hm aV (by show L[i].3.toArray.size<=_;simpa using a1.o);rw[hg]at d4;have aK:J?<|vN L[i]=.agg #[s? ⟨L[i].1.toArray⟩,.bool L[i].2,s? ⟨L[i].3.toArray⟩,n? i? L[i].4,n? i? (tg:Int)]:=h!<|by rw[<-hg];rfl
   clear hg B;generalize told.contains i=tl at *;generalize iz m (dP qb.1.1) (dP L[i].3)=ft at *;generalize hx:L[i]=x at *;have HX:=h! hx;clear hx;obtain⟨nm,gn,tx,wt,aL⟩:=x;simp only at d0 d1 d2 d3;go_wp2;go_loopw [18,19] (λhv bv wy=>∃j:Nat,j<=8/\bv=n? i? ((2 ^ j:Nat):Int)/\hv=.bool ((cC j).all λi=>zy t tg i)/\wy=wr) (λ_ b _=>256-(intOf b).toNat);exact⟨0,o!,q?,q?,q?⟩;obtain⟨j,hj,rfl,rfl,rfl⟩:=hrel;by_cases bE:j<8
   .have hp:0<2 ^ j/\2 ^ j<=128:=⟨Nat.two_pow_pos j,hH o! (o!:j<=7)⟩;have HM:=h!<|Q9 (t:=t) (g:=tg) (j:=j);have aM:2 ^ (j+1)=2*2 ^ j:=by rw[i2,Nat.mul_comm]
    generalize 2 ^ j=p at *;generalize aN:2 ^ (j+1)=p2 at *;have bF:(p:Int)≠0:=o!;have bG:(p:Int)<256:=o!;have bH:IntKind.i64.wrap (2*(p:Int))=((p2:Nat):Int):=by simp only[X?];omega
    have q1:(t:Int).tdiv (p:Int)=((t / p:Nat):Int):=by rw[si o!];rfl
    have q2:(tg:Int).tdiv (p:Int)=((tg / p:Nat):Int):=by rw[si o!];rfl
    have b1:t / p<=255:=ZE (i0 _ _) ht;have b2:tg / p<=255:=ZE (i0 _ _) bf;generalize t / p=d1 at *;generalize tg / p=d2 at *;generalize aO:(gx (cC<|j+1) λi=>zy t tg i)=nw at *;generalize (gx (cC j) λi=>zy t tg i)=od at *;have w1:IntKind.i64.wrap (d1:Int)=(d1:Int):=by simp only[X?];omega
    have w2:IntKind.i64.wrap (d2:Int)=(d2:Int):=by simp only[X?];omega
    have HZ:J?<|p2=2*p/\2 ^ (j+1)=p2:=⟨aM,aN⟩;have bg:=h! aO;have r1:(d1:Int).tmod 2=((d1 % 2:Nat):Int):=by rw[sg o!];rfl
    have r2:(d2:Int).tmod 2=((d2 % 2:Nat):Int):=by rw[sg o!];rfl
    have s1:d1 % 2=0\/d1 % 2=1:=o!;have s2:d2 % 2=0\/d2 % 2=1:=o!;generalize d1 % 2=m1 at *;generalize d2 % 2=m2 at *;clear aM aN aO;have ak:J? (∀v,nw=v->(∃j:Nat,j<=8/\Value.int i? _=n? _ ((2 ^ j:Nat))/\Value.bool v=.bool ((cC j).all _)/\True)/\256-(intOf<|n? i? p2).toNat<256-(intOf<|n? i? p).toNat):=λv hv=>⟨⟨j+1,o!,by rw[HZ.o.2],by rw[bg.o,hv],t!⟩,by have:=HZ.o.1;simp[intOf];omega⟩
    cases od with
    |false=>go_wp2;exact ak.o _ HM.o
    |true=>
     obtain rfl|rfl:=s1
     go_wp2;exact ak.o _ HM.o;obtain rfl|rfl:=s2
     all_goals
      go_wp2;exact ak.o _ HM.o
   obtain rfl:j=8:=o!;rw[<-RH o!];generalize nB t tg=hs at *;go_wp2_with fail;apply (aJ.o _).mono;rintro ee wf ⟨rfl,aa⟩;have y0:=Z0 aa d0;have y1:=Z0 aa d1;have y2:=Z0 aa d2;have y3:=Z0 aa d3;have y4:=Z0 aa d4;have hu:=Z0 aa hu;have ae:=h!<|V.o.trans<|aa.mono V.o.4;clear aa d0 d1 d2 d3 d4 aJ V;cases tl<;>cases hs<;>cases ft
   case false.true.true=>
    cases W:jY L Y i with
    |none=>have HN:=h!<|LP (by rw[ao.o];rfl) W;rw[show Iq x? = -1 from rfl];clear W;go_wp2;exact⟨⟨i+1,o!,by go_num,by rw[HN.o];rfl,ae.o⟩,by simp[intOf];omega⟩
    |some bb=>
     let ⟨O,_,_⟩:=wF aB.o i bb o! W;have a2:bb<l? L:=o!;have HN:=h!<|RV (by rw[ao.o];rfl) W;have av:=ae.o;let ⟨bI,b4,aP,e0,e1,e2,e3,e4⟩:=jo ((jB.eo HR.o).below av) bb a2;simp only[m?,O!]at aP;obtain⟨rfl,rfl,_⟩:=aP;have HC:J? (∀y,ld _ 153 #[vN ⟨nm,gn,tx,wt,aL⟩,vN _] y _):=λy=>RO _ _ y a1.o<|ZE (AN<|aw.o _<|Zw a2).2 o!;rw[a0.o,show L.getD bb je=L[bb] by rw[AS,BY a2];rfl]at HN;rw[aK.o]at HC;generalize fw ⟨nm,gn,tx,wt,aL⟩ L[bb]=ah at *;generalize L[bb]=z at *;obtain⟨bJ,bK,bL,bM,bN⟩:=z;unfold vN at HC;simp only at e0 e1 e2 e3 e4 HC;rw[show Iq _=bb from rfl];have bh:(bb:Int)<(l? L:Int):=o!;clear av W aK ao a0 HX HE a1;go_wp2_with fail;refine jS (Sd:=λa y=>y.2=wf.2->qP _ _ _ [8,9] a y) (last:=8) (tl:=[9]) k! ?_<|λa y h ht=>h ht;refine ew 0 ?_ ?_<|ew 1 ?_ ?_<|ew 2 ?_ ?_<|ew 3 ?_ ?_ ?_
     any_goals(intro y J;have q0:=eT J y0;have q1:=eT J y1;have q2:=eT J y2;have q3:=eT J y3;have q4:=eT J y4;exact x!)
     go_simp;refine ew 4 ?_ ?_<|ew 5 ?_ ?_<|ew 6 ?_ ?_<|ew 7 ?_ ?_ ?_
     any_goals(intro y J;have q0:=eT J e0;have q1:=eT J e1;have q2:=eT J e2;have q3:=eT J e3;have q4:=eT J e4;exact x!)
     go_simp;refine sJ k! (λt=>Gd k! k! _ _) ?_;intro y J ht;have hF:=HC.o y;have a3:=h!<|ae.o.trans<|Below.mono (xS J ht) ae.o.4;clear J ht y0 y1 y2 y3 y4 e0 e1 e2 e3 e4 HC ae hu;apply pX q? rfl;unfold lO;go_simp;refine⟨q?,hF.mono ?_⟩;rintro ee y3 ⟨rfl,aQ⟩;have bi:=h!<|a3.o.trans<|aQ.mono a3.o.4;clear hF aQ a3;refine⟨_,q?,?_⟩;apply pX q? rfl;unfold lO;go_simp;apply uX;cases ah
     all_goals
      go_wp2;exact⟨⟨i+1,o!,by go_num,by rw[HN.o];rfl,bi.o⟩,by simp[intOf];omega⟩
   all_goals
    have HN:J?<|jY L Y _=jY L Y i:=Xz (by rw[ao.o];rfl);go_wp2;exact⟨⟨i+1,o!,by go_num,by rw[HN.o],ae.o⟩,by simp[intOf];omega⟩
  obtain rfl:i=l? L:=o!;have bO:¬(l? L:Int)<(l? L:Int):=o!;clear B ai hi
  cases W:jY L Y L.length with
  |none=>have HF:=h! (ME HP.o<|by rwa[<-HT.o]);rw[show Iq x? = -1 from rfl];have bj:=h!<|dH HO.o λk U=>V.o.5 k (HO.o.lt k U).2;have ap:=h!<|HB.o.trans<|V.o.mono HB.o.4;clear W;go_wp2;go_ret2;refine⟨_,q?,?_,ap.o⟩;rw[HF.o];exact bj.o
  |some bb=>
   let ⟨O,_,_⟩:=wF aB.o _ bb (Zu _) W;have bk:=h! (MW HP.o aI<|by rwa[<-HT.o]);have HE:=h!<|aw.o _<|Zw O
   have bm:J?<|tc L (told++[bb])=tc L told++[jV L[bb]]:=by show _=_;unfold tc;rw[Z4];simp[AS,BY O]
   obtain⟨N,hN⟩:∃N:Nat,L[bb].4=N:=⟨L[bb].4.toNat,by have:=HE.o.2.2.2.2.1;omega⟩;let ⟨r1,r2,r3,r4,r5⟩:=Xn HE.o hN;have ad:=h!<|dH HU.o λk U=>V.o.5 k (HU.o.lt k U).2;have a4:=h!<|dH HO.o λk U=>V.o.5 k (HO.o.lt k U).2;have a5:=h!<|dJ HR.o λk U=>V.o.5 k (HR.o.lt k U).2;have ap:=h!<|HB.o.trans<|V.o.mono HB.o.4;let ⟨bu,ou,aj,hu⟩:=eM ad.o bb _<|Fq O;simp only[m?,O!]at aj;obtain⟨rfl,rfl,_⟩:=aj;rw[ZD]at hu;have bn:=mB ad.o bb;obtain⟨ws,al⟩:∃ws,wr.setCell ⟨g,bb,x?⟩ (.bool t?)=ws:=⟨_,q?⟩;have af:J?<|R? ws w.1.size 4 1 (.slice (y? ⟨g,0,x?⟩) L.length L.length) L.length<|xu L.length<|told++[bb]:=by rw[<-al,<-R4 O];exact rF ad.o bb _ O
   have ab:J?<|R? ws w.1.size 9 1 (.slice aR told.length cR) told.length<|du<|tc L told:=by rw[<-al];exact jR a4.o _ _ (by obtain h|h:=jh a4.o ad.o d!;rw[h];simp;exact h)
   have ac:J?<|R? ws w.1.size 202 5 (.slice au L.length cu) L.length<|dG L:=by rw[<-al];exact dJ a5.o λk U=>ZH _ _ _ _ λe=>fX a5.o ad.o d! k U (by rw[e];rfl)
   have HBS:J?<|Below w.1.size w ws:=by rw[<-al];exact ap.o.setCell (ad.o.lt g q?).1 _
   obtain⟨bl,off,rfl,e0,_,e2,e3,_⟩:=jo (jB.eo ac.o) bb O;rw[hN]at e3;have HD:J? _:=λy=>Nd N y o!;obtain⟨lb,a6⟩:∃lb:b?,lb=⟨(jV L[bb]).toArray⟩:=⟨_,q?⟩;have bo:=h! a6;rw[<-a6]at r1;have bp:=h! r1;rw[show Iq _=bb from rfl];have bh:(bb:Int)<(l? L:Int):=o!;clear W hN a6 r1 HU HO HR HP HT V ad a4 a5 ap HE;generalize (⟨L[bb].1.toArray⟩:b?)=nb at *;generalize (⟨L[bb].3.toArray⟩:b?)=tb at *;generalize (⟨(oE N).toArray⟩:b?)=db at *;have q1:¬(9223372036854775807<nb.size+1):=o!;have q2:¬(9223372036854775807<nb.size+1+db.size):=o!;have q3:¬(9223372036854775807<nb.size+1+db.size+1):=o!;have q4:¬(9223372036854775807<nb.size+1+db.size+1+tb.size):=o!;go_wp2;clear al hu bn;refine jS (Sd:=λa y=>y.2=ws.2->qP _ _ _ [22,23] a y) (last:=22) (tl:=[23]) k! ?_<|λa y h ht=>h ht;refine eJ 0 ?_ ?_<|eJ 1 ?_ ?_<|eJ 2 ?_ ?_<|eJ 3 ?_ ?_<|eJ 4 ?_ ?_<|eJ 5 ?_ ?_<|eJ 6 ?_ ?_ ?_
   any_goals(intro y J;have q:=eT J e0;exact x!)
   refine eJ 7 ?_ ?_<|eJ 8 ?_ ?_<|eJ 9 ?_ ?_<|eJ 10 ?_ ?_<|eJ 11 ?_ ?_ ?_
   any_goals(intro y J;have q:=eT J e3;exact x!)
   refine eJ 12 ?_ ?_ ?_;rotate_left
   .intro y J;exact y!<|HD.o y
   refine eJ 13 ?_ ?_<|eJ 14 ?_ ?_<|eJ 15 ?_ ?_<|eJ 16 ?_ ?_<|eJ 17 ?_ ?_<|eJ 18 ?_ ?_<|eJ 19 ?_ ?_<|eJ 20 ?_ ?_ ?_
   any_goals(intro y J;have q:=eT J e2;exact x!)
   go_simp;refine M5 (i:=21) k! d!<|Jo (λg=>.slice (y? ⟨g,0,x?⟩) 1 1) (λg y=>C? y ⟨g,0,x?⟩=y? (s?<|nb++⟨#[32]⟩++db++⟨#[32]⟩++tb)) q? (lu.zc _) (lu.free _) (λ_=>eL _ _) (λ_ _ _ h=>h) l! ?_ λg'=>?_
   .intro y J;unfold lO;go_simp;exact⟨gR.alloc _ _,q?,by rw[Zl _ _ _ _ rfl];rfl⟩
   refine sJ k! (λt=>Gd k! k! _ _) ?_;intro y ⟨J,aS⟩ ht;rw[<-bp.o]at aS;have hx:=xS J ht;have af:=h!<|dH af.o λk U=>hx.5 k (af.o.lt k U).2;have ab:=h!<|dH ab.o λk U=>hx.5 k (ab.o.lt k U).2;have ac:=h!<|dJ ac.o λk U=>hx.5 k (ac.o.lt k U).2;have HBS:=h!<|HBS.o.trans<|hx.mono HBS.o.4;clear J ht hx e0 e2 e3 HD;apply pX q? rfl;refine BH _ _ 31 q? _ 9 i9 _ 16 rb ba bc bd be q? _ _ _ q? ab.o _ _ q? (Rd.one aS) ?c00 ?c1 ?c2 ?c3 ?_
   case c00=>intro u hu;simp at hu;subst hu;rfl
   case c1=>simp;omega
   case c2=>unfold la;simp;omega
   case c3=>exact HBS.o.4
   intro v8 w8 a7 aq bq;have aT:=HBS.o.4;have br:=h!<|HBS.o.grown aq aT λk U=>(ab.o.lt k U).1;have bs:=h!<|af.o.kept aq<|jh af.o ab.o d!
   have bt:=h! (dJ ac.o λk U=>by rw[aq.5 k (ac.o.lt k U).2<|λe=>fX ac.o ab.o d! k U e.symm])
   have aU:J?<|R? w8 w.1.size 9 1 v8 (l? told+1)<|du<|tc L<|told++[bb]:=by show World.ownsRow _ _ _ _ _ _ _;rwa[bm.o,iN,<-bo.o]
   obtain⟨a8,c8,rfl,_⟩:=dC aU.o;clear a7 aq bq aT ab HBS af ac;apply pX q? rfl;unfold lO;go_simp;apply uX;go_wp2;exact⟨⟨told++[bb],j!,bk.o,bs.o,by rw[Zh];exact aU.o,bt.o,br.o⟩,by simp[lenOf];omega⟩
 have bP:¬(l? told:Int)<(n:Int):=o!;have HF:=h!<|LD HP.o aI;go_wp2;go_ret2;refine⟨_,q?,?_,HB.o⟩;rw[HF.o];exact HO.o
def KC{F:F?}{b}{B:E?}{ss:List<|E?}{ts:List<|W?}{mode dY most}{J:b?}{w}(hR:lc w F b B ss ts)(hI:Inv B ss)(U:J.size<=la) :
  ld prog 111 #[p?<|y? ⟨b,0,x?⟩,n? i? mode,s? J,n? i? dY,n? i? most] w λe w'=>∃v,e=e? (.tuple #[v,n? i? (kW (dV ss B) mode J.1.1 dY most).2])/\
   R? w' w.1.size 9 1 v (kW (dV ss B) mode J.1.1 dY most).1.length (du (kW (dV ss B) mode J.1.1 dY most).1)/\B? w w':=by
 by_cases hb:mode<0\/3<mode\/dY<0\/255<dY\/most<1\/20<most
 .have e:kW (dV ss B) mode J.1.1 dY most=([],3):=by unfold kW;rw[if_pos hb]
  rw[e];have hc:mode<0\/(¬mode<0/\3<mode)\/(¬mode<0/\¬3<mode/\dY<0)\/(¬mode<0/\¬3<mode/\¬dY<0/\255<dY)\/(¬mode<0/\¬3<mode/\¬dY<0/\¬255<dY/\most<1)\/(¬mode<0/\¬3<mode/\¬dY<0/\¬255<dY/\¬most<1/\20<most):=o!;clear hb e;obtain c|⟨c,d⟩|⟨c,d,f⟩|⟨c,d,f,g⟩|⟨c,d,f,g,h⟩|⟨c,d,f,g,h,i⟩:=hc
  all_goals
   go_enter re,p5;go_wp2;go_ret2;exact⟨_,q?,Z9 _ _ _ _,nr _ _⟩
 by_cases O:eh J.1.1=t?;obtain⟨m,rfl⟩:=N? (o!:0<=mode);obtain⟨t,rfl⟩:=N? (o!:0<=dY);obtain⟨n,rfl⟩:=N? (o!:0<=most);have hz:=(Pn O).1;rw[ko]at hz;obtain⟨vB,vS,vT,hh,_,V,W,_⟩:=hR
 have e:kW (dV ss B) m J.1.1 t n=(tc (dV ss B)<|ib (dV ss B) (λi=>pT m t J.1.1<|(dV ss B).getD i je) n [],0):=by unfold kW;rw[if_neg hb,if_pos O];rfl
 rw[e];have h:=BB hh V W hI (m:=m) (t:=t) (n:=n) o! o! o! o! O (ZE hz o!) rfl;unfold tc at h⊢;simp only[Z5]at h⊢;exact h;have e:kW (dV ss B) mode J.1.1 dY most=([],2):=by unfold kW;rw[if_neg hb,if_neg O]
 rw[e];have Y:eh J.1.1=f?:=by simpa using O
 have h1:¬mode<0/\¬3<mode/\¬dY<0/\¬255<dY/\¬most<1/\¬20<most:=o!;obtain⟨c1,c2,c3,c4,c5,c6⟩:=h1;clear hb e O;go_enter re,p5;go_wp2_with fail;apply g!<|gY J _ U;rw[Y];go_wp2;go_ret2;exact⟨_,q?,Z9 _ _ _ _,nr _ _⟩
open Conc Maps
section
variable {f o p i:Nat}{g l:w?}
def pP.tape(h:pP g l)(τ:Tape):pP g<|tp l τ:=⟨h.1,h.2,h.3⟩
def Pr(l:E?)(mode)(q)(dY most):(kW l mode q dY most).1.length<=20:=by
 unfold kW;split;simp;split;rw[Z5];rename_i h _
 have:∀(l:E?)(ok:Nat->Bool)(n:Nat)(t:List Nat),(ib l ok n t).length<=n:=by
  intro l ok n;induction n with
  |zero=>intro t;simp[ib]|succ n B=>intro t;rw[ib];split;simp;have:=B<|t++[‹Nat›];simp;omega
 exact ZE (this _ _ _ _) o!;simp
def ML{Z:oJ prog}{Mp:F?}{fn}{tm:V?}{os:List OF}{w0}{k:List Item}{c:Nat->Nat}{va vl vm}{us:L?}{ms:W?}{es:List DJ}{s}{ops:Array Oper}{rest:List Nat}{o j W N M K}{S T:b?}{aL:Option Addr}{nL cL made}(hi:ops[i]?=y? o)(h:PS w0 l c f va vl vm p us ms es)(hj:j<l? es)(hx:es[j].x=s)(hy:es[j].y=s)(h5:5<=w0.1.size)(ab:qv l)(ho:VG N M K W S T)(B:p<=1073741824)(hu:l? us<=17179869184)
  (hn:∀w2 c' ad ae ac af,PS w0 w2 c' f va ad ae (p+1) ac af es->l? ac=l? us+9->dv (jj Z g Mp) (⟨fn,fV o.1 tm<|.bool t?,r? ops rest::k⟩::os) w2 []) :
  dv (jj Z g Mp) (⟨78,#[p?<|y? ⟨f,0,x?⟩,.agg #[p?<|y? ⟨es[j].1,0,x?⟩,p?<|y? ⟨es[j].2,0,x?⟩],.agg<|GQ 9 W N M K S T (.slice aL nL cL) made,B3,B3,B3,B3,B3,B3,B3,B3,B3,B3,B3,B3,B3,B3,B3,B3,B3,B3,B3,B3,B3,B3,B3,B3,B3,B3,B3,B3,B3,B3,B3,B3,B3,B3,B3,B3,B3,B3,B3,B3,B3,B3,B3,B3,B3,B3,B3,B3,B3,B3,B3,B3,B3,B3,B3,B3,B3,B3,B3,B3,B3,B3,B3,B3,B3,B3,B3,B3,B3,B3,B3,B3,B3,B3,B3,B3,B3,B3,B3,B3,B3,B3,B3,B3,B3,B3,B3,B3,B3,B3,B3,B3,B3,B3,B3,B3,B3,B3,B3,B3,B3,B3,B3,B3,B3,B3,B3,B3,B3,B3],[.code<|eG f78]⟩::⟨fn,tm,r? ops (i::rest)::k⟩::os) l []:=by
 unfold GQ;obtain⟨F1,F2,hA,_⟩:=h.x j hj;obtain⟨F,hR,hF,hI⟩:=h.y j hj;rw[hx]at hA;rw[hy]at hR hI;generalize es[j].1=b1 at *;generalize es[j].2=b2 at *;have H:=h!<|A? h<|A? h5<|A? ab<|A? ho<|A? B<|A? hu hn;have HA:=h! hA;have HR:J? (lc l F b2 s.b s.s s.t/\Inv s.b s.s/\∀k,F k->k<l.1.size):=⟨hR,hI,λk hk=>(hF k hk).1⟩;clear h hx hy h5 ab ho B hu hn hA hR hI hF;show dv _ (⟨_,_,[.code<|.seq (.region 0 _ f?)<|.seq (.seq (.region 1 _ f?)<|.block 0<|.seq (.region 2 _ f?)<|.cond _ (.seq (.region 3 _ f?)<|.seq (.region 4 _ f?)<|.seq (.region 5 _ f?)<|.seq (.region 6 _ f?)<|.seq (.region 7 _ f?) .ret) _) _]⟩::_) _ _;refine gD λV J y B=>?_;have hz:=B.2;have HL:J?<|pP l<|(y.alloc<|c? #[p?<|y? ⟨b1,0,x?⟩,p?<|y? ⟨b2,0,x?⟩] 122).alloc<|c? #[n? i? 9,n? i? W,n? i? N,n? i? M,n? i? K,s? S,s? T,.slice aL nL cL,.bool made] 77:=B.trans<|.of<|((nr _ _).alloc (Zu _) _).alloc i! _;have p1:((y.alloc<|c? #[p?<|y? ⟨b1,0,x?⟩,p?<|y? ⟨b2,0,x?⟩] 122).alloc<|c? #[n? i? 9,n? i? W,n? i? N,n? i? M,n? i? K,s? S,s? T,.slice aL nL cL,.bool made] 77).1[y.1.size]?=_:=(e! _ _ _ i!).trans<|sK _ _;have p2:=sK (y.alloc<|c? #[p?<|y? ⟨b1,0,x?⟩,p?<|y? ⟨b2,0,x?⟩] 122)<|c? #[n? i? 9,n? i? W,n? i? N,n? i? M,n? i? K,s? S,s? T,.slice aL nL cL,.bool made] 77;clear B;go_wp2;apply eV J;clear J V;have am:∃P O:Nat,P=y.1.size/\O=y.1.size+1:=⟨_,_,q?,q?⟩;rw[(i!:(y.alloc _).1.size=y.1.size+1)]at p2;generalize ((y.alloc<|c? #[p?<|y? ⟨b1,0,x?⟩,p?<|y? ⟨b2,0,x?⟩] 122).alloc<|c? #[n? i? 9,n? i? W,n? i? N,n? i? M,n? i? K,s? S,s? T,.slice aL nL cL,.bool made] 77)=w1 at *;generalize y.1.size+1=O at *;generalize y.1.size=Pb at *;clear am;have HP:J? (∀y,pP w1 y->(∀o,C? y _=_)/\∀o,C? y _=_):=λy B=>⟨dx<|(B.3 _<|eN p1).trans p1,dx<|(B.3 _<|eN p2).trans p2⟩;clear p1 p2;refine dv.seq<|gD λV J y B=>?_;have HY:=h! B;let ⟨d1,d2⟩:=HP.o y B;clear B;go_wp2;apply eV J;clear J V d1 d2;refine dv.block<|gD λV J y2 B=>?_;have HY:=h!<|HY.o.trans B;clear B;go_wp2;apply eV J;clear J V;refine dv.rG trivial q? (dv.sr λV J=>?_)
 (refine fH ?_;go_simp);refine ud q? l! k! λτ=>?_;have q:=(HP _<|HY.o.tape τ).1;unfold lO;go_simp;simp only[iR];apply dv.qg τ;clear q
 (refine fH ?_;go_simp);refine ud q? l! k! λτ=>?_;have q:=(HP _<|HY.o.tape τ).2;unfold lO;go_simp;simp only[iR];apply dv.qg τ;clear q
 (refine fH ?_;go_simp);refine ud q? l! k! λτ=>?_;have q:=(HP _<|HY.o.tape τ).2;unfold lO;go_simp;simp only[iR];apply dv.qg τ;clear q
 (refine fH ?_;go_simp);refine ud q? l! k! λτ=>?_;have q:=(HP _<|HY.o.tape τ).2;unfold lO;go_simp;simp only[iR];apply dv.qg τ;clear q
 (refine fH ?_;go_simp);refine ud q? l! k! λτ=>?_;have q:=(HP _<|HY.o.tape τ).2;unfold lO;go_simp;simp only[iR];apply dv.qg τ;clear q;refine AW.Zbp (mode:=N) (dY:=M) (most:=K) (HA.o.same<|HL.o.trans HY) H.o.2.1 (Hi ⟨H.o.2.2.1,ZE H.o.2.1 HA.o.4.2⟩<|HL.o.trans HY) H.o.2.2.2.1.s λw3 u B U=>?_;have ag:=h!<|HY.o.trans B;have U:=eH U (HL.o.trans HY).2;have C:=λy (B:pP l y)=>KC (mode:=N) (dY:=M) (most:=K) (HR.o.1.stay λk hk=>B.3 k<|HR.o.2.2 k hk) HR.o.2.1 H.o.2.2.2.1.s;have kO:=Pr (dV s.s s.b) N S.1.1 M K;generalize (kW (dV s.s s.b) N S.1.1 M K).1=ah at *;generalize (kW (dV s.s s.b) N S.1.1 M K).2=code at *;have Y:=h! U;obtain⟨ua,uc,rfl,_⟩:=dC U;clear B U;rw[kA];go_simp
 (iterate 5 (refine fH ?_;go_simp));apply dv.ie J;clear J V;have HC:=h! C;clear C HA HR;refine gD λV J y4 B=>?_;have aa:=h!<|ag.o.trans B;have Y:=h!<|dH Y λk hk=>B.3 k (Y.o.lt k hk).2;let ⟨d1,d2⟩:=HP.o y4 aa;clear B ag HY;go_wp2_with fail;apply (HC y4<|HL.o.trans aa).mono;rintro e w5 ⟨v,rfl,hv,hb⟩;have ai:=h!<|aa.o.trans<|.of hb;have Y:=h!<|dH Y λk hk=>hb.5 k (Y.o.lt k hk).2;have HV:=h! hv;obtain⟨an,vc,rfl,_⟩:=dC hv;clear hb hv HC aa d1 d2;go_wp2;apply eV J;clear J V;refine gD λV J y6 B=>?_;have aj:=h!<|ai.o.trans B;have Y:=h!<|dH Y λk hk=>B.3 k (Y.o.lt k hk).2;have C:=JU _ _ ah y6 (Rd.eo Y) (Rd.eo<|dH HV λk hk=>B.3 k (HV.o.lt k hk).2) o!;clear B HV ai;go_wp2_with fail;apply C.mono;rintro e w7 ⟨rfl,nq,rfl⟩;have ak:=h!<|aj.o.trans<|.of<|lx (nr _ _) nq;have Y:J?<|R? (y6.drewN nq) _ 9 1 _ _ _:=Y.o;clear C aj;generalize y6.drewN nq=w7 at *;go_wp2;apply eV J;clear J V;refine gD λV J y8 B=>?_;have C:=T6 H.o.1 ((HL.o.trans ak).trans B) (dH Y λk hk=>B.3 k (Y.o.lt k hk).2) H.o.2.2.2.2.1 H.o.2.2.2.2.2.1 o!;clear B Y ak;go_wp2_with fail;apply C.mono;rintro e w9 ⟨rfl,_,c',ad,ae,ac,af,hp,al⟩;have H9:=h!<|A? hp al;clear C hp al;go_wp2;apply eV J;clear J V;refine gD λV J ao B=>?_;have H9:=h!<|A? (H9.o.1.same B 0) H9.o.2;clear B;go_wp2_with fail;apply g!<|uR _ _;go_wp2;apply eV J;clear J V;refine dv.back (v:=.bool t?) (.inr ⟨_,q?⟩) pi hi (λτ=>by simp[lf,pv,go_sem]) ?_;exact H.o.2.2.2.2.2.2 _ _ _ _ _ _ H9.o.1 H9.o.2
def UH(M:Nat)(es:List DJ):Prop:=∀e∈es,e.x=e.y/\eK e.x.t<=M
def WM(w0 w:w?)(B last n u M:Nat):Prop:=∃c U V W J O ms es,PS w0 w c B U V W J O ms es/\J<=last+1/\l? O<=u+9/\n<=l? es/\l? es<=n+1/\UH (M+25) es
def UH.mono{es}(h:UH f es)(hm:f<=o):UH o es:=λe B=>⟨(h e B).1,ZE (h e B).2 hm⟩
def UH.set{es s}(h:UH f es)(B:eK s.t<=f):UH f<|es.set i ⟨o,p,s,s⟩:=λe J=>by
 obtain O|rfl:=e6 J
 exact h e O;exact⟨q?,B⟩
def BF:f78.1≠ "runtime.NumGoroutine":=by have:f78.1 = "(*hint/hintlaw.World).tells":=k!;rw[this];decide
def PF(w:w?)(a:Option Addr)(n:Nat):Prop:=∀k,k<n->∃b off kind W N M K S T aL nL cL made,a=y? ⟨b,off,x?⟩/\(∀j,j<9->C? w ⟨b,off+k*9+j,x?⟩=(GQ kind W N M K S T (.slice aL nL cL) made)[j]?)/\VG N M K W S T/\Rp w (.slice aL nL cL)
def PF.low{a}(h:PF g a f)(B:pP g l):PF l a f:=λk J=>by obtain⟨b,off,kind,W,N,M,K,S,T,aL,nL,cL,made,O,U,V,Y⟩:=h k J;refine⟨b,off,kind,W,N,M,K,S,T,aL,nL,cL,made,O,λj hj=>?_,V,Y.low B⟩;have:=U j hj;rw[<-this];have hs:(GQ kind W N M K S T (.slice aL nL cL) made).size=9:=rfl;rw[Z1<|by rwa[hs]]at this;exact(gS B this).trans this.symm
def R5(w0 w:w?)(B k:Nat):Prop:=∃c O U V last J ms es,PS w0 w c B O U V last J ms es/\last<=k/\l? J<=9*k/\1<=l? es/\l? es<=10/\UH (25*k) es
def Tz(V:Int)(X:w?->Prop):Prop:=∀(Z:oJ prog)(U:w?)(Mp:F?)(fn:mm)(tm:V?)(os:List OF)(wl w0:w?)(k:List Item)(c:Nat->Nat)(B:Nat)(Y vl vm:v?)(last:Nat)(J:L?)(ms:W?)(es:List DJ)(ops:Array Oper)(i:Nat)(rest:List Nat)(o:Oper)(O:Nat)(kind W N M K:Int)(S T:b?)(aL:Option Addr)(nL cL:Nat)(made:Bool),ops[i]?=y? o->PS w0 wl c B Y vl vm last J ms es->1<=l? es->l? es<=9->UH O es->O<=16777216->5<=w0.1.size->X w0->VG N M K W S T->Rp wl (.slice aL nL cL)->last<=1073741824->l? J<=17179869184->kind=1\/2<=kind/\kind<=V->
 (∀w2,WM w0 w2 B last es.length J.length O->dv (jj Z U Mp) (⟨fn,fV o.1 tm<|.bool t?,r? ops rest::k⟩::os) w2 [])->
 dv (jj Z U Mp) (⟨41,#[p?<|y? ⟨B,0,x?⟩,.agg<|GQ kind W N M K S T (.slice aL nL cL) made,B3,B3,B3,B3,B3,B3,B3,B3,B3,B3,B3,B3,B3,B3,B3,B3,B3,B3,B3,B3,B3,B3,B3,B3,B3,B3,B3,B3,B3,B3,B3,B3,B3,B3,B3,B3,B3,B3,B3,B3,B3,B3,B3,B3,B3,B3,B3,B3,B3],[.code<|eG f41]⟩::⟨fn,tm,r? ops (i::rest)::k⟩::os) wl []
def R2:f41.1≠ "runtime.NumGoroutine":=by have:f41.1 = "(*hint/hintlaw.World).step":=k!;rw[this];decide
def TY(c:Code):Code:=match c with
 |.seq _ (.seq _<|.seq _<|.seq _<|.seq (.seq _<|.block _<|.loop x) _)=>x|_=>.skip
def OS(c:Code):Code:=match c with
 |.seq _ (.seq _<|.seq _<|.seq _<|.seq (.seq _<|.block _<|.loop _) y)=>y|_=>.skip
def MC{Z:oJ prog}{Mp:F?}{fn}{tm:V?}{os:List OF}{k:List Item}{ops:Array Oper}{rest:List Nat}{o}{a:Option Addr}{B hi}{X:w?->Prop}(bc:ops[i]?=y? o)(bd:Tz hi X)(h5:5<=l.1.size)(hX:X l)(hs:PF l a f)(bq:f<=600000)
  (hn:∀w2,pP l w2->dv (jj Z g Mp) (⟨fn,fV o.1 tm<|.bool t?,r? ops rest::k⟩::os) w2 []) :
  ∀(d m)(w)(a3 a4 a5 a6 a8 ab ac ad ae af ag ah ai aj ak al am an ao ap aq ar au aw ax ay az a0 a1 a2 a7 a9 a' aA aB aC aD aE aF aG aH aI aJ aK aM aN aO aP aQ aR aS aT aU aV aW aX aY aZ ba),f=m+d->R5 l w B m->
   dv (jj Z g Mp) (⟨13,#[.slice a f p,n? i? 2,n? i? hi,a3,a4,a5,a6,p?<|y? ⟨B,0,x?⟩,a8,n? i? (m:Int),ab,ac,ad,ae,af,ag,ah,ai,aj,ak,al,am,an,ao,ap,aq,ar,au,aw,ax,ay,az,a0,a1,a2,a7,a9,a',aA,aB,aC,aD,aE,aF,aG,aH,aI,aJ,aK,aM,aN,aO,aP,aQ,aR,aS,aT,aU,aV,aW,aX,aY,aZ,ba],[.code<|TY<|eG qz,.inLoop<|TY<|eG qz,.inBlock 0,.code<|OS<|eG qz]⟩::⟨fn,tm,r? ops (i::rest)::k⟩::os) w []:=by
 have H:=h!<|A? bd<|A? h5<|A? hX<|A? hs hn;clear bd h5 hX hs hn;intro d;induction d with
 |zero=>intro m w a3 a4 a5 a6 a8 ab ac ad ae af ag ah ai aj ak al am an ao ap aq ar au aw ax ay az a0 a1 a2 a7 a9 a' aA aB aC aD aE aF aG aH aI aJ aK aM aN aO aP aQ aR aS aT aU aV aW aX aY aZ ba hm hR;obtain⟨c,va,vl,vm,last,us,ms,es,aa,_⟩:=hR;obtain rfl:f=m:=hm;have HP:=h! aa;clear aa;show dv _ (⟨_,_,.code (.seq (.seq (.region 6 _ f?)<|.cond _ .skip<|.exit 0) _)::_⟩::_) _ _;refine dv.seq<|gD λV O y J=>?_;have HL:=h!<|HP.o.3.trans J;have br:¬(f:Int)<(f:Int):=o!;clear J HP;go_wp2;apply eV O;clear O V;refine dv.ni trivial q? ?_;apply dv.exit (k':=[.code<|OS<|eG qz]) rfl;show dv _ (⟨_,_,[.code<|.seq (.region 14 _ f?) .ret]⟩::_) _ _;refine gD λV O y2 J=>?_;have HL:=h!<|HL.o.trans J;clear J;go_wp2;apply eV O;exact dv.back (v:=.bool t?) (.inr ⟨_,q?⟩) ry bc (λτ=>by simp[lf,results13,go_sem])<|H.o.2.2.2.2 _ HL
 |succ d ih=>
  intro m w a3 a4 a5 a6 a8 ab ac ad ae af ag ah ai aj ak al am an ao ap aq ar au aw ax ay az a0 a1 a2 a7 a9 a' aA aB aC aD aE aF aG aH aI aJ aK aM aN aO aP aQ aR aS aT aU aV aW aX aY aZ ba hm hR;obtain⟨c,va,vl,vm,last,us,ms,es,aa,bs,bt,be,bf,hq⟩:=hR;have HP:=h! aa;have HQ:=h! hq;have HM:=h! hm;have bu:(m:Int)<(f:Int):=o!;clear aa hq;show dv _ (⟨_,_,.code (.seq (.seq (.region 6 _ f?)<|.cond _ .skip<|.exit 0)<|.seq (.block 1<|.seq (.region 8 _ f?)<|.seq (.region 9 _ f?)<|.cond _ (.seq (.region 10 _ f?)<|.seq (.region 11 _ f?)<|.seq (.region 12 _ f?)<|.cond _ (.seq (.region 13 _ f?) .ret) .skip) .skip)<|.region 7 _ f?)::_⟩::_) _ _;refine dv.seq<|gD λV O y J=>?_;have HP:=h!<|HP.o.same J 0;obtain⟨av,cv,rfl,_⟩:=dK HP.o.1.4;have d0:=dx HP.o.1.1;clear J hm;by_cases bp:l? es<10
  case neg=>have bi:¬(l? es:Int)<10:=o!;go_wp2;apply eV O;clear O V d0;refine dv.ni trivial (by first|rfl|exact congrArg Value.bool<|decide_eq_false o!) ?_;apply dv.exit (k':=[.code<|OS<|eG qz]) rfl;show dv _ (⟨_,_,[.code<|.seq (.region 14 _ f?) .ret]⟩::_) _ _;refine gD λV O y2 J=>?_;have HL:=h!<|HP.o.3.trans J;clear J;go_wp2;apply eV O;exact dv.back (v:=.bool t?) (.inr ⟨_,q?⟩) ry bc (λτ=>by simp[lf,results13,go_sem])<|H.o.2.2.2.2 _ HL
  have bi:(l? es:Int)<10:=o!;go_wp2;apply eV O;clear O V d0;refine dv.rG trivial q? (dv.skip<|dv.seq<|dv.block<|gD λV O y2 J=>?_);have HP:=h!<|HP.o.same J 0;obtain⟨b,off,kind,W,N,M,K,S,T,aL,nL,cL,made,rfl,U,bg,bh⟩:=(H.o.2.2.2.1.low HP.o.3) m o!;have c0:C? y2 ⟨b,off+m*9,x?⟩=y? (n? _ kind):=U 0 o!;have HO:=h! bg
  have HC:J? (∀y,pP y2 y->C? y ⟨b,off+m*9,x?⟩=y? (n? i? kind)/\C? y _=y? (n? i? W)/\C? y _=y? (n? i? N)/\C? y _=y? (n? i? M)/\C? y _=y? (n? i? K)/\C? y _=y? (s? S)/\C? y _=y? (s? T)/\C? y _=y? (.slice aL nL cL)/\C? y _=y? (.bool made)/\Rp y _):=λy J=>⟨gS J<|U 0 o!,gS J<|U 1 o!,gS J<|U 2 o!,gS J<|U 3 o!,gS J<|U 4 o!,gS J<|U 5 o!,gS J<|U 6 o!,gS J<|U 7 o!,gS J<|U 8 o!,bh.low J⟩
  clear J U bg bh;go_wp2;apply eV O;clear O V c0;refine gD λV O y3 J=>?_;have H3:=h! J;clear J;by_cases hk:kind=1\/2<=kind/\kind<=hi
  case neg=>
   have n1:(kind==1)=f?:=by rw[beq_eq_false_iff_ne];omega
   have HR:J?<|R5 l y3 B<|m+1:=⟨_,_,_,_,_,_,_,_,HP.o.same H3 0,o!,o!,be,bf,HQ.o.mono o!⟩;have Y:kind<2\/2<=kind/\hi<kind:=o!;obtain h2|⟨h2,h3⟩:=Y
   all_goals
    go_wp2;apply eV O;clear O V;refine dv.ni trivial (by first|rfl|exact congrArg _<|decide_eq_false o!) (dv.skip<|dv.inBlock<|dv.region ?_)
    (iterate 3 (refine fH ?_;go_simp));refine dv.inRegion<|dv.inLoop ?_;rw[show IntKind.i64.wrap _=((m+1:Nat)) by simp only[X?];omega];exact ih _ _ _ _ _ _ _ _ _ _ _ _ _ _ _ _ _ _ _ _ _ _ _ _ _ _ _ _ _ _ _ _ _ _ _ _ _ _ _ _ _ _ _ _ _ _ _ _ _ _ _ _ _ _ _ _ _ _ _ _ _ (v! HM.o) HR
  have bj:=h! hk;have Y:kind=1\/(kind==1)=f?/\2<=kind/\kind<=hi:=hk.imp_right λh=>⟨by rw[beq_eq_false_iff_ne];omega,h⟩;clear hk;obtain h1|⟨h1,h2,h3⟩:=Y
  all_goals
   try subst h1
   go_wp2;apply eV O;clear O V;refine dv.rG trivial (by first|rfl|exact congrArg Value.bool<|decide_eq_true o!) (dv.sr λV O=>?_)
   (iterate 4 (refine fH ?_;go_simp));refine ud q? l! k! λτ=>?_;obtain⟨q0,q1,q2,q3,q4,q5,q6,q7,q8,_⟩:=HC.o _<|H3.o.tape τ;unfold lO;go_simp;simp only[iR];apply dv.qg τ;clear q0 q1 q2 q3 q4 q5 q6 q7 q8
   refine dv.su _ (iI:=f41) (c:=eG f41) q? l! pm k! R2 q? (by simp[eI,Plain]) k!
    (H.o.1 Z g Mp _ _ _ y3 l _ _ B _ vl vm last us ms es _ 5 _ _ (25*m) _ W N M K S T aL nL cL made q? (HP.o.same H3 0) be o! HQ o! H.o.2.1 H.o.2.2.1 HO (HC y3 H3).2.2.2.2.2.2.2.2.2 o! o! (by first|exact bj|exact .inl rfl) λw4 hN=>?_)
   have HN:=h! hN;clear hN;rw[kA];go_simp
   (refine fH ?_;go_simp);apply dv.ie O;clear O V;refine gD λV O y5 J=>?_;obtain⟨c',bv,bk,bl,bm,bn,bo,bw,hp,n1,n2,n3,n4,n5⟩:=HN.o;have hp:=hp.same J 0;let ⟨D,hD,_⟩:=hp.1.2;have d5:=dx hp.1.1;have C:=Ur B D bk bl bn bo y5 (d5 1) (d5 2) hD hp.1.3 o!;have HR:J? (∀y,pP y5 y->R5 l y B (m+1)):=λy J=>⟨_,_,_,_,_,_,_,_,hp.same J 0,o!,o!,o!,o!,n5.mono o!⟩;clear J hp hD d5 n1 n2 n3 n4 n5;go_wp2_with fail;apply C.mono;clear C;rintro e w6 ⟨rfl,nq,rfl⟩;have H6:J?<|pP y5<|y5.drewN nq:=.of<|lx (nr _ _) nq;generalize y5.drewN nq=w6 at *;go_wp2;apply eV O;clear O V;refine gD λV O y7 J=>?_;have HR:=h!<|HR y7<|H6.o.trans J;clear J H6;go_wp2;apply eV O;clear O V;refine dv.ni trivial q? (dv.skip<|dv.inBlock<|dv.region ?_)
   (iterate 3 (refine fH ?_;go_simp));refine dv.inRegion<|dv.inLoop ?_;rw[show IntKind.i64.wrap _=((m+1:Nat)) by simp only[X?];omega];exact ih _ _ _ _ _ _ _ _ _ _ _ _ _ _ _ _ _ _ _ _ _ _ _ _ _ _ _ _ _ _ _ _ _ _ _ _ _ _ _ _ _ _ _ _ _ _ _ _ _ _ _ _ _ _ _ _ _ _ _ _ _ (v! HM.o) HR
def PS.start(w):PS w (w.alloc<|c? #[tD,tD,tD,n? i? 0] 74) (λk=>if k<w.1.size then 0 else 1) w.1.size tD tD tD 0 [] [] []:=by
 have J:∀k,O? tD≠y? k:=λk B=>by simp[tD,wd]at B
 refine⟨⟨sK _ _,⟨λ_=>False,⟨Z9 _ _ _ _,Z9 _ _ _ _,λ_ _ h=>h,λ_ _ h=>h,λh=>h,λ_ h=>h.elim,λi u U h=>by simp at h⟩,λ_ h=>h.elim,λ_ _ h=>h⟩,q?,Z9 _ _ _ _,if_neg<|Nat.lt_irrefl _,λk B=>absurd B<|J k,λk B=>absurd B<|J k,λk B=>absurd B<|J k⟩,λk B=>if_pos B,.of<|gR.alloc _ _,λi O=>by simp at O,λi O=>by simp at O⟩
def Mn{Z:oJ prog}{Mp:F?}{fn}{tm:V?}{os:List OF}{k:List Item}{ops:Array Oper}{rest:List Nat}{o}{a:Option Addr}{hi}{X:w?->Prop}(aa:ops[i]?=y? o)(W:Tz hi X)(h5:5<=l.1.size)(hX:∀y,pP l y->X y)(hs:PF l a f)(ab:f<=600000)
  (hn:∀w2,pP l w2->dv (jj Z g Mp) (⟨fn,fV o.1 tm<|.bool t?,r? ops rest::k⟩::os) w2 []) :
  dv (jj Z g Mp) (⟨13,#[.slice a f p,n? i? 2,n? i? hi,B3,B3,B3,B3,B3,B3,B3,B3,B3,B3,B3,B3,B3,B3,B3,B3,B3,B3,B3,B3,B3,B3,B3,B3,B3,B3,B3,B3,B3,B3,B3,B3,B3,B3,B3,B3,B3,B3,B3,B3,B3,B3,B3,B3,B3,B3,B3,B3,B3,B3,B3,B3,B3,B3,B3,B3,B3,B3,B3,B3,B3],[.code<|eG qz]⟩::⟨fn,tm,r? ops (i::rest)::k⟩::os) l []:=by
 have H:=h!<|A? W<|A? h5<|A? hX<|A? hs hn;clear W h5 hX hs hn;show dv _ (⟨_,_,[.code<|.seq (.region 0 _ f?)<|.seq (.region 1 _ f?)<|.seq (.region 2 _ f?)<|.seq (.seq (.region 3 _ f?)<|.cond _ _ .skip)<|.seq (.seq (.region 5 _ f?)<|.block 0<|.loop<|TY<|eG qz)<|OS<|eG qz]⟩::_) _ _;refine gD λU O y J=>?_;have V:=h! J;clear J;go_wp2;apply eV O;clear O U;refine gD λU O y1 J=>?_;have V:=h!<|V.trans J;have HP:=h!<|PS.start y1;unfold tD at HP;clear J;go_wp2;apply eV O;clear O U;generalize y1.alloc (c? #[.slice x? 0 0,.slice x? 0 0,.slice x? 0 0,n? i? 0] 74)=w2 at *;generalize y1.1.size=B at *;refine gD λU O y3 J=>?_;have C:=SJ (HP.same J 0) i!;clear J HP;go_wp2_with fail;apply C.mono;clear C;rintro e w4 ⟨rfl,c',ac,bx,yb,hp⟩;have Y:J?<|R5 y1 w4 B 0:=⟨_,_,_,_,_,_,_,_,hp,o!,i!,i!,i!,λe he=>by obtain rfl:=Zg.1 he;exact⟨q?,by simp[V5,eK]⟩⟩;clear hp;go_wp2;apply eV O;clear O U;refine dv.seq<|gD λU O y5 J=>?_
 have Y:J?<|R5 y1 y5 B 0:=by obtain⟨c,va,vl,vm,last,us,ms,es,h1,h2⟩:=Y.o;exact⟨_,_,_,_,_,_,_,_,h1.same J 0,h2⟩
 clear J;go_wp2;apply eV O;clear O U;refine dv.ni trivial q? (dv.skip<|dv.seq<|gD λU O y6 J=>?_)
 have Y:J?<|R5 y1 y6 B 0:=by obtain⟨c,va,vl,vm,last,us,ms,es,h1,h2⟩:=Y.o;exact⟨_,_,_,_,_,_,_,_,h1.same J 0,h2⟩
 clear J;go_wp2;apply eV O;clear O U;refine dv.block<|dv.loop ?_;exact MC aa H.o.1 (ZE H.o.2.1 V.2) (H.o.2.2.1 _ V) (H.o.2.2.2.1.low V) ab (λw2 J=>H.o.2.2.2.2 w2<|V.trans J) f 0 _ _ _ _ _ _ _ _ _ _ _ _ _ _ _ _ _ _ _ _ _ _ _ _ _ _ _ _ _ _ _ _ _ _ _ _ _ _ _ _ _ _ _ _ _ _ _ _ _ _ _ _ _ _ _ _ _ _ _ _ o! Y
end
end
section
open Conc RowKit
variable {f P:w?}{g o Mp:F?}{i U:v?}{l p x0:Nat}{C:Ren}{I:L?}{J:Bool}
def stands:∀v,∃x,(∀m,VR m x v)/\∀t z,v=.iface t z->∃J,x=.iface t J
 |.bool b=>⟨_,λ_=>.bool b,nofun⟩
 |.int k n=>⟨_,λ_=>.int k n,nofun⟩
 |.string s=>⟨_,λ_=>.string s,nofun⟩
 |.float k b=>⟨_,λ_=>.gV _ t!,nofun⟩
 |.complex k a b=>⟨_,λ_=>.gV _ t!,nofun⟩
 |p? x?=>⟨_,λ_=>.iQ,nofun⟩
 |p? (y? a)=>⟨_,λ_=>.gV _ t!,nofun⟩
 |.slice x? l c=>⟨_,λ_=>.gC l c,nofun⟩
 |.slice (y? a) l c=>⟨_,λ_=>.gV _ t!,nofun⟩
 |.map x?=>⟨_,λ_=>.oH,nofun⟩
 |.map (y? r)=>⟨_,λ_=>.gV _ t!,nofun⟩
 |.chan x?=>⟨_,λ_=>.kg,nofun⟩
 |.chan (y? r)=>⟨_,λ_=>.gV _ t!,nofun⟩
 |.nilFunc=>⟨_,λ_=>.nilFunc,nofun⟩
 |.nilIface=>⟨_,λ_=>.nilIface,nofun⟩
 |.tuple c=>⟨_,λ_=>.gV _ t!,nofun⟩
 |.iface t v=>by
  obtain⟨x,U,_⟩:=stands v
  exact⟨.iface t x,λm=>.iface t<|U m,λ_ _ e=>(by cases e;exact⟨_,q?⟩)⟩
 |.agg c=>by have B:∀i(h:i<c.size),∃x,(∀m,VR m x c[i])/\∀t z,c[i]=.iface t z->∃J,x=.iface t J:=λi h=>stands _;refine⟨.agg<|j3 λi=>n8<|B _ i.2,λm=>.agg i! λi h V=>?_,nofun⟩;simp only[jt];exact(n7<|B i _).1 m
 |.func (.func f) a c=>⟨_,λ_=>.gV _ t!,nofun⟩
 |.func (.methodOf t n) a c=>⟨_,λ_=>.gV _ t!,nofun⟩
 |.func (.via t p f b) a c=>⟨_,λ_=>.gV _ t!,nofun⟩
 |.func (.yield l) a c=>⟨_,λ_=>.gV _ t!,nofun⟩
 |.func (.method n) f c=>by have B:∀i(h:i<f.size),∃x,(∀m,VR m x f[i])/\∀t z,f[i]=.iface t z->∃J,x=.iface t J:=λi h=>stands _;refine⟨.func _ (j3 λi=>n8<|B _ i.2) _,λm=>.tC i! (λi h V=>?_)<|λt w W=>?_,nofun⟩;simp only[jt];exact(n7<|B i _).1 m;obtain⟨O,Y⟩:=AI.1 W;obtain⟨z,hz⟩:=(n7<|B 0 O).2 t w Y;refine⟨z,?_⟩;rw[Z1<|u! O];simp only[jt];rw[hz]
termination_by v=>SizeOf.sizeOf v
decreasing_by
 all_goals simp_wf
 all_goals(first|omega|(have:=kj c i h;omega)|(have:=kj f i h;omega))
def Ng{B:Type}(f:B->Nat):∀{l:List B}{x},x∈l->f x<=(l.map f).sum
 |y::l,x,h=>by
  simp only[ZK,J!]
  obtain rfl|h:=Zm.1 h
  omega;have:=Ng f h;omega
def DF(Mp B:F?):v?->Prop
 |.bool _|n? _ _|s? _|p? x?|.slice x? _ _|.map x?|.chan x?|.nilFunc|.nilIface=>True|p? (y? a)=>Mp a.1|.slice (y? a) l c=>Mp a.1\/(l=0/\c=0/\B a.1)
 |_=>False
def NO(Mp Y:F?)(v)(J:¬DF Mp Y v):∃x,(∀m,VR m x v)/\(qL x\/∀m O,VR m x O->O=v):=by
 have B:Vt v->∃x,(∀m,VR m x v)/\(qL x\/∀m O,VR m x O->O=v):=λh=>⟨.tuple #[],λm=>.gV _ h,.inl t!⟩
 cases v with
 |bool b=>exact absurd trivial J|int k n=>exact absurd trivial J|string s=>exact absurd trivial J|float k b=>exact B trivial|complex k a b=>exact B trivial|pointer a=>cases a with|none=>exact absurd trivial J|some a=>exact B trivial
 |slice a l c=>cases a with|none=>exact absurd trivial J|some a=>exact B trivial
 |map a=>cases a with|none=>exact absurd trivial J|some a=>exact B trivial
 |chan a=>cases a with|none=>exact absurd trivial J|some a=>exact B trivial
 |nilFunc=>exact absurd trivial J|nilIface=>exact absurd trivial J|iface t v=>exact B trivial|tuple c=>exact B trivial|agg c=>
  let ⟨x,V,_⟩:=stands<|.agg c
  have hx:qL x:=by have:=V ⟨λ_=>x?,λ_=>x?,λ_=>False,λ_=>True,λ_=>True,False,λ_=>False,λ_=>0,λ_ _=>x?,λ_=>x?,0,λ_ _ h=>(by cases h),λ_ _ _ h=>(by cases h),λ_ _ _ h=>(by cases h)⟩;cases this<;>trivial
  exact⟨x,V,.inl hx⟩
 |func fn f c=>
  cases fn with
  |func g=>exact B trivial|methodOf t n=>exact B trivial|via t p g b=>exact B trivial|yield l=>exact B trivial|method n=>
   have U:∀i(h:i<f.size),∃x,(∀m,VR m x f[i])/\∀t z,f[i]=.iface t z->∃z',x=.iface t z':=λi h=>stands _;refine⟨.func _ (j3 λi:_root_.Fin _=>n8<|U i.1 i.2) _,λm=>.tC i! (λi h h'=>?_)<|λt w hw=>?_,.inr λm O h=>?_⟩;simp only[jt];exact(n7<|U i _).1 m;obtain⟨W,e0⟩:=AI.1 hw;obtain⟨z,hz⟩:=(n7<|U 0 W).2 t w e0;refine⟨z,?_⟩;rw[Z1<|u! W];simp only[jt];rw[hz]
   cases h with
   |func hf=>cases hf
   |tC _ _ _=>rfl
def QZ(hm:∀r,g r->C.1 r=y? r)(B:∀r,o r->C.7 r)(h:DF g o i):VR C i i:=by
 cases i with
 |bool b=>exact .bool b|int k n=>exact .int k n|string s=>exact .string s|pointer a=>cases a with|none=>exact .iQ|some a=>exact .ptr<|.mk<|hm _ h
 |slice a l c=>cases a with|none=>exact .gC l c|some a=>obtain h|⟨rfl,rfl,h⟩:=h<;>first|exact .slice l c<|.mk<|hm _ h|exact .zero a<|B _ h
 |map a=>cases a with|none=>exact .oH|some a=>exact h.elim
 |chan a=>cases a with|none=>exact .kg|some a=>exact h.elim
 |nilFunc=>exact .nilFunc|nilIface=>exact .nilIface|_=>exact h.elim
def QJ(hm:∀r,g r->C.1 r=y? r)(O:∀r r',o r->C.1 r≠y? r')(h:DF g o i)(V:VR C i U):U=i:=by
 have B:∀{a J:Addr},g a.1->AR C a J->J=a:=fun {a J} ha x=>by
  cases x with
  |mk hb=>rw[hm _ ha]at hb;cases hb;rfl
 cases V with
 |gV _ _=>exact h.elim|ptr x=>rw[B h x]|slice l c x=>
  obtain h|⟨rfl,rfl,h⟩:=h
  rw[B h x];exact absurd x.blk<|O _ _ h
 |map _=>exact h.elim|gone _=>exact h.elim|chan _=>exact h.elim|func _ _ _ _ _=>exact h.elim|iface _ _=>exact h.elim|agg _ _=>exact h.elim|tuple _ _=>exact h.elim|tC _ _ _=>exact h.elim|_=>rfl
noncomputable def V6 (Mp Zp:F?) (v:v?):v?:=@dite _ (DF Mp Zp v) (oa _) (λ_=>v) λh=>n8 (NO Mp Zp v h)
def xJ(h:DF g o i):V6 g o i=i:=by simp[V6,h]
def IC(h):V6 g o i=n8 (NO g o i h):=by simp[V6,h]
def Zbn(hm:∀r,g r->C.1 r=y? r)(B:∀r,o r->C.7 r)(v):VR C (V6 g o v) v:=by by_cases h:DF g o v;rw[xJ h];exact QZ hm B h;rw[IC h];exact(n7<|NO g o v h).1 C
def U4(hm:∀r,g r->C.1 r=y? r)(J:∀r r',o r->C.1 r≠y? r')(B:VR C (V6 g o i) U):qL (V6 g o i)\/U=i:=by by_cases h:DF g o i;rw[xJ h]at B;exact .inr (QJ hm J h B);rw[IC h]at B⊢;exact(n7<|NO g o i h).2.imp id λx=>x C U B
noncomputable def V' (W:w?) (Mp:F?) (b:Nat):Obj->Obj
 |c? c e f=>@ite _ (Mp b) (oa _) (c? (c.map (V6 Mp (Zo W))) e f) (c? c e f)|_=>c? #[] 0
noncomputable def mq (W0:w?) (Mp:F?):w?:={W0 with heap:=W0.1.mapIdx (V' W0 Mp)++j2 (W0.1.1.map SF).sum (c? #[] 0)}
def vY:f.1.size<=(mq f Mp).1.size:=by simp[mq]
def CF{b}(h:b<f.1.size):(mq f g).1[b]?=(f.1[b]?).map (V' f g b):=by unfold mq;simp only;rw[P!<|u! h,ka]
def sf{b}(h:g b){c:V?}{e f}(hb:P.1[b]?=y? (c? c e f)):(mq P g).1[b]?=y? (c? (c.map<|V6 g<|Zo P) e f):=by rw[CF (AI.1 hb).1,hb];simp[V',h]
def Fl{b}(h:¬g b){c:V?}{e f}(hb:P.1[b]?=y? (c? c e f)):(mq P g).1[b]?=y? (c? c e f):=by rw[CF (AI.1 hb).1,hb];simp[V',h]
def il{a}(J:DF g (Zo P) i)(h:C? P a=y? i):C? (mq P g) a=y? i:=by
 unfold m5 at h⊢
 cases B:P.1[a.1]? with
 |none=>rw[B]at h;cases h
 |some o=>
  rw[B]at h
  cases o with
  |cells c e f=>
   by_cases hm:g a.1;rw[sf hm B];simp only at h⊢;split at h
   cases h;rename_i O;rw[if_neg O,Array.getElem?_map,h];simp[xJ J];rwa[Fl hm B]
  |_=>cases h
def LJ{b}(hb:Zo P b):∃c f,(mq P g).1[b]?=y? (c? c 0 f):=by
 obtain⟨U,O⟩:=hb;by_cases B:b<P.1.size;rw[CF B]
 cases J:P.1[b]? with
 |none=>rw[Array.getElem?_eq_none_iff]at J;omega|some x=>
  cases x with
  |cells c e f=>exact absurd J<|O c e f|_=>exact⟨_,_,q?⟩
 unfold mq;simp only;rw[Array.getElem?_append_right<|u! B,Array.getElem?_replicate,if_pos (by simp only[Array.size_mapIdx];omega)];exact⟨_,_,q?⟩
noncomputable def pS (W0:w?) (Mp:F?):Ren where
 blk:=λr=>@ite _ (Mp r) (oa _) (y? r) x?
 ch:=λ_=>x?
 loose:=λ_=>False
 ok:=Sy prog xm vi t?
 nu:=λf=>xm f=t?
 SN:=False
 dead:=Zo W0
 dm:=λ_=>0
 Yd:=λr o=>@ite _ (Mp r) (oa _) (C? W0 ⟨r,o,x?⟩) x?
 Li:=λ_=>x?
 G:=5
 Lp:=λr r' h=>by split at h<;>cases h;exact Iff.rfl
 inj:=λr s t h1 h2=>by
  split at h1<;>cases h1
  split at h2<;>cases h2
  rfl
 TZ:=λ_ _ _ h=>by cases h
def pY(h:g l):(pS f g).1 l=y? l:=by simp[pS,h]
def nY(h:(pS f g).1 l=y? p):g l/\p=l:=by
 simp only[pS]at h;split at h
 cases h;exact⟨a!,q?⟩
 cases h
def QE(O:5<=P.1.size)(U:∀r,g r->∃c e f,P.1[r]?=y? (.cells c e f)):WR (pS P g) (mq P g) P:=by
 refine⟨λr r' B=>?_,λr r' c e f W Y f' B V J _=>?_,λ_ _ _ _ _ _ _ _ _ _ _ h=>h.elim,λ_ _ h=>(by cases h),ZE O vY,O,q?,λ_ _ h=>(by cases h),λ_ _ _ h=>h.elim,λr B=>⟨?_,LJ B⟩,λr o v hv=>?_⟩;obtain⟨hm,rfl⟩:=nY B;obtain⟨c,e,f,hb⟩:=U _ hm
 exact⟨_,_,sf hm hb,hb,.cells e f f (fh.jb i! λi h h'=>by
  simp only[ks]
  exact Zbn (λr B=>pY B) (λ_ h=>h) _)⟩
 obtain⟨hm,rfl⟩:=nY B;rw[sf hm J]at V;cases V;rfl
 cases he:(pS P g).1 r with
 |none=>rfl|some r'=>obtain⟨c,e,f,hb⟩:=U r (nY he).1;exact absurd hb<|B.2 c e f
 simp only[pS]at hv;split at hv
 rename_i hm;refine⟨r,pY hm,λc e f W Y f' x _ J _ _=>?_⟩;unfold m5 at hv;rw[J]at hv;simpa using hv
 cases hv
def QT{Z}(J:∀g,vi g=t?->Mp g):Rg (jj Z f Mp)<|pS f Mp:=
 ⟨YD q? q? q? (λ_ h=>h)<|λg O=>pY<|J g O,id,λ_ _ h=>(by cases h),q?,q?,λr B=>pY B,λr o v B U=>by simp[pS,B,U],λ_ h=>h⟩
def T7{Z wS w}(hc:∀r,g r->∃c e f,P.1[r]?=y? (c? c e f))(B:Rg (jj Z P g) C)(hw:WR C wS w)(Y:∀b,(jj Z P g).2 b->w.1[b]?=(jj Z P g).3.1[b]?)(O:∀k,k<(mq P g).1.size->wS.1[k]?=(mq P g).1[k]?) :
  ∀b,b<P.1.size->w.1[b]?=P.1[b]?:=by
 intro b hb;by_cases hm:g b;obtain⟨c,e,f,J⟩:=hc b hm;have U:=B.x.1 b hm;let ⟨o,o',h1,h2,h3⟩:=hw.1 b b U;have aa:=AT hb<|vY (Mp:=g);rw[O b aa,sf hm J]at h1;cases h1
 cases h3 with
 |@cells _ c' _ _ f' ab=>
  have ac:wS.1[b]?=y? (c? (c.map<|V6 g<|Zo P) e f):=by rw[O b aa];exact sf hm J
  have ag:c'=c:=by
   have ad:=ab.size;simp at ad;refine kx ad.symm λi hi V=>?_;have hv:=ab.idx i (u! V) hi;simp only[ks]at hv
   have hz:∀r r',Zo P r->C.1 r≠y? r':=λr r' hr e=>by rw[(hw.10 r<|B.x.2.2 r hr).1]at e;cases e
   obtain hn|he:=U4 (B.x.1) hz hv
   have W:C? P ⟨b,i,x?⟩=y? c[i]:=by unfold m5;rw[J];simp[V]
   have hp:=B.x.2.1 b i _ hm W;let ⟨r',ae,af⟩:=hw.11 b i _ hp;rw[U]at ae;cases ae;have:=af _ _ _ _ _ _ _ ac h2 (by simp[V]) hn;rw[Z1 hi]at this;exact sz this;exact he
  rw[h2,J,hw.2 b b _ _ _ _ _ _ U ac h2<|B.1.2 q? b,ag]
 have:=Y b ⟨hb,hm⟩;rw[this];exact E4 hm
def rN{H:Type}{enc:ln×v?->H}{a:Assume}{C:Checked}{os:Os}{f:mm}{fn:Func}{s:OpenSpec}{F:Stop.Interp}{U:List PathCond}{fresh O V:Bool}{laid:List<|String×DataW Unit}
  (own:ownKnob C.2.godebug=x?) (Y:os.Started) (ad:C.2.2[f]?=y? fn)
  (witness:∃(w:w?)(tape:Tape)(i:Input),w.4=os/\(w.forCall tape i).Shaped C.2/\i.3=[]/\Input.okWide C.2 (w.forCall tape i) .any w.1.size f i/\
    s.preRow enc C.2 fn U J laid (w.forCall tape i).memory i.2/\a.holds C.2 (lone (Frame.enter C.2 f i.2 .normal) []<|w.forCall tape i))
  (runs:∀(W:w?)(base:Nat)(args:V?)(ds gs:List<|DataW H)(B:List MemPlace),
    (∀(j:Nat)t v,fn.4[j]?=y? t->args[j]?=y? v->wg C.2 W .any base t v)->
    DataW.Whole enc C.2 fn.4.1 s.2 J W args.1 ds gs B->
    (∀k,s.4=y? k->k H (ds++gs)=t?)->
    l0 C.2 laid W->W.ShapedOpen C.2->args.size=fn.4.size->
    wR C.2 (λv W'=>∃W2:w?,W2.blind=W'.blind/\(s.at F).post enc C.2 fn J fresh O V W args v W2) (solo (G (Frame.enter C.2 f args .normal) []) W) #[]) :
  ls a C os f .any (s.preRow enc C.2 fn U J laid) ((s.at F).post enc C.2 fn J fresh O V):=by
 apply returnsInLeavingWide_of_good own Y witness;intro w tape i _ ae _ af aa _;obtain⟨_,_,_,ah,ab,_,_,_,ag,ac⟩:=af;have e:=sz<|ab.symm.trans ad;subst e;obtain⟨⟨hp,hl⟩,_⟩:=aa;let ⟨ds,gs,B,hw,_,hk⟩:=OpenSpec.pre_parts hp;let ⟨N,last,o,w',t',h1,h2,h3,h4⟩:=runs _ _ _ ds gs B ac (DataW.Whole.of_heap (w':=w.forCall tape i) l! hw) hk (hl.of_heap l!) ae ag;exact⟨N,last,o,w',t',h1,h2,h3,h4.mono λv ⟨W2,e2,hp⟩=>by rw[<-e2];exact ChangeSpec.post_blind hp⟩
def xq(W:w?)(w:w?):Prop:=B? W {w with tape:=W.2}
def XB{f iI}{rs:Array Tmp}{tm:V?}{wl:w?}(hc:∀r,g r->∃c e f,P.1[r]?=y? (c? c e f))(hf:prog.2[f]?=y? iI)(af:prog.inits.idxOf? f=x?)(O:∀k,k<(mq P g).1.size->wl.1[k]?=(mq P g).1[k]?)(aa:Plain i)(U:∀w,(lf iI tm).run prog w=.ok i w) :
  dv (jj (ending prog λv' w=>v'=i/\xq P w) P g) [⟨f,tm,[.code .ret]⟩] wl []:=by
 apply dv.tail (λx hx=>by simp only[Zg]at hx;subst hx;trivial) (.inr λ_ h=>by cases h);let B:LS->Prop:=λS=>S.2=[door prog]/\S.1.1=f/\S.w.1=wl.1/\S.1.leaving prog S.w (e? i);refine jZ.IW (Stop:=λS=>∃τ,B<|S.on τ) (λS τ ⟨J,h⟩=>⟨J,h⟩) (λτ _=>⟨1,⟨⟨f,tm,[.code _],[],.returning,.normal,x?⟩,[door _],tp wl τ⟩,q?,⟨τ,q?,q?,q?,q?,q?,q?,iI,hf,U _⟩,i!⟩) λS' ⟨J,ab,ac,hh,hl⟩=>?_;apply jZ.tape (τ:=J);refine jZ.done q? q? ab hl (by rwa[ac]) λm v2 w ad hv hw V W=>⟨?_,?_⟩
 cases hv<;>first|rfl|exact aa.elim
 have hold:=T7 hc ad hw V (λk hk=>by rw[hh];exact O k hk);refine⟨W.1,q?,W.2,?_,hold⟩;show P.1.size<=w.1.size;obtain Y|ae:=H! w.1.size P.1.size
 have:=hold _ Y;rw[ZB<|Zu _,Z1 Y]at this;cases this;exact ae
open ChangeShapes WideShapes ChangeAt
def ZaH:ownKnob prog.godebug=x?:=by kernel_rfl
def xn:laidOutB prog=t?:=by kernel_rfl
def XD:List<|String×DataW Unit:=[("math/bits.deBruijn32tab",Rows.laid_math_bits_deBruijn32tab),("math/bits.deBruijn64tab",Rows.laid_math_bits_deBruijn64tab),("internal/strconv.uint64pow10",Rows.laid_internal_strconv_uint64pow10),("hint/follow.weights",Rows.laid_hint_follow_weights)]
def Hl(h:l0 prog XD f):Qg f:=by have B:=yh (k:=.u64) (zs:=[4,10,25]) (g:=0) (t:=195) (e:=141) (n:=3) k! k! underlying195 qt k! k! h.tail.tail.tail;exact⟨B.cell k! 0 d!,B.cell k! 1 d!,B.cell k! 2 d!⟩
def CS(h:P.ShapedOpen prog):∀g,g<5->∃c e f,P.1[g]?=y? (c? c e f):=by
 have key:∀g,g<5->(((begin prog (λ_ _=>0) default).1.1[g]?).bind Obj.row?).isSome=t?:=by intro g B;rcases(o!:g=0\/g=1\/g=2\/g=3\/g=4)with rfl|rfl|rfl|rfl|rfl<;>kernel_rfl
 intro g B;obtain⟨⟨z,t⟩,O⟩:=Option.isSome_iff_exists.1<|key g B;obtain⟨cs,J,_⟩:=h.1 g z t (B) O;exact⟨cs,t,_,J⟩
def QU{t e a c}(U:prog.underlying t=y? (.slice e))(h:wg prog P .any l t<|.slice (y? a) p c):a.3=x?/\∃cs B f,P.1[a.1]?=y? (c? cs B f):=by
 simp only[wg,U,Cell.okWide,Cell.ok]at h;obtain⟨_,_,_,J,row,cells,hsh,_⟩:=h;refine⟨J,?_⟩;unfold World.shape? at hsh
 cases O:P.1[a.1]? with
 |none=>rw[O]at hsh;cases hsh
 |some o=>
  cases o with
  |cells cs B f=>exact⟨cs,B,f,q?⟩|_=>rw[O]at hsh;cases hsh
def VJ(h:vi l=t?):l<5:=by unfold vi at h;simp only[Z7,beq_iff_eq]at h;omega
def Oe(B:P.ShapedOpen prog):5<=P.1.size:=by obtain⟨c,e,f,h⟩:=CS B 4 o!;have:=(AI.1 h).1;omega
def Q3(B:f.ShapedOpen prog):5<=(mq f Mp).1.size:=ZE (Oe B) vY
def Bi(h:Qg f):Qg<|mq f g:=⟨il trivial h.1,il trivial h.2.1,il trivial h.2.2⟩
def wR.mono{P}{A B:v?->w?->Prop}{M t}(h:wR P A M t)(J:∀v w,A v w->B v w):wR P B M t:=by obtain⟨N,last,o,w',t',O,U,V,W⟩:=h;exact⟨N,last,o,w',t',O,U,V,W.mono λv=>J v w'⟩
def Uf(h:l0 prog XD f):qv f:=by exact yh (k:=.u64) (zs:=yg) (g:=2) (t:=295) (e:=141) (n:=20) k! k! underlying295 qt k! k! h.tail.tail
def Si(h:qv P):qv<|mq P Mp:=by
 unfold qv yd nc at h⊢;rw[show prog.globalNamed "internal/strconv.uint64pow10" = y? 2 by kernel_rfl]at h⊢;simp only[Zf]at h⊢
 cases B:P.1[2]? with
 |none=>rw[B]at h;cases h
 |some o=>
  rw[B]at h
  cases o with
  |cells c e f=>simp only[m?]at h;by_cases hm:Mp 2;rw[sf hm B];simp only[m?];rw[h];apply Array.ext';simp only[Array.toList_map,cH];apply ZM;intro z _;exact xJ trivial;rw[Fl hm B];simp only[m?];exact h
  |_=>cases h
def nN{n}(h:(Lit.int i? n).wf=t?) : -9223372036854775808<=n/\n<=9223372036854775807:=by have B:IntKind.i64.min = -9223372036854775808:=rfl;have J:IntKind.i64.max=9223372036854775807:=rfl;simp only[Lit.wf,IT,decide_eq_true_eq]at h;omega
def xi(h:(I.drop l).take 1=[i]):I[l]?=y? i:=by
 have:((I.drop l).take 1)[0]?=y? i:=by rw[h];rfl
 rw[Zi,if_pos o!,List.getElem?_drop]at this;simpa using this
def Dm:prog.cellsOf 202=5:=by kernel_rfl
def O0:prog.cellsOf 77=9:=by kernel_rfl
def Vp{a}(h:C? P a=y? i):∃cs e f,P.1[a.1]?=y? (c? cs e f):=by
 unfold m5 at h
 cases B:P.1[a.1]? with
 |none=>rw[B]at h;cases h
 |some o=>
  rw[B]at h
  cases o with
  |cells cs e f=>exact⟨cs,e,f,q?⟩|_=>cases h
def Gf{l:E?}(h:(dG l)[p]?=y? i):DF g o i:=by
 have J:=(Zs.1 h).1;rw[tY]at J;rw[(o!:p=p / 5*5+p % 5),tN l _ o! _ o!]at h;have B:p % 5<5:=o!;generalize p % 5=f at h B;match f,B with
 |0,_|1,_|2,_|3,_|4,_=>simp[e9]at h;rw[<-h];trivial
def IG{H}(l r:List<|DataW H):ne (l++r)=ne l+ne r:=by
 induction l with
 |nil=>simp[ne]|cons x l B=>simp only[B!,ne,B];omega
def ul{H}(l)(i:Nat)(d:DataW H)(h:l[i]?=y? d):nl d<=ne l:=by
 induction l generalizing i with
 |nil=>simp at h|cons x l B=>
  cases i with
  |zero=>simp at h;subst h;simp only[ne];omega|succ i=>have:=B i<|u! h;simp only[ne];omega
def K0{H}(D:Nat->DataW H)(g):∀n,(∀i,i<n->g i<=nl (D i))->((cC n).map g).sum<=ne ((cC n).map D):=by
 intro n;induction n with
 |zero=>intro _;simp|succ n B=>intro h;have J:=B<|λi O=>h i o!;have U:=h n o!;rw[D!,Z4,Z4,gi,IG];simp only[ZK,ZU,J!,List.sum_nil,ne];omega
def SE(n):((cC n).map<|λ_=>1).sum=n:=by
 induction n with
 |zero=>rfl|succ n B=>rw[D!,Z4,gi,B];rfl
def Oq{H}{enc:ln×v?->H}{O:Array Field}{xs:List<|DataW H×List MemPlace}(V:∀(i:Nat)(f),O[i]?=y? f->ty enc prog P l (λ_=>t?) J p f.2 ((I.drop f.3).take<|prog.cellsOf f.2)=xs[i]?)(i){B:Field}(h:O[i]?=y? B)(W:B.3=i)(Y:prog.cellsOf B.2=1)(U:i<l? xs) :
  ∃y,xs[i]?=y? y/\ty enc prog P l (λ_=>t?) J p B.2 ((I.drop i).take 1)=y? y:=by
 have:=V i B h;rw[W,Y,BY U]at this;exact⟨_,BY U,this⟩
def US{H}{enc:ln×v?->H}{b}{x:DataW H×List MemPlace}
  (hc:P.cells? l ⟨b,x0,x?⟩ 5=y? I) (h:ty enc prog P l (λ_=>t?) J p 202 I=y? x) :
  ∃e,(∀f u,(e9 e)[f]?=y? u->C? P ⟨b,x0+f,x?⟩=y? u)/\(-9223372036854775808<=e.4/\e.4<=9223372036854775807)/\(-9223372036854775808<=e.5/\e.5<=9223372036854775807)/\l? e.1+l? e.3+2<=nl x.1:=by
 obtain⟨xs,n,rfl,hx,hl,aa,V⟩:=un underlying202 h;obtain⟨_,ac,U⟩:=m6 hc;have ab:l? xs=5:=aa
 have cell:∀i,i<5->∀v,(I.drop i).take 1=[v]->C? P _=y? v:=λi hi v hv=>by have:=U i hi;rwa[wn,xi hv]at this
 let ⟨y0,Y,f0⟩:=Oq V 0 q? q? k! o!;let ⟨y1,_,f1⟩:=Oq V 1 q? q? k! o!;let ⟨y2,e2,f2⟩:=Oq V 2 q? q? k! o!;let ⟨y3,_,f3⟩:=Oq V 3 q? q? k! o!;let ⟨y4,_,f4⟩:=Oq V 4 q? q? k! o!;let ⟨S,g0,z0,_⟩:=tt oC f0;let ⟨B,g1,_⟩:=ut pd f1;let ⟨T,g2,z2,_⟩:=tt oC f2;let ⟨W,g3,_,w3⟩:=ti oK f3;let ⟨G,g4,_,w4⟩:=ti oK f4;refine⟨⟨S.1.1,B,T.1.1,W,G⟩,λf u O=>?_,nN w3,nN w4,?_⟩;match f,O with
 |0,O=>simp[e9]at O;rw[<-O];exact cell 0 o! _ g0|1,O=>simp[e9]at O;rw[<-O];exact cell 1 o! _ g1|2,O=>simp[e9]at O;rw[<-O];exact cell 2 o! _ g2|3,O=>simp[e9]at O;rw[<-O];exact cell 3 o! _ g3|4,O=>simp[e9]at O;rw[<-O];exact cell 4 o! _ g4|f+5,O=>simp[e9]at O
 rw[hx];simp only[nl];match xs,ab,Y,e2 with
 |[a0,a1,a2,a3,a4],_,Y,e2=>simp at Y e2;subst Y e2;simp only[ZK,ZU,ne,z0,z2,nl];omega
def O1(w:w?)(a:Option Addr)(n c:Nat):Prop:=∀x,a=y? x->(∃cs e f,w.1[x.1]?=y? (c? cs e f))\/n=0/\c=0
def RZ{H}{enc:ln×v?->H}{x:DataW H×List MemPlace}
  (h:ty enc prog P l (λ_=>t?) J p 75 I=y? x) (hb:nl x.1<=1048576):∃a n c,I=[.slice a n c]/\O1 P a n c/\Rp P (.slice a n c):=by
 obtain⟨aa,_⟩|⟨a,len,cap,m,n,D,Pl,aa,_,hl,hm,ac,hx,ab⟩:=Deep.open_slice oT h
 exact⟨x?,0,0,aa,λ_ h=>(by cases h),[],⟨x?,0,q?,Zu _,by unfold la;omega,q?,λj u Y=>by simp[dG]at Y⟩,λe he=>by simp at he,i!,i!⟩
 have ad:O1 P (y? a) len cap:=λx hx=>by cases hx;by_cases hc:cap=0;exact .inr ⟨o!,hc⟩;obtain⟨ag,U,_⟩:=ab 0 (by rw[ac];simp;omega);rw[Dm]at U;obtain⟨_,ae,O⟩:=m6 U;have V:=O 0 o!;rw[BY o!]at V;let ⟨I,e,f,h2⟩:=Vp V;exact .inl ⟨I,e,f,by simpa[wu]using h2⟩
 refine⟨y? a,len,cap,aa,ad,?_⟩;clear ad;have an:len<=m:=by rw[ac];split<;>omega
 have ao:ne ((cC len).map D)<=1048576:=by have e1:x.1=.slice _ _:=congrArg _ hx;rw[e1]at hb;simp only[nl]at hb;omega
 clear hb;by_cases h0:len=0;subst h0;exact⟨[],⟨y? a,cap,q?,ZP _,hm,q?,λj u Y=>by simp[dG]at Y⟩,λe he=>by simp at he,i!,i!⟩;let ⟨b,off,spot⟩:=a
 have ah:spot=x?:=by obtain⟨ag,U,_⟩:=ab 0 o!;rw[Dm]at U;obtain⟨_,ae,O⟩:=m6 U;have V:=O 0 o!;rw[BY o!]at V;simpa[wu]using m' V
 subst ah
 have ai:∀i,i<len->∃e:eE,(∀f u,(e9 e)[f]?=y? u->C? P _=y? u)/\(-9223372036854775808<=e.4/\e.4<=9223372036854775807)/\(-9223372036854775808<=e.5/\e.5<=9223372036854775807)/\l? e.1+l? e.3+2<=nl (D i):=λi B=>by obtain⟨cs',hc,ht⟩:=ab i o!;rw[Dm,wn]at hc;exact US hc ht
 obtain⟨g,hg⟩:∃g:Nat->eE,∀i,i<len->(∀f u,(e9<|g i)[f]?=y? u->C? P ⟨b,off+i*5+f,x?⟩=y? u)/\(-9223372036854775808<=(g i).4/\(g i).4<=9223372036854775807)/\(-9223372036854775808<=(g i).5/\(g i).5<=9223372036854775807)/\(g i).1.length+(g i).3.length+2<=nl (D i):=
  ⟨λi=>if h:i<len then n8 _ else⟨[],f?,[],0,0⟩,λi B=>by
    simp only[B,dite_true]
    exact n7<|ai i B⟩
 have af:∀e∈(cC len).map g,∃i,i<len/\g i=e:=λe he=>by obtain⟨i,B,rfl⟩:=Zv.1 he;exact⟨i,G!.1 B,q?⟩
 have aj:∀i,i<len->nl (D i)<=ne ((cC len).map D):=λi B=>ul _ i _ (by simp[B]);refine⟨(cC len).map g,?_,λe he=>?_,?_,?_⟩;have W:((cC len).map g).length=len:=i!;refine⟨y? _,cap,by rw[W],by rwa[W],hm,by rw[tY],λj u Y=>⟨b,off,q?,?_⟩⟩
 have ak:j<((cC len).map g).length*5:=by rw[<-tY];exact(Zs.1 Y).1
 rw[W]at ak;obtain⟨i,f,al,am⟩:∃i f,j=i*5+f/\f<5:=⟨j / 5,j % 5,o!,o!⟩;subst al;have B:i<len:=o!;rw[tN _ i (by rwa[W]) f am]at Y;rw[z?,dB]at Y;have:=(hg i B).1 f u Y;rwa[(o!:off+(i*5+f)=off+i*5+f)];obtain⟨i,B,rfl⟩:=af e he;have V:=hg i B;have h2:=aj i B;exact⟨o!,o!,V.2.1,V.2.2.1.1,V.2.2.1.2⟩;rw[Z5,fB];have V:=K0 D (λ_=>1) len (λi B=>by have:=(hg i B).2.2.2;omega);have h2:=SE len;omega;have V:=K0 D (λi=>(g i).3.length) len (λi B=>by have:=(hg i B).2.2.2;omega);rw[cH];have h2:((λe:eE=>l? e.3) ∘ g)=λi=>(g i).3.length:=rfl;rw[h2];omega
def WW{H}{enc:ln×v?->H}{b}{x:DataW H×List MemPlace}
  (hc:f.cells? l ⟨b,x0,x?⟩ 9=y? I) (h:ty enc prog f l (λ_=>t?) J p 77 I=y? x) (hb:nl x.1<=1048576) :
  ∃kind W N M K S T aL nL cL made,(∀j,j<9->C? f ⟨b,x0+j,x?⟩=(GQ kind W N M K S T (.slice aL nL cL) made)[j]?)/\VG N M K W S T/\Rp f (.slice aL nL cL)/\O1 f aL nL cL:=by
 obtain⟨xs,n,rfl,hx,hl,U,B⟩:=un ra h;obtain⟨_,Y,O⟩:=m6 hc;have aa:l? xs=9:=U
 have cell:∀i,i<9->∀v,(I.drop i).take 1=[v]->C? f _=y? v:=λi hi v hv=>by have:=O i hi;rwa[wn,xi hv]at this
 let ⟨y0,_,f0⟩:=Oq B 0 q? q? k! o!;let ⟨y1,_,f1⟩:=Oq B 1 q? q? k! o!;let ⟨y2,_,f2⟩:=Oq B 2 q? q? k! o!;let ⟨y3,_,f3⟩:=Oq B 3 q? q? k! o!;let ⟨y4,_,f4⟩:=Oq B 4 q? q? k! o!;let ⟨y5,_,f5⟩:=Oq B 5 q? q? k! o!;let ⟨y6,_,f6⟩:=Oq B 6 q? q? k! o!;let ⟨y7,e7,f7⟩:=Oq B 7 q? q? k! o!;let ⟨y8,_,f8⟩:=Oq B 8 q? q? k! o!;let ⟨kind,g0,_,_⟩:=ti oK f0;let ⟨W,g1,_,w1⟩:=ti oK f1;let ⟨N,g2,_,w2⟩:=ti oK f2;let ⟨M,g3,_,w3⟩:=ti oK f3;let ⟨K,g4,_,w4⟩:=ti oK f4;let ⟨S,g5,_,s5⟩:=tt oC f5;let ⟨T,g6,_,s6⟩:=tt oC f6;let ⟨aL,nL,cL,g7,V,hL⟩:=RZ f7 (by rw[hx]at hb;simp only[nl]at hb;have:=ul (xs.map (·.1)) 7 y7.1 (by rw[ZZ,e7];rfl);omega);let ⟨made,g8,_⟩:=ut pd f8;have b1:=nN w1;have b2:=nN w2;have b3:=nN w3;have b4:=nN w4;refine⟨kind,W,N,M,K,S,T,aL,nL,cL,made,λj hj=>?_,⟨b2.1,b2.2,b3.1,b3.2,b4.1,b4.2,b1.1,b1.2,s5,s6⟩,hL,V⟩;match j,hj with
 |0,h=>exact cell 0 h _ g0|1,h=>exact cell 1 h _ g1|2,h=>exact cell 2 h _ g2|3,h=>exact cell 3 h _ g3|4,h=>exact cell 4 h _ g4|5,h=>exact cell 5 h _ g5|6,h=>exact cell 6 h _ g6|7,h=>exact cell 7 h _ g7|8,h=>exact cell 8 h _ g8
def Y4(w:w?)(a:Option Addr)(n:Nat):Prop:=∀k,k<n->∃b off kind W N M K S T aL nL cL made,a=y? ⟨b,off,x?⟩/\(∀j,j<9->C? w ⟨b,off+k*9+j,x?⟩=(GQ kind W N M K S T (.slice aL nL cL) made)[j]?)/\VG N M K W S T/\Rp w (.slice aL nL cL)/\O1 w aL nL cL
def DD(W:w?)(b:Nat):Prop:=∃c e f,W.1[b]?=y? (c? c e f)
def U7(h:Rp f i):Rp (mq f Mp) i:=by obtain⟨l,⟨a,c,J,O,U,V,W⟩,g⟩:=h;refine⟨l,⟨a,c,J,O,U,V,λj u B=>?_⟩,g⟩;obtain⟨b,o,e,Y⟩:=W j u B;exact⟨b,o,e,il (Gf B) Y⟩
def Tw{a x c}(h:C? P a=y? (.slice (y? x) l c)):x.1<P.1.size+(P.1.1.map SF).sum:=by
 unfold m5 at h
 cases B:P.1[a.1]? with
 |none=>rw[B]at h;cases h
 |some o=>
  rw[B]at h
  cases o with
  |cells cs e f=>
   simp only at h;split at h
   cases h;have J:=Ng Yr<|ZQ.2<|j4 h;have O:=Ng SF<|ZQ.2<|j4 B;simp only[SF,Yr]at J O;omega
  |_=>cases h
def V1{a}(h:Y4 P a l):PF (mq P<|DD P) a l:=λk O=>by
 obtain⟨b,off,kind,U,N,M,K,S,T,aL,nL,cL,made,V,B,W,Y,h5⟩:=h k O;refine⟨b,off,kind,U,N,M,K,S,T,aL,nL,cL,made,V,λj hj=>?_,W,U7 Y⟩
 have hn:DF (DD P) (Zo P)<|.slice aL nL cL:=by
  cases aL with
  |none=>trivial|some x=>
   by_cases J:DD P x.1;exact .inl J;obtain h|h:=h5 x q?
   exact absurd h J;exact .inr ⟨h.1,h.2,Tw<|B 7 o!,λc e f he=>J ⟨c,e,f,he⟩⟩
 match j,hj with
 |0,h=>exact il trivial (B 0 h)|1,h=>exact il trivial (B 1 h)|2,h=>exact il trivial (B 2 h)|3,h=>exact il trivial (B 3 h)|4,h=>exact il trivial (B 4 h)|5,h=>exact il trivial (B 5 h)|6,h=>exact il trivial (B 6 h)|7,h=>exact il hn<|B 7 h|8,h=>exact il trivial (B 8 h)
def Qe{args:V?}{f iI c tm}(J:P.ShapedOpen prog)(W:prog.2[f]?=y? iI)(hb:iI.9=y? c)(B:fh (pS P<|DD P) args args)(U:args++j2 (iI.7-args.size) B3=tm)
  (h:dv (jj (ending prog λO w=>O=i/\xq P w) P<|DD P) [⟨f,tm,[.code c]⟩] (mq P<|DD P) []):wR prog (λO w=>O=i/\xq P w) (solo (G (Frame.enter prog f args .normal) []) P) #[]:=
 LO (E:=jj (ending prog λO w=>O=i/\xq P w) P<|DD P) (m:=pS P<|DD P) q? (λb hb=>⟨hb.1,(E4 hb.2).symm⟩) (λr b V hb=>absurd (nY V).1 (by rw[<-(nY V).2];exact hb.2)) (I2 _ _ _) (by rw[show(jj _ P _).3.1.size=P.1.size from zP P _];exact Zu _) ⟨q?,q?⟩ q? W hb (QT λg Y=>CS J g<|VJ Y) (QE (Oe J) λ_ h=>h) B (by rwa[U])
def M3:qz.1≠ "runtime.NumGoroutine":=by have:qz.1 = "hint/hintlaw.plays":=k!;rw[this];decide
end
section
open Conc RowKit Maps
variable {f g I:w?}{i J P:v?}{l o p C U:Nat}{x0 x1 x2:Int}
def uQ{xs:L?}(h:R? I l o p i C xs)(B:O? i=y? U):∃c f,I.1[U]?=y? (c? c o f):=by
 obtain⟨rfl,_⟩|⟨g,cap,cur,rfl,_,J,_⟩:=h.2
 cases B
 cases B;exact⟨_,_,J⟩
def ZbP{s}(t:b?)(J:eK s.t<=16777216)(O:t.size<=la):Ye 34 (λp=>#[p,s? t]) s (n? i? (ml s.t t.1.1).1) ⟨s.b,s.s,(ml s.t t.1.1).2⟩:=
 λ_ _ U _ _ h=>(h.observe t J O).mono λ_ _ ⟨V,B,W,Y⟩=>⟨V,U,B,W,Y⟩
def Zb2{s}(t:b?)(hB:eK s.t<=16777216)(ht:t.size<=la):XX 114 (λp=>#[p,s? t]) s (n? i? (ml s.t t.1.1).1) ⟨s.b,s.s,(ml s.t t.1.1).2⟩:=by
 intro w F b ⟨vB,V,vT,h1,h2,h3,⟨ws,g1,g2,g3,g4⟩,⟨vs,k1,k2,k3,k4⟩⟩ hF hI
 have E:∀{G:F?},(∀k c e f,G k->w.1[k]?=y? (c? c e f)->e≠202/\e≠75)->∀w',dy G w w'->(∀{u es},kX w F u es->kX w' (iJ F w w') u es)/\R? w' 0 75 1 V _ ws:=λhG w' J=>by refine⟨fun {u es} he=>⟨dJ he.1 λk B=>?_,λk B=>.inl<|he.2 k B⟩,dH g2 λk B=>?_⟩;obtain⟨c,f,O⟩:=uQ he.1 B;exact J.5 k (hF k<|he.2 k B) λW=>(hG k _ _ _ W O).1 rfl;obtain⟨c,f,O⟩:=uQ g2 B;exact J.5 k (hF k<|g3 k B) λW=>(hG k _ _ _ W O).2 rfl
 have hT:∀{k c e f},w.1[k]?=y? (c? c e f)->F k->e≠202->e≠75->F k/\∀c e f,w.1[k]?=y? (c? c e f)->e≠202/\e≠75:=λO B n1 n2=>⟨B,λc' e' f' h=>by rw[O]at h;cases h;exact⟨n1,n2⟩⟩;refine(LB (λk=>F k/\∀c e f,w.1[k]?=y? (c? c e f)->e≠202/\e≠75) b vB V s.t t w (λk B=>hF k B.1) ⟨vT,h1,hT h1 h2 d! d!,vs,k1,k2,λk B=>?_,λi U=>?_⟩ ht hB).mono ?_;obtain⟨c,f,O⟩:=uQ k2 B;exact hT O (k3 k B) d! d!;obtain⟨u,u1,u2,u3⟩:=k4 i U;refine⟨u,u1,u2,λk B=>?_⟩;obtain⟨c,f,O⟩:=uQ u2 B;exact hT O (u3 k B) d! d!;rintro e w' ⟨rfl,⟨Y,q1,q2,vs',p1,p2,p3,p4⟩,J⟩;obtain⟨e1,e2⟩:=E (λk c e f B h=>B.2 c e f h) w' J;have up:∀k,iJ (λk=>F k/\∀c e f,w.1[k]?=y? (c? c e f)->e≠202/\e≠75) w w' k->iJ F w w' k:=λk B=>B.imp_left And.left;refine⟨q?,⟨vB,V,Y,q1,up _ q2,e1 h3,⟨ws,g1,e2,λk B=>.inl<|g3 k B,λi U=>?_⟩,vs',p1,p2,λk B=>up k<|p3 k B,λi U=>?_⟩,⟨J.1,J.2,J.3,J.4,λk B hn=>J.5 k B λh=>hn h.1⟩,hI⟩;obtain⟨u,u1,u2⟩:=g4 i U;exact⟨u,u1,e1 u2⟩;obtain⟨u,u1,u2,u3⟩:=p4 i U;exact⟨u,u1,u2,λk B=>up k<|u3 k B⟩
def AW.UO{V U:F?}{b}{O:E?}{ss:List<|E?}{J:List<|W?}(h:AW f g V U b O ss J)(W:Qg g)(s:b?)(most)(Y:eK J<=16777216)(hs:s.size<=la) :
  ld prog 35 #[p?<|y? ⟨b,0,x?⟩,s? s,n? i? most] g λe w'=>∃v,e=e? (.tuple #[v,n? i? (oO J s.1.1 most).2])/\R? w' g.1.size 9 1 v (oO J s.1.1 most).1.length (du (oO J s.1.1 most).1)/\B? g w':=by
 obtain⟨⟨h1,h2,h3,Bb,vS,B,n,vK,kn,h4,h5⟩,k1,k2,k3⟩:=h;exact Kk g U b J s most W ⟨h2,_,_,B,n,vK,kn,h5⟩ Y hs
def KE{Z:oJ prog}{Mp:F?}{fn}{tm:V?}{os:List OF}{k:List Item}{c:Nat->Nat}{va}{us:L?}{ms:W?}{es:List DJ}{s}{ops:Array Oper}{i}{rest:List Nat}{o:Oper}{Mb kind K}{S T:b?}{aL:Option Addr}{nL cL made}(hi:ops[i]?=y? o)(h:PS I g c l va J P p us ms es)(hj:U<l? es)(hx:es[U].x=s)(hy:es[U].y=s)(hq:UH Mb es)(hB:Mb<=16777216)(hW:Qg g)(ho:VG x1 x2 K x0 S T)(B:p<=1073741824)(hu:l? us<=17179869184)(hk:kind=10\/kind=11)
  (hn:∀w2,WM I w2 l p es.length us.length Mb->dv (jj Z f Mp) (⟨fn,fV o.1 tm<|.bool t?,r? ops rest::k⟩::os) w2 []) :
  dv (jj Z f Mp) (⟨78,#[p?<|y? ⟨l,0,x?⟩,.agg #[p?<|y? ⟨es[U].1,0,x?⟩,p?<|y? ⟨es[U].2,0,x?⟩],.agg<|GQ kind x0 x1 x2 K S T (.slice aL nL cL) made,B3,B3,B3,B3,B3,B3,B3,B3,B3,B3,B3,B3,B3,B3,B3,B3,B3,B3,B3,B3,B3,B3,B3,B3,B3,B3,B3,B3,B3,B3,B3,B3,B3,B3,B3,B3,B3,B3,B3,B3,B3,B3,B3,B3,B3,B3,B3,B3,B3,B3,B3,B3,B3,B3,B3,B3,B3,B3,B3,B3,B3,B3,B3,B3,B3,B3,B3,B3,B3,B3,B3,B3,B3,B3,B3,B3,B3,B3,B3,B3,B3,B3,B3,B3,B3,B3,B3,B3,B3,B3,B3,B3,B3,B3,B3,B3,B3,B3,B3,B3,B3,B3,B3,B3,B3,B3,B3,B3,B3,B3],[.code<|eG f78]⟩::⟨fn,tm,r? ops (i::rest)::k⟩::os) g []:=by
 unfold GQ;have ah:eK s.t<=Mb:=by rw[<-hx];exact(hq _<|Zw hj).2
 have h1:=h.ma hj hx hy;generalize es[U].1=b1 at *;generalize es[U].2=b2 at *;have H:=h!<|A? h1<|A? hq<|A? hB<|A? hW<|A? ho.s<|A? B<|A? hu<|A? ah hn;clear h h1 hx hy hq hB hW ho B hu ah hn;show dv _ (⟨_,_,[.code<|.seq (.region 0 _ f?)<|.seq (.seq (.region 1 _ f?)<|.block 0<|.seq (.region 2 _ f?)<|.cond _ _<|.seq (.region 8 _ f?)<|.cond _ (.seq (.region 9 _ f?)<|.seq (.region 10 _ f?)<|.seq (.region 11 _ f?) .ret) .skip)<|.seq (.region 12 _ f?)<|.seq (.region 13 _ f?)<|.seq (.region 14 _ f?)<|.seq (.region 15 _ f?)<|.seq (.region 16 _ f?) .ret]⟩::_) _ _;refine gD λkk W y B=>?_;have ac:=B.2;have ai:g.1.size<=y.1.size+1:=Nat.le_succ_of_le ac;have HL:J?<|pP g<|(y.alloc<|c? #[p?<|y? ⟨b1,0,x?⟩,p?<|y? ⟨b2,0,x?⟩] 122).alloc<|c? #[n? i? kind,n? i? x0,n? i? x1,n? i? x2,n? i? K,s? S,s? T,.slice aL nL cL,.bool made] 77:=B.trans<|.of<|((nr _ _).alloc (Zu _) _).alloc i! _;have p1:((y.alloc<|c? #[p?<|y? ⟨b1,0,x?⟩,p?<|y? ⟨b2,0,x?⟩] 122).alloc<|c? #[n? i? kind,n? i? x0,n? i? x1,n? i? x2,n? i? K,s? S,s? T,.slice aL nL cL,.bool made] 77).1[y.1.size]?=_:=(e! _ _ _ i!).trans<|sK _ _;have p2:=sK (y.alloc<|c? #[p?<|y? ⟨b1,0,x?⟩,p?<|y? ⟨b2,0,x?⟩] 122)<|c? #[n? i? kind,n? i? x0,n? i? x1,n? i? x2,n? i? K,s? S,s? T,.slice aL nL cL,.bool made] 77;clear B;go_wp2;apply eV W;clear W kk;rw[(i!:(y.alloc _).1.size=y.1.size+1)]at p2;generalize ((y.alloc<|c? #[p?<|y? ⟨b1,0,x?⟩,p?<|y? ⟨b2,0,x?⟩] 122).alloc<|c? #[n? i? kind,n? i? x0,n? i? x1,n? i? x2,n? i? K,s? S,s? T,.slice aL nL cL,.bool made] 77)=w1 at *;generalize y.1.size+1=O at *;generalize y.1.size=Pb at *;have HZ:J?<|g.1.size<=Pb/\g.1.size<=O/\Pb<w1.1.size/\O<w1.1.size:=⟨ac,ai,eN p1,eN p2⟩;have HP:J?<|w1.1[Pb]?=_/\w1.1[O]?=_:=⟨p1,p2⟩;clear p1 p2 ac ai;refine dv.seq<|gD λkk W y B=>?_;have HY:=h! B;have d1:=dx<|(B.3 _ HZ.o.2.2.1).trans HP.o.1;have d2:=dx<|(B.3 _ HZ.o.2.2.2).trans HP.o.2;clear B;obtain rfl|rfl:=hk
 all_goals
  go_wp2;apply eV W;clear W kk d1 d2;refine dv.block<|gD λkk W y2 B=>?_;have HY:=h!<|HY.o.trans B;clear B;go_wp2;apply eV W;clear W kk;refine dv.ni trivial q? (gD λkk W y3 B=>?_);have HY:=h!<|HY.o.trans B;clear B;go_wp2;apply eV W;clear W kk
 .refine dv.rG trivial q? (gD λkk W y4 B=>?_);have V:=HY.o.trans B;have aa:=HL.o.trans V;have d1:=dx<|(V.3 _ HZ.o.2.2.1).trans HP.o.1;have d2:=dx<|(V.3 _ HZ.o.2.2.2).trans HP.o.2;have C:=(H.o.1.same aa 0).opX hj<|ZbP S (by have:=H.o.2.2.1;have:=H.o.2.2.2.2.2.2.2.1;omega) H.o.2.2.2.2.1;have Q:∀w' c',Zc (vF c _ 0) y4 c' w'->(w'.1[Pb]?=_/\w'.1[O]?=_)/\Pb<w'.1.size/\O<w'.1.size:=λw' c' z=>⟨⟨((z.2 _ (AT HZ.o.2.2.1 V.2)<|nC HZ.o.1).1.trans<|V.3 _ HZ.o.2.2.1).trans HP.o.1,((z.2 _ (AT HZ.o.2.2.2 V.2)<|nC HZ.o.2.1).1.trans<|V.3 _ HZ.o.2.2.2).trans HP.o.2⟩,AT (AT HZ.o.2.2.1 V.2) z.1,AT (AT HZ.o.2.2.2 V.2) z.1⟩;have HQ:=h! Q;clear B V aa HY HL Q;go_wp2_with fail;apply C.mono;rintro e w5 ⟨rfl,c2,h2,z⟩;have HP:=h!<|HQ.o w5 c2 z;have H2:=h! h2;clear C h2 z d1 d2 HQ HZ;go_wp2;apply eV W;clear W kk;refine gD λkk W y6 B=>?_;have d1:=dx<|(B.3 _ HP.o.2.1).trans HP.o.1.1;have d2:=dx<|(B.3 _ HP.o.2.2).trans HP.o.1.2;have C:=(H2.o.same B 0).opY hj<|Zb2 S (by have:=H.o.2.2.1;have:=H.o.2.2.2.2.2.2.2.1;omega) H.o.2.2.2.2.1;clear B H2 HP;go_wp2_with fail;apply C.mono;rintro e w7 ⟨rfl,c3,h3,_⟩;have H3:=h! h3;clear C h3 d1 d2;go_wp2;apply eV W;clear W kk;refine gD λkk W y8 B=>?_;have HN:J?<|WM I y8 l p es.length us.length Mb:=⟨_,_,_,_,_,_,_,_,H3.o.same B 0,o!,o!,i!,i!,(H.o.2.1.mono o!).set<|ZE (UW s.t _)<|Nat.add_le_add_right H.o.2.2.2.2.2.2.2.1 25⟩;clear B H3;go_wp2_with fail;apply g!<|uR _ _;go_wp2;apply eV W;clear W kk;exact dv.back (v:=.bool t?) (.inr ⟨_,q?⟩) pi hi (λτ=>by simp[lf,pv,go_sem])<|H.o.2.2.2.2.2.2.2.2 _ HN.o
 refine dv.ni trivial q? (dv.skip<|dv.inBlock<|gD λkk W y4 B=>?_);have aj:U<(es.set U ⟨b1,b2,s,s⟩).length:=by rwa[cK]
 have V:=HY.o.trans B;have aa:=HL.o.trans V;have h4:=H.o.1.same aa 0;let ⟨F1,F2,hA,_⟩:=h4.x U aj;let ⟨F,hR,hF,_⟩:=h4.y U aj;rw[tq]at hA hR;dsimp only at hA hR;obtain⟨vB,vS,vT,r1,r2,_,_,r5⟩:=hR;have hW:=H.o.2.2.2.1;have C:=hA.UO ⟨gS aa hW.1,gS aa hW.2.1,gS aa hW.2.2⟩ S K (by have:=H.o.2.2.1;have:=H.o.2.2.2.2.2.2.2.1;omega) H.o.2.2.2.2.1;have HR:J? (An y4 F b2 vB vS s.t/\∀k,F k->k<y4.1.size):=⟨⟨vT,r1,r2,r5⟩,λk hk=>(hF k hk).1⟩;have au:=Uk s.t S.1.1 K;have d1:=dx<|(V.3 _ HZ.o.2.2.1).trans HP.o.1;have d2:=dx<|(V.3 _ HZ.o.2.2.2).trans HP.o.2;have HY:=h! V;have H4:=h! h4;clear hA r1 r2 r5 hF B V aa hW h4;go_wp2_with fail;apply C.mono;rintro e w5 ⟨v1,rfl,ad,ak⟩;have al:J?<|pP y4 w5:=.of ak;have Y:=h! ad;obtain⟨a1,e1,rfl,_⟩:=dC ad;clear C ak ad d1 d2;go_wp2;apply eV W;clear W kk;refine gD λkk W y6 B=>?_;have ab:=h!<|al.o.trans B;have Y:=h!<|dH Y.o λk hk=>B.3 k (Y.o.lt k hk).2;have V:=HY.o.trans ab.o;have d1:=dx<|(V.3 _ HZ.o.2.2.1).trans HP.o.1;have d2:=dx<|(V.3 _ HZ.o.2.2.2).trans HP.o.2;have C:=NJ F b2 vB vS s.t S K y6 (HR.o.1.stay λk hk=>ab.o.3 k<|HR.o.2 k hk) H.o.2.2.2.2.1 (by have:=H.o.2.2.1;have:=H.o.2.2.2.2.2.2.2.1;omega);clear B V al HR HY HP HZ;go_wp2_with fail;apply C.mono;rintro e w7 ⟨v2,rfl,ae,af⟩;have am:=h!<|ab.o.trans<|.of af;have Y:=h!<|dH Y.o λk hk=>af.5 k (Y.o.lt k hk).2;have ag:=h! ae;obtain⟨a2,e2,rfl,_⟩:=dC ae;clear C af ae d1 d2 ab;generalize (oO s.t S.1.1 K).1=an at *;generalize (oO s.t S.1.1 K).2=code at *;go_wp2;apply eV W;clear W kk;refine gD λkk W y8 B=>?_;have ao:=h!<|am.o.trans B;have Y:=h!<|dH Y.o λk hk=>B.3 k (Y.o.lt k hk).2;have C:=JU _ _ an y8 (Rd.eo Y.o) (Rd.eo<|dH ag.o λk hk=>B.3 k (ag.o.lt k hk).2) o!;clear B ag am;go_wp2_with fail;apply C.mono;rintro e w9 ⟨rfl,nq,rfl⟩;have ap:=h!<|ao.o.trans<|.of<|lx (nr _ _) nq;have Y:J?<|R? (y8.drewN nq) _ 9 1 _ _ _:=Y.o;clear C ao;generalize y8.drewN nq=w9 at *;go_wp2;apply eV W;clear W kk;refine gD λkk W av B=>?_;have C:=T6 H4.o (ap.o.trans B) (dH Y.o λk hk=>B.3 k (Y.o.lt k hk).2) H.o.2.2.2.2.2.1 H.o.2.2.2.2.2.2.1 o!;clear B Y ap H4;go_wp2_with fail;apply C.mono;rintro e aw ⟨rfl,_,c',ax,ay,az,a0,hp,aq⟩;have H9:=h!<|A? hp aq;clear C hp aq;go_wp2;apply eV W;clear W kk;refine gD λkk W ar B=>?_;have HN:J?<|WM I ar l p es.length us.length Mb:=⟨_,_,_,_,_,_,_,_,H9.o.1.same B 0,o!,by have:=H9.o.2;omega,i!,i!,(H.o.2.1.mono o!).set<|ZE H.o.2.2.2.2.2.2.2.1 o!⟩;clear B H9;go_wp2_with fail;apply g!<|uR _ _;go_wp2;apply eV W;clear W kk;exact dv.back (v:=.bool t?) (.inr ⟨_,q?⟩) pi hi (λτ=>by simp[lf,pv,go_sem])<|H.o.2.2.2.2.2.2.2.2 _ HN.o
def Tn{Z:oJ prog}{Mp:F?}{fn}{tm:V?}{os:List OF}{w0}{k:List Item}{c:Nat->Nat}{va}{us:L?}{ms:W?}{es:List DJ}{ops:Array Oper}{i}{rest:List Nat}{o:Oper}{M K}{S T:b?}{aL:Option Addr}{nL cL made}(hi:ops[i]?=y? o)(h:PS w0 I c l va J P p us ms es)(h1:1<=l? es)(au:l? es<=9)(hq:UH U es)(an:U<=16777216)(h5:5<=w0.1.size)(ag:WT w0)(ho:VG x2 M K x1 S T)(hL:Rp I<|.slice aL nL cL)(B:p<=1073741824)(hu:l? us<=17179869184)(hk:x0=1\/2<=x0/\x0<=11)
  (hn:∀w2,WM w0 w2 l p es.length us.length U->dv (jj Z f Mp) (⟨fn,fV o.1 tm<|.bool t?,r? ops rest::k⟩::os) w2 []) :
  dv (jj Z f Mp) (⟨41,#[p?<|y? ⟨l,0,x?⟩,.agg<|GQ x0 x1 x2 M K S T (.slice aL nL cL) made,B3,B3,B3,B3,B3,B3,B3,B3,B3,B3,B3,B3,B3,B3,B3,B3,B3,B3,B3,B3,B3,B3,B3,B3,B3,B3,B3,B3,B3,B3,B3,B3,B3,B3,B3,B3,B3,B3,B3,B3,B3,B3,B3,B3,B3,B3,B3,B3,B3],[.code<|eG f41]⟩::⟨fn,tm,r? ops (i::rest)::k⟩::os) I []:=by
 unfold GQ;have H:=h!<|A? h<|A? hq<|A? h5<|A? ag<|A? ho<|A? hL<|A? B<|A? hu hn;clear h hq h5 ag ho hL B hu hn;show dv _ (⟨_,_,[.code<|.seq (.region 0 _ f?)<|.seq (.seq (.region 1 _ f?)<|.cond _ (.seq (.region 2 _ f?) .ret) .skip)<|.seq (.seq (.region 3 _ f?)<|.cond _ (.seq (.region 4 _ f?) .ret) .skip)<|.seq (.region 5 _ t?)<|.seq (.block 0<|.seq (.region 6 _ f?)<|.cond _ (.seq (.region 7 _ f?) .ret)<|.seq (.region 8 _ f?)<|.cond _ (.seq (.region 9 _ f?) .ret) .skip)<|.seq (.region 10 _ f?) .ret]⟩::_) _ _;refine gD λW V y B=>?_;have HL:J?<|pP I<|y.alloc<|c? #[n? i? x0,n? i? x1,n? i? x2,n? i? M,n? i? K,s? S,s? T,.slice aL nL cL,.bool made] 77:=B.trans<|.of<|gR.alloc _ _;have p1:=sK y<|c? #[n? i? x0,n? i? x1,n? i? x2,n? i? M,n? i? K,s? S,s? T,.slice aL nL cL,.bool made] 77;clear B;go_wp2;apply eV V;clear V W;generalize y.alloc (c? #[n? i? x0,n? i? x1,n? i? x2,n? i? M,n? i? K,s? S,s? T,.slice aL nL cL,.bool made] 77)=w1 at *;generalize y.1.size=O at *;have HP:J? (∀y,pP w1 y->∀o,C? y _=_):=λy B=>dx<|(B.3 _<|eN p1).trans p1;clear p1;refine dv.seq<|gD λW V y B=>?_;have d:=HP.o y B;have HY:=h! B;clear B;obtain rfl|⟨k2,k9⟩:=hk
 .go_wp2;apply eV V;clear V W d;refine dv.rG trivial q? (gD λW V y2 B=>?_);have C:=SJ (H.o.1.same ((HL.trans HY).trans B) 0) o!;clear B;go_wp2_with fail;apply C.mono;clear C;rintro e w2 ⟨rfl,c',ao,bx,yb,hp⟩;have HN:J?<|WM w0 w2 l p es.length us.length U:=⟨c',ao,_,_,_,_,_,_,hp,o!,o!,i!,i!,λe he=>?_⟩;rotate_left
  .obtain h1|h1:=Z3.1 he
   exact H.o.2.1.mono o! e h1;obtain rfl:=Zg.1 h1;exact⟨q?,by simp[V5,eK]⟩
  clear hp;go_wp2;apply eV V;clear V W;exact dv.back (v:=.bool t?) (.inr ⟨_,q?⟩) pm hi (λτ=>by simp[lf,oQ,go_sem])<|H.o.2.2.2.2.2.2.2.2 _ HN
 have n1:(x0==1)=f?:=by rw[beq_eq_false_iff_ne];omega
 have n2:¬x0<2:=o!;have n3:¬11<x0:=o!;go_wp2;apply eV V;clear V W d;refine dv.ni trivial q? (dv.skip<|dv.seq<|gD λW V y2 B=>?_);have HY:=h!<|HY.trans B;have d:=HP.o y2 HY;clear B;go_wp2;apply eV V;clear V W d;refine dv.ni trivial (congrArg _ (j!:(decide _ || decide _)=f?)) (dv.skip<|gD λW V y3 B=>?_);have HY:=h!<|HY.trans B;have d:=HP.o y3 HY;have Y:=H.o.1.same (HL.trans HY) 0;obtain⟨j,ah⟩:∃j,j=Ew x1 es.length:=⟨_,q?⟩;have hj:=ah▸Jf x1 _ h1
 have aj:J? (∀w':w?,ld _ 75 _ w' λe ap=>e=e? (n? _ j)/\w'=ap):=λw'=>by rw[ah];exact Ux x1 _ w' H.o.2.2.2.2.1.7 H.o.2.2.2.2.1.8 h1 o!
 clear ah B
 obtain⟨g,cc,aq,e0,e1⟩:∃g cc,va=.slice _ _ cc/\C? y3 _=y? _/\C? y3 _=y? _:=by
  obtain⟨_,h0⟩|⟨g,cap,cur,he,_⟩:=Y.1.4.2
  omega;have hc:=Y.1.4.cells (g:=g) (by rw[he];rfl);have hp:=Fg es j hj;refine⟨g,cap,he,?_,?_⟩;have:=hc _ _ hp.1;rwa [wn,ZD]at this;have:=hc _ _ hp.2;rwa [wn,ZD]at this
 subst aq;have d0:=dx Y.1.1 0;have dw:C? y3 _=y? (n? _ x1):=d 1;have av:(j:Int)<(l? es:Int):=o!;have ak:=H.o.2.1 _<|Zw hj;have HX:=h! ak;have HQ:=h! Y;clear Y ak d;generalize al:es[j].1=b1 at *;generalize am:es[j].2=b2 at *;have HB:J?<|es[j].1=b1/\es[j].2=b2:=⟨al,am⟩;clear al am;refine jS (Sd:=λa y=>y.2=y3.2->qP _ _ _ [15] a y) (last:=15) (tl:=[]) k! ?_<|λa y h ht=>h ht;refine eJ 0 ?_ ?_<|eJ 1 ?_ ?_<|eJ 2 ?_ ?_<|eJ 3 ?_ ?_<|eJ 4 ?_ ?_<|eJ 5 ?_ ?_ ?_
 any_goals(intro y hy;have q0:=eT hy d0;have q1:=eT hy dw;exact x!)
 refine eJ 6 ?_ ?_<|eJ 7 ?_ ?_<|eJ 8 ?_ ?_<|eJ 9 ?_ ?_<|eJ 10 ?_ ?_ ?_
 any_goals(intro y hy;have q0:=eT hy d0;exact x!)
 refine eJ 11 ?_ ?_ ?_;rotate_left
 .intro y hy;exact y!<|aj y
 refine eJ 12 ?_ ?_<|eJ 13 ?_ ?_ ?_
 any_goals(intro y hy;have q0:=eT hy e0;have q1:=eT hy e1;exact x!)
 go_simp;refine M5 (i:=14) k! d!<|Jo (λg=>p?<|y? ⟨g,0,x?⟩) (λg y=>y.1[g]?=y? (c? #[p? x?,p? x?] 122 (0,0))/\y3.1.size<=g) q? (lu.zc _) (lu.free _) (λ_ y y' h hx=>⟨(hx.5 _<|eN h.1).trans h.1,h.2⟩) (λ_ _ _ h=>h) l! ?_ λg'=>?_
 .intro y hy;obtain⟨_,hz⟩:=id hy;unfold lO;go_simp;exact⟨gR.alloc _ _,q?,sK _ _,hz.4⟩
 refine sJ k! (λt=>GG k! _ _) ?_;intro y ⟨hy,ad,ar⟩ ht;have ae:=h!<|HY.trans<|.of<|xS hy ht;have q0:=dx ad;have q1:=λo=>dO ad o;apply pX q? rfl;unfold lO;go_simp;apply uX;apply eV V;obtain⟨w4,ab⟩:∃w4,w4=(y.setCell ⟨g',0,x?⟩<|p?<|y? ⟨b1,0,x?⟩).setCell ⟨g',1,x?⟩ (p?<|y? ⟨b2,0,x?⟩):=⟨_,q?⟩;have p4:w4.1[g']?=y? (c? #[p?<|y? ⟨b1,0,x?⟩,p?<|y? ⟨b2,0,x?⟩] 122 (0,0)):=by rw[ab,heap_set<|heap_set ad _ _];rfl
 have aa:J?<|pP w1 w4:=by have hz:=HY.2;refine⟨by rw[ab];exact ae.1,by rw[ab];simp[m4];exact ae.2,λk hk=>?_⟩;rw[ab,ZH _ _ _ _ (o!:k≠g'),ZH _ _ _ _ (o!:k≠g')];exact ae.3 k hk
 have ai:J? (∀y,pP w4 y->∀o,C? y _=_):=λy B=>dx<|(B.3 _<|eN p4).trans p4;rw[<-ab];clear ab p4 q0 q1 ad ar hy ht ae HY HQ d0 dw e0 e1 aj;refine dv.seq<|dv.block<|gD λW V y5 B=>?_;have H5:=h! B;have d:=HP.o y5<|aa.trans B;clear B;go_wp2;apply eV V;clear V W d;by_cases k5:x0<=5
 .refine dv.rG trivial (congrArg _<|decide_eq_true k5) (gD λW V y6 B=>?_);have H6:=h!<|H5.trans B;have d:=HP.o y6<|aa.trans H6;have e:=ai.o y6 H6;have C:=Xw (aL:=aL) (nL:=nL) (cL:=cL) (made:=made) (H.o.1.same ((HL.trans aa).trans H6) 0) hj q? HX.1.symm H.o.2.2.2.2.1 k2 k5;rw[HB.1,HB.2]at C;unfold GQ at C;clear B H5;go_wp2_with fail;apply C.mono;clear C d e;rintro e w7 ⟨rfl,c',s',ht,hp⟩;have HN:J?<|WM w0 w7 l p es.length us.length U:=⟨c',_,_,_,_,_,_,_,hp,o!,o!,i!,i!,(H.o.2.1.set (by rw[ht];exact HX.2)).mono o!⟩;clear hp;go_wp2;apply eV V;clear V W;exact dv.back (v:=.bool t?) (.inr ⟨_,q?⟩) pm hi (λτ=>by simp[lf,oQ,go_sem])<|H.o.2.2.2.2.2.2.2.2 _ HN
 refine dv.ni trivial (congrArg _<|decide_eq_false k5) (gD λW V y6 B=>?_);have H6:=h!<|H5.trans B;have d:=HP.o y6<|aa.trans H6;clear B H5;go_wp2;apply eV V;clear V W d;by_cases k8:x0<=8
 .refine dv.rG trivial (congrArg _<|decide_eq_true k8) (gD λW V y7 B=>?_);have H7:=h!<|H6.trans B;have d:=HP.o y7<|aa.trans H7;have e:=ai.o y7 H7;have ac:=(HL.trans aa).trans H7;have C:=VM (made:=made) (H.o.1.same ac 0) hj q? HX.1.symm H.o.2.2.2.2.1 (H.o.2.2.2.2.2.1.low ac) o! k8;rw[HB.1,HB.2]at C;unfold GQ at C;clear B H6 ac;go_wp2_with fail;apply C.mono;clear C d e;rintro e w8 ⟨rfl,c',s',ht,hp⟩;have HN:J?<|WM w0 w8 l p es.length us.length U:=⟨c',_,_,_,_,_,_,_,hp,o!,o!,i!,i!,(H.o.2.1.set (by rw[ht];exact HX.2)).mono o!⟩;clear hp;go_wp2;apply eV V;clear V W;exact dv.back (v:=.bool t?) (.inr ⟨_,q?⟩) pm hi (λτ=>by simp[lf,oQ,go_sem])<|H.o.2.2.2.2.2.2.2.2 _ HN
 refine dv.ni trivial (congrArg _<|decide_eq_false k8) (dv.skip<|dv.inBlock<|dv.sr λW V=>?_)
 (refine fH ?_;go_simp);refine ud q? l! k! λτ=>?_;have q:=ai.o _<|H6.tape τ;unfold lO;go_simp;simp only[iR];apply dv.qg τ;clear q;refine ud q? l! k! λτ=>?_;have q:=HP.o _<|(aa.trans H6).tape τ;unfold lO;go_simp;simp only[iR];apply dv.qg τ;clear q;have ac:=(HL.trans aa).trans H6;let ⟨e1,e2⟩:=HB.o;subst e1;subst e2;have Y:=H.o.1.same ac 0;have af:=H.o.1.3.trans ac;have hW:=H.o.2.2.2.1;by_cases kt:x0=9
 case' pos=>subst kt;refine dv.su _ (iI:=f78) (c:=eG f78) q? l! pi k! BF q? (by simp[eI,Plain]) k!<|ML (aL:=aL) (nL:=nL) (cL:=cL) (made:=made) q? Y hj q? HX.1.symm H.o.2.2.1 (Hi ⟨hW.2,H.o.2.2.1⟩ af) H.o.2.2.2.2.1 H.o.2.2.2.2.2.2.1 H.o.2.2.2.2.2.2.2.1 λw8 c' aw ax ay az hp a0=>?_;have HN:J?<|WM w0 w8 l p es.length us.length U:=⟨c',_,_,_,_,_,_,_,hp,o!,o!,o!,o!,H.o.2.1.mono o!⟩;clear hp
 case' neg=>refine dv.su _ (iI:=f78) (c:=eG f78) q? l! pi k! BF q? (by simp[eI,Plain]) k!<|KE (kind:=x0) (aL:=aL) (nL:=nL) (cL:=cL) (made:=made) q? Y hj q? HX.1.symm H.o.2.1 an ⟨gS af hW.1.1,gS af hW.1.2.1,gS af hW.1.2.2⟩ H.o.2.2.2.2.1 H.o.2.2.2.2.2.2.1 H.o.2.2.2.2.2.2.2.1 o! λw8 hN=>?_;have HN:=h! hN;clear hN
 all_goals
  rw[kA];go_simp
  (refine fH ?_;go_simp);apply dv.ie V;clear V W;exact dv.back (v:=.bool t?) (.inr ⟨_,q?⟩) pm hi (λτ=>by simp[lf,oQ,go_sem])<|H.o.2.2.2.2.2.2.2.2 _ HN
def WD:Tz 11 WT:=by intro Z W0 Mp fn tm os wl w0 k c B va vl vm last us ms es ops i rest o Mb kind W N M K S T aL nL cL made O h U J V Y h5 hX ho hL hl hu hk hn;exact Tn O h U J V Y h5 hX ho hL hl hu hk hn
end
section
open ChangeShapes WideShapes ChangeAt RowKit Conc
def SD{W a n cap}(J:W.ShapedOpen prog)(U:Qg W)(O:qv W)(hs:Y4 W a n)(V:∀x,a=y? x->∃c e f,W.1[x.1]?=y? (c? c e f))(hn:n<=600000) :
  wR prog (λv' w=>v'=.bool t?/\xq W w) (solo (G (Frame.enter prog 12 #[.slice a n cap] .normal) []) W) #[]:=by
 refine Qe (iI:=rv) (c:=eG rv) J pr k! (.one ?_) q? ?_
 .cases a with
  |none=>exact .gC _ _|some x=>exact .slice _ _<|.mk<|pY<|V x q?
 have Y:=Q3 (Mp:=DD W) J;show dv _ (⟨_,#[.slice a n cap,B3,B3,B3,B3],[.code<|.seq (.region 0 _ f?)<|.seq (.region 1 _ f?) .ret]⟩::_) _ _;refine dv.seq<|dv.region ?_
 (refine fH ?_;go_simp);refine dv.inRegion<|dv.seq<|dv.region ?_
 (refine fH ?_;go_simp);refine dv.su #[.slice a n cap,n? i? 2,n? i? 11,B3,B3,B3,B3,B3,B3,B3,B3,B3,B3,B3,B3,B3,B3,B3,B3,B3,B3,B3,B3,B3,B3,B3,B3,B3,B3,B3,B3,B3,B3,B3,B3,B3,B3,B3,B3,B3,B3,B3,B3,B3,B3,B3,B3,B3,B3,B3,B3,B3,B3,B3,B3,B3,B3,B3,B3,B3,B3,B3,B3,B3] (i:=1) (iI:=qz) (c:=eG qz) q? q? ry k! M3 q? (by simp[eI,Plain]) k! ?_;refine Mn q? WD Y (λy B=>⟨⟨gS B (Bi U).1,gS B (Bi U).2.1,gS B (Bi U).2.2⟩,Hi ⟨Si (Mp:=DD W) O,Y⟩ B⟩) (V1 hs) hn λw2 B=>?_
 (refine fH ?_;go_simp);apply dv.inRegion;refine XB (iI:=rv) (rs:=#[]) (λ_ h=>h) pr k! (B.3) trivial λw=>?_;simp[lf,results12,go_sem,fV]
end
section
open Go
def we{p s c}(f)(fn)(hn:c.1=p.1)(hs:c.2=p.2)(W:c.4=s.1)(B:c.20=.entering)(V:c.18=[])(Y:c.21=[]/\c.22=x?/\c.23=[]/\c.24=f?/\c.25=f?/\c.26=[]/\c.27=[])(hb:c.28=f?)(aa:c.29=t?)(J:c.30=x?)(O:c.17=s.4.isSome)(ab:c.43=f?)
  (ac:p.3.2.funcNamed c.3=y? f) (hf:p.3.2.2[f]?=y? fn) (closed:lv p.3.2 f fn s.bare c=t?) (hi:fn.isInstance p.3.2 c.5 c.6) (hw:fn.isWrapper p.3.2 c.7 c.8)
  (h:∀os,os.Started->∀(H)(enc:ln×v?->H),∀F,ls c.assume p.3 os f .any (c.pre enc p.3.2 fn s)<|(s.at F).post enc p.3.2 fn c.11 c.12 c.13 c.14):c.holds p s:=by
 simp only[lv,IT,beq_iff_eq,Array.all_eq_true_iff_forall_mem,Zy,decide_eq_true_eq]at closed;obtain⟨⟨⟨⟨⟨⟨⟨⟨⟨⟨⟨⟨⟨⟨⟨⟨⟨⟨⟨⟨⟨⟨⟨⟨⟨⟨⟨⟨⟨⟨⟨k1,k2⟩,k3⟩,k4⟩,k5⟩,k6⟩,k7⟩,k8⟩,k9⟩,ad⟩,ae⟩,af⟩,ag⟩,ah⟩,ai⟩,aj⟩,ak⟩,al⟩,am⟩,an⟩,ao⟩,ap⟩,aq⟩,U⟩,ar⟩,au⟩,av⟩,aw⟩,ax⟩,ay⟩,az⟩,a0⟩:=closed;have hq:∀os:Os,Stop.quiet _ os:=λos k hk=>by rw[k9]at hk;cases hk
 refine⟨k1,hn,hs,W,k2,k3,(by unfold zk;rwa[B]),(by unfold yu;rw[B];exact⟨Y.1,Y.2.1,Y.2.2⟩),f,fn,ac,hf,⟨k4,an⟩,(λx=>by rw[hb]at x;cases x),by unfold Bs;rwa[J],hi,hw,k6.trans k7.symm,⟨k8.trans k9.symm,by unfold Program.envWorded;rw[k9];rfl,ar⟩,ad,ae,af,ag,ah,⟨ai,az,a0⟩,⟨aj,ao⟩,⟨ak,ap,ax,ay⟩,⟨aq,av,aw,al⟩,?_,λn a1=>varReadable_some<|am n a1,⟨_,by unfold yt;rw[V,B];exact WideRow.started_initial,hq _⟩,[],by unfold Bv;rw[J],λos st _ H enc _=>?_⟩;rw[V,O]
 cases a2:c.33 with
 |none=>simp|some _=>rw[a2]at U;cases U
 rw[z9 ab];unfold Bx Bk B0 B1;simp only[B,k6,hb,aa,J,V];exact λF=>(λF=>h os (by unfold yt at st;rwa[V,B]at st) H enc F au) F
end
section
open ChangeMaps ChangeShapes WideShapes ChangeAt RowKit Conc
def Ht{H}(l:List<|DataW H):l? l*2<=ne l+l? l:=by
 induction l with
 |nil=>simp[ne]|cons d r B=>
  have:1<=nl d:=by
   cases d with
   |lit l=>cases l<;>simp[nl]
   |nil=>simp[nl]|ptr d=>simp[nl]|slice elems spare=>simp[nl]|agg parts=>simp[nl]|iface t d=>simp[nl]|map entries=>simp[nl]|held h=>simp[nl]
  simp only[ne,w!];omega
def SQ{H}(D:Nat->DataW H):∀(n),(∀i,i<n->2<=nl (D i))->2*n<=ne ((cC n).map D):=by
 have B:∀l r:List<|DataW H,ne (l++r)=ne l+ne r:=by
  intro l r;induction l with
  |nil=>simp[ne]|cons x l J=>simp only[B!,ne,J];omega
 intro n;induction n with
 |zero=>intro _;omega|succ n J=>intro h;have O:=J<|λi U=>h i o!;have V:=h n o!;rw[D!,Z4,B];simp only[ZK,ZU,ne];omega
def Ks{H}{enc:ln×v?->H}{W}{a0:Option Addr}{B cap0}{d0:DataW H}{p0:List MemPlace}(h0:DataW.Trod enc prog W 0 (λ_=>t?) t? 22 (.slice a0 B cap0) d0 p0)(Y:ne [d0]<=1048576):Y4 W a0 B/\B<=600000:=by
 obtain⟨ag,hf⟩:=h0;obtain⟨J,_⟩|⟨x,l,c,m,n,D,Pl,J,_,hl,hm,ab,hx,U⟩:=Deep.open_slice pc hf
 simp[wh]at J;obtain⟨rfl,rfl,rfl⟩:=J;exact⟨λk Y=>o!,o!⟩;simp[wh]at J;obtain⟨rfl,rfl,rfl⟩:=J;have ai:B<=m:=by rw[ab];split<;>omega
 have fu:ne ((cC B).map D)<=1048576:=by
  have O:=Y
  have hd:d0=.slice ((cC B).map D) ((cC<|m-B).map λj=>D<|B+j):=by have:=congrArg xb hx;exact this
  rw[hd]at O;simp only[ne,nl]at O;omega
 constructor;intro k Y;obtain⟨b,off,spot⟩:=x
 have ac:spot=x?:=by obtain⟨aj,aa,_⟩:=U 0 o!;rw[O0]at aa;obtain⟨_,ah,V⟩:=m6 aa;have h1:=V 0 o!;rw[BY o!]at h1;simpa[wu]using m' h1
 subst ac;let ⟨cs,hc,ht⟩:=U k o!;rw[O0,wn]at hc;let ⟨kind,Wn,N,M,K,S,T,aL,nL,cL,made,ad⟩:=WW hc ht<|ZE (ul _ k _<|by simp[Y]) fu;exact⟨b,off,kind,Wn,N,M,K,S,T,aL,nL,cL,made,q?,ad⟩;have O:=Y
 have hd:d0=.slice ((cC B).map D) ((cC<|m-B).map λj=>D<|B+j):=by have:=congrArg xb hx;exact this
 have hD:∀i,i<B->2<=nl (D i):=λi hi=>by
  obtain⟨cs,hc,ht⟩:=U i o!;obtain⟨xs,n',rfl,ae,_,ak,_⟩:=un ra ht;have af:D i=.agg (xs.map (·.1)):=by have:=congrArg xb ae;exact this
  have al:(xs.map (·.1)).length=9:=by rwa[Z5]
  have:=Ht (xs.map (·.1));rw[af];simp only[nl];omega
 have:=SQ D B hD;rw[hd]at O;simp only[ne,nl]at O;omega
def RY(os)(args:V?):laidMet prog XD ((m8 prog 29 os).forCall (λ_ _=>0) ⟨#[],args,[]⟩).memory:=
 laidMet_of_run' 8 k! k!
def Yo(os){H}(enc:ln×v?->H):∃places,DataW.whole enc prog ((m8 prog 29 os).forCall (λ_ _=>0) ⟨#[],#[.slice x? 0 0],[]⟩).memory rv.4.1 nn.2 f? #[Value.slice x? 0 0].1 8=y? ([.nil],[],places):=
 ⟨[],k!⟩
def X4(os)(B:os.Started)(H)(enc:ln×v?->H)(F) :
  ls {} rt os 12 .any ((Rows.OpenSpec.upto nn).preRow enc prog rv no.15 f? XD) (((Rows.OpenSpec.upto nn).at F).post enc prog rv f? t? f? f?):=by
 obtain⟨places,hx⟩:=Yo os enc
 refine rN (C:=rt) (s:=Rows.OpenSpec.upto nn) (F:=F) ZaH B pr
  (witness_row_at (enc:=enc) (C:=rt) f? (m8 prog 29 os) #[.slice x? 0 0] q? k! k! k!
    (OpenSpec.preRow_of_cond 8 hx k! (λk hk=>by cases hk;kernel_rfl) k!<|RY os _)) ?_
 intro W base args ds gs ac J hW U hL ad _;have O:∀(j:Nat)t v,rv.4[j]?=y? t->args[j]?=y? v->wg prog W _ base t v:=J;have Y:=hW;obtain⟨p,q,aa,hV,rfl,_,_⟩:=hW;have hA:DataW.TrodAll enc prog W 0 _ t? _ _ ds p:=aa;rw[params12]at hA O;obtain⟨v0,ai,d0,aj,p0,q0,V,rfl,rfl,h0,r0⟩:=trodAll_cons hA;obtain⟨rfl,rfl,rfl⟩:=trodAll_nil r0;obtain rfl:args=#[v0]:=by cases args;simp_all
 obtain⟨rfl,rfl⟩:=trodVars_none hV;obtain⟨a0,ag,ah,rfl⟩:=okWide_slice pc<|O 0 22 v0 q? q?;have ae:=O 0 22 _ q? rfl;have k0:=h0;have af:∀x∈p0,x.block<W.1.size:=by obtain⟨m,hm⟩:=k0;exact DataW.trod_lt m _ _ _ hm
 let ⟨hs,hn⟩:=Ks h0<|of_decide_eq_true<|U _ q?;clear aa J V;simp only[Z6]at Y;refine(SD ad (Hl hL) (Uf hL) hs (λx hx=>by subst hx;exact(QU pc ae).2) hn).mono λv w ⟨hv,ab⟩=>?_;subst hv;refine⟨{w with tape:=W.2},rfl,?_⟩;exact⟨_,_,_,[],_,[],Y,trodAll_mk1<|shut_bool pd _,trodAll_cons_mk (Below.trod xn k! (of_decide_eq_true k!) k0 ab af) trodAll_mk0,q?,ab.frame _,λh=>by cases h⟩
def Wj:lv prog 12 rv (Rows.OpenSpec.upto nn).bare no=t?:=by unfold lv;simp only[IT];and_intros <;>(as_aux_lemma=>kernel_rfl)
def Xp:Rows.AllUptoSaid:=
 we 12 rv q? q? q? q? q? ⟨q?,q?,q?,q?,q?,q?,q?⟩ q? q? q? q? q? k! pr Wj
  (of_decide_eq_true k!) (by unfold Func.isWrapper;first|(rw[if_pos<|by decide +kernel];kernel_rfl)|(rw[if_neg<|by decide +kernel];exact⟨q?,q?⟩))
  (λos B H enc F=>by rw[z8];exact X4 os B H enc F)
def SV(f)(fn)(O:Tryz.pinned.3.2.funcNamed no.3=y? f)(B:Tryz.pinned.3.2.2[f]?=y? fn) :
  t?=Tryz.pinned.3.2.looks []/\∀(j:Nat)t,fn.4[j]?=y? t->Tryz.pinned.3.2.wantsStandIn t=f?:=by
 obtain rfl:f=12:=sz ((k!:prog.funcNamed no.3=y? 12).symm.trans O) |>.symm
 obtain rfl:fn=rv:=(sz<|pr.symm.trans B).symm;refine⟨k!,λj t J=>?_⟩;rw[params12]at J;obtain rfl:t=22:=by simpa using j4 J
 exact(k!:prog.wantsStandIn 22=f?)
end
