import Derived.Conc.LeavingOf
import Derived.Deep.DeepHandedRow
import Derived.LaidMore
import Derived.Stop.LaidErr
import Derived.Lib.SmallJoins
import Derived.Test.YtocbogeoffeolaaGreatDoorAllAD
import Derived.Test.YtocbogeoffeolaaGreatDoorCards
import Derived.Test.YtocbogeoffeolaaGreatDoorTie
set_option linter.all false
set_option maxHeartbeats 8000000
set_option maxRecDepth 1000000
open List renaming range->cC,map_map->cH,length_set->cK,length_take->cX,getElem?_range->de,getElem_set->dl,getElem_range->dB,size_toArray->eg,ext_getElem?->ep,length->et,filter_map->ev,mem_or_eq_of_mem_set->e6,Nodup->fs,length_range->fB,prefix_refl->gc,sum_append->gi,map->gt,set_set->gv,all->gx
open Nat renaming pow_le_pow_right->hH,mul_le_mul->hU,strongRecOn->ip,div_le_self->i0,sub_self->i1,pow_succ->i2,mod_one->i6
open Array renaming getElem_ofFn->jt,toList_append->j1,replicate->j2,ofFn->j3,mem_of_getElem?->j4,getElem?_mapIdx->ka,toList_inj->kc,set!_eq_setIfInBounds->kd,sizeOf_getElem->kj,length_toList->ko,getElem?_push->kr,getElem_map->ks,ext->kx
open Classical renaming choose_spec->n7,choose->n8,propDecidable->oa,axiomOfChoice->ol
open Option renaming isNone_some->oo,isNone_none->op,bind_none->ot
open ByteArray renaming size_append->ow,data_append->o0,ext->o7,size->oA,data_extract->oB
open Int renaming toNat_natCast->sd,tmod_eq_emod_of_nonneg->sg,tdiv_eq_ediv_of_nonneg->si,not_lt->sm
open Option.some renaming inj->sz
open Prod renaming fst->xb,snd->xt,ext->x'
open And renaming intro->A?
open Array renaming setIfInBounds->S?
open Bool renaming false->f?,true->t?
open List renaming length->l?,toArray->a?
open Option renaming none->x?,some->y?
namespace Go.Proofs.YtocbogeoffeolaaGreatDoor
open Go renaming maxLen->la,Calls->ld,results->lf,TypeId->ln,yielded->lo,ReturnsInLeavingWide->ls,joinedFacts->lv,goexitEntry->lw,below_drewN->lx,laidMetH->l0,FuncId->mm
open World renaming setCell->m4,cell?->m5,cells?_some->m6,drewN->m7,doorLaid->m8,block_lt_of_cell?->m9,cell?_spot->m',var?->nc
open Proofs.YtocbogeoffeolaaGreatDoor.Rows renaming uptoBulkAll->ne,uptoBulk->nl,allSpec->nn,allUptoRow->no
open RowKit.Below renaming refl->nr,setCell->n6
open Proofs.Tryz renaming underlying9->oC,underlying3->oK,underlying118->oN,results41->oQ,underlying75->oT,underlying22->pc,underlying4->pd,func78->pi,func41->pm,func12->pr,ntmps77->pt,results78->pv,ntmps205->px,ntmps111->p5,ntmps110->p6,ntmps108->p7,ntmps107->p',func77->qr,underlying141->qt,f13->qz,underlying77->ra,underlying31->rb,func205->rc,func111->re,func110->rf,func108->ro,func107->rr,checked->rt,f12->rv,func17->rx,func13->ry
open Region renaming ready->s8,wanted->sA,noSelect->sB,free->te
open DataW renaming trod_int->ti,trod_string->tt,trod->ty,trod_struct->un,trod_bool->ut
open IntKind renaming wrap->vt,signed->vx,bits->v9
open Value renaming ownBlock->wd,okWide->wg,cells->wh
open Value.slice renaming injEq->wi
open Addr renaming add_lit->wn,add->wu
open Lib renaming decDigits->yc,TabIs->yd,pow10Tab->yg,tabIs_of_head->yh
open Region.linearise renaming go->yo
open OpenClaim renaming world->yt,startTold->yu,startFits->zk,pre_eq_preRow->z8,post_not_still->z9,okInput->Bk,namedList->Bs,lists->Bv,form->Bx,atReturn->B0,always->B1
open Go renaming undef->B3
open Go renaming Program->P?,Value->v?,World->w?
open Ending renaming returned->e?
open IntKind renaming i64->i?
open Item renaming inRegion->r?
open Obj renaming cells->c?
open Value renaming int->n?,ownBlock->O?,pointer->p?,string->s?
open World renaming cell?->C?,ownsRow->R?
open Proofs.Tryz
section
open Conc RowKit Maps
variable {f g:Nat}
def xd(w:w?)(a)(v):(w.setCell a v).1.size=w.1.size:=by simp
def NW(c:Code):Code:=match c with
 |.seq _ (.seq _<|.seq _ y)=>y|_=>.skip
def Vq:f80.1≠ "runtime.NumGoroutine":=by decide
def JA:f82.1≠ "runtime.NumGoroutine":=by decide
def oe(cl:Nat->Option Nat)(n r:Nat):Nat->Option Nat:=λk=>if k=n then y? r else cl k
def NU{cl}(h:f<7):(yk cl).set! f (.chan<|y? g)=yk (oe cl f g):=by rcases(o!:f=0\/f=1\/f=2\/f=3\/f=4\/f=5\/f=6)with rfl|rfl|rfl|rfl|rfl|rfl|rfl<;>rfl
def sw(A:Ask)(num:Nat)(p:Nat×eE):rj:=if A.has p.2=t? then⟨num,p.1,p.2.1,t?,Gy p.2,p.2.3,p.2.4,p.2.5⟩else⟨num,p.1,p.2.1,f?,[],[],0,0⟩
def JK(A)(num)(p):(sw A num p).val=pJ A num p:=by unfold sw pJ;split<;>rfl
structure JQ(ms:List rj):Prop where
 len:l? ms<=1048576
 each:∀m∈ms,m.1<=1000/\m.2<4611686018427387904/\l? m.3<=la
 places:(ms.map λm=>(m.1,m.2)).Nodup
 names:((gw ms ms).map eE.name).Nodup
 texts:∀e∈gw ms ms,l? e.3<=1048576
def Wb{a b c}(h:V3 a b=V3 c f):a=c/\b=f:=by unfold V3 at h;simp only[Value.agg.injEq,Array.mk.injEq,List.cons.injEq,Value.int.injEq,true_and,and_true]at h;omega
def JQ.all{ms}(h:JQ ms):S8 (ms.map rj.val) where
 met:=λv J=>by obtain⟨m,hm,rfl⟩:=Zv.1 J;have:=h.2 m hm;exact⟨m.1,m.2,_,_,_,_,_,_,o!,this.2.1,q?⟩
 nodup:=by rw[cH];have B:=h.3;rw[fs,ZY]at B⊢;refine B.imp fun {x y} hne e=>hne ?_;have:=Wb e;rw[this.1,this.2]
 len:=by rw[Z5];have:=h.1;unfold la;omega
def XG{ms:List rj}{l:List<|v?×v?}(B:(l.map xt).Perm<|ms.map rj.val)(J:∀p∈l,p.1=Sf p.2):l.Perm<|ms.map rj.kv:=by
 have e:l=(l.map xt).map λv=>(Sf v,v):=by
  rw[cH];conv=>lhs;rw[<-List.map_id l]
  refine ZM λp O=>?_;show p=(Sf _,p.2);rw[<-J p O]
 have U:=B.map λv=>(Sf v,v);rw[cH (l:=ms)]at U;rwa[e]
def Yn(ms:List rj)(L:E?):Prop:=L.Perm (gw ms ms)/\L.Pairwise λx y=>fw x y=t?
def Fp(ms:List rj)(l cp:Nat):Prop:=l=0/\cp=0/\Yn ms []
def EF(ms:List rj)(off:Nat)(spot:Option Nat)(l cp:Nat)(cs:V?)(e:ln)(f:Nat×Nat):Prop:=
 off=0/\spot=x?/\e=96/\f=(0,0)/\∃L,Yn ms L/\l=l? L/\l<=cp/\cp<=la/\cs.size=cp*4/\cs.1.take (l*4)=l6 L
def F8{Z:oJ prog}{w:w?}{T:List Frame}{q K}{wl:w?}{V:Vs}{A:Ask}{es:E?}{ex}{cl:Nat->Option Nat}{sa:Option Addr}{n sc bx b s}{ms aJ:List rj}{a2 a3 a4 a6 a8 a9 a10 a11 a12 a13 a14 a15 a16 a17 a18 a19 a20 a21 a22 a23 a24 a25 a26 a27 a28 a29 a30 a31 a32 a33 a34 a35 a36 a37 a38 a39 a40}(hT:∀ps,T=[ps]->ps.5≠.panicking [lw])
  (hs:s=wl.1.size) (hA:A.Ok) (hK:K<=s+5) (h5:5<=s) (ad:f<s) (ae:5<=q) (hq:q<w.1.size) (U:w.1[q]?=y? ex) (hM:uF ex es) (W:∀(r:Nat)a c,wl.1[r]?≠y? (.map a c))
  (hl:l? es<=100000) (af:∀e∈es,l? e.1<=la/\l? e.3<=1048576/\(e.2=f?->0<=e.5/\e.5<=255)) (hn:n<=6) (hV:∀x∈V,x.1<s)
  (ag:wl.1[bx]?=y? (c? #[n? i? A.m,s? A.q,n? i? A.t] 94 (0,0))) (hb:wl.1[b]?=y? (c? (yk cl) 125 (0,0)))
  (ah:∀k,n<=k->cl k=x?) (kO:∀k r,k<7->cl k=y? r->∃vs,(r,y? vs)∈V) (fu:∀x∈V,∃k vs,k<7/\cl k=y? x.1/\x.2=y? vs) (wK:∀k k' r,k<7->k'<7->cl k=y? r->cl k'=y? r->k=k') (iS:(V.map xb).Nodup) (Y:l? V=n)
  (ai:vk V=aJ.map rj.val) (aj:ms=(iO es).map (sw A n)++aJ) (aa:JQ ms)
  (fin:∀(ab:Env prog)aK aE aL,ab.Z=Z->ab.T=T->ab.3=w->(aE=[]\/∃k2,aE=.code .ret::k2)->El prog ab Tryz.f49 aK aL (Fp ms) (EF ms)->dv ab [⟨49,aK,aE⟩] aL []) :
  dv (qw prog Z w T f q K f?) [⟨49,#[.slice sa n sc,.map<|y? f,a2,a3,a4,p?<|y? ⟨bx,0,x?⟩,a6,p?<|y? ⟨b,0,x?⟩,a8,a9,a10,a11,a12,a13,a14,a15,a16,a17,a18,a19,a20,a21,a22,a23,a24,a25,a26,a27,a28,a29,a30,a31,a32,a33,a34,a35,a36,a37,a38,a39,a40],[.code<|NW<|eG Tryz.f49]⟩] wl V:=by
 have HA:=h!<|A? hs<|A? hA<|A? hK<|A? h5<|A? ad<|A? ae<|A? hq<|A? U<|A? hM<|A? W<|A? hl<|A? af<|A? hn<|A? hV<|A? ag hb;have HC:=h!<|A? ah<|A? kO<|A? fu<|A? wK<|A? iS<|A? Y<|A? ai<|A? aj<|A? aa<|A? fin hT;clear hs hA hK h5 ad ae hq U hM W hl af hn hV ag hb ah kO fu wK iS Y ai aj aa fin hT;show dv _ [⟨_,_,[.code<|.seq (.region 7 _ f?)<|.seq (.region 8 _ f?)<|.seq (.region 9 _ f?)<|.seq (.region 10 _ f?) .ret]⟩] _ _;refine dv.sr λkk HK=>?_
 (iterate 5 (refine fO ?_;go_simp));refine qo q? l! k! λy0 ak am=>?_;have e0:=dx (by rw[ak];exact HA.2.2.2.2.2.2.2.2.2.2.2.2.2.2.1);have HY:J?<|y0.1=wl.1/\y0.4=wl.4:=⟨ak,am⟩;clear ak am;unfold lO;go_simp;simp only[iR];let ⟨hs,hA,hK,h5,ad,ae,hq,U,hM,W,hl,af,hn,hV,ag,hb⟩:=HA.o;rw[<-HY.1]at hs W ag hb;clear e0;refine dv.su #[n? i? (n:Int),.map<|y? f,.agg #[n? i? A.m,s? A.q,n? i? A.t],B3,B3,B3,B3,B3,B3,B3,B3] (i:=6) (iI:=f80) (c:=eG f80) q? q? func80 k! Vq q? (by simp[eI]) k! ?_;refine Df n A es ex s hs q? hA hK h5 ad ae hq U hM W hl af o! hV λw2 z2 o2 aM p2=>?_;obtain⟨ah,kO,fu,wK,iS,Y,ai,aj,aa,fin,hT⟩:=HC.o;have ar:b<s:=by rw[hs];exact(AI.1 hb).1
 have a5:=(o2 b ar).trans hb;have aN:n<7:=o!;have H2:=h!<|A? z2<|A? o2<|A? p2<|A? a5 ar;clear ah kO fu wK iS Y ai aj aa fin hT hs hA hK h5 ad ae hq U hM W hl af hV ag hb hn z2 o2 aM p2 a5 ar;rw[kA];go_simp;have aO:(n:Int)<7:=o!
 (refine fO ?_;go_simp);clear aO;refine qo q? l! k! λy1 al an=>?_;have gb:y1.1[b]?=y? (c? (yk cl) 125 (0,0)):=by rw[al];exact H2.2.2.2.1
 have e0:C? y1 ⟨b,n,x?⟩=y? (.chan<|cl n):=by rw[dx gb];rcases(o!:n=0\/n=1\/n=2\/n=3\/n=4\/n=5\/n=6)with rfl|rfl|rfl|rfl|rfl|rfl|rfl<;>rfl
 have f0:=dO gb n;have a7:J?<|y1.1=w2.1/\y1.4=w2.4:=⟨al,an⟩;have HG:=h! gb;clear al an gb;unfold lO;go_simp;simp only[iR];clear e0 f0;obtain⟨w3,aq⟩:∃w3,w3=y1.setCell ⟨b,n,x?⟩ (.chan<|y?<|s+3):=⟨_,q?⟩;have g3:w3.1[b]?=y? (c? (yk<|oe cl n<|s+3) 125 (0,0)):=by rw[aq,heap_set HG.o n _,<-NU aN];simp only[kd]
 have o3:∀r,r≠b->w3.1[r]?=w2.1[r]?:=λr hr=>by rw[aq,ZH _ _ _ _ hr,a7.1]
 have z3:w3.1.size=s+5:=by rw[aq,xd,a7.1];exact H2.1
 have p3:w3.4=w2.4:=by rw[aq,sS];exact a7.2
 rw[<-aq];clear aq HG a7 y1;have H3:=h!<|A? g3<|A? o3<|A? z3 p3;clear g3 o3 z3 p3;apply dv.ie HK;clear HK kk;refine dv.sr λkk HK=>?_
 (iterate 3 (refine fO ?_;go_simp));have aP:IntKind.i64.wrap ((n:Int)+1)=(n:Int)+1:=by simp only[X?];omega
 rw[aP];clear aP;let ⟨ah,kO,fu,wK,iS,Y,ai,aj,aa,fin,hT⟩:=HC.o;let ⟨hs,hA,hK,h5,ad,ae,hq,U,hM,W,hl,af,hn,hV,ag,hb⟩:=HA.o;let ⟨g3,o3,z3,p3⟩:=H3.o;let ⟨z2,o2,p2,a5,ar⟩:=H2.o;obtain⟨V2,ac⟩:∃V2,V2=(s+3,y?<|(iO es).map<|pJ A n)::V:=⟨_,q?⟩;have aQ:(n:Int)+1=(l? V2:Int):=by rw[ac,w!,Y];rfl
 have au:vk V2=ms.map rj.val:=by rw[ac];show(iO es).map (pJ A n)++vk V=_;rw[ai,aj,Z4,cH];congr 1;refine ZM λp _=>(JK A n p).symm
 have aF:∀k r,cl k=y? r->k<7->r≠s+3:=λk r hr hk e=>by obtain⟨vs,h⟩:=kO k r hk hr;have:=hV _ h;simp only at this;omega
 have aB:∀k r,k<7->oe cl n (s+3) k=y? r->∃vs,(r,y? vs)∈V2:=λk r hk hr=>by
  unfold oe at hr;rw[ac];split at hr
  cases hr;exact⟨_,ZT ..⟩;obtain⟨vs,h⟩:=kO k r hk hr;exact⟨vs,ZG _ h⟩
 have av:∀x∈V2,∃k vs,k<7/\oe cl n (s+3) k=y? x.1/\x.2=y? vs:=λx hx=>by
  rw[ac]at hx;obtain rfl|hx:=Zm.1 hx
  exact⟨n,_,aN,by unfold oe;rw[if_pos rfl],q?⟩;obtain⟨k,vs,a1,a2,a3⟩:=fu x hx;refine⟨k,vs,a1,?_,a3⟩;have:k≠n:=λe=>by rw[e,ah n<|Zu _]at a2;cases a2
  unfold oe;rwa[if_neg this]
 have aC:∀k k' r,k<7->k'<7->oe cl n (s+3) k=y? r->oe cl n (s+3) k'=y? r->k=k':=λk k' r hk aR h1 h2=>by
  unfold oe at h1 h2;split at h1<;>split at h2;omega
  cases h1;exact absurd q?<|aF k' _ h2 aR
  cases h2;exact absurd q?<|aF k _ h1 hk;exact wK k k' r hk aR h1 h2
 have ao:(V2.map xb).Nodup:=by rw[ac,ZK,Z2];refine⟨λh=>?_,iS⟩;obtain⟨x,hx,e⟩:=Zv.1 h;have:=hV x hx;simp only at e;omega
 rw[aQ,<-ac];refine dv.su (#[p?<|y? ⟨b,0,x?⟩,n? i? (l? V2:Int),B3,B3,B3,B3,B3,B3,B3,B3,B3,B3,B3,B3,B3,B3,B3,B3,B3,B3,B3,B3,B3,B3,B3,B3,B3,B3,B3,B3]:V?) (i:=3) (iI:=f82) (c:=eG f82) q? q? func82 k! JA q? (by simp[eI]) k! ?_;apply KW (mb:=s+5) q? aa.all z3.symm o! g3 aB av aC ao (by rw[ac,w!,Y];omega) au;intro w4 l aS aT aU _ _;have aG:QD w4 _ ms:=aU.perm<|XG aS aT;have aV:=aG.lt;have aW:=h!<|A? aG aV
 have aX:∀b,w.1[b]?=y? rX->b<w.1.size/\(t?=t?->b≠q):=λb hb=>⟨(AI.1 hb).1,λ_ e=>by
  obtain⟨a,c,hx⟩:=hM.1;rw[e,U,hx]at hb
  cases hb⟩
 have be:=h! aX;clear ah kO fu wK iS Y ai aj hs hA hK h5 ad ae hq U hM W hl af hn hV ag hb g3 o3 z3 p3 z2 o2 p2 a5 ar ac aQ au aF aB av aC ao aS aT aU aG aV HA HC H2 H3;have HF:=h!<|A? aa<|A? fin hT;clear aa fin hT aX;show dv _ [⟨_,fV _ _ _,_⟩] _ _;rw[kA];go_simp;refine qo q? l! k! λy0 ak am=>?_;have aY:QD y0 _ ms:=lI.stay aW.1 (by rw[ak]);have aw:s+6<=y0.1.size:=by rw[ak];exact aW.2
 have aD:=Ha _ ms y0 aY HF.1.1 λm hm=>⟨(HF.1.2 m hm).1,(HF.1.2 m hm).2.2⟩;clear ak am aY;unfold lO;go_simp;simp only[iR];refine⟨t!,aD.mono ?_⟩;clear aD;rintro e w5 ⟨v,aH,rfl,B,J,a',ax⟩;refine⟨v,q?,?_⟩;obtain⟨aZ,aI,rfl,ba⟩:=dK J;have HO:=h!<|A? B<|A? J<|A? a'<|A? ax aw;clear B J a' ax aw ba
 (refine fO ?_;go_simp);apply dv.ie HK;clear HK kk;refine dv.sr λkk HK=>?_
 (refine fO ?_;go_simp);refine qo q? l! k! λy1 al an=>?_;obtain⟨B,J,a',ax,aw⟩:=HO.o;have fL:(gw ms aH).Perm _:=J0 B;have ay:=dJ J (λk hk=>by rw[al]);have az:=T1 _ aZ aI _ y1 ay ((fL.map _).nodup_iff.2 HF.1.4) (by have h1:=ED ms aH;have h2:=B.length_eq;have h3:=HF.1.1;omega) (λe he=>HF.1.5 e<|fL.mem_iff.1 he) (ax.stay λg hg=>by rw[al]);have HP:=h!<|A? fL aw;clear B J a' ax aw fL ay al an HO;unfold lO;go_simp;simp only[iR];refine⟨t!,az.mono ?_⟩;clear az;rintro e w6 ⟨rfl,bf,L,a0,aA,O,ap⟩;refine⟨_,q?,?_⟩;have H6:=h!<|A? a0<|A? aA<|A? O ap;clear bf a0 aA O ap;apply dv.ie HK;clear HK kk;apply dv.seq;apply dv.region
 (iterate 2 (refine fO ?_;go_simp));apply dv.inRegion;refine HF.2.1 _ _ _ _ q? q? q? (.inr ⟨_,q?⟩) ⟨⟨.slice aZ (gw ms aH).length aI,λτ=>by simp[lf,results49,go_sem],?_⟩,be⟩;obtain⟨a0,aA,O,ap⟩:=H6.o;have hL:=a0.length_eq;have bc:Yn ms L:=⟨a0.trans HP.1,aA⟩;obtain⟨he,bi⟩|⟨g,cap,cur,he,bg,bd,h1,h2,h3,h4⟩:=O.2
 left;simp only[wi]at he;refine⟨_,_,?_,he.2.1,he.2.2,?_⟩;rw[he.1];have:L=[]:=List.eq_nil_of_length_eq_zero o!;rwa[<-this];right;simp only[wi]at he;obtain⟨rfl,_,rfl⟩:=he;refine⟨g,0,x?,_,aI,cur,_,_,q?,bd,ap g cur _ _ q? bd,λm hm bh=>?_,d!,q?,q?,q?,q?,L,bc,hL.symm,h1,h2,h3,h4⟩;have:=hm.x.2.2 g bh;have:=HP.2;omega
def atKey_mem{L}(B:L.Pairwise<|λp q=>p.1≠q.1){k d}(J:WideAt.IsKeyLit k)(hm:(k,d)∈L)(z:DataW v?):(DataW.map L).atKey k z=d:=by
 unfold DataW.atKey;simp only
 have:L.find? (λp=>p.1.sameKey k)=y? (k,d):=by
  induction L with
  |nil=>cases hm
  |cons a L O=>
   rw[List.pairwise_cons]at B;rw[List.find?_cons];obtain e|hm:=Zm.1 hm
   rw[<-e];simp only[WideAt.sameKey_self J];rw[sameKey_ne<|B.1 _ hm];exact O B.2 hm
 rw[this]
def Um(e):Flat (mQ e).2:=by
 refine .agg λi B=>?_;have:=B;match i,this with
 |0,_=>exact .bool _|1,_|2,_=>exact .string _|3,_|4,_=>exact .int ..
def Tl{x}(B:Flat x.1)(J:Flat x.2)(m):wq m x x:=⟨B.refl m,J.refl m,q?⟩
def Pe{es:List MapEntry}(h:∀x∈es,Flat x.1/\Flat x.2)(m):eA (wq m) es es:=by
 induction es with
 |nil=>exact .nil|cons a l B=>exact .cons (Tl (h a i!).1 (h a i!).2 m) (B λx J=>h x<|by simp[J])
def V7{es J:List MapEntry}{m}(h:∀x∈es,Flat x.1/\Flat x.2)(U:eA (wq m) es J):J=es:=by
 induction U with
 |nil=>rfl|@cons a b l l' B _ V=>have O:=h a i!;have W:=O.1.eq m _ B.1;have Y:=O.2.eq m _ B.2;have e3:=B.3;rw[V λx hx=>h x<|by simp[hx]];cases a;subst W Y e3;rfl
def K5{w}{es:E?}(h:fN w f es):∃ex,w.1[f]?=y? ex/\uF ex es:=by
 obtain⟨D,⟨xs,clock,hb,F,W,hD⟩,Y⟩:=h
 have U:∀x∈xs.1,Flat x.1/\Flat x.2:=by
  intro x hx;obtain⟨y,hy⟩:=F.3 x hx;have iV:=WideElems.rd_key hy;let ⟨nm,aa,ab⟩:=Od oC iV
  have ac:y=(.string nm,.held x.2):=by unfold WideElems.rd at hy;rw[iV]at hy;simp only[Zf,mT,Option.map_some,m?]at hy;rw[<-hy,ab]
  refine⟨by rw[aa];exact .string _,?_⟩;have V:(Lit.string nm,DataW.held _)∈(xs.1.map<|WideElems.rg _ 9 mT).foldr _ []:=mem_sorted.2<|Zv.2 ⟨x,hx,by rw[WideElems.rg_of hy,ac]⟩;have J:=atKey_mem ((WideShapes.sorted_perm _).symm.pairwise (F.apart<|WideMaps.string_law oC)<|λh=>h.symm) (k:=.string nm) trivial V;rw[<-hD]at J;have B:=has_true_of_atKey J;rw[Y.4 nm,C!]at B;let ⟨p,hp,O⟩:=B;have O:=by simpa using O
  have h2:=Y.5 p hp<|.held x.2;rw[O,J]at h2;have h3:=by simpa using h2
  rw[h3];obtain⟨e,_,rfl⟩:=Zv.1 hp;exact Um e
 refine⟨.map xs clock,hb,⟨xs,clock,q?⟩,λm=>.map clock<|Pe U m,λm o' ho=>?_,λw' B' ad=>?_⟩
 cases ho with
 |@map _ ae _ ha=>have:=V7 U ha;simp at this;rw[this]
 exact⟨D,⟨xs,clock,ad,F,W,hD⟩,Y⟩
end
section
open Conc
def VR.flatten{m x Y}(h:VR m x Y):∃y,(∀m1,VR m1 y Y)/\(Flat x->y=x)/\∀t z,x=.iface t z->∃O,y=.iface t O:=by
 induction h with
 |gV v hv=>exact⟨_,λ_=>.gV v hv,λB=>(by cases B),λ_ _ e=>(by cases e)⟩|bool b=>exact⟨_,λ_=>.bool b,λ_=>rfl,λ_ _ e=>(by cases e)⟩|int k n=>exact⟨_,λ_=>.int k n,λ_=>rfl,λ_ _ e=>(by cases e)⟩|string s=>exact⟨_,λ_=>.string s,λ_=>rfl,λ_ _ e=>(by cases e)⟩|iQ=>exact⟨_,λ_=>.iQ,λ_=>rfl,λ_ _ e=>(by cases e)⟩|gC l c=>exact⟨_,λ_=>.gC l c,λ_=>rfl,λ_ _ e=>(by cases e)⟩|zero _ _=>exact⟨_,λ_=>.gV _ t!,λB=>(by cases B),λ_ _ e=>(by cases e)⟩|oH=>exact⟨_,λ_=>.oH,λ_=>rfl,λ_ _ e=>(by cases e)⟩|kg=>exact⟨_,λ_=>.kg,λ_=>rfl,λ_ _ e=>(by cases e)⟩|nilFunc=>exact⟨_,λ_=>.nilFunc,λ_=>rfl,λ_ _ e=>(by cases e)⟩|nilIface=>exact⟨_,λ_=>.nilIface,λ_=>rfl,λ_ _ e=>(by cases e)⟩|ptr _=>exact⟨_,λ_=>.gV _ t!,λB=>(by cases B),λ_ _ e=>(by cases e)⟩|slice _ _ _=>exact⟨_,λ_=>.gV _ t!,λB=>(by cases B),λ_ _ e=>(by cases e)⟩|map _=>exact⟨_,λ_=>.gV _ t!,λB=>(by cases B),λ_ _ e=>(by cases e)⟩|gone _=>exact⟨_,λ_=>.gV _ t!,λB=>(by cases B),λ_ _ e=>(by cases e)⟩|chan _=>exact⟨_,λ_=>.gV _ t!,λB=>(by cases B),λ_ _ e=>(by cases e)⟩|iface t _ U=>obtain⟨y,h1,_,_⟩:=U;exact⟨.iface t y,λm1=>.iface t<|h1 m1,λB=>(by cases B),λ_ _ e=>(by cases e;exact⟨_,q?⟩)⟩
 |tuple _ _ _=>exact⟨_,λ_=>.gV _ t!,λB=>(by cases B),λ_ _ e=>(by cases e)⟩|func B _ _ _ _ _ _=>
  cases B with
  |func f _=>exact⟨_,λ_=>.gV _ t!,λB=>(by cases B),λ_ _ e=>(by cases e)⟩|yield _=>exact⟨_,λ_=>.gV _ t!,λB=>(by cases B),λ_ _ e=>(by cases e)⟩
 |@tC W n f c V hi hx U=>have J:∀i(h:i<W.size),∃y,(∀m1,VR m1 y _)/\(Flat _->y=W[i])/\∀t z,W[i]=.iface t z->∃O,y=.iface t O:=λi h=>U i h<|V▸h;refine⟨.func _ (j3 λi:_root_.Fin _=>n8<|J i.1 i.2) _,λm1=>.tC (by simp[V]) (λi h h'=>?_)<|λt w hw=>?_,λB=>(by cases B),λ_ _ e=>(by cases e)⟩;simp only[jt];exact(n7<|J i _).1 m1;obtain⟨x,h0⟩:=hx t w hw;obtain⟨hl,e0⟩:=AI.1 h0;obtain⟨z,hz⟩:=(n7<|J 0 hl).2.2 t x e0;refine⟨z,?_⟩;rw[Z1<|u! hl];simp only[jt];rw[hz]
 |@agg c c' V hi U=>
  have J:∀i(h:i<c.size),∃y,(∀m1,VR m1 y _)/\(Flat _->y=c[i])/\∀t z,c[i]=.iface t z->∃O,y=.iface t O:=λi h=>U i h<|V▸h;refine⟨.agg<|j3 λi:_root_.Fin _=>n8<|J i.1 i.2,λm1=>.agg (by simp[V]) λi h h'=>?_,λB=>?_,λ_ _ e=>(by cases e)⟩;simp only[jt];exact(n7<|J i _).1 m1;congr 1;refine kx i! λi h1 h2=>?_;simp only[jt];apply (n7<|J i h2).2.1
  cases B with
  |agg B=>exact B i h2
def fh.flatten{m}{c J:V?}(h:fh m c J):∃c1,(∀m1,fh m1 c1 J)/\c1.size=c.size/\∀i(B)(O:i<c.size),Flat c[i]->c1[i]=c[i]:=by
 have U:∀i(B:i<c.size),∃y,(∀m1,VR m1 y<|J[i]'(h.size▸B))/\(Flat _->y=c[i]):=λi B=>by obtain⟨y,V,W,_⟩:=(h.idx i B (h.size▸B)).flatten;exact⟨y,V,W⟩
 refine⟨j3 λi=>n8<|U _ i.2,λm1=>fh.jb (by simp[h.size]) λi B O=>?_,i!,λi B O Y=>?_⟩;simp only[jt];exact(n7<|U i _).1 m1;simp only[jt];exact(n7<|U i O).2 Y
def A5:Obj:=c? #[] 0 (0,0)
def ph0(o:Obj)(w:w?):w?:={w with heap:=#[A5,A5,A5,A5,A5,o,A5]}
def phR(B)(q:Nat)(U:∀b,B=y? b->5<=b):Ren where
 blk:=λr=>if r=5 then B else x?
 ch:=λ_=>x?
 loose:=λr=>r=5
 ok:=Sy prog Se Gv f?
 nu:=λf=>Se f=t?
 SN:=False
 dead:=λr=>r=6
 dm:=λ_=>q
 Yd:=λ_ _=>x?
 Li:=λ_=>x?
 G:=5
 Lp:=λr r' h=>by
  split at h
  .rename_i e
   have:=U r' h
   omega
  .cases h
 inj:=λr s t J O=>by
  split at J
  .split at O
   .omega
   .cases O
  .cases J
 TZ:=λ_ _ _ h=>by cases h
def Zan{Z w T b5 q}(h5):Rg (qw prog Z w T 6 q 6 f?)<|phR b5 q h5:=
 ⟨Gg _ q? q? Cu.symm,id,λ_ _ h=>(by cases h),q?,q?,q?,q?,λr B=>by have:r=5:=B;omega⟩
def Y7{w O q}(W)(Y:5<=w.1.size){c1:V?}{e5}(hb:∀b,O=y? b->∃U f',w.1[b]?=y? (.cells U e5 f')/\∀m1,fh m1 c1 U) :
  WR (phR O q W) (ph0 (.cells c1 e5 (0,c1.size)) w) w:=by
 have key:∀r r',(phR O q W).1 r=y? r'->r=5/\O=y? r':=λr r' h=>by
  have h:(if r=5 then O else x?)=y? r':=h;split at h;exact⟨a!,h⟩
  cases h
 refine⟨λr r' B=>?_,λr r' c e f U e' f' B V h2 hn=>?_,λr r' c e f U e' f' B V h2 hl o ho=>?_,λ_ _ h=>(by cases h),by show 5<=7;omega,Y,q?,λ_ _ h=>(by cases h),λr r' B hl=>?_,λr B=>?_,λr i v hv=>(by cases hv)⟩;obtain⟨rfl,J⟩:=key r r' B;obtain⟨U,f',g1,g2⟩:=hb r' J;exact⟨_,_,q?,g1,.cells e5 _ f'<|g2 _⟩;obtain⟨rfl,J⟩:=key r r' B;exact absurd q? hn;obtain⟨rfl,J⟩:=key r r' B;have V:y? (Obj.cells c1 e5 _)=y? _:=V;simp only[m?,Obj.cells.injEq]at V;obtain⟨rfl,_,rfl⟩:=V;show 0<=o/\o<c1.size;omega;obtain⟨rfl,J⟩:=key r r' B;exact⟨_,_,_,q?⟩;have:r=6:=B;subst this;exact⟨q?,_,_,q?⟩
open RowKit Maps
def Be(es:E?):iO es=(cC es.length).map λk=>(k,(tu es).getD k ⟨[],f?,[],0,0⟩):=by apply ep;intro k;rw[uk,ZZ];have B:=(qm es).length_eq;by_cases h:k<l? es;rw[de h];simp[AS,BY (o!:k<(tu es).length)];rw[ZA o!,ZA j!];rfl
def js{A}(num)(p):(sw A num p).1=num/\(sw A num p).2=p.1/\(sw A num p).3=p.2.1/\(sw A num p).4=A.has p.2:=by unfold sw;split;exact⟨q?,q?,q?,by simp_all⟩;exact⟨q?,q?,q?,by simp_all⟩
def wV{A:Ask}{e}(h:A.has e=t?):e.2=f?:=by
 unfold Ask.has at h
 cases B:e.2 with
 |false=>rfl|true=>rw[B]at h;simp at h
def Hr{A num p}(h:A.has p.2=t?):(sw A num p).Og=p.2:=by have B:=wV h;let ⟨k,nm,J,tx,wt,tg⟩:=p;subst B;unfold sw;rw[if_pos h];rfl
def Ig(es:E?):(iO es).map xt=tu es:=by apply ep;intro k;rw[ZZ,uk];cases(tu es)[k]?<;>rfl
def S6:Tryz.f49.1≠ "runtime.NumGoroutine":=by decide
end
section
open RowKit Go.Sort
def X8:∀n,yc n=oE n:=by
 intro n;induction n using ip with
 |ind n B=>
  have e:∀d,d<=9->UInt8.ofNat (48+d)=48+UInt8.ofNat d:=λd J=>by rcases(o!:d=0\/d=1\/d=2\/d=3\/d=4\/d=5\/d=6\/d=7\/d=8\/d=9)with rfl|rfl|rfl|rfl|rfl|rfl|rfl|rfl|rfl|rfl<;>rfl
  by_cases h:n<=9;rw[BW h,yc,dif_pos o!,e n h];rw[yL h,yc,dif_neg o!,B _ o!,e _ o!]
def UL(n:Nat)(O:n<9223372036854775808)(w)(B:yd prog w "internal/strconv.uint64pow10" .u64 yg) :
  ld prog 85 #[n? i? n] w λe w'=>e=e? (s? ⟨(oE n).toArray⟩)/\gR w w':=by
 apply (Any.strconv_Itoa TO n o! o! w B).mono;rintro e w' ⟨rfl,k,os,rfl⟩;refine⟨?_,⟨q?,q?,q?,by simp[grow,m7],λj J=>?_⟩⟩;unfold Lib.itoa;rw[if_neg o!,sd,X8];show(w.1++os)[j]?=_;rw[P! J]
def Uq(e)(w)(B:0<=e.4)(hI:∀y,gR w y->ld prog 85 #[n? i? e.4] y λen w'=>en=e? (s? ⟨(oE e.4.toNat).toArray⟩)/\gR y w')(hn:l? e.1<=65536)(ht:l? e.3<=1048576)(hd:(oE e.4.toNat).length<=100) :
  ld prog 51 #[.agg #[s? ⟨a? e.1⟩,s? ⟨a? e.3⟩,n? i? e.4,n? i? e.5]] w λen w'=>en=e? (s? ⟨(jV e).toArray⟩)/\gR w w':=by
 obtain⟨nm,gn,tx,wt,tg⟩:=e;simp only at B hI hn ht hd⊢;obtain⟨Y,J⟩:∃Y:b?,Y=⟨(oE wt.toNat).toArray⟩:=⟨_,q?⟩;obtain⟨nb,O⟩:∃nb:b?,nb=⟨a? nm⟩:=⟨_,q?⟩;obtain⟨U,V⟩:∃U:b?,U=⟨a? tx⟩:=⟨_,q?⟩;have ad:nb.size<=65536:=by rw[O];show nm.toArray.size<=_;simpa using hn
 have ae:U.size<=1048576:=by rw[V];show tx.toArray.size<=_;simpa using ht
 have af:Y.size<=100:=by rw[J];show(oE wt.toNat).toArray.size<=_;simpa using hd
 have k0:¬9223372036854775807<nb.size+1:=o!;have k1:¬9223372036854775807<nb.size+1+Y.size:=o!;have k2:¬9223372036854775807<nb.size+1+Y.size+1:=o!;have k3:¬9223372036854775807<nb.size+1+Y.size+1+U.size:=o!;rw[<-J]at hI;rw[<-O,<-V];have HI:=h! hI;have aa:J?<|Y=⟨(oE _).toArray⟩/\nb=⟨a? nm⟩/\U=⟨a? tx⟩:=⟨J,O,V⟩;clear hI B hn ht hd J O V;obtain⟨w0,B⟩:∃w0,w0=w.alloc (c? #[s? nb,s? U,n? i? wt,n? i? tg] 96):=⟨_,q?⟩
 have hA:∀j,C? w0 _=(#[Value.string nb,s? U,n? i? wt,n? i? tg])[j]?:=λj=>by rw[B,Zl _ _ _ _ rfl]
 have ab:J?<|gR w w0:=by rw[B];exact gR.alloc _ _
 have d0:C? w0 _=y? (s? nb):=hA 0;have d1:C? w0 _=y? (s? U):=hA 1;have d2:C? w0 _=y? (n? _ wt):=hA 2;clear hA;go_enter func51,ntmps51;go_wp2_with fail;rw[<-B];clear B;refine j0 k! ?_;refine dA 0 ?_ ?_<|dA 1 ?_ ?_<|dA 2 ?_ ?_<|dA 3 ?_ ?_<|dA 4 ?_ ?_ ?_
 any_goals(intro y W;have q:=Z0 W d0;have q1:=Z0 W d2;exact x!)
 go_simp;refine dA 5 ?_ ?_ ?_;rotate_left
 .intro y W;unfold lO;go_simp;refine⟨q?,(HI y<|(gR.trans ab W)).mono ?_⟩;rintro e y2 ⟨rfl,h2⟩;refine⟨_,q?,h2,?_⟩;with_reducible rfl
 go_simp;refine dA 6 ?_ ?_<|dA 7 ?_ ?_<|dA 8 ?_ ?_<|dA 9 ?_ ?_<|dA 10 ?_ ?_<|dA 11 ?_ ?_ ?_
 any_goals(intro y W;have q:=Z0 W d1;exact x!)
 go_simp;refine qF k! ?_ _;intro y W;have ac:=h!<|gR.trans ab W;clear W;go_simp;go_wp2;go_ret;refine⟨?_,ac⟩;show Ending.returned (s?<|nb++⟨#[32]⟩++Y++⟨#[32]⟩++U)=_;obtain⟨rfl,rfl,rfl⟩:=aa.o;congr 2;unfold jV;apply o7;simp[o0]
end
section
open Conc RowKit Maps
variable {f l:w?}{g:F?}{o:V?}{i:Nat}
noncomputable def marked (W:w?) (Mp:F?):w?:={W with heap:=W.1.mapIdx λb x=>@ite _ (Mp b) (oa _) rX x}
def E4{b}(h:¬g b):(marked f g).1[b]?=f.1[b]?:=by
 show(f.1.mapIdx _)[b]?=_;rw[ka]
 cases f.1[b]? with
 |none=>rfl|some x=>simp[h]
def Q8{b}(hb:b<f.1.size)(h:g b):(marked f g).1[b]?=y? rX:=by show(f.1.mapIdx _)[b]?=_;rw[ka,Z1 hb];simp[h]
def zP(W)(Mp:F?):(marked W Mp).1.size=W.1.size:=by show(W.1.mapIdx _).size=_;simp
def Yr:v?->Nat
 |.slice (y? a) _ _=>a.1+1|_=>0
def SF:Obj->Nat
 |c? c _ _=>(c.1.map Yr).sum|_=>0
def Zo(W:w?)(b:Nat):Prop:=b<W.1.size+(W.1.1.map SF).sum/\∀c e f,W.1[b]?≠y? (c? c e f)
noncomputable def jj (Z:oJ prog) (W0:w?) (Mp:F?):Env prog where
 Z:=Z
 qW:=λb=>b<W0.1.size/\¬Mp b
 w0:=marked W0 Mp
 T:=[]
 gl:=λg=>vi g=t?
 st:=t?
 nu:=λf=>xm f=t?
 ok:=Sy prog xm vi t?
 X:=λm=>(∀r,Mp r->m.1 r=y? r)/\(∀r o v,Mp r->C? W0 ⟨r,o,x?⟩=y? v->m.9 r o=y? v)/\∀r,Zo W0 r->m.7 r
 le:=λ_ _ h x=>⟨λr hr=>h.1 r r (x.1 r hr),λr o v hr hv=>by rw[h.11];exact x.2.1 r o v hr hv,λr hr=>by rw[h.9];exact x.2.2 r hr⟩
def I2(Z)(W0)(Mp:F?):∀b,b<(jj Z W0 Mp).3.1.size->(jj Z W0 Mp).2 b\/(jj Z W0 Mp).3.1[b]?=y? rX:=λb hb=>by
 have hb:b<W0.1.size:=by rwa[<-zP W0 Mp]
 by_cases h:Mp b;exact .inr (Q8 hb h);exact .inl ⟨hb,h⟩
def ud{Z fn}{tm:V?}{os}{V:List<|Nat×Option (L?)}{k ops rest o}(O:ops[i]?=y? o)(J:sA o (lo ops tm)=t?)(U:KQ prog xm vi t? o.2=t?)
  (B:∀τ,lO prog o ⟨tm,[]⟩ (tp l τ)<|λv y=>dv (jj Z f g) (⟨fn,(Act.put ⟨tm,[]⟩ o.1 v).1,r? ops rest::k⟩::os) y V):dv (jj Z f g) (⟨fn,tm,r? ops (i::rest)::k⟩::os) l V:=
 dv.YJ O J (yI U) B
def fH{Z fn}{tm:V?}{os}{V:List<|Nat×Option (L?)}{k ops rest o v}(h:dv (jj Z f g) (⟨fn,(Act.put ⟨tm,[]⟩ o.1 v).1,r? ops rest::k⟩::os) l V)(J:ops[i]?=y? o:=by rfl)(O:∀y,lO prog o ⟨tm,[]⟩ y<|λu U=>Same y U/\u=v:=by intro y;unfold lO;go_simp;refine⟨q?,?_⟩;with_reducible rfl)
  (B:sA o (lo ops tm)=t?:=by rfl) (W:KQ prog xm vi t? o.2=t?:=by kernel_rfl):dv (jj Z f g) (⟨fn,tm,r? ops (i::rest)::k⟩::os) l V:=dv.pu J B (yI W) O h
def Rw{Z fn}{tm:V?}{os}{V:List<|Nat×Option (L?)}{k c}(B:lD (λo=>KQ prog xm vi t? o.2) c=t?)(J:k.all mh=t?)(O:os≠[])(h:∀y0:w?,y0.1=l.1->y0.4=l.4->c.wp prog (Lw (jj Z f g) fn k os V) ⟨tm,[]⟩ y0):dv (jj Z f g) (⟨fn,tm,.code c::k⟩::os) l V:=
 dv.OC (rE B) J (.inl O) λτ _=>h _ q? rfl
def KL{Z fn}{tm:V?}{os}{V:List<|Nat×Option (L?)}{k c}(B:lD (λo=>KQ prog xm vi t? o.2) c=t?)(J:k.all mh=t?)(O:os≠[])(h:∀τ,c.wp prog (Lw (jj Z f g) fn k os V) ⟨tm,[]⟩<|tp l τ):dv (jj Z f g) (⟨fn,tm,.code c::k⟩::os) l V:=
 dv.OC (rE B) J (.inl O) λτ _=>h τ
def GG{md ops listed acc}(O:s8 md ops listed=[]):∀(B t),yo md ops B t listed acc=acc.reverse
 |0,_=>rfl
 |f+1,t=>by
  simp only[yo]
  split
  .rename_i q U
   have J:(s8 md ops listed)[t % (s8 md ops listed).length]?=y? q:=U
   rw[O]at J;simp at J
  rfl
def Gd{md ops listed}(U:s8 md ops listed=[i])(V:s8 md ops (S? listed i t?)=[])(fuel t):yo md ops (fuel+1) t listed []=[i]:=by
 simp only[yo];split;rename_i q J;have B:(s8 md ops listed)[t % (s8 md ops listed).length]?=y? q:=J;rw[U]at B;have O:t % ([i]).length=0:=i6 t;rw[O]at B;have W:=by simpa using B.symm
 subst W;exact GG V ..;rename_i J;have B:(s8 md ops listed)[t % (s8 md ops listed).length]?=x?:=J;rw[U]at B;have O:t % ([i]).length=0:=i6 t;rw[O]at B;simp at B
def YW{ops:Array Oper}{last}{Z:oJ prog}(h:((cC ops.size).all λi=>i==last || (match ops[i]? with|some o=>KQ prog xm vi t? o.2|none=>t?))=t?):∀(i)o,i≠last->ops[i]?=y? o->OkOp prog (jj Z f g).7 (jj Z f g).5 (jj Z f g).6 o.2:=by
 intro i o B J;have:=Zy.1 h i<|G!.2<|(AI.1 J).1;rw[J]at this;simp only[Z7,beq_iff_eq]at this;obtain e|e:=this
 exact absurd e B;exact yI e
def MP(m:Nat)(hm:m<=3)(w):ld prog 46 #[n? i? m] w λe w'=>e=e? (.bool t?)/\w=w':=by have B:(m:Int)<=3:=o!;go_wp2;go_ret;exact⟨q?,q?⟩
def Wl(w:w?)(base:Nat)(es:E?)(A:Ask)(most:Nat)(v:v?):Prop:=∃L:E?,L.Perm (es.filter A.has)/\L.Pairwise (λx y=>fw x y=t?)/\∃u,v=.tuple #[u,n? i? 0]/\R? w base 9 1 u (L.take most).length (du<|(L.take most).map jV)
def S7(c:Code):Code:=match c with
 |.seq _ (.seq _<|.seq _<|.seq _ y)=>y|_=>.skip
def xM{Z:oJ prog}{Mp:F?}{fn}{tm:V?}{os:List OF}{k:List Item}{ops:Array Oper}{rest:List Nat}{o}{fa:Option Addr}{l cp most}{L:E?}{wl a0 a1 a2 a3 a5 a6 a7 a8 a9 a10 a11 a13 a14 a15 a16 a17 a18 a19 a20 a21 a22 a23 a24 a25 a26 a27 a28 a29 a30 a31 a32 a33 a34 a35 a36 a37 a38 a39 a40 a41 a42 a43 a44 a45 a46 a47 a48 a49 a50 a51 a52 a53 a54 a55 a56 a57 a58 a59 a60 a61 a62 a63 a64 a65 a66}(hi:ops[i]?=y? o)(hR:jB wl 4 (.slice fa l cp) l<|l6 L)(hL:l=L.length)(aB:1<=most)(aC:most<=20)(h5:5<=wl.1.size)
  (B:∀e∈L,∀y:w?,(∀r,r<5->y.1[r]?=wl.1[r]?)->ld prog 51 #[.agg #[.string ⟨a? e.1⟩,.string ⟨a? e.3⟩,.int i? e.4,.int i? e.5]] y λen w'=>en=.returned (.string ⟨(jV e).toArray⟩)/\gR y w')
  (hn:∀(w2:w?)(u),(∀r,r<wl.1.size->w2.1[r]?=wl.1[r]?)->wl.1.size<=w2.1.size->w2.4=wl.4->R? w2 wl.1.size 9 1 u (L.take most).length (du<|(L.take most).map jV)->dv (jj Z f Mp) (⟨fn,fV o.1 tm<|.tuple #[u,.int i? 0],.inRegion ops rest::k⟩::os) w2 []) :
  dv (jj Z f Mp) (⟨17,#[a0,a1,a2,a3,.int i? most,a5,a6,a7,a8,a9,a10,a11,.slice fa l cp,a13,a14,a15,a16,a17,a18,a19,a20,a21,a22,a23,a24,a25,a26,a27,a28,a29,a30,a31,a32,a33,a34,a35,a36,a37,a38,a39,a40,a41,a42,a43,a44,a45,a46,a47,a48,a49,a50,a51,a52,a53,a54,a55,a56,a57,a58,a59,a60,a61,a62,a63,a64,a65,a66],[.code<|S7<|eG f17]⟩::⟨fn,tm,.inRegion ops (i::rest)::k⟩::os) wl []:=by
 have HA:=h!<|And.intro hR<|And.intro hL<|And.intro h5<|And.intro B hn;clear hR h5 B hn;show dv _ (⟨_,_,[.code<|.seq (.region 6 _ f?)<|.seq (.seq (.region 7 _ f?)<|.block 0 _)<|.seq (.region 12 _ f?) .ret]⟩::_) _ _;refine dv.sr λkk HK=>?_
 (refine fH ?_;go_simp);apply dv.ie HK;clear HK kk;refine dv.sc λkk HK=>?_;refine Rw k! (by rw[HK.o];rfl) i! λy0 ab U=>?_;obtain⟨hR,hL,h5,B,hn⟩:=HA.o;have ac:=hR.later λa u h=>by simp only[m5]at h⊢;rwa[ab]
 obtain⟨n,ad⟩:∃n,n=min most l:=⟨_,q?⟩;have a':min (most:Int) (l:Int)=(n:Int):=o!;have aD:n<=l:=o!;let ⟨aE,aF,ai,aG,aj,_,V⟩:=id ac;simp only[wi]at ai;obtain⟨rfl,_,rfl⟩:=ai;have aH:n<=cp:=o!;have aA:cp<=9223372036854775807:=aj;have HR:=h!<|And.intro ac<|And.intro V<|And.intro ab<|And.intro U ad;clear hR hL h5 B hn ac V ab U ad aj;let ⟨i9,ap,ak,aq,ar⟩:=Zz rH;go_wp2_with fail;go_loopw [13,56] (λu i wr=>∃j:Nat,j<=n/\i=.int i? j/\R? wr y0.1.size 9 1 u j (du ((L.take j).map jV))/\Below y0.1.size y0 wr) (λ_ i _=>n-(intOf i).toNat);exact⟨0,ZP _,q?,Z9 _ _ _ _,nr _ _⟩;obtain⟨j,hj,rfl,W,hb⟩:=hrel;obtain⟨ag,cg,rfl,aI⟩:=dC W;have HO:=h! W;have HB:=h! hb;clear W hb;by_cases aJ:j<n
 .have ae:j<L.length:=o!;obtain⟨e,he⟩:∃e,e=L[j]:=⟨_,q?⟩;have aa:e∈L:=by rw[he];exact Zw ae
  have Y:∀c,c<4->(l6 L)[j*4+c]?=(oD e)[c]?:=λc hc=>by rw[EA L j c ae hc,he]
  obtain⟨bg,og,rfl,au⟩:=HR.o.2.1 (j*4) _<|Y 0 o!
  have J:∀c u,c<4->(oD e)[c]?=y? u->C? wr ⟨bg,og+j*4+c,x?⟩=y? u:=λc u hc hu=>by obtain⟨b',o',h1,h2⟩:=HR.o.2.1 _ u (by rwa[Y c hc]);simp only[m?,O!]at h1;obtain⟨rfl,rfl,_⟩:=h1;rw[Nat.add_assoc];exact Z0 HB.o h2
  have d0:C? wr ⟨bg,og+j*4,x?⟩=y? _:=J 0 _ o! rfl;have d1:=J 1 _ o! rfl;have d2:=J 2 _ o! rfl;have d3:=J 3 _ o! rfl;have HE:=h!<|And.intro he aa;clear he aa Y J au;go_wp2_with fail;have al:=HB.o.4;refine(HA.o.2.2.2.1 e HE.o.2 _<|λr hr=>?_).mono ?_
  .have h5:=HA.o.2.2.1;have O:=HR.o.2.2.1;rw[jO _ _ (by rw[O]at al;omega),HB.o.5 r (by rw[O];omega),O]
  rintro en w5 ⟨rfl,hx⟩;have av:=hx.4;simp only[World.size_alloc]at av;have af:=((nr _ _).alloc (Zu _) _).trans<|Below.mono hx i!;have aw:=h!<|HB.o.trans<|af.mono al;have am:=h!<|dH HO.o<|λg hg=>af.5 g (HO.o.lt g hg).2;clear d0 d1 d2 d3 hx af
  go_wp2_with (first
   |(at_builtin;refine eu _ q? _ _ 31 q? _ 9 i9 _ 16 rb ap ak aq ar q? _ _ _ q? (am.o.alloc _) _ _ q? (Ab rfl) q? ?c1 ?c2 ?c3 ?_))
  case c1=>omega
  case c2=>unfold la;omega
  case c3=>first|omega|(simp;omega)
  intro v3 w3 ah an _
  have ax:J?<|R? w3 y0.1.size 9 1 v3 (j+1)<|du<|(L.take<|j+1).map jV:=by show R? w3 _ _ _ _ _ _;rw[IS ae,Z4,<-HE.o.1];rwa[show(gt jV _++gt jV [e])=(L.take j).map jV++[jV e]from rfl,iN,List.map_take]
  have ay:=h!<|(aw.o.alloc o! _).grown an j!<|λg hg=>(am.o.lt g hg).1;clear ah an;go_wp2;go_roundw
  .exact⟨j+1,o!,by go_num,ax.o,ay.o⟩
  exact M!
 have az:j=n:=o!;subst az;go_wp2;apply ja;rw[HK.o];refine dv.seq<|dv.region ?_
 (iterate 3 (refine fH ?_;go_simp));apply dv.inRegion;refine dv.back (v:=.tuple #[.slice ag j cg,.int i? 0]) (.inr ⟨_,q?⟩) rx hi (λτ=>by simp[lf,results17,go_sem]) ?_;obtain⟨_,aK,h5,B,hn⟩:=HA.o;obtain⟨_,_,O,U,ad⟩:=HR.o;have hO:=HO.o;have hB:=HB.o;rw[O]at hO hB;have ao:(L.take most).length=j:=by rw[cX];omega
 have a4:L.take j=L.take most:=by by_cases hc:most<=L.length;rw[(o!:j=most)];rw[(o!:j=L.length),o?,If o!]
 refine hn wr _ (λr hr=>?_) (by have:=hB.4;rwa[O]at this) (hB.1.trans U) ?_;rw[hB.5 r hr,O];rwa[ao,<-a4]
end
section
open RowKit Maps
variable {f g:w?}{i l x1 x2:Nat}{o p:F?}{C:List (W?)}{I:List (E?)}{J:E?}{P:Ask}{U:L?}{x0:b?}
structure pP(w0 w:w?):Prop where
 os:w.4=w0.4
 size:w0.1.size<=w.1.size
 block:∀k,k<w0.1.size->w.1[k]?=w0.1[k]?
def pP.refl(w):pP w w:=⟨q?,Zu _,λ_ _=>rfl⟩
def pP.trans{a b c}(h:pP a b)(B:pP b c):pP a c:=⟨B.1.trans h.1,ZE h.2 B.2,λk J=>(B.3 k<|AT J h.2).trans<|h.3 k J⟩
def pP.of(h:B? f g):pP f g:=⟨h.1,h.4,h.5⟩
structure AW(w0 w:w?)(F1 F2:F?)(b:Nat)(buf:E?)(ss:List (E?))(ts:List (W?)):Prop where
 j:PJ w F1 F2 b buf ss ts
 hi1:∀k,F1 k->w0.1.size<=k
 On:∀k,F2 k->w0.1.size<=k
 low:pP w0 w
structure St(w w':w?)(F1 F2 F1' F2':F?):Prop where
 size:w.1.size<=w'.1.size
 block:∀k,k<w.1.size->¬F1 k->¬F2 k->w'.1[k]?=w.1[k]?
 f1:∀k,F1' k->F1 k\/w.1.size<=k
 f2:∀k,F2' k->F2 k\/w.1.size<=k
def St.same(h:pP f g):St f g o p o p:=⟨h.2,λk B _ _=>h.3 k B,λ_ B=>.inl B,λ_ B=>.inl B⟩
def AW.same{w' b}(h:AW f g o p b J I C)(B:pP g w'):AW f w' o p b J I C:=⟨h.j.below B.2 B.3,h.2,h.3,h.4.trans B⟩
def AW.Og{w b f}{args:V?}{U:E?}{W:List<|E?}(h:AW g w o p b J I C)(hc:∀vM vK,wO vM vK w o b J I->ld prog f args w (YY (wO vM vK) w o b i U W)) :
  ld prog f args w λe w'=>e=e? (n? i? i)/\∃Y,AW g w' Y p b U W C/\St w w' o p Y p:=by
 obtain⟨⟨h1,h2,h3,Bb,vS,B,n,vK,kn,h4,h5⟩,k1,k2,k3⟩:=h;apply (hc _ vK ⟨h1,Bb,vS,h4⟩).mono;rintro e w' ⟨rfl,F',hp,hF,O⟩;refine⟨q?,F',⟨PJ.entries h1 h2 h3 h4 h5 hp hF O,λk V=>?_,k2,?_⟩,⟨O.4,λk V hn _=>O.5 k V hn,hF,λ_ V=>.inl V⟩⟩;obtain hf|hf:=hF k V
 exact k1 k hf;exact ZE k3.2 hf;exact⟨O.1.trans k3.1,ZE k3.2 O.4,λk V=>(O.5 k (AT V k3.2) λhf=>absurd (k1 k hf) o!).trans<|k3.3 k V⟩
def AW.observe{b}(h:AW f g o p b J I C)(s:b?)(hB:eK C<=16777216)(hs:s.size<=la) :
  ld prog 34 #[p?<|y? ⟨b,0,x?⟩,s? s] g λe w'=>e=e? (n? i? (ml C s.1.1).1)/\∃V,AW f w' o V b J I (ml C s.1.1).2/\St g w' o p o V:=by
 obtain⟨⟨h1,h2,h3,Bb,vS,B,n,vK,kn,h4,h5⟩,k1,k2,W⟩:=h;apply (GJ g p b C s ⟨h2,B,n,vK,kn,h5⟩ hB hs).mono;rintro e w' ⟨rfl,F',hp,hF,O⟩;refine⟨q?,F',⟨PJ.words h1 h2 h3 h4 h5 hp hF O,k1,λk U=>?_,?_⟩,⟨O.4,λk U _ hn=>O.5 k U hn,λ_ U=>.inl U,hF⟩⟩;obtain Y|Y:=hF k U
 exact k2 k Y;exact ZE W.2 Y;exact⟨O.1.trans W.1,ZE W.2 O.4,λk U=>(O.5 k (AT U W.2) λY=>absurd (k2 k Y) o!).trans<|W.3 k U⟩
def AW.pe3{b}(h:AW f g o p b J I C):∃U O,wO U O g o b J I:=by obtain⟨⟨V,h2,h3,W,Y,B,n,O,kn,h4,h5⟩,k1,k2,k3⟩:=h;exact⟨_,_,V,W,Y,h4⟩
def AW.del{b}(h:AW f g o p b J I C)(s:b?)(O:s.size<=la):ld prog 37 #[p?<|y? ⟨b,0,x?⟩,s? s] g λe w'=>e=e? (n? i? (mn J I s.1.1).1)/\∃B,AW f w' B p b (mn J I s.1.1).2 I C/\St g w' o p B p:=
 h.Og λW Y U=>(WN g o b J I s U O).mono λ_ _ h=>⟨h.1,o,h.2.1,λ_ V=>.inl V,h.2.2⟩
def AW.ups{b}(h:AW f g o p b J I C)(s t:b?)(x y)(O:s.size<=la)(U:t.size<=la):ld prog 38 #[p?<|y? ⟨b,0,x?⟩,s? s,s? t,n? i? x,n? i? y] g λe w'=>e=e? (n? i? (kM J I s.1.1 t.1.1 x y).1)/\∃B,AW f w' B p b (kM J I s.1.1 t.1.1 x y).2 I C/\St g w' o p B p:=
 h.Og λY vK V=>(Wt g o b J I s t x y V O U).mono λ_ _ h=>⟨h.1,o,h.2.1,λ_ W=>.inl W,h.2.2⟩
def AW.flush{b}(h:AW f g o p b J I C):ld prog 29 #[p?<|y? ⟨b,0,x?⟩] g λe w'=>e=e? (n? i? (fZ J I).1)/\∃B,AW f w' B p b (fZ J I).2.1 (fZ J I).2.2 C/\St g w' o p B p:=
 h.Og λU V O=>Zac g o b J I O
def AW.merge{b}(h:AW f g o p b J I C)(n):ld prog 39 #[p?<|y? ⟨b,0,x?⟩,n? i? n] g λe w'=>e=e? (n? i? (gI I n).1)/\∃B,AW f w' B p b J (gI I n).2 C/\St g w' o p B p:=
 h.Og λU V O=>YN g o b J I n O
def AW.CP{b}(h:AW f g o p b J I C):ld prog 30 #[p?<|y? ⟨b,0,x?⟩] g λe w'=>e=e? (n? i? I.length)/\g=w':=by obtain⟨O,U,B⟩:=h.pe3;exact QO g o b J I B
def ZbF(w):ld prog 31 #[] w λe w'=>∃(b:Nat)(F1 F2:F?),e=e? (p?<|y? ⟨b,0,x?⟩)/\AW w w' F1 F2 b [] [] []/\B? w w':=by have ab:=@run_makeMap prog;go_enter func31,ntmps31;go_wp2_with fail;apply (UD _).mono;rintro e w1 ⟨B,rfl,V,hC,J⟩;go_wp2;go_ret;have O:(w.alloc<|Obj.map #[] 0).1.size=w.1.size+1:=i!;have W:fN w1 _ []:=ed.below (ed.made w) J;rw[O]at J V;have Y:=J.4;rw[O]at Y;have aa:=hC.lt;have U:=(((nr _ _).alloc (Zu _) _).trans<|J.mono o!).alloc (o:=c? #[.map<|y? w.1.size,.slice x? 0 0,.map<|y? B,.slice x? 0 0] 90) o!;refine⟨w1.1.size,λk=>k=w1.1.size\/k=w.1.size,λk=>k=w1.1.size\/k=B,q?,⟨⟨?_,?_,?_,w.1.size,.slice x? 0 0,B,0,.slice x? 0 0,[],?_,?_⟩,?_,?_,.of U⟩,U⟩;rintro k (rfl|rfl);simp;simp;omega;rintro k (rfl|rfl);simp;simp;omega;rintro k (h|h) (h'|h')<;>omega;exact⟨qa ..,.inl q?,.inr q?,ed.stay W<|e! _ _ _ o!,Z9 ..,nofun,OU⟩;refine⟨qa ..,.inl q?,.inr q?,?_,by simp[eK],Z9 ..,nofun,by simp[eP],nofun,i!⟩;refine(hC.stay<|e! _ _ _ aa).mono (Zu _) (λws _=>by rw[Td]);rintro k (rfl|rfl)<;>omega;rintro k (rfl|rfl)<;>omega
open Conc
structure SG(w:w?)(num:Nat)(A:Ask)(cap:Nat)(ms:L?):Prop where
 c0:w.1[5]?=some (.cells #[.chan (some 10)] 167 (0,1))
 c2:w.1[7]?=some (.cells #[.int .i64 num] 3 (0,1))
 c3:w.1[8]?=some (.cells #[.int .i64 A.m,.string A.q,.int .i64 A.t] 94 (0,3))
 ch:w.1[10]?=some (.chan cap ms.toArray false ms.length 0 false)
def SG.stay{w':w?}(h:SG f i P l U)(hb:∀k,k=5\/k=7\/k=8\/k=10->w'.1[k]?=f.1[k]?):SG w' i P l U:=
 ⟨(hb 5 i!).trans h.1,(hb 7 i!).trans h.2,(hb 8 i!).trans h.3,(hb 10 i!).trans h.4⟩
def SG.lt(h:SG f i P l U):10<f.1.size:=eN h.4
def SG.zd(h:SG f i P l U)(B:lu f g):SG g i P l U:=by obtain⟨τ,B⟩:=B;have:=h.lt;exact h.stay λk J=>B.5 k (by show k<f.1.size;omega)
def SG.jx(h:SG f i P l U)(v):SG {f with heap:=S? f.1 10<|.chan l (U.toArray.push v) f? (l? U+1) 0 f?} i P l (U++[v]):=by
 have J:=h.lt;have hb:∀k,k≠10->(S? f.1 10<|.chan l (U.toArray.push v) f? (l? U+1) 0 f?)[k]?=f.1[k]?:=λk B=>by rw[Zd<|Ne.symm B]
 refine⟨(hb 5 o!).trans h.1,(hb 7 o!).trans h.2,(hb 8 o!).trans h.3,?_⟩;rw[Array.getElem?_setIfInBounds_self_of_lt o!];simp
def Wq{q:Nat}{e}(hA:P.Ok)(h:SG f i P l U)(hc:l? U<l)(he:Told e) :
  ld prog 118 #[n? i? (q:Int),s? ⟨a? e.1⟩,ve e,p?<|y? ⟨5,0,x?⟩,p?<|y? ⟨7,0,x?⟩,p?<|y? ⟨8,0,x?⟩] f λen w'=>en=e? (.tuple #[])/\SG w' i P l (U++[pJ P i (q,e)])/\dy (· = 10) f w':=by
 have HS:=h! h
 have HM:J? (∀y:w?,ld _ 119 #[.agg _,s? _,ve e,.agg _] y λx w'=>x=e? (pJ P i (q,e))/\gR y w'):=λy=>by apply (JJ i q ⟨a? e.name⟩ e.gone ⟨(Gy e).toArray⟩ ⟨a? e.text⟩ e.dR e.dY P.m P.t P.q y hA.m hA.t he.2.2 hA.q (by show e.text.toArray.size<=_;have:=he.2.1;simp;omega)).mono;rintro x w' ⟨h1,h2⟩;exact⟨h1,h2⟩
 obtain⟨Y,aa⟩:∃Y,Y=pJ P i (q,e):=⟨_,q?⟩;rw[<-aa]at HM⊢;obtain⟨w0,ab⟩:∃w0,f.alloc (c? #[.bool e.2,s? ⟨(Gy e).toArray⟩,s? ⟨a? e.3⟩,n? i? e.4,n? i? e.5] 111)=w0:=⟨_,q?⟩;have ac:J?<|B? f w0:=h!<|by rw[<-ab];exact(nr _ _).alloc (Zu _) _
 have V:w0.1[f.1.size]?=y? (c? #[.bool e.2,s? ⟨(Gy e).toArray⟩,s? ⟨a? e.3⟩,n? i? e.4,n? i? e.5] 111 (0,0)):=by rw[<-ab];exact U! f _
 have O:=h!<|h.stay λk hk=>ac.5 k<|v! h.lt;have HY:J? (∀y,lu w0 y->y.1[f.1.size]?=y? _):=λy ⟨τ,B⟩=>(B.5 _<|eN V).trans V;clear h he hA aa V HS;unfold ve at HM⊢;go_enter func118,ntmps118;go_upto_region 1 with fail;refine jS (Sd:=λa y=>y.2=w0.2->qP _ _ _ [8] a y) (last:=8) (tl:=[]) k! ?_<|λa y h ht=>h ht;refine ew 0 ?_ ?_ ?_;rotate_left
 .intro y B;have J:=(O.zd B).1;have q0:=dx J 0;clear J;exact x!
 go_simp;refine ew 1 ?_ ?_ ?_;rotate_left
 .intro y B;have J:=(O.zd B).2;have q0:=dx J 0;clear J;exact x!
 go_simp;refine ew 2 ?_ ?_<|ew 3 ?_ ?_<|ew 4 ?_ ?_ ?_
 any_goals(intro y B;exact x!)
 go_simp;refine ew 5 ?_ ?_ ?_;rotate_left
 .intro y B;have J:=HY.o y B;have q0:=dx J;clear J;exact x!
 go_simp;refine ew 6 ?_ ?_ ?_;rotate_left
 .intro y B;have J:=(O.zd B).3;have q0:=dx J;clear J;exact x!
 go_simp;refine ew 7 ?_ ?_ ?_;rotate_left
 .intro y B;exact z!<|HM y
 go_simp;refine sJ k! (λt=>TT k! _ _) ?_;intro y B ht;have W:=O.zd B;apply B7 (v:=Y) q? q? q? q? q? q? W.ch<|u! hc;have ad:=h!<|W.jx Y
 have HF:J? (dy (· = 10) f {y with heap:=S? y.1 10<|.chan l (U.toArray.push Y) f? (l? U+1) 0 f?}):=by obtain⟨τ,hx⟩:=B;have hb:=ac.o;refine⟨hx.1.trans hb.1,ht.trans hb.2,hx.3.trans hb.3,?_,λk hk hn=>?_⟩;show _<=(S? y.1 10 _).size;rw[Array.size_setIfInBounds];exact ZE hb.4 hx.4;show(S? y.1 10 _)[k]?=_;rw[Zd<|Ne.symm hn];exact(hx.5 k<|AT hk hb.4).trans<|hb.5 k hk
 clear W;generalize ({y with heap:=S? y.1 10<|.chan l (U.toArray.push Y) f? (l? U+1) 0 f?}:w?)=w3 at *;go_end0;exact⟨q?,ad,HF⟩
def ZaQ(num:Nat)(A:Ask)(cap:Nat):PU where
 fn:=118
 cp:=#[p?<|y? ⟨5,0,x?⟩,p?<|y? ⟨7,0,x?⟩,p?<|y? ⟨8,0,x?⟩]
 own k:=k=10
 dom k:=k=5\/k=7\/k=8\/k=10
 T w told:=SG w num A cap<|told.map<|pJ A num
def VB(J:P.Ok)(V:1099511627776<=l):(ZaQ i P l).Ok x1 where
 iI:=⟨_,_,func118,q?,k!⟩
 sub _ h:=.inr<|.inr<|.inr h
 lt:=by intro w told k h B;have:=SG.lt h;have B:k=5\/k=7\/k=8\/k=10:=B;omega
 stay h hb:=SG.stay h hb
 tell:=by intro w q told e h _ W O _;apply (Wq (q:=q) J h (by rw[Z5];omega) O).mono;rintro Y w' ⟨rfl,g1,U⟩;exact⟨q?,by show SG _ _ _ _ _;rwa[Z4],U⟩
def Zav(L:L?)(w:w?):Exit->Act->w?->Prop:=λe a w'=>(e=.normal\/e=.ret)/\a.2=tM/\(∃cap B s r t,w'.1[10]?=y? (.chan cap B f? s r t)/\B.1=L)/\dy (· = 10) w w'
def Za9{ps qs}(Y:P.Ok)(hc:1099511627776<=l)(h:SG f i P l [])(O:f.1[6]?=y? (c? #[s? x0] 9 (0,1)))(hS:x0.size<=1099511627775)(U:jd x0.size x0.1.1=y? (ps,qs)) :
  (yi f116).wp prog (Zav ((ps++qs).map<|pJ P i) f) ⟨(yJ 116 8 4 .skip).2,tM⟩ f:=by
 have B:=Sm (VB Y hc) h hS<|Zu _;rw[U]at B;rw[show(ZaQ i P l).v=.func (.func 118) #[] #[p? _,p? _,p? _]from rfl]at B;have aa:∀(fn:Fn)(first l:V?)(f:w?),(Instr.makeFunc fn first l).run prog f=.ok _ f:=λ_ _ _ _=>rfl;have c6:=dx O 0;clear h O U;rw[show(yJ 116 8 4 _).2=#[p?<|y? ⟨5,0,x?⟩,p?<|y? ⟨6,0,x?⟩,p?<|y? ⟨7,0,x?⟩,p?<|y? ⟨8,0,x?⟩,.chan _,B3,B3,B3]from rfl];show Code.wp prog (Code.region 1 _ f?) _ _ _;obtain⟨L,J⟩:∃L,L=(ps++qs).map (pJ P i):=⟨_,q?⟩;rw[<-J];have HL:=h! J;clear J;go_wp2_with fail;apply B.mono;rintro e w2 ⟨V,rfl,W⟩;have HG:J? _:=W;have HF:J? _:=V;clear B V W;go_wp2;exact⟨.inl q?,q?,⟨_,_,_,_,_,HG.4,by rw[HL.o]⟩,HF⟩
abbrev cmS(s:Nat)(S:b?)(num:Nat)(A:Ask):Nat->Array v?:=cmV s (s? S) num A
def cdS(S:b?)(num:Nat)(A:Ask):Nat->Array v?|0=>#[.chan<|y? 10]|1=>#[s? S]|2=>#[n? i? num]|_=>Zaa A
abbrev teS:Nat->ln:=teV 9
def Rx{Z T q K num s ps qs os lent}(V:P.Ok)(hK:K<=s+5)(h5:5<=s)(W:l<s)
  (Y:∀i,i<4->g.1[bb s i]?=y? (c? (cmS s x0 num P i) (teS i) (0,0))) (hS:x0.size<=1099511627775) (hX:jd x0.size x0.1.1=y? (ps,qs)) :
  Sends (qw prog Z f T l q K lent) (qw prog Z f T l q (s+5) lent) 116 (CI<|bb s) os os g (xf g [bb s 0,bb s 1,bb s 2,bb s 3]) (s+3) ((ps++qs).map<|pJ P num):=by
 refine ID (cd:=cdS x0 num P) (M:=x?) (ex:=.map #[] 0) (cap:=1099511627776) Zbb q? q? d! d! d! ZaY (λv hv=>?_) ⟨q?,q?,q?,q?,q?,Gg,λm B=>?_,λb=>?_,λi hi=>?_,Uy s,Y,λm B i hi=>?_,q?,q?,λi U h4 m mi w' a' B hw aa O=>?_,nofun⟩ λτ=>?_;obtain⟨p,_,rfl⟩:=Zv.1 hv;exact Il P num p;obtain⟨x1,x2,x3⟩:=B.x;refine⟨x1,x2,λr B=>?_⟩;obtain B|B:=B
 have:=x3 r B;omega;simp only[Zm,q!,or_false,bb]at B;omega;exact⟨λh=>⟨h,nofun⟩,λh=>h.1⟩;have:=NN s i;omega;obtain⟨x1,_,_⟩:=B.x;rw[x1];have:=(NN s i).1;omega;have:i=1\/i=2\/i=3:=o!;obtain rfl|rfl|rfl:=this
 exact Flat.arr (λj J=>by
  have:=J;match j,this with
  |0,_=>exact .string _) O
 exact Flat.arr (λj J=>by
  have:=J;match j,this with
  |0,_=>exact .int ..) O
 exact Flat.arr (λj J=>by
  have:=J;match j,this with
  |0,_=>exact .int ..|1,_=>exact .string _|2,_=>exact .int ..) O
 exact EH (Za9 V (Zu _) ⟨q?,q?,q?,q?⟩ q? hS hX) λe a w' ⟨U,h2,h3,_⟩=>⟨U,h2,h3,.inl q?⟩
def Aw{Z T dd K lent fn}{tm:V?}{os}{V:List<|Nat×Option (L?)}{k}(num)(A){ps qs ops i rest}{o:Oper}(s)(W:s=g.1.size)(Y:ops[i]?=y? o)(hA:A.Ok)(hK:K<=s+5)(h5:5<=s)(B:dd<s)(J:∀(r:Nat)a c,g.1[r]?≠y? (.map a c))
  (O:x0.size<=1099511627775) (hX:jd x0.size x0.1.1=y? (ps,qs)) (hV:∀x∈V,x.1<s)
  (hn:∀w2:w?,w2.1.size=s+5->(∀r,r<s->w2.1[r]?=g.1[r]?)->(∀(r:Nat)a c,w2.1[r]?≠y? (.map a c))->w2.4=g.4->dv (qw prog Z f T dd l (s+5) lent) (⟨fn,fV o.1 tm<|.chan<|y?<|s+3,r? ops rest::k⟩::os) w2 ((s+3,y?<|(ps++qs).map<|pJ A num)::V)) :
  dv (qw prog Z f T dd l K lent) (⟨79,#[n? i? num,s? x0,.agg #[n? i? A.m,s? A.q,n? i? A.t],B3,B3,B3,B3,B3,B3,B3,B3],[.code<|eG f79]⟩::⟨fn,tm,r? ops (i::rest)::k⟩::os) g V:=by
 exact Jj (y? x0) num A _ s W Y J hV (λw6 os U _=>Rx hA hK h5 B U O hX) (λq' h1 h2=>absurd h1 h2) hn
def De(c:Code):Code:=match c with
 |.seq _ (.seq _<|.seq (.seq _<|.block _<|.loop x) _)=>x|_=>.skip
def Ub:f79.1≠ "runtime.NumGoroutine":=by decide
def Ql{Z:oJ prog}{T:List Frame}{K:Nat}{V:Vs}{ps qs:List<|Nat×eE}{cl:Nat->Option Nat}{so n sc bx b s k:Nat}{a2 a3 a4 a6 a8 a9 am aD aE aF aG aH aI aJ aK aL aM aN an ao ap aq ar au av aw ax ay az a0 a1 a5 a7 a':v?}{td:List Item}(hT:∀ps,T=[ps]->ps.5≠.panicking [lw])
  (hs:s=g.1.size) (hA:P.Ok) (hK:K<=s+5) (h5:5<=s) (U:l<s) (J:∀(r:Nat)a c,g.1[r]?≠y? (.map a c)) (hn:n<=6) (hk:k<n) (hV:∀x∈V,x.1<s)
  (W:g.1[bx]?=y? (c? #[n? i? P.m,s? P.q,n? i? P.t] 94 (0,0))) (hb:g.1[b]?=y? (c? (yk cl) 125 (0,0)))
  (ab:C? g ⟨x2,so+k,x?⟩=y? (s? x0)) (Y:x0.size<=1099511627775) (hX:jd x0.size x0.1.1=y? (ps,qs))
  (fin:∀(w2:w?)(c8 c9 aO aP aQ aR aS aT aU aV aW aX aY:v?),w2.1.size=s+5->(∀r,r<s->r≠b->w2.1[r]?=g.1[r]?)->w2.1[b]?=y? (c? (yk<|oe cl k<|s+3) 125 (0,0))->(∀(r:Nat)a c,w2.1[r]?≠y? (.map a c))->w2.4=g.4->
    dv (qw prog Z f T l x1 (s+5) f?) [⟨49,#[.slice (y? ⟨x2,so,x?⟩) n sc,.map<|y? l,a2,a3,a4,p?<|y? ⟨bx,0,x?⟩,a6,p?<|y? ⟨b,0,x?⟩,c8,c9,am,.slice (y? ⟨x2,so,x?⟩) n sc,n? i? (n:Int),n? i? ((k+1:Nat):Int),aO,aP,aQ,aR,aS,aT,aU,aV,aW,aX,aY,an,ao,ap,aq,ar,au,av,aw,ax,ay,az,a0,a1,a5,a7,a'],.code (De<|eG Tryz.f49)::.inLoop (De<|eG Tryz.f49)::td⟩] w2 ((s+3,y?<|(ps++qs).map<|pJ P k)::V)) :
  dv (qw prog Z f T l x1 K f?) [⟨49,#[.slice (y? ⟨x2,so,x?⟩) n sc,.map<|y? l,a2,a3,a4,p?<|y? ⟨bx,0,x?⟩,a6,p?<|y? ⟨b,0,x?⟩,a8,a9,am,.slice (y? ⟨x2,so,x?⟩) n sc,n? i? (n:Int),n? i? (k:Int),aD,aE,aF,aG,aH,aI,aJ,aK,aL,aM,aN,an,ao,ap,aq,ar,au,av,aw,ax,ay,az,a0,a1,a5,a7,a'],.code (De<|eG Tryz.f49)::.inLoop (De<|eG Tryz.f49)::td⟩] g V:=by
 have HA:=h!<|A? hs<|A? hA<|A? hK<|A? h5<|A? U<|A? J<|A? hV<|A? W<|A? hb<|A? ab<|A? Y<|A? hX<|A? fin hT;clear hs hA hK h5 U J hV W hb ab Y hX fin hT;obtain⟨B,hB⟩:∃B,B=Item.inLoop (De<|eG Tryz.f49):=⟨_,q?⟩;rw[<-hB];have HB:=h! hB;clear hB;show dv _ [⟨_,_,.code (.seq (.region 3 _ f?)<|.seq (.cond _ .skip<|.exit 0)<|.seq (.block 1<|.seq (.region 4 _ f?)<|.region 5 _ f?)<|.region 6 _ f?)::_⟩] _ _;refine dv.sr λkk HK=>?_;have aZ:(k:Int)<(n:Int):=o!
 (refine fO ?_;go_simp);apply dv.ie HK;clear HK kk;refine dv.seq<|dv.rG trivial q? (dv.skip ?_);refine dv.seq<|dv.block<|dv.sr λkk HK=>?_
 (iterate 2 (refine fO ?_;go_simp));refine qo q? l! k! λy0 ah ae=>?_
 have e0:C? y0 ⟨x2,so+k,x?⟩=y? (s? x0):=by have:=HA.2.2.2.2.2.2.2.2.2.1;unfold m5 at this⊢;rwa[ah]
 have HY:J?<|y0.1=g.1/\y0.4=g.4:=⟨ah,ae⟩;clear ah ae;unfold lO;go_simp;simp only[iR];clear e0
 (iterate 2 (refine fO ?_;go_simp));apply dv.ie HK;clear HK kk;refine rM λkk HK=>?_;apply dv.region
 (iterate 3 (refine fO ?_;go_simp));refine qo q? l! k! λy1 aA af=>?_;have ai:=aA.trans HY.1;have e0:=dx (by rw[ai];exact HA.2.2.2.2.2.2.2.1);have aj:J?<|y1.1=g.1/\y1.4=g.4:=⟨ai,af.trans HY.2⟩;clear aA af ai;unfold lO;go_simp;simp only[iR];let ⟨hs,hA,hK,h5,U,J,hV,W,hb,ab,Y,hX,fin,hT⟩:=HA.o;rw[<-aj.1]at hs J W hb;clear e0;refine dv.su #[n? i? (k:Int),s? x0,.agg #[n? i? P.m,s? P.q,n? i? P.t],B3,B3,B3,B3,B3,B3,B3,B3] (i:=4) (iI:=f79) (c:=eG f79) q? q? func79 k! Ub q? (by simp[eI]) k! ?_;refine Aw k P s hs q? hA hK h5 U J Y hX hV λw2 z2 o2 O p2=>?_;have ac:b<s:=by rw[hs];exact(AI.1 hb).1
 have ak:=(o2 b ac).trans hb;have H2:=h!<|A? z2<|A? (λr hr=>(o2 r hr).trans<|by rw[aj.1])<|A? (p2.trans aj.2)<|A? ak<|A? ac O;clear hs hA hK h5 U J hV W hb ab Y hX fin hT z2 o2 O p2 ak ac;rw[kA];go_simp;have aB:(k:Int)<7:=o!
 (refine fO ?_;go_simp);clear aB;refine qo q? l! k! λy2 al ag=>?_;have gb:y2.1[b]?=y? (c? (yk cl) 125 (0,0)):=by rw[al];exact H2.2.2.2.1
 have e0:C? y2 ⟨b,k,x?⟩=y? (.chan<|cl k):=by rw[dx gb];rcases(o!:k=0\/k=1\/k=2\/k=3\/k=4\/k=5\/k=6)with rfl|rfl|rfl|rfl|rfl|rfl|rfl<;>rfl
 have f0:=dO gb k;have ad:J?<|y2.1=w2.1/\y2.4=w2.4:=⟨al,ag⟩;have HG:=h! gb;clear al ag gb;unfold lO;go_simp;simp only[iR];clear e0 f0;obtain⟨w3,aa⟩:∃w3,w3=y2.setCell ⟨b,k,x?⟩ (.chan<|y?<|s+3):=⟨_,q?⟩;have g3:w3.1[b]?=y? (c? (yk<|oe cl k<|s+3) 125 (0,0)):=by rw[aa,heap_set HG.o k _,<-NU o!];simp only[kd]
 have o3:∀r,r≠b->w3.1[r]?=w2.1[r]?:=λr hr=>by rw[aa,ZH _ _ _ _ hr,ad.1]
 have z3:w3.1.size=s+5:=by rw[aa,xd,ad.1];exact H2.1
 have p3:w3.4=w2.4:=by rw[aa,sS];exact ad.2
 rw[<-aa];clear aa HG ad y2;have H3:=h!<|A? g3<|A? o3<|A? z3 p3;clear g3 o3 z3 p3;apply dv.ie HK;clear HK kk;apply dv.inBlock;refine rM λkk HK=>?_;apply dv.region
 (refine fO ?_;go_simp);have aC:IntKind.i64.wrap ((k:Int)+1)=((k+1:Nat):Int):=by simp only[X?];omega
 rw[aC];clear aC
 (refine fO ?_;go_simp);apply dv.inRegion;rw[HK.o,HB.o];apply dv.inLoop;obtain⟨hs,hA,hK,h5,U,J,hV,W,hb,ab,Y,hX,fin,hT⟩:=HA.o;obtain⟨g3,o3,z3,p3⟩:=H3.o;obtain⟨z2,o2,p2,ak,ac,O⟩:=H2.o;have ek:(k:Int)+1=((k+1:Nat):Int):=o!;rw[ek,<-Z4];refine fin w3 _ _ _ _ _ _ _ _ _ _ _ _ _ z3 (λr hr hn=>(o3 r hn).trans<|o2 r hr) g3 (λr a c h=>?_)<|p3.trans p2;by_cases hr:r=b;rw[hr,g3]at h;cases h;rw[o3 r hr]at h;exact O r a c h
end
section
variable {f:Ask}{g C:w?}{i l o p I:Nat}
def lC(A:Ask)(P:Nat->List (Nat×eE)):Nat->List rj
 |0=>[]
 |k+1=>(P k).map (sw A k)++lC A P k
def allM(A:Ask)(P:Nat->List (Nat×eE))(es:E?)(n:Nat):List rj:=(iO es).map (sw A n)++lC A P n
def lJ(ps:List<|Nat×eE):List Wd:=ps.map λp=>p.2.1
def BL{P Q}:∀n,(∀j,j<n->P j=Q j)->lC f P n=lC f Q n
 |0,_=>rfl|n+1,h=>by simp only[lC];rw[h n o!,BL n λj B=>h j o!]
def xD{P}:∀n,∀m∈lC f P n,m.1<n
 |0,m,h=>by simp[lC]at h
 |n+1,m,h=>by
  obtain h|h:=Z3.1 h
  obtain⟨p,_,rfl⟩:=Zv.1 h;rw[(js n p).1];omega;have:=xD n m h;omega
def DM(l r)(x):fR (l++r) x=max (fR l x) (fR r x):=by
 induction l with
 |nil=>simp[fR]|cons a l B=>simp only[B!,fR,B];split<;>omega
def Ge(n)(ps)(x):fR (ps.map<|sw f n) x=if x∈lJ ps then n else 0:=by
 induction ps with
 |nil=>simp[fR,lJ]|cons p ps J=>have e:lJ (p::ps)=p.2.1::lJ ps:=rfl;rw[e,ZK];simp only[fR,(js n p).1,(js n p).2.2.1,J];by_cases h:p.2.1=x;by_cases B:x∈lJ ps<;>simp[h,B];have O:¬x=p.2.1:=λe=>h e.symm;by_cases B:x∈lJ ps<;>simp[h,B,O]
def zp{P}(n)(x):fR (lC f P<|n+1) x=if x∈lJ (P n)then n else fR (lC f P n) x:=by
 show fR (_++_) x=_;rw[DM,Ge];split;have:fR (lC f P n) x<=n:=yj _ _ λm hm=>by have:=xD n m hm;omega
 omega;omega
def Lh{P}:∀n,∀m∈lC f P n,m.4=t?->m.Og.1=m.3
 |0,m,h=>by simp[lC]at h
 |n+1,m,h=>by
  intro B
  obtain h|h:=Z3.1 h
  obtain⟨p,_,rfl⟩:=Zv.1 h;rw[(js n p).2.2.2]at B;rw[Hr B,(js n p).2.2.1];exact Lh n m h B
def KN(P:Nat->List (Nat×eE)):Nat->List eE
 |0=>[]
 |n+1=>sn (P n)++(KN P n).filter λe=>!decide (e.1∈lJ (P n))
def B9{A P}:∀n,gw (lC A P n) (lC A P n)=(KN P n).filter A.has
 |0=>rfl
 |n+1=>by
  have ih:=@B9 A P n
  show gw _ ((P n).map _++lC A P n)=(sn _++_).filter _;unfold gw;rw[Zj,Z4,Zj];congr 1;rw[ev,cH]
  have e:(P n).filter ((λm=>m.4&&m.1==fR (lC A P<|n+1) m.3) ∘ sw A n)=(P n).filter (A.has ∘ xt):=by apply d?;intro p B;have O:p.2.1∈lJ _:=Zv.2 ⟨p,B,q?⟩;simp only[Function.comp_apply,(js n p).1,(js n p).2.2.1,(js n p).2.2.2,zp,if_pos O,beq_self_eq_true,Bool.and_true]
  rw[e];rw[ev];apply ZM;intro p B;exact Hr (Zb.1 B).2
  have e:(lC A P n).filter (λm=>m.4&&m.1==fR (lC A P<|n+1) m.3)=((lC A P n).filter λm=>m.4&&m.1==fR (lC A P n) m.3).filter λm=>!decide (m.Og.1∈lJ (P n)):=by
   rw[ZV];apply d?;intro m hm;have V:=xD n m hm;rw[zp]
   cases U:m.4 with
   |false=>simp|true=>rw[Lh n m hm U];by_cases J:m.3∈lJ (P n);have:(m.1==n)=f?:=j!;simp[J,this];simp[J]
  rw[e];have f:=ev (f:=rj.Og) (p:=λe=>!decide (e.1∈lJ (P n))) (l:=(lC A P n).filter λm=>m.4&&m.1==fR (lC A P n) m.3);unfold gw at ih;rw[ih]at f;apply f.symm.trans;rw[ZV,ZV];congr 1;funext x;exact Bool.and_comm ..
def MQ(b:E?)(e):ix b e = !decide (e.1∈b.map eE.name):=by unfold ix jC;rw[Bool.eq_iff_iff];simp[List.findIdx?_eq_none_iff]
def KD{P}{ss:List<|E?}(B:∀j(h:j<l? ss),(sn<|P j).Perm ss[j]):∀n,n<=l? ss->(KN P n).Perm (gP<|ss.take n)
 |0,_=>by simp[KN,gP]
 |n+1,h=>by
  have J:=B n o!
  rw[IS _,fE];refine(List.Perm.append J ?_).trans List.perm_append_comm
  have e:(λe=>!decide (e.1∈lJ (P n)))=ix ss[n]:=by
   funext e;rw[MQ]
   have O:e.1∈lJ (P n)↔e.1∈ss[n].map eE.name:=by have:=(J.map eE.name).mem_iff (a:=e.1);rwa[cH]at this
   rw[decide_eq_decide.2 O]
  rw[e];exact(KD B n o!).filter _
def BI{P:Nat->List (Nat×eE)}(J:∀j,(lJ<|P j).Nodup):∀n,((KN P n).map eE.name).Nodup
 |0=>List.Pairwise.nil
 |n+1=>by
  show((sn _++_).map _).Nodup
  rw[Z4,Zn]
  refine⟨by rw[cH];exact J n,(BI J n).sublist<|(ZN).map _,?_⟩
  intro x O y U rfl
  obtain⟨e,V,rfl⟩:=Zv.1 U
  have B:=by simpa using(Zb.1 V).2
  rw[cH]at O;exact B O
open Conc RowKit Maps
def Vw{Z:oJ prog}{T:List Frame}{es:E?}{ex}{Ss:Nat->b?}{P:Nat->List (Nat×eE)}{sa:Option Addr}{n sc bx b}{ms:List rj}(hT:∀ps,T=[ps]->ps.5≠.panicking [lw])
  (hA:f.Ok) (aI:5<=I) (hq:I<g.1.size) (aJ:g.1[I]?=y? ex) (hM:uF ex es) (hl:l? es<=100000) (aK:∀e∈es,l? e.1<=la/\l? e.3<=1048576/\(e.2=f?->0<=e.5/\e.5<=255)) (hn:n<=6)
  (hS:∀j,j<n->(Ss j).size<=1099511627775/\∃ps qs,jd (Ss j).size (Ss j).1.1=y? (ps,qs)/\P j=ps++qs) (aL:∀a,sa=y? a->a.1≠b) (aM:bx≠b)
  (aN:ms=(iO es).map (sw f n)++lC f P n) (aO:JQ ms)
  (fin:∀(B:Env prog)aD ad aE,B.Z=Z->B.T=T->B.3=g->(ad=[]\/∃k2,ad=.code .ret::k2)->El prog B Tryz.f49 aD aE (Fp ms) (EF ms)->dv B [⟨49,aD,ad⟩] aE []) :
  ∀(d k K s)(wl:w?)(V:Vs)(cl:Nat->Option Nat)(a2 a3 a4 a6 a8 a9 ae af ag ah ai aj ak al am an ao ap aq ar au av aw ax ay az a0 a1 a5 a7 a' aA aB aC:v?),n=k+d->s=wl.1.size->K<=s->5<=s->l<s->(∀(r:Nat)a c,wl.1[r]?≠y? (.map a c))->(∀x∈V,x.1<s)->
   wl.1[bx]?=y? (c? #[n? i? f.m,s? f.q,n? i? f.t] 94 (0,0))->wl.1[b]?=y? (c? (yk cl) 125 (0,0))->(∀a,sa=y? a->a.1<s)->(∀j,j<n->∃sb so,sa=y? ⟨sb,so,x?⟩/\C? wl ⟨sb,so+j,x?⟩=y? (s?<|Ss j))->
   (∀j,k<=j->cl j=x?)->(∀j r,j<7->cl j=y? r->∃vs,(r,y? vs)∈V)->(∀x∈V,∃j vs,j<7/\cl j=y? x.1/\x.2=y? vs)->(∀j j' r,j<7->j'<7->cl j=y? r->cl j'=y? r->j=j')->(V.map xb).Nodup->l? V=k->vk V=(lC f P k).map rj.val->
   dv (qw prog Z g T l I K f?) [⟨49,#[.slice sa n sc,.map<|y? l,a2,a3,a4,p?<|y? ⟨bx,0,x?⟩,a6,p?<|y? ⟨b,0,x?⟩,a8,a9,ae,.slice sa n sc,n? i? (n:Int),n? i? (k:Int),af,ag,ah,ai,aj,ak,al,am,an,ao,ap,aq,ar,au,av,aw,ax,ay,az,a0,a1,a5,a7,a',aA,aB,aC],.code (De<|eG Tryz.f49)::.inLoop (De<|eG Tryz.f49)::.inBlock 0::[.code<|NW<|eG Tryz.f49]⟩] wl V:=by
 intro d;induction d with
 |zero=>
  intro k K s wl V cl a2 a3 a4 a6 a8 a9 ae af ag ah ai aj ak al am an ao ap aq ar au av aw ax ay az a0 a1 a5 a7 a' aA aB aC aF hs hK h5 U W hV J hb aa ac O kO fu wK iS Y ab;obtain rfl:n=k:=aF;have HC:=h!<|A? hs<|A? hK<|A? h5<|A? U<|A? W<|A? hV<|A? J<|A? hb<|A? O<|A? kO<|A? fu<|A? wK<|A? iS<|A? Y ab;clear hs hK h5 U W hV J hb aa ac O kO fu wK iS Y ab;show dv _ [⟨_,_,.code (.seq (.region 3 _ f?)<|.seq (.cond _ .skip<|.exit 0) _)::_⟩] _ _;refine dv.sr λkk HK=>?_
  (refine fO ?_;go_simp);apply dv.ie HK;clear HK kk;refine dv.seq<|dv.ni trivial (by first|rfl|simp[mE]) ?_;apply dv.exit (k':=[.code<|NW<|eG Tryz.f49]) rfl;obtain⟨hs,hK,h5,U,W,hV,J,hb,O,kO,fu,wK,iS,Y,ab⟩:=HC.o;exact F8 hT hs hA o! h5 U aI hq aJ hM W hl aK hn hV J hb O kO fu wK iS Y ab aN aO fin
 |succ d ih=>
  intro k K s wl V cl a2 a3 a4 a6 a8 a9 ae af ag ah ai aj ak al am an ao ap aq ar au av aw ax ay az a0 a1 a5 a7 a' aA aB aC aF hs hK h5 U W hV J hb aa ac O kO fu wK iS Y ab;obtain⟨hz,ps,qs,hX,hP⟩:=hS k o!;obtain⟨sb,so,rfl,aP⟩:=ac k o!;have aa:sb<s:=aa _ rfl;refine Ql hT hs hA o! h5 U W hn o! hV J hb aP hz hX λw2 c8 c9 aS aT aU aV aW aX aY aZ ba bc bd z2 o2 g2 aG p2=>?_;refine ih _ _ _ w2 _ _ _ _ _ _ _ _ _ _ _ _ _ _ _ _ _ _ _ _ _ _ _ _ _ _ _ _ _ _ _ _ _ _ _ _ o! z2.symm (Zu _) o! o! aG (λx hx=>?_) ((o2 bx (by rw[hs];exact(AI.1 J).1) aM).trans J) g2 (λa e=>by cases e;show sb<s+5;omega) (λj hj=>?_) (λj hj=>?_) (λj r hj hr=>?_) (λx hx=>?_) (λj j' r hj aH hr hr'=>?_) ?_ (by simp[Y]) ?_;obtain rfl|hx:=Zm.1 hx
  show s+3<s+5;omega;have:=hV x hx;omega;obtain⟨aQ,aR,e,this⟩:=ac j hj;refine⟨aQ,aR,e,?_⟩;cases e;unfold m5 at this⊢;rwa[o2 sb aa<|aL _ q?];unfold oe;rw[if_neg o!];exact O j o!;unfold oe at hr;split at hr
  cases hr;exact⟨_,ZT⟩;obtain⟨vs,h⟩:=kO j r hj hr;exact⟨vs,ZG _ h⟩;obtain rfl|hx:=Zm.1 hx
  exact⟨k,_,o!,by simp[oe],q?⟩;obtain⟨j,vs,h1,h2,h3⟩:=fu x hx;refine⟨j,vs,h1,?_,h3⟩;unfold oe;rwa[if_neg (λe=>by rw[e,O k<|Zu _]at h2;cases h2)];unfold oe at hr hr'
  have hold:∀i r,i<7->cl i=y? r->r≠s+3:=λi r hi h e=>by obtain⟨vs,h⟩:=kO i r hi h;have:=hV _ h;omega
  split at hr<;>split at hr';omega
  cases hr;exact absurd q?<|hold j' _ aH hr'
  cases hr';exact absurd q?<|hold j _ hj hr;exact wK j j' r hj aH hr hr';rw[ZK,Z2];refine⟨λh=>?_,iS⟩;obtain⟨x,hx,e⟩:=Zv.1 h;have:=hV x hx;omega;show(ps++qs).map _++vk V=((P k).map _++lC f P k).map _;rw[Z4 (l₁:=(P k).map _),cH,hP];congr 1;exact ZM λp _=>(JK f k p).symm
def U9{Z:oJ prog}{T:List Frame}{K}{es:E?}{ex}{Ss:Nat->b?}{P:Nat->List (Nat×eE)}{sa:Option Addr}{s}{ms:List rj}(hT:∀ps,T=[ps]->ps.5≠.panicking [lw])
  (hs:s=C.1.size) (hA:f.Ok) (hK:K<=s) (h5:5<=s) (ah:i<s) (aa:5<=l) (hq:l<g.1.size) (ab:g.1[l]?=y? ex) (hM:uF ex es) (ac:∀(r:Nat)a c,C.1[r]?≠y? (.map a c))
  (hl:l? es<=100000) (ad:∀e∈es,l? e.1<=la/\l? e.3<=1048576/\(e.2=f?->0<=e.5/\e.5<=255))
  (hn:p<=6) (hS:∀j,j<p->(Ss j).size<=1099511627775/\∃ps qs,jd (Ss j).size (Ss j).1.1=y? (ps,qs)/\P j=ps++qs) (U:∀a,sa=y? a->a.1<s) (ae:∀j,j<p->∃sb so,sa=y? ⟨sb,so,x?⟩/\C? C ⟨sb,so+j,x?⟩=y? (s?<|Ss j))
  (af:ms=(iO es).map (sw f p)++lC f P p) (ag:JQ ms)
  (fin:∀(J:Env prog)aj ai ak,J.Z=Z->J.T=T->J.3=g->(ai=[]\/∃k2,ai=.code .ret::k2)->El prog J Tryz.f49 aj ak (Fp ms) (EF ms)->dv J [⟨49,aj,ai⟩] ak []) :
  dv (qw prog Z g T i l K f?) [⟨49,#[.slice sa p I,.map<|y? i,.agg #[n? i? f.m,s? f.q,n? i? f.t],B3,B3,B3,B3,B3,B3,B3,B3,B3,B3,B3,B3,B3,B3,B3,B3,B3,B3,B3,B3,B3,B3,B3,B3,B3,B3,B3,B3,B3,B3,B3,B3,B3,B3,B3,B3,B3,B3],[.code<|eG Tryz.f49]⟩] C []:=by
 have HN:=h!<|A? hn<|A? hS<|A? U ae;clear hn hS U ae;have HC:=h!<|A? hs<|A? hA<|A? hK<|A? h5<|A? ah<|A? aa<|A? hq<|A? ab<|A? hM<|A? ac<|A? hl<|A? ad<|A? af<|A? ag<|A? fin hT;clear hs hA hK h5 ah aa hq ab hM ac hl ad af ag fin hT;show dv _ [⟨_,_,[.code<|.seq (.region 0 _ f?)<|.seq (.region 1 _ f?)<|.seq (.seq (.region 2 _ f?)<|.block 0<|.loop<|.seq (.region 3 _ f?)<|.seq (.cond _ .skip<|.exit 0) _)<|NW<|eG Tryz.f49]⟩] _ _;refine dv.sc λkk HK=>?_;refine li k! (by rw[HK.o];rfl) (.inr HC.2.2.2.2.2.2.2.2.2.2.2.2.2.2.2) λy0 W O=>?_;have HY:J?<|y0.1=C.1/\y0.4=C.4:=⟨W,O⟩;clear W O;go_wp2;apply ja;rw[HK.o];clear HK kk;obtain⟨w3,V⟩:∃w3,w3=y0.alloc (c? #[n? i? f.m,s? f.q,n? i? f.t] 94):=⟨_,q?⟩;have B:y0.1.size=s:=by rw[HY.1];exact HC.1.symm
 have z3:w3.1.size=s+1:=by rw[V];simp[B]
 have o3:∀r,r<s->w3.1[r]?=C.1[r]?:=λr hr=>by rw[V,jO _ _ (by rw[B];omega),HY.1]
 have g3:w3.1[s]?=y? (c? #[n? i? f.m,s? f.q,n? i? f.t] 94 (0,0)):=by rw[V,lX _ _ B.symm]
 have p3:w3.4=C.4:=by rw[V];exact HY.2
 rw[<-V,B];clear V HY B y0;have H3:=h!<|A? z3<|A? o3<|A? g3 p3;clear z3 o3 g3 p3;refine dv.sc λkk HK=>?_;refine li k! (by rw[HK.o];rfl) (.inr HC.2.2.2.2.2.2.2.2.2.2.2.2.2.2.2) λy0 W O=>?_;have HY:J?<|y0.1=w3.1/\y0.4=w3.4:=⟨W,O⟩;clear W O;go_wp2;apply ja;rw[HK.o];clear HK kk;obtain⟨w4,Y⟩:∃w4,w4=y0.alloc (c? (yk λ_=>x?) 125):=⟨_,q?⟩;have B:y0.1.size=s+1:=by rw[HY.1];exact H3.1
 have z4:w4.1.size=s+2:=by rw[Y];simp[B]
 have o4:∀r,r<s+1->w4.1[r]?=w3.1[r]?:=λr hr=>by rw[Y,jO _ _ (by rw[B];omega),HY.1]
 have g4:w4.1[s+1]?=y? (c? (yk λ_=>x?) 125 (0,0)):=by rw[Y,lX _ _ B.symm]
 rw[show y0.alloc (c? #[.chan x?,.chan x?,.chan x?,.chan x?,.chan x?,.chan x?,.chan x?] 125)=w4 from Y.symm,B];clear Y HY B y0;have H4:=h!<|A? z4<|A? o4 g4;clear z4 o4 g4;apply dv.seq;refine dv.sr λkk HK=>?_
 (iterate 3 (refine fO ?_;go_simp));apply dv.ie HK;clear HK kk;refine dv.block<|dv.loop ?_;obtain⟨hs,hA,hK,h5,ah,aa,hq,ab,hM,ac,hl,ad,af,ag,fin,hT⟩:=HC.o;obtain⟨z3,o3,g3,p3⟩:=H3.o;obtain⟨z4,o4,g4⟩:=H4.o;obtain⟨hn,hS,U,ae⟩:=HN.o;refine Vw hT hA aa hq ab hM hl ad hn hS (λa e=>by have:=U a e;omega) o! af ag fin p 0 K _ w4 [] _ _ _ _ _ _ _ _ _ _ _ _ _ _ _ _ _ _ _ _ _ _ _ _ _ _ _ _ _ _ _ _ _ _ _ o! z4.symm o! o! o! (λr a c=>?_) (λx hx=>by cases hx) ((o4 s o!).trans g3) g4 (λa e=>by have:=U a e;omega) (λj hj=>?_) (λ_ _=>rfl) (λ_ _ _ h=>by cases h) (λx hx=>by cases hx) (λ_ _ _ _ _ h=>by cases h) List.nodup_nil q? rfl;by_cases h1:r<s;rw[o4 r o!,o3 r h1];exact ac r a c;by_cases h2:r=s;rw[h2,o4 s o!,g3];simp;by_cases h3:r=s+1;rw[h3,g4];simp;rw[ZB o!];simp;obtain⟨sb,so,e,this⟩:=ae j hj;have al:sb<s:=U _ e;refine⟨sb,so,e,?_⟩;unfold m5 at this⊢;rwa[o4 sb o!,o3 sb al]
def dv.VH{E:Env prog}{fn}{tm:V?}{os k ops rest o xs ts A}{es:E?}{Ss:Nat->b?}{P:Nat->List (Nat×eE)}{ms sa n sc lb}(Y:∀b,b<E.3.1.size->E.2 b\/E.3.1[b]?=y? rX)(a8:E.6=t?)(hi:ops[i]?=y? o)(ap:sA o (lo ops tm)=t?)(ho:o.2=.call {callee:=.value<|.func 49,args:=xs,argTypes:=ts})(aq:∀x∈xs.1,eI E.7 E.5 x)
  (ar:xs.size=3) (aa:xs.map (mE tm)=#[.slice sa n sc,.map<|y? lb,.agg #[n? i? A.m,s? A.q,n? i? A.t]]) (hA:A.Ok) (hs:fN g lb es) (a9:5<=lb) (au:(sa=x?/\n=0)\/∃sb O c f,sa=y? ⟨sb,O,x?⟩/\5<=sb/\g.1[sb]?=y? (c? c 9 f)/\∀j,j<n->c[O+j]?=y? (s?<|Ss j)) (hn:n<=6) (av:∀j,j<n->(Ss j).size<=1099511627775/\∃ps qs,jd (Ss j).size (Ss j).1.1=y? (ps,qs)/\P j=ps++qs) (ad:ms=(iO es).map (sw A n)++lC A P n) (aw:JQ ms)
  (hl:l? es<=100000) (ax:∀e∈es,l? e.1<=la/\l? e.3<=1048576/\(e.2=f?->0<=e.5/\e.5<=255))
  (ay:∀l cp,Fp ms l cp->dv E (⟨fn,fV o.1 tm<|.slice x? l cp,r? ops rest::k⟩::os) g [])
  (ab:∀off spot l cp cs e f,EF ms off spot l cp cs e f->(∀v∈cs.1,Flat v)->dv E (⟨fn,fV o.1 tm<|.slice (y? ⟨g.1.size,off,spot⟩) l cp,r? ops rest::k⟩::os) {g with heap:=g.1.push<|c? cs e f} []) :
  dv E (⟨fn,tm,r? ops (i::rest)::k⟩::os) g []:=by
 refine dv.phase (R0:=Fp ms) (R1:=EF ms) (iI:=Tryz.f49) (c:=eG Tryz.f49) Y hi ap func49 k! S6 ho aq ?_ ay ab;intro m w ys T az hw U hT;rw[aa]at U;have hG:=az.1.1.G.trans Cu;let ⟨ex,ae,hM⟩:=K5 hs;have h0:=U.idx 0 i! (by rw[<-U.size];simp);have h1:=U.idx 1 i! (by rw[<-U.size];simp);have h2:=U.idx 2 i! (by rw[<-U.size];simp);have a0:ys.size=3:=by rw[<-U.size];rfl
 obtain⟨y0,y1,y2,rfl⟩:∃y0 y1 y2,ys=#[y0,y1,y2]:=⟨ys[0],ys[1],ys[2],by
  refine kx (by simp[a0]) λj h1 h2=>?_;have:j<3:=o!
  rcases(o!:j=0\/j=1\/j=2)with rfl|rfl|rfl<;>rfl⟩
 have h0:VR m (.slice sa n sc) y0:=h0;have h1:VR m (.map _) y1:=h1;have h2:VR m (.agg _) y2:=h2
 have V:Flat<|.agg #[n? i? A.m,s? A.q,n? i? A.t]:=.agg λi hi=>by
  have:i<3:=hi;match i,this with
  |0,_|2,_=>exact .int _ _|1,_=>exact .string _
 have e2:=V.eq m _ h2;subst e2
 obtain⟨q,rfl,hq⟩:∃q,y1=.map (y? q)/\m.1 lb=y? q:=by
  cases h1 with
  |map hb=>exact⟨_,q?,hb⟩|gone hd=>obtain⟨_,c,f,hc⟩:=hw.10 lb hd;obtain⟨a,c2,hx⟩:=hM.1;rw[ae,hx]at hc;cases hc
 let ⟨o1,o2,g1,g2,g3⟩:=hw.1 lb q hq;rw[ae]at g1;cases g1;have a1:=hM.3 m _ g3;subst a1
 have fin:∀(b5:Option Nat)(h5:∀b,b5=y? b->5<=b)(c1:V?)(e5:ln)(hb:∀b,b5=y? b->∃c' f',w.1[b]?=y? (c? c' e5 f')/\∀m1,fh m1 c1 c')(s5:Option Addr)(af:∀a,s5=y? a->a.1<7)(ag:∀j,j<n->∃O,s5=y? ⟨5,O,x?⟩/\c1[O+j]?=y? (s?<|Ss j)),VR (phR b5 q h5) (.slice s5 n sc) y0->
   ∃(B:Env prog)(ah:V?)(m1:Ren)(ai:w?),B.Z=E.Z/\B.T=T/\B.3=w/\(∀b,B.2 b↔b<w.1.size)/\Rg B m1/\WR m1 ai w/\(∀r b,m1.1 r=y? b->m1.3 r)/\fh m1 ah (#[y0,.map<|y? q,.agg #[n? i? A.m,s? A.q,n? i? A.t]]++j2 (Tryz.f49.7-xs.size) B3)/\
   ((∀(J:Env prog)aj ac ak,J.Z=E.Z->J.T=T->J.3=w->(ac=[]\/∃k2,ac=.code .ret::k2)->El prog J Tryz.f49 aj ak (Fp ms) (EF ms)->dv J [⟨49,aj,ac⟩] ak [])->dv B [⟨49,ah,[.code<|eG Tryz.f49]⟩] ai []):=by
  intro b5 h5 c1 e5 hb s5 af ag a2;refine⟨qw prog E.Z w T 6 q 6 f?,#[.slice s5 n sc,.map<|y? 6,.agg #[n? i? A.m,s? A.q,n? i? A.t]]++j2 38 B3,phR b5 q h5,ph0 (c? c1 e5 (0,c1.size)) w,q?,q?,q?,λb=>⟨λh=>h.1,λh=>⟨h,λh=>by cases h⟩⟩,Zan h5,Y7 h5 (v! hw.6) hb,λr b hr=>?_,?_,λal=>?_⟩;have hr:(if r=5 then b5 else x?)=y? b:=hr;split at hr;assumption
  cases hr;rw[ar];have hn:Tryz.f49.7-3=38:=k!;rw[hn];refine fh.append (fh.jb q? λi h1 h2=>?_)<|.replicate _<|.undef _;have:i<3:=h1;match i,this with
  |0,_=>exact a2|1,_=>exact .gone rfl|2,_=>exact V.refl _
  have am:(#[.slice s5 n sc,.map<|y? 6,.agg #[n? i? A.m,s? A.q,n? i? A.t]]++j2 38 B3:V?)=#[.slice s5 n sc,.map<|y? 6,.agg #[n? i? A.m,s? A.q,n? i? A.t],B3,B3,B3,B3,B3,B3,B3,B3,B3,B3,B3,B3,B3,B3,B3,B3,B3,B3,B3,B3,B3,B3,B3,B3,B3,B3,B3,B3,B3,B3,B3,B3,B3,B3,B3,B3,B3,B3]:=k!;rw[am];refine U9 (s:=7) hT q? hA o! o! o! (v!<|m.12 lb q hq) ((AI.1 g2).1) g2 hM (λr a c h=>?_) hl ax hn av af (λj hj=>?_) ad aw al;rotate_left
  .obtain⟨O,e,h⟩:=ag j hj;refine⟨5,O,e,?_⟩;rwa[dx<|rfl]
  have h:(#[A5,A5,A5,A5,A5,Obj.cells c1 e5 (0,c1.size),A5])[r]?=y? _:=h;match r,h with
  |0,h|1,h|2,h|3,h|4,h|5,h|6,h=>cases h
  |r+7,h=>simp at h
 obtain⟨rfl,rfl⟩|⟨sb,O,c,f,rfl,a7,hc,an⟩:=au
 .cases h0 with
  |gC l c=>exact fin x? (λb h=>by cases h) #[] 0 (λb h=>by cases h) x? (λa h=>by cases h) (λj hj=>absurd hj o!)<|.gC _ _
 cases h0 with
 |zero _ hd=>let ⟨_,c0,f0,g0⟩:=hw.10 sb hd;rw[hc]at g0;cases g0
 |@slice a a' _ _ a3=>
  cases a3 with
  |@mk b b' off spot ao=>
   let ⟨o1,o2,k1,k2,k3⟩:=hw.1 sb b' ao;rw[hc]at k1;cases k1
   cases k3 with
   |@cells _ c' _ _ f' a4=>let ⟨c1,ab,aA,a5⟩:=a4.flatten;refine fin _ (λx hx=>by cases hx;exact(v!<|m.12 sb b' ao)) c1 9 (λx hx=>by cases hx;exact⟨c',f',k2,ab⟩) _ (λa h=>by cases h;show 5<7;omega) (λj hj=>⟨O,q?,?_⟩)<|.slice _ _<|.mk q?;obtain⟨a6,hv⟩:=AI.1<|an j hj;have W:O+j<c1.size:=o!;rw[Z1 W,a5 _ W a6 (by rw[hv];exact .string _),hv]
def Qc{Z:oJ prog}{Mp:F?}{fn}{tm:V?}{os:List OF}{k:List Item}{ops:Array Oper}{rest:List Nat}{o b}{vS vM vK:v?}{sa:Option Addr}{sc mode dY most}{Ss:Nat->b?}{P:Nat->List (Nat×eE)}{R:E?}{qb:b?}{es:E?}(hi:ops[i]?=y? o)(ah:vS=.slice sa I sc)
  (hb:C.1[b]?=y? (c? #[.map<|y? p,vS,vM,vK] 90 (0,0))) (hs:fN C p es) (ad:5<=p) (ai:((sa=x?/\I=0)\/∃sb so c f,sa=y? ⟨sb,so,x?⟩/\5<=sb/\C.1[sb]?=y? (c? c 9 f)/\∀j,j<I->c[so+j]?=y? (s?<|Ss j))/\I<=6/\(∀j,j<I->(Ss j).size<=1099511627775/\∃ps qs,jd (Ss j).size (Ss j).1.1=y? (ps,qs)/\P j=ps++qs)/\∀A:Ask,A.Ok->JQ (allM A P es I)/\(gw (allM A P es I)<|allM A P es I).Perm (R.filter A.has))
  (hl:l? es<=100000) (aa:∀e∈es,l? e.1<=65536/\l? e.3<=1048576/\(e.2=f?->0<=e.5/\e.5<=255))
  (hm:mode<=3) (ht:dY<=255) (ax:1<=most) (ay:most<=20) (hq:eh qb.1.1=t?) (az:qb.size<=1000)
  (B:∀e∈R,e.2=f?->∀y:w?,(∀r,r<5->y.1[r]?=C.1[r]?)->ld prog 51 #[.agg #[s? ⟨a? e.1⟩,s? ⟨a? e.3⟩,n? i? e.4,n? i? e.5]] y λen w'=>en=e? (s? ⟨(jV e).toArray⟩)/\gR y w') (h5:5<=C.1.size)
  (hn:∀(w2:w?)(v),(∀r,r<C.1.size->w2.1[r]?=C.1[r]?)->C.1.size<=w2.1.size->w2.4=C.4->Wl w2 C.1.size R ⟨mode,⟨(dP qb.1.1).toArray⟩,dY⟩ most v->dv (jj Z g Mp) (⟨fn,fV o.1 tm v,r? ops rest::k⟩::os) w2 []) :
  dv (jj Z g Mp) (⟨17,#[p?<|y? ⟨b,0,x?⟩,n? i? mode,s? qb,n? i? dY,n? i? most,B3,B3,B3,B3,B3,B3,B3,B3,B3,B3,B3,B3,B3,B3,B3,B3,B3,B3,B3,B3,B3,B3,B3,B3,B3,B3,B3,B3,B3,B3,B3,B3,B3,B3,B3,B3,B3,B3,B3,B3,B3,B3,B3,B3,B3,B3,B3,B3,B3,B3,B3,B3,B3,B3,B3,B3,B3,B3,B3,B3,B3,B3],[.code<|eG f17]⟩::⟨fn,tm,r? ops (i::rest)::k⟩::os) C []:=by
 have HA:=h!<|A? hb<|A? hs<|A? ad<|A? ai<|A? hl<|A? aa<|A? B<|A? h5<|A? hn ah;have HM:=h!<|A? hm<|A? ht<|A? ax<|A? ay<|A? hq az;clear hb hs ad ai hl aa B h5 hn ah;show dv _ (⟨_,_,[.code<|.seq (.region 0 _ f?)<|.seq (.seq (.region 1 _ f?)<|.cond _ _ .skip)<|.seq (.seq (.region 3 _ f?)<|.cond _ _ .skip)<|.seq (.region 5 _ t?)<|.seq (.region 6 _ f?)<|.seq (.seq (.region 7 _ f?)<|.block 0 _)<|.seq (.region 12 _ f?) .ret]⟩::_) _ _;refine dv.sr λkk HK=>?_
 (iterate 2 (refine fH ?_;go_simp));apply dv.ie HK;clear HK kk;refine dv.seq<|dv.sc λkk HK=>?_;refine KL k! (by rw[HK.o];rfl) i! λτ=>?_;have g1:¬((dY:Int)<0):=o!;have g2:¬((255:Int)<(dY:Int)):=o!;have c1:=MP mode hm<|tp C τ;have c2:=Bf most<|tp C τ;rw[decide_eq_true (o!:(1:Int)<=most/\(most:Int)<=20)]at c2;have c3:=λτ=>qC qb (tp C τ) (by unfold la;omega);rw[hq]at c3;have C3:=h! c3;clear hm ht ax ay hq az c3;go_wp2_with fail;apply g! c1;clear c1;go_wp2_with fail;apply g! c2;clear c2;go_wp2;refine ja<|dv.qg τ ?_;rw[HK.o];simp only[decide_eq_false<|sm.2 g1,decide_eq_false<|sm.2 g2,Bool.or_false];clear HK kk g1 g2;refine dv.ni trivial q? (dv.skip<|dv.seq<|dv.sc λkk HK=>?_);refine KL k! (by rw[HK.o];rfl) i! λτ=>?_;have c3:=C3.o τ;clear C3;go_wp2_with fail;apply g! c3;clear c3;go_wp2;refine ja<|dv.qg τ ?_;rw[HK.o];clear HK kk;refine dv.ni trivial q? (dv.skip<|dv.sc λkk HK=>?_)
 have ak:J? (∀y,lu C y->C? y ⟨b,1,x?⟩=y? vS):=λy hy=>by obtain⟨τ,h⟩:=hy;exact Z0 h (show(tp C τ).cell? _=_ by rw[dx (w:=tp C τ)<|HA.1];rfl)
 have al:J? (∀y,lu C y->C? y ⟨b,0,x?⟩=y? (.map _)):=λy hy=>by obtain⟨τ,h⟩:=hy;exact Z0 h (show(tp C τ).cell? _=_ by rw[dx (w:=tp C τ)<|HA.1];rfl)
 obtain⟨fb,am⟩:∃fb:b?,fb=⟨(dP qb.1.1).toArray⟩:=⟨_,q?⟩;have an:J? (∀y:w?,ld _ 50 _ y λe w'=>e=e? (s? fb)/\gR y w'):=λy=>by rw[am];exact rJ qb y<|v! HM.o
 have ao:=h! am;clear am;refine dv.NG (Sd:=λa y=>lu C y/\a.2=[]/\dv _ (⟨_,a.1,r? _ [13,14]::_⟩::_) y _) (last:=13) (tl:=[14]) k! (YW k!) ?_<|λa y h=>h.2;refine ew 0 ?_ ?_<|ew 1 ?_ ?_<|ew 2 ?_ ?_<|ew 3 ?_ ?_<|ew 4 ?_ ?_<|ew 5 ?_ ?_<|ew 6 ?_ ?_<|ew 7 ?_ ?_<|ew 8 ?_ ?_<|ew 9 ?_ ?_ ?_
 any_goals(intro y hy;have q:=ak.o y hy;have q1:=al.o y hy;exact x!)
 go_simp;refine ew 10 ?_ ?_ ?_;rotate_left
 .intro y hy;exact z!<|an y
 go_simp;refine ew 11 ?_ ?_<|ew 12 ?_ ?_ ?_
 any_goals(intro y hy;exact x!)
 go_simp;refine sJ k! (λt=>Gd k! k! _ _) ?_;intro y hy;refine⟨hy,q?,?_⟩;obtain⟨τ,hx⟩:=hy;obtain⟨hb,hs,ad,ai,hl,aa,B,h5,hn,ah⟩:=HA.o;have ab:C.1.size<=y.1.size:=hx.4;have hold:∀r,r<C.1.size->y.1[r]?=C.1[r]?:=λr hr=>hx.5 r hr;have U:y.4=C.4:=hx.1;have ap:fN y p es:=ed.stay hs<|hold p<|ed.lt hs;subst ah;have ac:Ask.Ok ⟨mode,fb,dY⟩:=⟨HM.1,by show dY<256;have:=HM.o;omega,by rw[ao.o];show(dP qb.1.1).toArray.size<=_;rw[eg,eB];have:=HM.o;simp;omega⟩;obtain⟨aq,ar,au,av⟩:=ai;have ae:=av _ ac;refine dv.VH (A:=⟨mode,fb,dY⟩) (es:=es) (Ss:=Ss) (P:=P) (ms:=allM ⟨mode,fb,dY⟩ P es I) (sa:=sa) (n:=I) (sc:=sc) (lb:=p) (xs:=#[.tmp 38,.tmp 42,.tmp 47]) (I2 _ _ _) q? q? q? q? (by simp[eI]) q? k! ac ap ad (aq.imp id λ⟨sb,so,c,f,h1,h2,h3,h4⟩=>⟨sb,so,c,f,h1,h2,by rwa[hold _ (AI.1 h3).1],h4⟩) ar au q? ae.1 hl (λe he=>⟨by have:=(aa e he).1;unfold la;omega,(aa e he).2⟩) ?_ ?_
 .intro l cp hr;obtain⟨rfl,rfl,_⟩:=id hr;have W:jB y 4 _ 0<|l6 []:=jB.nil y 4;have J:=hr.2.2;have Y:=J.1.trans ae.2;have HH:=h!<|A? Y<|A? J.2<|A? hold<|A? ab<|A? U<|A? h5<|A? B<|A? hn W;clear hb hs ad aq ar au av ae hl aa B h5 hn ab hold U ap ac J Y W HA al ak an hx;rw[kA];go_simp
  (refine fH ?_;go_simp);apply dv.ie HK;show dv _ (⟨_,_,[.code<|S7<|eG f17]⟩::_) _ _;obtain⟨Y,aw,hold,ab,U,h5,B,hn,W⟩:=HH.o;refine xM hi W q? HM.2.2.1 HM.2.2.2.1 o! (λe he y2 V=>?_)<|λw2 u h1 h2 h3 h4=>?_;have O:=(Y.mem_iff.1 he);rw[Zb]at O;exact B e O.1 (wV O.2) y2<|λr hr=>(V r hr).trans<|hold r o!;refine hn w2 _ (λr hr=>(h1 r o!).trans<|hold r hr) o! (h3.trans U) ⟨[],?_,aw,u,q?,eH h4 o!⟩;rwa[<-ao.o]
 intro off spot l cp cs e f hr a5;obtain⟨rfl,rfl,rfl,rfl,L,a0,rfl,a1,a2,aj,af⟩:=hr;obtain⟨y2,V⟩:∃y2:w?,y2={y with heap:=y.1.push<|c? cs 96 (0,0)}:=⟨_,q?⟩;have ag:∀r,r<y.1.size->y2.1[r]?=y.1[r]?:=λr hr=>by rw[V];show(y.1.push _)[r]?=_;rw[kr,if_neg o!]
 have a6:y2.1.size=y.1.size+1:=by rw[V];simp
 have a3:y2.4=y.4:=by rw[V]
 have a4:y2.1[y.1.size]?=y? (c? cs 96 (0,0)):=by rw[V];simp
 have W:=jB.eo ⟨by rw[zf],.inr ⟨y.1.size,cp,cs,q?,ZP _,a4,a1,a2,aj,af⟩⟩;rw[<-V];have hold:∀r,r<C.1.size->y2.1[r]?=C.1[r]?:=λr hr=>(ag r o!).trans<|hold r hr;have ab:C.1.size<=y2.1.size:=o!;have U:=a3.trans U;clear ag a6 a3 a4 a1 a2 aj af a5 V;have J:=a0;have Y:=J.1.trans ae.2;have HH:=h!<|A? Y<|A? J.2<|A? hold<|A? ab<|A? U<|A? h5<|A? B<|A? hn W;clear hb hs ad aq ar au av ae hl aa B h5 hn ab hold U ap ac J a0 Y W HA al ak an hx;rw[kA];go_simp
 (refine fH ?_;go_simp);apply dv.ie HK;show dv _ (⟨_,_,[.code<|S7<|eG f17]⟩::_) _ _;obtain⟨Y,aw,hold,ab,U,h5,B,hn,W⟩:=HH.o;refine xM hi W q? HM.2.2.1 HM.2.2.2.1 o! (λe he y2 V=>?_)<|λw2 u h1 h2 h3 h4=>?_;have O:=(Y.mem_iff.1 he);rw[Zb]at O;exact B e O.1 (wV O.2) y2<|λr hr=>(V r hr).trans<|hold r o!;refine hn w2 _ (λr hr=>(h1 r o!).trans<|hold r hr) o! (h3.trans U) ⟨L,?_,aw,u,q?,eH h4 o!⟩;rwa[<-ao.o]
end
section
variable {f i:w?}{g:E?}
def KV{A}{P:Nat->List (Nat×eE)}(B:∀j,(P j).length<=130):∀n,(lC A P n).length<=n*130
 |0=>by simp[lC]
 |n+1=>by
  have:=@KV A P B n
  have:=B n;simp only[lC,Zh,Z5];omega
def KY{A P}:∀n,∀m∈lC A P n,∃j,j<n/\∃p∈P j,m=sw A j p
 |0,m,h=>by simp[lC]at h
 |n+1,m,h=>by
  obtain h|h:=Z3.1 h
  obtain⟨p,B,rfl⟩:=Zv.1 h;exact⟨n,o!,p,B,q?⟩;obtain⟨j,J,x⟩:=KY n m h;exact⟨j,o!,x⟩
def zN{A}{P:Nat->List (Nat×eE)}(B:∀j,((P j).map xb).Nodup):∀n,((lC A P n).map λm=>(m.1,m.2)).Nodup
 |0=>List.Pairwise.nil
 |n+1=>by
  show((_++_:List rj).map _).Nodup
  rw[Z4,Zn]
  refine⟨?_,zN B n,?_⟩
  .rw[cH]
   have e:((λm=>(m.1,m.2)) ∘ sw A n)=(λk=>(n,k)) ∘ xb:=by funext p;simp only[Function.comp_apply,(js n p).1,(js n p).2.1]
   rw[e,<-cH];have h:=B n;unfold fs at h⊢;rw[ZY];exact h.imp λh e=>h (Prod.mk.inj e).2
  intro x J y O rfl;rw[cH]at J;obtain⟨p,_,rfl⟩:=Zv.1 J;obtain⟨m,hm,U⟩:=Zv.1 O;have:=xD n m hm;have:=(Prod.mk.inj U).1;simp only[(js n p).1]at this;omega
def JL{P}:∀n,∀e∈KN P n,∃j,j<n/\e∈sn (P j)
 |0,e,h=>by simp[KN]at h
 |n+1,e,h=>by
  obtain h|h:=Z3.1 h
  exact⟨n,o!,h⟩;obtain⟨j,B,x⟩:=JL n e (Zb.1 h).1;exact⟨j,o!,x⟩
def NH(A:Ask)(l:E?):(dE l).filter A.has=l.filter A.has:=by
 unfold dE;rw[ZV];apply d?;intro e _
 cases h:A.has e with
 |false=>rfl|true=>rw[wV h];rfl
def yM{e}(h:Sh e):l? e.1<=la/\l? e.3<=1048576:=by
 have B:=(iq<|tX h).2;refine⟨by unfold la;omega,?_⟩;obtain h|h:=h
 have:=(l9 h.2.2.1);omega;rw[h.1];simp
def UX{ss:List<|E?}(Y:Inv g ss):∃P,
  (∀j(h:j<l? ss),∃ps O,jd (fc ss[j]).length (fc ss[j])=y? (ps,O)/\P j=ps++O)/\
  ∀A,JQ (allM A P g ss.length)/\(gw (allM A P g ss.length)<|allM A P g ss.length).Perm ((dV ss g).filter A.has):=by
 have ab:∀j,∃p:List<|Nat×eE,∀h:j<l? ss,∃ps O,jd (fc ss[j]).length (fc ss[j])=y? (ps,O)/\p=ps++O/\(sn p).Perm ss[j]/\tn 0 (fc ss[j]).length p:=by intro j;by_cases h:j<l? ss;obtain⟨gs,es,U,h2⟩:=wk<|Y.4 _<|Zw h;obtain⟨ps,O,h3,h4,h5,h6⟩:=P6 U;exact⟨ps++O,λ_=>⟨ps,O,h3,q?,by rwa[show sn _=sn ps++sn O from Z4,h4,h5],h6⟩⟩;exact⟨[],λh'=>absurd h' h⟩
 let ⟨P0,aa⟩:=ol ab;refine⟨P0,λj h=>?_,λA=>?_⟩
 .obtain⟨ps,O,U,h2,_⟩:=aa j h;exact⟨ps,O,U,h2⟩
 obtain⟨P,hP⟩:∃P:Nat->List _,P=λj=>if j<ss.length then P0 j else if j=ss.length then iO g else []:=⟨_,q?⟩
 have W:P ss.length=iO g:=by rw[hP];simp
 have fu:allM A P0 g ss.length=lC A P (l? ss+1):=by show _++_=_++_;rw[W,BL (Q:=P) _ λj hj=>by rw[hP];simp[hj]]
 have ad:=ZE (nh _ _) Y.7
 have ac:l? g<=130:=by have U:=lz g;have h2:=Y.3;have:=r9 g;omega
 have J:∀j,∃l:E?,(sn<|P j).Perm l/\(l.map eE.name).Nodup/\l? l<=130/\(∀e∈l,Sh e)/\((P j).map xb).Nodup/\(∀p∈P j,p.1<4611686018427387904)/\(∀h:j<(ss++[g]).length,l=(ss++[g])[j]):=by
  intro j;obtain h|h|h:=Nat.lt_trichotomy j ss.length
  obtain⟨ps,O,_,_,h2,h3⟩:=aa j h;have e:P j=P0 j:=by rw[hP];simp[h]
  have hs:=Y.4 _<|Zw h;refine⟨ss[j],by rwa[e],hs.2,(λj h=>kF<|Y.4 _<|Zw h) j h,hs.1,?_,λp V=>?_,λ_=>by rw[Zx h]⟩;rw[e];unfold fs;rw[ZY];exact h3.2.2.imp λh=>Nat.ne_of_lt h;rw[e]at V;have:=(h3.2.1 p V).2;have:=r7 hs;omega;subst h;refine⟨g,by rw[W];show(gt _ _).Perm _;rw[Ig];exact qm g,Y.2,ac,Y.1,?_,λp V=>?_,λ_=>i!⟩;rw[W,Be,cH];exact(List.nodup_range).map _<|λ_ _ h e=>h e;rw[W,Be]at V;obtain⟨k,hk,rfl⟩:=Zv.1 V;have:=G!.1 hk;omega;have e:P j=[]:=by rw[hP];simp[(o!:¬j<l? ss),(o!:¬j=l? ss)]
  exact⟨[],by rw[e];exact .refl _,List.Pairwise.nil,i!,i!,by rw[e];exact List.Pairwise.nil,by rw[e];simp,λh'=>by simp at h';omega⟩
 have hL:∀j,(P j).length<=130:=λj=>by obtain⟨l,U,_,h3,_⟩:=J j;have:=U.length_eq;rw[Z5]at this;omega
 have hN:∀j,(lJ _).Nodup:=λj=>by obtain⟨l,U,h2,_⟩:=J j;have:=(U.map _).nodup_iff.2 h2;rwa[cH]at this
 have hG:∀j,∀p∈P j,Sh _:=λj p V=>by obtain⟨l,U,_,_,h4,_⟩:=J j;exact h4 _<|U.mem_iff.1<|Zv.2 ⟨p,V,q?⟩
 have ae:=Y.5;have B:gw (allM A P0 g ss.length) (allM A P0 g ss.length)=(KN P<|l? ss+1).filter A.has:=by rw[fu,B9]
 constructor;refine⟨?_,λm hm=>?_,?_,?_,?_⟩;rw[fu];have:=KV (A:=A) hL<|l? ss+1;omega;rw[fu]at hm;obtain⟨j,hj,p,V,rfl⟩:=KY _ m hm;rw[(js j p).1,(js j p).2.1,(js j p).2.2.1];obtain⟨l,_,_,_,_,_,h6,_⟩:=J j;exact⟨o!,h6 p V,(yM<|hG j p V).1⟩;rw[fu];exact zN (λj=>(J j).elim λl h=>h.2.2.2.2.1) _;rw[B];exact(BI hN _).sublist<|(ZN).map _;rw[B];intro e he;obtain⟨j,_,h⟩:=JL _ e (Zb.1 he).1;obtain⟨p,V,rfl⟩:=Zv.1 h;exact(yM<|hG j p V).2;rw[B,iL,NH]
 have:=KD (λj h=>by
  obtain⟨l,U,_,_,_,_,_,h7⟩:=J j;rw[<-h7 h]
  exact U) (l? ss+1) i!
 rw[If i!]at this;exact this.filter _
open Conc RowKit Maps
def CH:∀(ss:List<|E?)(a:E?),(a.map eE.name).Nodup->(∀s∈ss,(s.map eE.name).Nodup)->((ss.foldl dT a).map eE.name).Nodup
 |[],_,h,_=>h|s::ss,a,h,B=>CH ss _ (wA h<|B s i!) λx J=>B x (by simp[J])
def zu{ss:List<|E?}(h:Inv g ss):((dV ss g).map eE.name).Nodup:=by
 rw[iL];refine sG<|CH _ [] List.Pairwise.nil λs J=>?_;obtain B|B:=Z3.1 J
 exact(h.4 s B).2;simp only[Zg]at B;rw[B];exact h.2
def IF{L:E?}{mode dY most}{B:b?}(J:(g.map eE.name).Nodup)(U:∀e∈g,e.2=f?)(hm:mode<=3)(ht:dY<=255)(V:1<=most)(W:most<=20)(Y:eh B.1.1=t?)
  (O:L.Perm<|g.filter<|Ask.has ⟨mode,⟨(dP B.1.1).toArray⟩,dY⟩) (hs:L.Pairwise λx y=>fw x y=t?):(L.take most).map jV=(kW g mode B.1.1 dY most).1:=by
 have e1:g.filter (Ask.has ⟨mode,⟨(dP B.1.1).toArray⟩,dY⟩)=g.filter λe=>pT mode dY B.1.1 e:=by refine d? λe he=>?_;unfold Ask.has pT dF;rw[U e he];simp
 rw[e1]at O;unfold kW;rw[if_neg o!,if_pos Y];rw[FX (mode:=mode) (dY:=dY) (most:=most) J hs<|u! O];simp
abbrev qv(w:w?):Prop:=yd prog w "internal/strconv.uint64pow10" .u64 yg
def MB(h:qv f)(hb:∀r,r<5->i.1[r]?=f.1[r]?):qv i:=by unfold qv yd nc at h⊢;have J:∃g,g<5/\prog.globalNamed "internal/strconv.uint64pow10" = y? g:=⟨2,o!,k!⟩;let ⟨g,B,e⟩:=J;rw[e]at h⊢;simp only[Zf]at h⊢;rwa[hb g B]
def SH{e}(h:Es e)(y)(J:qv y)(h5:5<=y.1.size):ld prog 51 #[.agg #[s? ⟨a? e.1⟩,s? ⟨a? e.3⟩,n? i? e.4,n? i? e.5]] y λO w'=>O=e? (s? ⟨(jV e).toArray⟩)/\gR y w':=by obtain⟨_,U,V,_,W,h4,_⟩:=h;have hn:=(iq U).2;have Y:=l9 V;refine Uq e y W (λy2 B=>?_) o! o! ?_;have:=UL e.4.toNat o! y2<|MB J λr hr=>B.5 r o!;rwa[(o!:e.4.toNat=e.4)]at this;have:=JG 7 e.4.toNat o! o!;omega
def OK:∀(L:List<|E?)(a:E?){e},e∈L.foldl dT a->e∈a\/∃l∈L,e∈l
 |[],_,_,h=>.inl h
 |l::L,a,e,h=>by
  obtain h|⟨m,hm,h⟩:=OK L _ h
  obtain h|h:=nR.1 h
  exact .inl h.1;exact .inr ⟨l,i!,h⟩;exact .inr ⟨m,by simp[hm],h⟩
def yq{ss:List<|E?}(h:Inv g ss){e}(U:e∈dV ss g):Es e:=by
 rw[iL]at U;obtain⟨W,V⟩:=Zb.1 U
 have B:Sh e:=by
  obtain J|⟨l,Y,J⟩:=OK _ _ W
  simp at J;obtain O|O:=Z3.1 Y
  exact(h.4 l O).1 e J;simp only[Zg]at O;subst O;exact h.1 e J
 obtain B|B:=B
 exact B;rw[B.1]at V;simp at V
def QB:f17.1≠ "runtime.NumGoroutine":=by decide
def WT(w:w?):Prop:=Qg w/\qv w
def Hi(h:qv f/\5<=f.1.size)(B:pP f i):qv i:=MB h.1 λr J=>B.3 r o!
def gD{Z}{Mp:F?}{fn}{tm:V?}{os}{k:List Item}{V:List<|Nat×Option (L?)}{c d:Code}(h:∀J,J? (J=.code d::k)->∀y,pP i y->c.wp prog (Lw (jj Z f Mp) fn J os V) ⟨tm,[]⟩ y)(B:lD (λo=>KQ prog xm vi t? o.2) c=t?:=by kernel_rfl)(O:(Item.code d::k).all mh=t?:=by rfl):dv (jj Z f Mp) (⟨fn,tm,.code (.seq c d)::k⟩::os) i V:=
 dv.seq (dv.OC (rE B) O (.inr nofun) λτ _=>h _ q? _ ⟨q?,Zu _,λ_ _=>rfl⟩)
def eV{fn os k}{V:List<|Nat×Option (L?)}{P}{E:Env P}{tmps:V?}{kk}(B:J?<|kk=k)(h:dv E (⟨fn,tmps,k⟩::os) f V):Lw E fn kk os V .normal ⟨tmps,[]⟩ f:=by rw[B.o];exact ja h
def PJ.stay{w':w?}{O U:F?}{b}{ss:List<|E?}{V:List<|W?}(h:PJ f O U b g ss V)(W:f.1.size<=w'.1.size)(hb:∀k,O k\/U k->w'.1[k]?=f.1[k]?):PJ w' O U b g ss V:=by obtain⟨Y,h2,h3,Bb,vS,B,n,vK,kn,h4,h5⟩:=h;exact⟨λk J=>AT (Y k J) W,λk J=>AT (h2 k J) W,h3,Bb,vS,B,n,vK,kn,h4.stay λk J=>hb k<|.inl J,h5.stay λk J=>hb k<|.inr J⟩
end
section
open RowKit
variable {f g x0:Nat}{l P U:w?}{o p C:v?}{I:W?}{J x2:L?}
structure Sg where
 b:List eE
 s:List (E?)
 t:List (W?)
structure DJ where
 bx:Nat
 yb:Nat
 x:Sg
 y:Sg
def oP(es:List DJ):List v?:=es.flatMap λe=>[p?<|y? ⟨e.1,0,x?⟩,p?<|y? ⟨e.2,0,x?⟩]
def yp:∀(es)(i)(e)(h),e.1=es[i].1->e.2=es[i].2->oP (es.set i e)=oP es
 |a::es,0,e,h,B,J=>by simp at B J;simp[oP,B,J]
 |a::es,i+1,e,h,B,J=>by
  have:=yp es i e _ (u! B)<|u! J
  simp only[oP,List.set_cons_succ,c!]at this⊢;rw[this]
def Fg:∀(es)(i)(h),(oP es)[i*2]?=y? (p?<|y? ⟨es[i].1,0,x?⟩)/\(oP es)[i*2+1]?=y? (p?<|y? ⟨es[i].2,0,x?⟩)
 |a::es,0,h=>by simp[oP]
 |a::es,i+1,h=>by
  have:=Fg es i<|u! h
  have e:oP (a::es)=p? (y? ⟨a.1,0,x?⟩)::p? (y? ⟨a.2,0,x?⟩)::oP es:=by simp[oP]
  rw[e,(o!:(i+1)*2=i*2+1+1)];simpa using this
structure D9(c c':Nat->Nat)(m:Nat)(w w':w?):Prop where
 col:∀k,k<w.1.size->c' k=c k
 os:w'.4=w.4
 size:w.1.size<=w'.1.size
 block:∀k,k<w.1.size->c k≠m->w'.1[k]?=w.1[k]?
def vF(c:Nat->Nat)(N m:Nat)(k:Nat):Nat:=if k<N then c k else m
def jm{c m}(h:g<f):vF c f m g=c g:=if_pos h
def nC{c}(h:f<=x0):vF c f g x0=g:=if_neg o!
def OA(w0 w:w?)(c:Nat->Nat)(n b:Nat)(s:Sg):Prop:=∃B J,AW w0 w B J b s.b s.s s.t/\∀k,B k\/J k->c k=n
def OY(w:w?)(c:Nat->Nat)(n b:Nat)(s:Sg):Prop:=∃F,lc w F b s.b s.s s.t/\(∀k,F k->k<w.1.size/\c k=n)/\Inv s.b s.s
structure N7(w:w?)(c:Nat->Nat)(B:Nat)(va vl vm:v?)(last:Nat)(us:L?)(ms:W?)(n:Nat)(ps:L?):Prop where
 heap:w.1[B]?=some (.cells #[va,vl,vm,.int .i64 last] 74 (0,0))
 lists:∃D,nk w D B vl vm us ms/\(∀k,D k->c k=1)/\∀k,O? va=some k->¬D k
 len:l? us=l? ms
 row:R? w 0 122 2 va n ps
 cB:c B=1
 ca:∀k,O? va=some k->c k=1
 cl:∀k,O? vl=some k->c k=1
 cm:∀k,O? vm=some k->c k=1
structure PS(w0 w:w?)(c:Nat->Nat)(B:Nat)(va vl vm:v?)(last:Nat)(us:L?)(ms:W?)(es:List DJ):Prop where
 law:N7 w c B va vl vm last us ms es.length (oP es)
 zero:∀k,k<w0.1.size->c k=0
 low:pP w0 w
 x:∀i(h:i<l? es),OA w0 w c (2*i+2) es[i].1 es[i].x
 y:∀i(h:i<l? es),OY w c (2*i+3) es[i].2 es[i].y
variable {x1:Sg}
def OA.stay{w' c c' b}(h:OA l P c g b x1)(O:D9 c c' f P w')(hn:g≠f)(Y:pP l w'):OA l w' c' g b x1:=by obtain⟨U,V,h,W⟩:=h;have J:∀k,U k\/V k->k<P.1.size:=λk B=>B.elim (h.j.1 k)<|h.j.2 k;exact⟨U,V,⟨h.j.stay O.3 λk B=>O.4 k (J k B)<|by rwa[W k B],h.2,h.3,Y⟩,λk B=>by rw[O.1 k<|J k B];exact W k B⟩
def OY.stay{w' c c' b}(h:OY l c g b x1)(O:D9 c c' f l w')(V:g≠f):OY w' c' g b x1:=by obtain⟨F,h,J,U⟩:=h;exact⟨F,h.stay λk B=>O.4 k (J k B).1<|by rwa[(J k B).2],λk B=>⟨AT (J k B).1 O.3,by rw[O.1 k (J k B).1];exact(J k B).2⟩,U⟩
def N7.bz{c}(h:N7 l c g o p C x0 J I f x2):g<l.1.size:=(AI.1 h.1).1
def N7.stay{w' c c' last}(h:N7 l c x0 o p C last J I g x2)(O:D9 c c' f l w')(hm:f≠1):N7 w' c' x0 o p C last J I g x2:=by
 obtain⟨D,U,W,V⟩:=h.2;have hb:∀k,k<l.1.size->c k=1->w'.1[k]?=l.1[k]?:=λk B hc=>O.4 k B (by rw[hc];exact λe=>hm e.symm);have Y:=λk B=>(h.4.lt k B).2;have l1:=λk B=>(U.1.lt k B).2;have m1:=λk B=>(U.2.lt k B).2
 exact⟨by rw[hb x0 h.bz h.5];exact h.1,⟨D,U.stay O.3 (λk B=>hb k (U.6 k B)<|W k B) (λk B=>hb k (l1 k B)<|h.7 k B)<|λk B=>hb k (m1 k B)<|h.8 k B,λk B=>by rw[O.1 k<|U.6 k B];exact W k B,V⟩,h.3,
  dJ h.4 λk B=>hb k (Y k B)<|h.6 k B,by rw[O.1 x0 h.bz];exact h.5,λk B=>by rw[O.1 k<|Y k B];exact h.6 k B,λk B=>by rw[O.1 k<|l1 k B];exact h.7 k B,λk B=>by rw[O.1 k<|m1 k B];exact h.8 k B⟩
def PS.Sk{c c' es}(h:PS l P c g o p C x0 J I es)(B:D9 c c' f P U)(hm:f≠0):pP l U:=
 ⟨B.2.trans h.3.1,ZE h.3.2 B.3,λk O=>(B.4 k (AT O h.3.2) (by rw[h.2 k O];exact λe=>hm e.symm)).trans<|h.3.3 k O⟩
def PS.J5{c B:Nat->Nat}{es}(h:PS l P c f o p C g J I es)(U:∀k,k<P.1.size->B k=c k):∀k,k<l.1.size->B k=0:=λk O=>by rw[U k<|AT O h.3.2];exact h.2 k O
def nE{c}:∀k,k<g->vF c g f k=c k:=λ_ h=>jm h
def PS.same{c es}(h:PS l P c f o p C g J I es)(B:pP P U)(m):PS l U (vF c P.1.size m) f o p C g J I es:=
 have O:D9 c (vF c P.1.size m) 0 P U:=⟨nE,B.1,B.2,λk W _=>B.3 k W⟩;have B:=h.3.trans B;⟨h.1.stay O o!,h.J5 nE,B,λi V=>(h.x i V).stay O o! B,λi V=>(h.y i V).stay O o!⟩
structure Zc(c:Nat->Nat)(w:w?)(c':Nat->Nat)(w':w?):Prop where
 size:w.1.size<=w'.1.size
 block:∀k,k<w.1.size->c k=0->w'.1[k]?=w.1[k]?/\c' k=0
def PS.Zb5{c es}(h:PS l P c f o p C g J I es){i}(hi){F1 F2 O V:F?}(h1:AW l P F1 F2 es[i].1 es[i].x.b es[i].x.s es[i].x.t)(hc:∀k,F1 k\/F2 k->c k=2*i+2)(h2:AW l U O V es[i].1 x1.b x1.s x1.t)(hs:St P U F1 F2 O V) :
  ∃c',PS l U c' f o p C g J I (es.set i ⟨es[i].1,es[i].2,x1,es[i].y⟩)/\Zc c P c' U:=by
 have W:D9 c (vF c _<|2*i+2) _ P U:=⟨nE,h2.4.1.trans h1.4.1.symm,hs.1,λk B hn=>hs.2 k B (λh=>hn<|hc k<|.inl h) λh=>hn<|hc k<|.inr h⟩;have hl:=h.Sk W o!;refine⟨_,⟨by rw[cK,yp es i ⟨es[i].1,es[i].2,x1,es[i].y⟩ hi q? rfl];exact h.1.stay W o!,h.J5 nE,hl,λj Y=>?_,λj Y=>?_⟩,⟨W.3,λk B h0=>⟨W.4 k B o!,(jm B).trans h0⟩⟩⟩;rw[cK]at Y;rw[dl];split
 rename_i e;subst e;refine⟨O,V,h2,λk B=>?_⟩;have:(F1 k\/F2 k)\/P.1.size<=k:=B.elim (λB=>(hs.3 k B).imp_left .inl) λB=>(hs.4 k B).imp_left .inr;obtain B|B:=this
 rw[jm<|B.elim (h1.j.1 k)<|h1.j.2 k];exact hc k B;exact nC B;exact(h.x j Y).stay W o! hl;rw[cK]at Y;rw[dl];split;rename_i e;subst e;exact(h.y i hi).stay W o!;exact(h.y j Y).stay W o!
def PS.Zb1{c es}(h:PS l P c f o p C g J I es){i}(hi){F:F?}(W:∀k,F k->k<P.1.size/\c k=2*i+3)(h2:lc U (iJ F P U) es[i].2 x1.b x1.s x1.t)(Y:dy F P U)(aa:Inv x1.b x1.s) :
  ∃c',PS l U c' f o p C g J I (es.set i ⟨es[i].1,es[i].2,es[i].x,x1⟩)/\Zc c P c' U:=by
 have O:D9 c (vF c _<|2*i+3) _ P U:=⟨nE,Y.1,Y.4,λk B hn=>Y.5 k B λh=>hn (W k h).2⟩;have hl:=h.Sk O o!;refine⟨_,⟨by rw[cK,yp es i ⟨es[i].1,es[i].2,es[i].x,x1⟩ hi q? rfl];exact h.1.stay O o!,h.J5 nE,hl,λj V=>?_,λj V=>?_⟩,⟨O.3,λk B h0=>⟨O.4 k B o!,(jm B).trans h0⟩⟩⟩;rw[cK]at V;rw[dl];split;rename_i e;subst e;exact(h.x i hi).stay O o! hl;exact(h.x j V).stay O o! hl;rw[cK]at V;rw[dl];split
 rename_i e;subst e;refine⟨_,h2,λk B=>?_,aa⟩;obtain B|B:=B
 exact⟨AT (W k B).1 Y.4,by rw[jm (W k B).1];exact(W k B).2⟩;exact⟨B.2,nC B.1⟩;exact(h.y j V).stay O o!
def PS.ZbN{c c' es}(h:PS l P c f o p C g J I es){va' vl' vm'}{B:W?}(V:D9 c c' 1 P U)(Y:N7 U c' f va' vl' vm' x0 x2 B es.length<|oP es):PS l U c' f va' vl' vm' x0 x2 B es:=
 have O:=h.Sk V o!;⟨Y,h.J5 V.1,O,λi W=>(h.x i W).stay V o! O,λi W=>(h.y i W).stay V o!⟩
def AN{e}(h:Es e):l? e.1<=8/\l? e.3<=24:=by refine⟨(iq h.2.1).2,?_⟩;have:=(sO h).1;unfold dF at this;rwa[eB]at this
end
section
variable {f g:w?}
def XF(a b:Wd):(⟨a? a⟩:b?)++⟨a? b⟩=⟨(a++b).toArray⟩:=by apply o7;simp
def sK(w:w?)(o):(w.alloc o).1[w.1.size]?=y? o:=by simp[World.alloc,-World.alloc_eq]
open RowKit
def uX{P ops Q a}(h:Q .normal a f):qP P ops Q [] a f:=λ_ _ _=>⟨.normal,a,f,h,.one step_region_end⟩
def eT{a v}(h:lu f g)(B:C? f a=y? v):C? g a=y? v:=by obtain⟨τ,J⟩:=h;exact eL a v _ _ (show(tp f τ).cell? a=y? v from B) J
def xS(h:lu f g)(B:g.2=f.2):gR f g:=by obtain⟨τ,J,W,O,U,V⟩:=h;exact⟨J,B,O,U,V⟩
open Conc Maps
def gS{a v}(B:pP f g)(h:C? f a=y? v):C? g a=y? v:=by rw[<-h];exact World.cell?_of_block<|B.3 _<|m9 f a h
def jB.low{s n v}{xs:L?}(h:jB f s v n xs)(O:pP f g):jB g s v n xs:=h.later λa u J=>by have B:=m9 f a J;simp only[m5]at J⊢;rwa[O.3 _ B]
def Pn{q:Wd}(h:eh q=t?):l? q<=24/\∀c∈q,nA c=t?:=by unfold eh at h;simp only[IT,decide_eq_true_eq,Zy]at h;exact h
def AW.load{U O:F?}{b}{B:E?}{ss:List<|E?}{V:List<|W?}(h:AW f g U O b B ss V)(s:b?)(W:s.size<=la):ld prog 25 #[p?<|y? ⟨b,0,x?⟩,s? s] g λe w'=>e=e? (n? i? (iT B ss s.1.1).1)/\∃J,AW f w' J O b B (iT B ss s.1.1).2 V/\St g w' U O J O:=
 h.Og λvM vK Y=>(Zbm g U b B ss s Y W).mono λ_ _ h=>h
def AW.Zb4{J O:F?}{b}{B:E?}{ss:List<|E?}{U:List<|W?}(h:AW f g J O b B ss U)(n):ld prog 26 #[p?<|y? ⟨b,0,x?⟩,n? i? n] g λe w'=>e=e? (.tuple #[s? ⟨(jW ss n).1.toArray⟩,n? i? (jW ss n).2])/\g=w':=by obtain⟨W,Y,V⟩:=h.pe3;exact Zay g J b B ss n V
end
section
open RowKit
variable {f J y2 y5 i:Nat}{o p x4:w?}{C z7:E?}{I P x0 x5 y8:v?}{U:L?}{x1:W?}{x2 y3 y9 z0:b?}{x3:List DJ}{x7:Oper}{x8:List (E?)}{x9 y7 z6:F?}{y0 z1 z2:Sg}{y1:P?}{y4:Wd}{y6 z3 z4 z5:Int}
def Jb{b}{ts:List<|W?}(hF:∀k,x9 k->k<o.1.size)
  (hh:o.1[b]?=y? (c? #[I,P,x5] 120 (0,0))) (aa:x9 b) (V:kX o x9 I C) (hT:nM o x9 x5 ts) (J:B? o p)
  (ho:R? p o.1.size 75 1 x0 x8.length U) (ab:l? U=l? x8)
  (ac:∀i(h:i<l? x8),∃u,U[i]?=y? u/\kX p (iJ x9 o p) u x8[i]) :
  p.1[b]?=y? (c? #[I,P,x5] 120 (0,0))/\lc (p.setCell ⟨b,1,x?⟩ x0) (iJ x9 o<|p.setCell ⟨b,1,x?⟩ x0) b C x8 ts/\dy x9 o (p.setCell ⟨b,1,x?⟩ x0):=by
 have ad:=hF b aa;have W:(p.setCell ⟨b,1,x?⟩ x0).1.size=p.1.size:=by simp[m4]
 have Y:p.1[b]?=y? (c? #[I,P,x5] 120 (0,0)):=by rwa[J.5 b ad]
 have O:∀k,k≠b->(p.setCell ⟨b,1,x?⟩ x0).1[k]?=p.1[k]?:=λk B=>ZH _ _ _ _ B;have hold:∀k,x9 k->k≠b->(p.setCell _ x0).1[k]?=o.1[k]?:=λk B ae=>by rw[O k ae,J.5 k<|hF k B]
 have af:∀k,iJ x9 o p k->iJ x9 o _ k:=λk B=>by
  obtain h|h:=B
  exact .inl h;exact .inr ⟨h.1,by rw[W];exact h.2⟩
 refine⟨Y,⟨I,x0,x5,?_,.inl aa,⟨?_,λk B=>Or.inl<|V.2 k B⟩,⟨U,ab,?_,?_,?_⟩,?_⟩,?_⟩;rw[heap_set Y];rfl;exact dJ V.1<|λk B=>hold k (V.2 k B) (λe=>by subst e;exact fC hh V.1 d! B);refine dH (eH ho<|ZP _)<|λk B=>O k<|λe=>?_;have:=(ho.lt k B).1;omega;intro k B;have:=ho.lt k B;exact .inr ⟨this.1,by rw[W];exact this.2⟩;intro i hi;obtain⟨u,hu,hE⟩:=ac i hi;exact⟨u,hu,dJ hE.1<|λk B=>O k (λe=>by subst e;exact fC Y hE.1 d! B),λk B=>af k<|hE.2 k B⟩;obtain⟨vs,h1,h2,h3,h4⟩:=hT;refine⟨vs,h1,dH h2<|λk B=>hold k (h3 k B) (λe=>by subst e;exact fD hh h2 d! B),λk B=>Or.inl<|h3 k B,λi hi=>?_⟩;obtain⟨v,hv,hE,hf⟩:=h4 i hi;exact⟨v,hv,dH hE<|λk B=>hold k (hf k B) (λe=>by subst e;exact fD hh hE d! B),λk B=>Or.inl<|hf k B⟩;refine⟨J.1,J.2,J.3,by rw[W];exact J.4,λk B hn=>?_⟩;rw[O k<|λe=>hn<|by rwa[e],J.5 k B]
def Vv(F:F?)(b)(a7:E?)(ss:List<|E?)(ts:List<|W?)(n)(w:w?)(hF:∀k,F k->k<w.1.size)(hR:lc w F b a7 ss ts)
  (bp : -9223372036854775808<=n) (bq:n<=9223372036854775807) (h1:gO ss<=536870912) :
  ld prog 107 #[p?<|y? ⟨b,0,x?⟩,n? i? n] w λe w'=>e=e? (n? i? (gI ss n).1)/\
   lc w' (iJ F w w') b a7 (gI ss n).2 ts/\dy F w w':=by
 have HR:=h! hR;let ⟨vB,vS,vT,hh,a8,a9,a',aA⟩:=hR;let ⟨vs,aV,ak,br,ac⟩:=id a';obtain⟨aS,cS,rfl,bs⟩:=dC ak;have bt:=hF b a8;have ad:=dx hh 1;have HH:=h! hh;have aW:=h! a9;have aX:=h! aA;have HOS:=h! ak;have aB:=h! ac;have HZ:J?<|Zip _ vs ss:=⟨aV,ac⟩
 have aj:J? (∀u∈vs,u.oneCell'=t?):=λu hu=>by obtain⟨i,hi,rfl⟩:=ZF.1 hu;obtain⟨u',al,hE⟩:=ac i o!;rw[BY hi]at al;simp only[m?]at al;obtain⟨a,c,e,_⟩:=dK hE.1;rw[al,e];rfl
 let ⟨i8,am,an,ao,ap⟩:=Zz My;have bi:=za ss;clear hR hh a9 aA a' ak ac;by_cases aC:n<0
 .have HU:J?<|gI ss n=(6,ss):=h!<|by unfold gI;rw[if_pos<|.inl aC]
  go_enter rr,p';go_wp2;go_ret;refine⟨dQ (by rw[HU.o];rfl),?_,dy.refl _ _⟩;rw[HU.o];exact iJ.pa HR
 by_cases aD:(l? ss:Int)-1<=n
 .have HU:J?<|gI ss n=(6,ss):=h!<|by unfold gI;rw[if_pos<|.inr aD]
  go_enter rr,p';go_wp2;go_ret;refine⟨dQ (by rw[HU.o];rfl),?_,dy.refl _ _⟩;rw[HU.o];exact iJ.pa HR
 obtain⟨m,rfl⟩:=N? (o!:0<=n);have aq:m+1<l? ss:=o!;let ⟨u0,aY,aZ⟩:=aB.o m o!;let ⟨u1,ba,bc⟩:=aB.o _ aq;have aE:J?<|ss.getD m []=ss[m]:=h!<|by rw[AS,BY o!];rfl
 have aF:J?<|ss.getD (m+1) []=ss[m+1]:=h!<|by rw[AS,BY aq];rfl
 have bu:ss[m].length<=536870912:=by have a1:=qh ss m o!;have a2:=rS ss<|m+1;omega
 have bj:ss[m+1].length<=536870912:=by have a1:=qh ss _ aq;have a2:=rS ss<|m+1+1;omega
 generalize ss[m]=s0 at *;generalize ss[m+1]=s1 at *;obtain⟨bS,oS,rfl,aG⟩:=eM HOS m _ aY;let ⟨bv,bw,aH,aI⟩:=eM HOS _ _ ba;simp only[m?,O!]at aH;obtain⟨rfl,rfl,_⟩:=aH;go_enter rr,p';have aJ:=jB.eo aZ.1;have aK:=jB.eo bc.1;have bk:(m:Int)<(l? ss:Int):=o!;have bl:(m:Int)+1<(l? ss:Int):=o!;have b0:IntKind.i64.wrap _=m+1:=xR _ _ q? o! o!;have ar:J? _:=λW hW=>rV _ _ s0 s1 W (aJ.below hW) (aK.below hW) o! o!;clear aJ aK;go_wp2
 go_region_held (λw'=>C? w' ⟨b,1,x?⟩=y? (.slice (y? ⟨bS,oS,x?⟩) ss.length cS)/\C? w' ⟨bS,oS+m,x?⟩=y? u0/\C? w' ⟨bS,oS+(m+1),x?⟩=y? u1) (go_keep) (first
  |(go_at_call 145;refine(ar _ ?hB).mono ?_;(case hB=>exact(nr _ _).drew);rintro e w1 ⟨u,rfl,av,J⟩;have t1:=Z0 J ad;have t2:=Z0 J aG;have t3:=Z0 J aI))
 obtain⟨au,cu,rfl,b1⟩:=dK av;have ae:B? w w1:=⟨J.1,J.2,J.3,J.4,J.5⟩;have how:R? w1 w.1.size 202 5 _ _ _:=av;have aM:=uS s0 s1;clear av J t2 t3;by_cases af:m=0
 case' pos=>
  have bd:((m:Int)==0)=t?:=beq_iff_eq.2 o!;have aw:J?<|kL ss m=dE (dT s0 s1):=h!<|by unfold kL;rw[if_pos af,aE.o,aF.o]
  go_wp2_with fail;apply (pW _ (dT s0 s1) w1 (jB.eo how) o!).mono;rintro e W2 ⟨uL,rfl,ax,aN⟩;obtain⟨aL,cL,rfl,b2⟩:=dK ax;have U:=ae.trans<|aN.mono ae.4;have aO:(dE<|dT s0 s1).length<=1073741824:=ZE (No _ _) o!;have V:=eH ax ae.4;clear ax aN how af ar aM;generalize dE (dT s0 s1)=M at *
 case' neg=>
  have bd:((m:Int)==0)=f?:=beq_eq_false_iff_ne.2 o!;have aw:J?<|kL ss m=dT s0 s1:=h!<|by unfold kL;rw[if_neg af,aE.o,aF.o]
  have aO:(dT s0 s1).length<=1073741824:=o!;have V:=how;have U:=ae;clear how af ar aM;generalize w1=W2 at *;generalize dT s0 s1=M at *;have aL:=au;generalize be:au=aL at *;generalize aP:cu=cL at *;clear be aP
 all_goals
  go_wp2_with fail;apply (I3 _ M W2 (jB.eo V) aO).mono;rintro e w3 ⟨rfl,hb3⟩;have aa:=U.4;have hb4:=U.trans<|hb3.mono aa;by_cases hg:100<l? M-(dE M).length
  .have HU:J?<|gI ss (m:Int)=(4,ss):=by
    show gI _ _=_;unfold gI;rw[if_neg o!,sd,aw.o,if_pos hg]
   go_wp2;go_ret;refine⟨dQ (by rw[HU.o];rfl),?_,dy.eF hb4⟩;rw[HU.o];exact kH HR hF hb4
  have q1:=Z0 hb4 ad;go_wp2_with (at_builtin;go_must (refine gM _ q? _ _ 118 q? W2.1.size 75 i8 _ 24 oN am an ao ap q? _ _ _ q? (Z9 _ _ _ _) _ (vs.take m) q? ?xa0 ?xa9 ?xa1 ?xa2 ?xa3 ?_))
  case xa0=>exact((Rd.eo HOS).below hb4).take m o!
  case xa9=>intro u hu;exact aj u<|Za hu
  case xa1=>rw[cX];omega
  case xa2=>rw[cX];simp only[la];omega
  case xa3=>exact hb3.4
  intro v1 w4 O bf;have aQ:min m ss.length=m:=Nat.min_eq_left o!;simp only[aQ]at O;have ag:=hb3.grown bf hb3.4 (by simp[wd]);have bg:=ag.4;obtain⟨a4,c4,rfl,b3⟩:=dC O;have q2:=Z0 (U.trans<|ag.mono aa) ad;clear aQ;by_cases hM:0<l? M
  case' pos=>
   go_wp2_with (at_builtin;go_must (refine eu _ q? _ _ 118 q? _ 75 i8 _ 24 oN am an ao ap q? _ _ _ q? (O.alloc _) _ _ q? fF q? ?xb1 ?xb2 ?xb3 ?_))
   case xb1=>omega
   case xb2=>unfold la;omega
   case xb3=>first|omega|(simp;omega)
   intro v2 w5 B bh _;have hB5:=(ag.alloc bg _).grown bh j!<|λb hb=>(O.lt b hb).1;obtain⟨a5,c5,rfl,b4⟩:=dC B;obtain⟨X,hX⟩:∃X,X=[Value.slice aL M.length cL]:=⟨_,q?⟩;obtain⟨Y,hY⟩:∃Y,Y=[M]:=⟨_,q?⟩
   have HX:J? (∀W',B? W2 W'->Zip (kX W'<|iJ F w W') X Y):=by rw[hX,hY];exact λW' h=>Zip.one ⟨dJ (eH V<|ZP _)<|λk hk=>h.5 k (V.lt k hk).2,λk hk=>Or.inr ⟨(V.lt k hk).1,AT (V.lt k hk).2 h.4⟩⟩
   have HY:J?<|(if 0<M.length then [M]else [])=Y:=by rw[hY];exact if_pos hM
   rw[<-hX]at B;clear hX hY;obtain⟨N,hN⟩:∃N,N=m+1:=⟨_,q?⟩;have b5:N<=l? ss:=o!;rw[<-hN]at B⊢;clear hN
  case' neg=>
   have hB5:=ag;obtain⟨X,hX⟩:∃X:L?,X=[]:=⟨_,q?⟩;obtain⟨Y,hY⟩:∃Y:List<|E?,Y=[]:=⟨_,q?⟩;have HX:J? (∀W',B? W2 W'->Zip (kX W'<|iJ F w W') X Y):=by rw[hX,hY];exact λW' _=>Zip.nil _
   have HY:J?<|(if 0<M.length then [M]else [])=Y:=by rw[hY];exact if_neg hM
   have B:R? w4 W2.1.size 75 1 (.slice a4 m c4) m<|vs.take m++X:=by rwa[hX,Z6]
   clear hX hY;generalize w4=w5 at *
  all_goals
   have q3:=Z0 (U.trans<|hB5.mono aa) ad;by_cases ay:cS=m+2
   case' pos=>subst ay
   case' neg=>have bm:¬m+2=cS:=λh=>ay h.symm
   all_goals
    go_wp2_with (at_builtin;go_must (refine gM _ q? _ _ 118 q? _ 75 i8 _ 24 oN am an ao ap q? _ _ _ q? B _ (vs.drop<|m+2) q? ?xc0 ?xc9 ?xc1 ?xc2 ?xc3 ?_))
    case xc0=>go_light;simp only[Act.eval,Array.getD_eq_getD_getElem?];have:=((Rd.eo HOS).below<|U.trans<|hB5.mono aa).drop (m+2) o!;(first|rw[if_pos rfl]at this|rw[if_neg ay]at this);first|simpa[wn]using this|(rw[(o!:l? ss-(m+2)=0)]at this;simpa[wn]using this)
    case xc9=>intro u hu;exact aj u<|List.mem_of_mem_drop hu
    case xc1=>rw[u?];omega
    case xc2=>rw[u?];simp only[la];omega
    case xc3=>exact hB5.4
    intro v3 w6 ab aR;have az:=hB5.grown aR hB5.4<|λb hb=>(B.lt b hb).1;have a0:=U.trans<|az.mono aa;have hold:∀u l,kX w F u l->kX w6 (iJ F w w6) u l:=λu l h=>h.stay (λk hk=>a0.5 k<|hF k hk)<|λ_ hk=>Or.inl hk;have ah:=((HZ.take m).mono hold).append<|(HX w6 az).append<|(HZ.drop<|m+2).mono hold;obtain⟨K,a3⟩:∃K,R? w6 _ 75 1 v3 K _:=⟨_,ab⟩;obtain⟨a6,c6,rfl,_⟩:=dC a3
    have aT:R? w6 w.1.size 75 1 (.slice a6 K c6) (ss.take m++(Y++ss.drop (m+2))).length<|vs.take m++(X++vs.drop (m+2)):=by rw[<-ah.1,show(vs.take m++(X++vs.drop _)).length=K by have:=a3.1;omega];exact eH a3 aa
    have ai:=Jb hF HH a8 aW aX a0 aT ah.1 ah.2;have bn:=dx ai.1 1;have bo:=dO ai.1 1;have aU:=h! ai.2
    have HU:J?<|gI ss (m:Int)=(0,ss.take m++(Y++ss.drop (m+2))):=by show gI _ _=_;unfold gI;rw[if_neg o!,sd,aw.o,if_neg hg,HY.o]
    clear ai aT ah hold ab aR az a0;go_wp2;go_ret;refine⟨dQ (by rw[HU.o];rfl),?_⟩;rw[HU.o];exact aU
def Ye(f:mm)(V:v?->V?)(s:Sg)(v:v?)(s':Sg):Prop:=∀(w0 w:w?)(O U:F?)(b:Nat),AW w0 w O U b s.b s.s s.t->
 ld prog f (V<|p?<|y? ⟨b,0,x?⟩) w λe w'=>e=e? v/\∃B J,AW w0 w' B J b s'.b s'.s s'.t/\St w w' O U B J
def XX(f:mm)(B:v?->V?)(s:Sg)(v:v?)(s':Sg):Prop:=∀(w:w?)(F:F?)(b:Nat),lc w F b s.b s.s s.t->(∀k,F k->k<w.1.size)->Inv s.b s.s->
 ld prog f (B<|p?<|y? ⟨b,0,x?⟩) w λe w'=>e=e? v/\lc w' (iJ F w w') b s'.b s'.s s'.t/\dy F w w'/\Inv s'.b s'.s
def tq{B:Type}{l:List B}{a}(h):(l.set i a)[i]=a:=List.getElem_set_self h
def PS.opX{c O f}{V:v?->V?}(h:PS o p c J I P x0 y2 U x1<|x3.set i ⟨y5,O,y0,z2⟩)(hi:i<l? x3)(hX:Ye f V y0 x5 z1) :
  ld prog f (V<|p?<|y? ⟨y5,0,x?⟩) p λe w'=>e=e? x5/\∃W,PS o w' W J I P x0 y2 U x1 (x3.set i ⟨y5,O,z1,z2⟩)/\Zc c p W w':=by
 have B:i<(x3.set i ⟨y5,O,y0,z2⟩).length:=by rwa[cK]
 let ⟨F1,F2,Y,hc⟩:=h.x i B;rw[tq]at Y;apply (hX _ _ _ _ _ Y).mono;rintro e w' ⟨rfl,aa,ab,h2,hs⟩;refine⟨q?,?_⟩;have h3:=h.Zb5 B (by rwa[tq]) hc (by rwa[tq]) hs;simp only[tq,gv]at h3;exact h3
def PS.opY{c O f}{W:v?->V?}(h:PS o p c J I P x0 y2 U x1<|x3.set i ⟨y5,O,z2,y0⟩)(hi:i<l? x3)(hY:XX f W y0 x5 z1) :
  ld prog f (W<|p?<|y? ⟨O,0,x?⟩) p λe w'=>e=e? x5/\∃Y,PS o w' Y J I P x0 y2 U x1 (x3.set i ⟨y5,O,z2,z1⟩)/\Zc c p Y w':=by
 have B:i<(x3.set i ⟨y5,O,z2,y0⟩).length:=by rwa[cK]
 let ⟨F,h1,hc,hI⟩:=h.y i B;rw[tq]at h1 hI;apply (hY _ _ _ h1 (λk hk=>(hc k hk).1) hI).mono;rintro e w' ⟨rfl,h2,hs,V⟩;refine⟨q?,?_⟩;have h3:=h.Zb1 B hc (by rwa[tq]) hs V;simp only[tq,gv]at h3;exact h3
def ZbA{s}(n t:b?)(x y)(J:n.size<=la)(O:t.size<=la):Ye 38 (λp=>#[p,s? n,s? t,n? i? x,n? i? y]) s (n? i? (kM s.b s.s n.1.1 t.1.1 x y).1) ⟨(kM s.b s.s n.1.1 t.1.1 x y).2,s.s,s.t⟩:=
 λ_ _ _ U _ h=>(h.ups n t x y J O).mono λ_ _ ⟨V,B,W,Y⟩=>⟨V,B,U,W,Y⟩
def ZbM{s}(n:b?)(J:n.size<=la):Ye 37 (λp=>#[p,s? n]) s (n? i? (mn s.b s.s n.1.1).1) ⟨(mn s.b s.s n.1.1).2,s.s,s.t⟩:=
 λ_ _ _ O _ h=>(h.del n J).mono λ_ _ ⟨U,B,V,W⟩=>⟨U,B,O,V,W⟩
def YR{s}:Ye 29 (λp=>#[p]) s (n? i? (fZ s.b s.s).1) ⟨(fZ s.b s.s).2.1,(fZ s.b s.s).2.2,s.t⟩:=
 λ_ _ _ J _ h=>h.flush.mono λ_ _ ⟨O,B,U,V⟩=>⟨O,B,J,U,V⟩
def Y0{s}(n):Ye 39 (λp=>#[p,n? i? n]) s (n? i? (gI s.s n).1) ⟨s.b,(gI s.s n).2,s.t⟩:=
 λ_ _ _ J _ h=>(h.merge n).mono λ_ _ ⟨O,B,U,V⟩=>⟨O,B,J,U,V⟩
def Yc{s}(n:b?)(J:n.size<=la):Ye 25 (λp=>#[p,s? n]) s (n? i? (iT s.b s.s n.1.1).1) ⟨s.b,(iT s.b s.s n.1.1).2,s.t⟩:=
 λ_ _ _ O _ h=>(h.load n J).mono λ_ _ ⟨U,B,V,W⟩=>⟨U,B,O,V,W⟩
def Za0{s}(n):Ye 26 (λp=>#[p,n? i? n]) s (.tuple #[s? ⟨(jW s.s n).1.toArray⟩,n? i? (jW s.s n).2]) s:=
 λ_ _ J O _ h=>(h.Zb4 n).mono λ_ _ ⟨U,B⟩=>⟨U,J,O,B▸h,B▸.same (.refl _)⟩
def rB(h:Inv y0.b y0.s):gO y0.s<=536870912/\l? y0.b<=536870912:=by have B:=xg h;have J:=pf h;simp[gO]at B⊢;omega
def ZbL{s}(n t:b?)(x y)(J:n.size<=la)(O:t.size<=la):XX 103 (λp=>#[p,s? n,s? t,n? i? x,n? i? y]) s (n? i? (kM s.b s.s n.1.1 t.1.1 x y).1) ⟨(kM s.b s.s n.1.1 t.1.1 x y).2,s.s,s.t⟩:=
 λ_ _ _ h hF B=>(QS _ _ _ _ _ n t x y _ hF h J O (rB B).1 (rB B).2).mono λ_ _ ⟨U,V,W⟩=>⟨U,V,W,O9 B _ _ _ _⟩
def ZbI{s}(n:b?)(J:n.size<=la):XX 105 (λp=>#[p,s? n]) s (n? i? (mn s.b s.s n.1.1).1) ⟨(mn s.b s.s n.1.1).2,s.s,s.t⟩:=
 λ_ _ _ h hF B=>(Ph _ _ _ _ _ n _ hF h J (rB B).1 (rB B).2).mono λ_ _ ⟨O,U,V⟩=>⟨O,U,V,Ou B _⟩
def Yy{s}:XX 106 (λp=>#[p]) s (n? i? (fZ s.b s.s).1) ⟨(fZ s.b s.s).2.1,(fZ s.b s.s).2.2,s.t⟩:=
 λ_ _ _ h hF B=>(UT _ _ _ _ _ _ hF h (rB B).2).mono λ_ _ ⟨J,O,U⟩=>⟨J,O,U,Ej B⟩
def Yl{s}(n)(O : -9223372036854775808<=n)(B:n<=9223372036854775807):XX 107 (λp=>#[p,n? i? n]) s (n? i? (gI s.s n).1) ⟨s.b,(gI s.s n).2,s.t⟩:=
 λ_ _ _ h hF J=>(Vv _ _ _ _ _ n _ hF h O B (rB J).1).mono λ_ _ ⟨B,U,V⟩=>⟨B,U,V,EG J _⟩
def V5:Sg:=⟨[],[],[]⟩
def PS.made{w1 w2 c b o}(h:PS p x4 c f I x0 x5 J U x1 x3)(ag:B? x4 w1)(hx:AW x4 w1 x9 y7 b [] [] [])
  (ho:R? w2 0 122 2 P (l? x3+1)<|oP x3++[p?<|y? ⟨b,0,x?⟩,p?<|y? ⟨w1.1.size,0,x?⟩])
  (hg:((w1.alloc<|c? #[tD,tD,tD] 120).alloc o).grownBy w2<|O? I) (B:O? P=O? I\/O? P=y? (w1.1.size+2)) :
  w2.1[f]?=y? (c? #[I,x0,x5,n? i? J] 74 (0,0))/\
  ∃c',PS p (w2.setCell ⟨f,0,x?⟩ P) c' f P x0 x5 J U x1<|x3++[⟨b,w1.1.size,V5,V5⟩]:=by
 have ao:=ag.4;have ap:w1.1.size+2<=w2.1.size:=by have:=hg.4;simpa using this
 have O:=h.1;have aj:=O.bz;have Y:=λk B=>(O.4.lt k B).2;let ⟨D,hD,an,ak⟩:=O.2
 have ad:∀k,k<w1.1.size->O? I≠y? k->w2.1[k]?=w1.1[k]?:=λk B ah=>by rw[hg.5 k j!<|λe=>ah e.symm,e! _ _ _ j!,e! _ _ _ B]
 have hold:∀k,k<x4.1.size->O? I≠y? k->w2.1[k]?=x4.1[k]?:=λk B ah=>by rw[ad k o! ah,ag.5 k B]
 have ai:=(hold f aj<|fC O.1 O.4 d!).trans O.1;have V:∀k,k≠f->(w2.setCell ⟨f,0,x?⟩ P).1[k]?=w2.1[k]?:=λk B=>ZH _ _ _ _ B;have aq:(w2.setCell ⟨f,0,x?⟩ P).1.size=w2.1.size:=by simp[m4]
 obtain⟨c',ac⟩:∃c':Nat->Nat,c'=λk=>if k<x4.1.size then c k else if k<w1.1.size then 2*l? x3+2 else if k=w1.1.size then 2*l? x3+3 else 1:=⟨_,q?⟩
 have c0:∀k,k<x4.1.size->c' k=c k:=λk B=>by rw[ac];exact if_pos B
 have hf:D9 c c' 1 x4<|w2.setCell ⟨f,0,x?⟩ P:=⟨c0,hg.1.trans ag.1,o!,λk B hn=>by rw[V k<|λe=>hn<|e▸O.5,hold k B λe=>hn<|O.6 k e]⟩;have hl:=h.Sk hf o!;have ae:∀k,O? P=y? k->O? I=y? k\/k=w1.1.size+2:=λk aa=>B.elim (λh=>.inl<|h▸aa) λh=>.inr (by rw[h]at aa;exact(sz aa).symm);have e1:(x3++[(⟨b,w1.1.size,V5,V5⟩:DJ)]).length=l? x3+1:=i!;refine⟨ai,c',⟨?_,h.J5 c0,hl,λi hi=>?_,λi hi=>?_⟩⟩;have al:=λk B=>(hD.1.lt k B).2;have am:=λk B=>(hD.2.lt k B).2;have W:∀k,k<x4.1.size->O? I≠y? k->k≠f->(w2.setCell _ P).1[k]?=x4.1[k]?:=λk B h1 h2=>by rw[V k h2,hold k B h1]
 refine⟨by rw[heap_set ai];rfl,⟨D,hD.stay o! (λk hd=>W k (hD.6 k hd) (λe=>ak k e hd)<|λe=>hD.5<|e▸hd) (λk hv=>W k (al k hv) (λe=>fX O.4 hD.1 d! k e hv)<|λe=>fD O.1 hD.1 d!<|e▸hv)<|λk hv=>W k (am k hv) (λe=>fX O.4 hD.2 d! k e hv)<|λe=>fD O.1 hD.2 d!<|e▸hv,λk B=>(c0 k<|hD.6 k B).trans<|an k B,λk B hd=>?_⟩,O.3,?_,(c0 f aj).trans O.5,λk B=>?_,λk B=>(c0 k<|al k B).trans<|O.7 k B,λk B=>(c0 k<|am k B).trans<|O.8 k B⟩;obtain h1|h1:=ae k B
 exact ak k h1 hd;have:=hD.6 k hd;omega;rw[e1,show oP _=oP x3++[p?<|y? ⟨b,0,x?⟩,p?<|y? ⟨w1.1.size,0,x?⟩] by simp[oP]];exact dJ ho λk aa=>V k λe=>fC ai ho d!<|e▸aa;obtain h1|h1:=ae k B
 exact(c0 k<|Y k h1).trans<|O.6 k h1;subst h1;rw[ac];simp only;rw[if_neg o!,if_neg o!,if_neg o!];by_cases ab:i<l? x3;rw[Zx ab];exact(h.x i ab).stay hf o! hl;obtain rfl:i=l? x3:=o!;rw[K!<|Zu _];simp only[i1,Q!];have hb:=λk (B:x9 k\/y7 k)=>B.elim (hx.2 k)<|hx.3 k;have af:=λk (B:x9 k\/y7 k)=>B.elim (hx.j.1 k)<|hx.j.2 k;refine⟨x9,y7,⟨hx.j.stay o! λk B=>?_,λk B=>ZE h.3.2<|hx.2 k B,λk B=>ZE h.3.2<|hx.3 k B,hl⟩,λk B=>?_⟩;have:=hb k B;rw[V k o!,ad k (af k B) λe=>by have:=Y k e;omega];have:=hb k B;rw[ac];simp only;rw[if_neg o!,if_pos<|af k B];by_cases ab:i<l? x3;rw[Zx ab];exact(h.y i ab).stay hf o!;obtain rfl:i=l? x3:=o!;rw[K!<|Zu _];simp only[i1,Q!];refine⟨λk=>k=w1.1.size,⟨tD,tD,tD,by rw[V _ o!];exact(by rw[hg.5 _ j! (λe=>by have:=Y _ e.symm;omega),e! _ _ _ i!];show(w1.1.push _)[w1.1.size]?=_;rw[kr,if_pos rfl]),q?,⟨Z9 _ _ _ _,λk B=>by simp[tD,wd]at B⟩,⟨[],q?,Z9 _ _ _ _,λk B=>by simp[tD,wd]at B,λi hi=>by simp[V5]at hi⟩,⟨[],q?,Z9 _ _ _ _,λk B=>by simp[tD,wd]at B,λi hi=>by simp[V5]at hi⟩⟩,λk B=>?_,OU⟩;have e:k=w1.1.size:=B;subst e;refine⟨o!,?_⟩;rw[ac];simp only;rw[if_neg o!,if_neg o!];simp
def SJ{c}(h:PS o p c f I P x0 J U x1 x3)(an:l? x3<=10) :
  ld prog 40 #[p?<|y? ⟨f,0,x?⟩] p λe w'=>e=e? (.bool t?)/\∃(c':Nat->Nat)(Y:v?)(bx yb:Nat),PS o w' c' f Y P x0 J U x1<|x3++[⟨bx,yb,V5,V5⟩]:=by
 obtain⟨i3,ag,ah,ai,aj⟩:=Zz S3;have HG:=h! h;have ak:=h.1.bz;clear h;go_enter func40,ntmps40;go_wp2_with fail;apply (ZbF p).mono;rintro e w1 ⟨bx,F1,F2,rfl,aa,O⟩;have ab:=(O.5 f ak).trans HG.1.1;have B:=dJ HG.1.4<|λk hk=>O.5 k (HG.1.4.lt k hk).2;have ao:=dx ab 0;have ac:=h! aa;clear aa ab;go_wp2_with (at_builtin;go_must (refine wH _ q? _ _ 71 q? 0 122 i3 _ 2 16 underlying71 ag ah ai aj q? d! _ _ _ q? ((B.alloc _).alloc _) _ 1 1 [p?<|y? ⟨bx,0,x?⟩,p?<|y? ⟨w1.1.size,0,x?⟩] q? q? d! ?c0 ?c1 ?c2 ?c3 ?c4 ?_))
 case c0=>exact MK i!
 case c1=>intro u hu;simp only[Zm,q!,or_false]at hu;obtain rfl|rfl:=hu<;>rfl
 case c2=>unfold la;omega
 case c3=>omega
 case c4=>exact ZP _
 intro Y w2 V ad ae;obtain⟨a2,c2,rfl,ap⟩:=dK V;obtain⟨W,c',af⟩:=HG.made O ac V ad ae;have al:=dx W 0;have am:=dO W 0;have HM:=h! af;clear W af V ad ae O B ac HG;go_wp2;go_ret;exact⟨q?,_,_,_,_,HM⟩
def T6{c}{xs:L?}(h:PS o p c f I P x0 J U x1 x3)(hl:pP p x4)(hu:R? x4 p.1.size 9 1 x5 y2 xs)(af:J<=1073741824)(ag:l? U<=17179869184)(hn:y2<=1000) :
  ld prog 113 #[p?<|y? ⟨f,0,x?⟩,x5] x4 λe w'=>e=e? (.tuple #[])/\pP o w'/\∃c' aa ab V ac,PS o w' c' f I aa ab (J+1) V ac x3/\l? V=l? U+9:=by
 obtain⟨D,hD,ah,ai⟩:=h.1.2;have hb:=hl.3;have ae:=λk B=>(hD.1.lt k B).2;have ad:=λk B=>(hD.2.lt k B).2;refine(SY f D I P x0 x5 U x1 J y2 xs x4 ((hb f h.1.bz).trans h.1.1) (hD.stay hl.2 (λk B=>hb k<|hD.6 k B) (λk B=>hb k<|ae k B) λk B=>hb k<|ad k B) h.1.3 (eH hu<|ZP _) (λk B hd=>?_) (λk B hm=>?_) af ag hn).mono ?_;have:=(hu.lt k B).1;have:=hD.6 k hd;omega
 .have:=(hu.lt k B).1;have:=ad k hm;omega
 rintro e w' ⟨rfl,D',aa,ab,V,ac,q1,q2,q3,q4,q5,q6,q7,q8⟩;have hz:=hl.2;have ak:=q5.4;have W:∀k,O? x5=y? k->p.1.size<=k:=λk B=>(hu.lt k B).1;have Y:∀k,p.1.size<=k->vF c _ 1 k=1:=λk B=>nC B
 have hf:D9 c (vF c _ 1) 1 p w':=⟨nE,q5.1.trans hl.1,o!,λk B hn=>by
  rw[q5.5 k o! ?_,hb k B];rintro(e|e|e|e);exact hn<|e▸h.1.5;exact hn<|h.1.7 k e;exact hn<|h.1.8 k e
  have:=W k e;omega⟩
 refine⟨q?,h.Sk hf o!,_,aa,ab,V,ac,h.ZbN hf ⟨q1,⟨D',q2,λk B=>?_,λk B hd=>?_⟩,q3,?_,(jm h.1.bz).trans h.1.5,λk B=>(jm (h.1.4.lt k B).2).trans<|h.1.6 k B,λk B=>?_,λk B=>?_⟩,q4⟩;obtain O|O|O:=q6 k B
 rw[jm<|hD.6 k O];exact ah k O;exact Y k<|W k O;exact Y k o!;have:=(h.1.4.lt k B).2;obtain O|O|O:=q6 k hd
 exact ai k B O;have:=W k O;omega;omega;refine dJ h.1.4 λk B=>?_;have aj:=(h.1.4.lt k B).2;rw[q5.5 k o! ?_,hb k aj];rintro(e|e|e|e);exact fC h.1.1 h.1.4 d!<|e▸B;exact fX h.1.4 hD.1 d! k B e;exact fX h.1.4 hD.2 d! k B e;have:=W k e;omega;obtain O|O:=q7 k B
 rw[jm<|ae k O];exact h.1.7 k O;exact Y k o!;obtain O|O:=q8 k B
 rw[jm<|ad k O];exact h.1.8 k O;exact Y k o!
structure VG(N M K W:Int)(S T:b?):Prop where
 n0 : -9223372036854775808<=N
 n1:N<=9223372036854775807
 m0 : -9223372036854775808<=M
 m1:M<=9223372036854775807
 k0 : -9223372036854775808<=K
 k1:K<=9223372036854775807
 w0 : -9223372036854775808<=W
 w1:W<=9223372036854775807
 s:S.size<=la
 t:T.size<=la
def PS.two{w c}(h:PS x4 w c f I P x0 J U x1 x3)(o p):∃B,PS x4 ((w.alloc o).alloc p) B f I P x0 J U x1 x3/\B w.1.size=0/\B (w.1.size+1)=0/\((w.alloc o).alloc p).1[w.1.size]?=y? o/\((w.alloc o).alloc p).1[w.1.size+1]?=y? p/\w.1.size+2<=((w.alloc o).alloc p).1.size/\pP w ((w.alloc o).alloc p):=by have O:pP w<|(w.alloc o).alloc p:=.of<|((nr _ _).alloc (Zu _) _).alloc i! _;refine⟨_,h.same O 0,nC<|Zu _,nC o!,?_,?_,i!,O⟩;rw[e! _ _ _ i!];exact sK _ _;have:=sK (w.alloc o) p;simpa using this
def PS.ma{c}(h:PS o p c f I P x0 J U x1 x3)(hi)(B:x3[i].x=y0)(O:x3[i].y=y0):PS o p c f I P x0 J U x1<|x3.set i ⟨x3[i].1,x3[i].2,y0,y0⟩:=by
 have e:(⟨x3[i].1,x3[i].2,y0,y0⟩:DJ)=x3[i]:=by generalize x3[i]=z at *;obtain⟨a,b,x,y⟩:=z;simp only at B O⊢;rw[B,O]
 rwa[e,List.set_getElem_self]
def Xw{c K aL nL cL made}(h:PS o p c f I P x0 J U x1 x3)(hi)(W:x3[i].x=y0)(hy:x3[i].y=y0)(B:VG z4 z5 K z3 x2 y3)(O:2<=y6)(h5:y6<=5) :
  ld prog 76 #[.agg #[p?<|y? ⟨x3[i].1,0,x?⟩,p?<|y? ⟨x3[i].2,0,x?⟩],.agg<|GQ y6 z3 z4 z5 K x2 y3 (.slice aL nL cL) made] p λe w'=>e=e? (.bool t?)/\∃c' s',s'.t=y0.t/\PS o w' c' f I P x0 J U x1 (x3.set i ⟨x3[i].1,x3[i].2,s',s'⟩):=by
 have hk:y6=2\/y6=3\/y6=4\/y6=5:=o!;let ⟨c1,h1,z1,z2,V,p2,aa,_⟩:=(h.ma hi W hy).two (c? #[p?<|y? ⟨x3[i].1,0,x?⟩,p?<|y? ⟨x3[i].2,0,x?⟩] 122)<|c? (GQ y6 z3 z4 z5 K x2 y3 (.slice aL nL cL) made) 77;generalize x3[i].1=b1 at *;generalize x3[i].2=b2 at *;have H1:=h! h1;clear h h1 W hy O h5;have d1:=dx V;have d2:=dx p2;unfold GQ at *;obtain rfl|rfl|rfl|rfl:=hk
 case' inl=>have X:=ZbA (s:=y0) x2 y3 z4 z5 B.s B.t;have Y:=ZbL (s:=y0) x2 y3 z4 z5 B.s B.t
 case' inr.inl=>have X:=ZbM (s:=y0) x2 B.s;have Y:=ZbI (s:=y0) x2 B.s
 case' inr.inr.inl=>have X:=YR (s:=y0);have Y:=Yy (s:=y0)
 case' inr.inr.inr=>have X:=Y0 (s:=y0) z4;have Y:=Yl (s:=y0) z4 B.1 B.2
 all_goals
  have HX:=h! X;have HY:=h! Y;clear X Y;go_enter func76,ntmps76;go_wp2_with fail;apply (H1.opX hi HX).mono;rintro e w1 ⟨rfl,c2,O,z⟩;have q1:=dx<|(z.2 _ o! z1).1.trans V;have q2:=dx<|(z.2 _ o! z2).1.trans p2;have H2:=h! O;clear O z d1 d2 V p2 H1;go_wp2_with fail;apply (H2.opY hi HY).mono;rintro e w2 ⟨rfl,c3,h3,_⟩;have H3:=h! h3;clear h3 H2 q1 q2;go_wp2_with fail;apply g!<|uR _ _;go_wp2;go_ret;refine⟨dW i!,_,_,?_,H3⟩;rfl
def CB(w:w?)(B:Nat)(S:b?)(st:Option Wd)(J:v?):Prop:=
 ∃p:Nat,w.1[B]?=y? (c? #[s? S,n? i? p,.bool st.isNone,J] 259 (0,0))/\p<=S.size/\∀r,st=y? r->S.1.1.drop p=r
def iy(n:Nat):Option Wd->Wd×Option Wd
 |none=>([],x?)
 |some r=>if n<=r.length then(r.take n,y?<|r.drop n)else([],x?)
def Fo(B)(S:b?)(st:Option Wd)(vA)(n:Nat)(w)(h:CB w B S st vA)(hS:S.size<=1048576)(hn:n<=16777216) :
  ld prog 205 #[p?<|y? ⟨B,0,x?⟩,n? i? n] w λe w'=>e=e? (s? ⟨(iy n st).1.toArray⟩)/\CB w' B S (iy n st).2 vA/\dy (· = B) w w'/\w'.1.size=w.1.size:=by
 obtain⟨p,U,hp,hr⟩:=h;have c0:C? w ⟨B,0,x?⟩=y? (s? S):=by rw[dx U];rfl
 have c1:C? w ⟨B,1,x?⟩=y? (n? i? p):=by rw[dx U];rfl
 have c2:C? w ⟨B,2,x?⟩=y? (.bool st.isNone):=by rw[dx U];rfl
 have f1:=dO U 1;have f2:=dO U 2;have HH:=h! U;have HR:=h! hr;clear U hr
 cases st with
 |none=>
  have af:C? w _=y? (.bool t?):=c2;clear c2;go_enter rc,px;go_wp2_with fail;go_quiet (fail);go_wp2;go_ret
  have V:((w.drewN nq).setCell ⟨B,2,x?⟩<|.bool t?).1[B]?=y? (c? #[s? S,n? i? p,.bool t?,vA] 259 (0,0)):=by rw[heap_set (w:=w.drewN nq) HH.o];simp
  have J:=jq (w:=w.drewN nq) (o:=2) (v:=.bool t?) (F:=(· = B)) rfl;exact⟨q?,⟨p,V,hp,λr h=>by cases h⟩,⟨J.1,J.2,J.3,J.4,J.5⟩,by simp[m4,m7]⟩
 |some r=>
  have e:=HR.o r rfl;have W:l? r=S.size-p:=by rw[<-e];simp
  have HE:=h! e;have ag:C? w _=y? (.bool f?):=c2;have ah:IntKind.i64.wrap ((S.size:Int)-(p:Int))=(S.size:Int)-(p:Int):=by simp only[X?];omega
  clear c2 e HR;by_cases O:n<=l? r
  .have aa:¬(S.size:Int)-(p:Int)<(n:Int):=o!;have ab:IntKind.i64.wrap ((p:Int)+(n:Int))=((p+n:Nat):Int):=by simp only[X?];omega
   have ac:IntKind.i64.wrap ((p:Int)+(n:Int)-(n:Int))=(p:Int):=by simp only[X?];omega
   have ad:(p:Int)<=((p+n:Nat):Int):=o!;have ae:((p+n:Nat):Int)<=(S.size:Int):=o!;have HT:J?<|iy n (y? r)=(r.take n,y?<|r.drop n):=h!<|by simp[iy,O]
   have Y:p+n<=S.size:=o!;clear O W;go_enter rc,px;go_wp2_with fail;go_quiet (fail);revert nq;intro k0;go_wp2_with fail;go_quiet (fail);go_wp2;go_ret
   have V:((w.drewN k0).setCell ⟨B,1,x?⟩<|n? i?<|(p:Int)+(n:Int)).1[B]?=y? (c? #[s? S,n? i? ((p+n:Nat):Int),.bool f?,vA] 259 (0,0)):=by rw[heap_set (w:=w.drewN k0) HH.o];simp
   have J:=jq (w:=w.drewN k0) (o:=1) (v:=n? i?<|p+n) (F:=(· = B)) rfl;rw[HT.o];refine⟨?_,⟨p+n,V,Y,λr' h=>?_⟩,⟨J.1,J.2,J.3,J.4,J.5⟩,by simp[m4,m7]⟩;show Ending.returned (s?<|S.extract p<|p+n)=_;rw[FI,HE.o]
   cases h;rw[<-HE.o,List.drop_drop]
  have aa:(S.size:Int)-(p:Int)<(n:Int):=o!;have HT:J?<|iy n (y? r)=([],x?):=h!<|by simp[iy,O]
  clear O W;go_enter rc,px;go_wp2_with fail;go_quiet (fail);go_wp2;go_ret
  have V:((w.drewN nq).setCell ⟨B,2,x?⟩<|.bool t?).1[B]?=y? (c? #[s? S,n? i? p,.bool t?,vA] 259 (0,0)):=by rw[heap_set (w:=w.drewN nq) HH.o];simp
  have J:=jq (w:=w.drewN nq) (o:=2) (v:=.bool t?) (F:=(· = B)) rfl;rw[HT.o];exact⟨q?,⟨p,V,hp,λr h=>by cases h⟩,⟨J.1,J.2,J.3,J.4,J.5⟩,by simp[m4,m7]⟩
def tB(l:Wd):Nat:=l.foldl (λn c=>256*n+c.toNat) 0
def Ri(l)(c):tB (l++[c])=256*tB l+c.toNat:=by unfold tB;rw[b!];rfl
def Er(l:Wd)(k)(h:k<l? l):tB (l.take<|k+1)=256*tB (l.take k)+(l.getD k 0).toNat:=by rw[IS h,Ri,AS,BY h];rfl
def FD(l:Wd):∀k,k<=l? l->tB (l.take k)<256 ^ k:=by
 intro k;induction k with
 |zero=>intro _;simp[tB]|succ k B=>intro h;have J:=B o!;rw[Er l k o!,i2];have:=(l.getD k 0).toNat_lt;omega
def uZ(n)(st):(iy n st).1.length<=n:=by
 cases st with
 |none=>simp[iy]|some r=>by_cases h:n<=l? r;simp[iy,h];simp[iy,h]
def Hy(B)(S:b?)(st:Option Wd)(vA)(n:Nat)(w)(h:CB w B S st vA)(hS:S.size<=1048576)(hn:n<=3) :
  ld prog 204 #[p?<|y? ⟨B,0,x?⟩,n? i? n] w λe w'=>e=e? (n? i?<|tB (iy n st).1)/\CB w' B S (iy n st).2 vA/\dy (· = B) w w'/\w'.1.size=w.1.size:=by
 have U:=Fo B S st vA n w h hS o!;have Y:=uZ n st;obtain⟨T,hT⟩:∃T,T=iy n st:=⟨_,q?⟩;rw[<-hT]at U Y⊢;obtain⟨J,aa⟩:=T;simp only at U Y⊢;have ab:(⟨a? J⟩:b?).size=l? J:=by show J.toArray.size=_;simp
 have V:J? (∀(k:Nat)(h:k<(⟨a? J⟩:b?).size),(⟨a? J⟩:b?)[k]=J.getD k 0):=λk h=>(ir _ k h).symm;generalize (⟨a? J⟩:b?)=bB at *;clear h hT;go_enter func204,ntmps204;go_wp2_with fail;apply U.mono;rintro e w1 ⟨rfl,hR,hF,hz⟩;have HR:=h! hR;have HF:=h! hF;have HZ:=h! hz;clear U hR hF hz;go_wp2_with fail;go_loopw [6,7] (λu i wr=>∃k:Nat,k<=l? J/\i=n? i? k/\u=n? i? (tB (J.take k))/\wr=w1) (λ_ i _=>l? J-(intOf i).toNat);exact⟨0,ZP _,q?,q?,q?⟩;obtain⟨k,hk,rfl,rfl,rfl⟩:=hrel;by_cases W:k<l? J
 .have O:(k:Int)<(l? J:Int):=o!;have hg:=V.o k o!;have HN:=h!<|Er J k W
  have ac:tB (J.take k)<65536:=by have h1:=FD J k hk;have h2:256 ^ k<=256 ^ 2:=hH d! o!;omega
  have ad:=(J.getD k 0).toNat_lt;generalize tB (J.take k)=N at *;generalize J.getD k 0=c at *;go_wp2;go_roundw
  .exact⟨k+1,o!,by go_num,by rw[HN.o];go_num,t!⟩
  exact M!
 have HE:J?<|J.take k=J:=If o!;have O:¬(k:Int)<(l? J:Int):=o!;go_wp2;go_ret;exact⟨dQ<|by rw[HE.o],HR,HF,HZ⟩
def eU(k:Nat)(st:Option Wd):Nat×Option Wd:=(tB (iy k st).1,(iy k st).2)
def fe(st:Option Wd):Wd×Option Wd:=iy (eU 1 st).1 (eU 1 st).2
def qG(k):eU k x?=(0,x?):=rfl
def KT:fe x?=([],x?):=rfl
def uN(B):eU 1 (y? B)=match rdNum B with
  |some x=>(x.1,y? x.2)
  |none=>(0,x?):=by
 cases B with
 |nil=>rfl|cons b r=>simp[eU,iy,rdNum,tB]
def OT(B):eU 3 (y? B)=match fA B with
  |some x=>(x.1,y? x.2)
  |none=>(0,x?):=by
 match B with
 |[]=>rfl|[a]=>simp[eU,iy,fA,tB]|[a,b]=>simp[eU,iy,fA,tB]|a::b::c::r=>simp[eU,iy,fA,tB];omega
def A9(B):fe (y? B)=match gL B with
  |some x=>(x.1,y? x.2)
  |none=>([],x?):=by
 unfold fe gL;rw[uN]
 cases h:rdNum B with
 |none=>rfl|some x=>simp only[Zf];unfold qV;by_cases J:x.1<=l? x.2;simp[iy,J];simp[iy,J]
def rO(k)(st)(J:k<=3):(eU k st).1<16777216:=by have B:=FD (iy k st).1 _<|Zu _;rw[o?]at B;have O:=uZ k st;have U:256 ^ (iy k st).1.length<=256 ^ 3:=hH d! o!;show tB _<_;omega
def jA(st):(eU 1 st).1<256:=by have B:=FD (iy 1 st).1 _<|Zu _;rw[o?]at B;have J:256 ^ (iy 1 st).1.length<=256 ^ 1:=hH d!<|uZ 1 st;show tB _<_;omega
abbrev jw:=Option Wd×List eE
def D5(s:jw):jw:=
 ((eU 1 (eU 3 (fe (fe s.1).2).2).2).2,s.2++[⟨(fe s.1).1,f?,(fe (fe s.1).2).1,((eU 3 (fe (fe s.1).2).2).1:Int),((eU 1 (eU 3 (fe (fe s.1).2).2).2).1:Int)⟩])
def mP:Nat->jw->jw
 |0,s=>s|n+1,s=>if s.1=x? then s else mP n (D5 s)
def nt(node:jw->jw):Nat->jw->jw
 |0,s=>s|n+1,s=>if s.1=x? then s else nt node n (node s)
def jX:Nat->Nat->jw->jw
 |0,_,s=>(x?,s.2)
 |f+1,B,s=>
  let a:=(eU 3 (fe s.1).2).2
  let n:=eU 1 a
  let d:=mP n.1 (n.2,s.2)
  let e:=eU 1 d.1
  if 0<e.1/\30<B then(x?,d.2)else nt (jX f<|B+1) e.1 (e.2,d.2)
def mF(n)(A:E?):mP n (x?,A)=(x?,A):=by cases n<;>simp[mP]
def oc(node)(n)(A:E?):nt node n (x?,A)=(x?,A):=by cases n<;>simp[nt]
def W7:∀(n)(B)(A:E?),match pR n B with
  |some x=>mP n (y? B,A)=(y? x.2,A++x.1)
  |none=>(mP n (y? B,A)).1=x?:=by
 intro n;induction n with
 |zero=>intro B A;simp[pR,mP]|succ n U=>
  intro B A;have V:mP (n+1) (y? B,A)=mP n (D5 (y? B,A)):=by simp[mP]
  rw[V];unfold pR D5;rw[A9]
  cases W:gL B with
  |none=>simp[KT,qG,mF]|some x=>
   simp only[Zf];rw[A9]
   cases Y:gL x.2 with
   |none=>simp[qG,mF]|some y=>
    simp only[Zf];rw[OT]
    cases h3:fA y.2 with
    |none=>simp[qG,mF]|some z=>
     simp only[Zf];rw[uN]
     cases h4:rdNum z.2 with
     |none=>simp[mF]|some u=>
      simp only[Zf];have J:=U u.2<|A++[⟨x.1,f?,y.1,z.1,u.1⟩]
      cases O:pR n u.2 with
      |none=>rw[O]at J;simpa using J|some v=>rw[O]at J;simpa using J
def Ta(node:jw->jw)(O:Wd->Option (E?×Wd))(Y:∀(B)(A:E?),match O B with
  |some x=>node (y? B,A)=(y? x.2,A++x.1)
  |none=>(node (y? B,A)).1=x?):∀(n)(B)(A:E?),match qq O n B with
  |some x=>nt node n (y? B,A)=(y? x.2,A++x.1)
  |none=>(nt node n (y? B,A)).1=x?:=by
 intro n;induction n with
 |zero=>intro B A;simp[qq,nt]|succ n ih=>
  intro B A;have h0:nt node (n+1) (y? B,A)=nt node n (node (y? B,A)):=by simp[nt]
  rw[h0];unfold qq;have J:=Y B A
  cases V:O B with
  |none=>rw[V]at J;simp only[ot];rw[show node _=(x?,(node _).2)from x' J q?,oc]
  |some x=>
   rw[V]at J;simp only[Zf];simp only at J;rw[J];have U:=ih x.2<|A++x.1
   cases W:qq O n x.2 with
   |none=>rw[W]at U;simpa using U|some v=>rw[W]at U;simpa using U
def WQ:∀(f B)(J)(A:E?),match o9 f B J with
  |some x=>jX f B (y? J,A)=(y? x.2,A++x.1)
  |none=>(jX f B (y? J,A)).1=x?:=by
 intro f;induction f with
 |zero=>intro B J A;simp[o9,jX]|succ f Y=>
  intro B J A;unfold o9 jX;simp only;rw[A9]
  cases h1:gL J with
  |none=>simp[qG,mF,oc]|some a=>
   simp only[Zf];rw[OT]
   cases h2:fA a.2 with
   |none=>simp[qG,mF,oc]|some b=>
    simp only[Zf];rw[uN]
    cases h3:rdNum b.2 with
    |none=>simp[qG,mF,oc]|some c=>
     simp only[Zf];have O:=W7 c.1 c.2 A
     cases V:pR c.1 c.2 with
     |none=>rw[V]at O;simp only[ot];simp only at O;rw[O,qG];simp[oc]
     |some d=>
      rw[V]at O;simp only at O;simp only[Zf];rw[O];simp only;rw[uN]
      cases h6:rdNum d.2 with
      |none=>simp[oc]|some e=>
       simp only[Zf];by_cases U:0<e.1/\30<B;rw[if_pos U,if_pos U];rw[if_neg U,if_neg U];have h8:=Ta _ _ (Y<|B+1) e.1 e.2<|A++d.1
       cases W:qq (o9 f<|B+1) e.1 e.2 with
       |none=>rw[W]at h8;simpa using h8|some g=>rw[W]at h8;simpa using h8
def na(base:Nat)(w:w?)(B:Nat)(S:b?)(s:jw):Prop:=base<=B/\base<=w.1.size/\∃J,CB w B S s.1 J/\R? w base 202 5 J s.2.length (dG s.2)
def mK:Option Wd->Nat
 |none=>0|some r=>l? r+1
def yW(n)(st):mK (iy n st).2<=mK st:=by
 cases st with
 |none=>exact Zu _|some r=>by_cases h:n<=l? r;simp[iy,h,mK];simp[iy,h,mK]
def lS(k)(st):mK (eU k st).2<=mK st:=yW k st
def Rk{st}(h:st≠x?):mK (eU 1 st).2+1<=mK st:=by
 cases st with
 |none=>exact absurd q? h|some r=>
  rw[uN]
  cases r with
  |nil=>simp[rdNum,mK]|cons b r=>simp[rdNum,mK]
def yD(st):mK (fe st).2<=mK st:=ZE (yW _ _)<|lS 1 st
def Dd{st}(h:st≠x?):mK (fe st).2+1<=mK st:=by have B:=Rk h;have J:=yW (eU 1 st).1 (eU 1 st).2;unfold fe;omega
def gZ(s:jw):Nat:=l? s.2+mK s.1
variable {x6:jw}
def K1(h:x6.1≠x?):gZ (D5 x6)<=gZ x6:=by have B:=Dd h;have J:=yD (fe x6.1).2;have O:=lS 3 (fe (fe x6.1).2).2;have U:=lS 1 (eU 3 (fe (fe x6.1).2).2).2;unfold gZ D5;simp only[Zh,w!,F!];omega
def na.turn{O:Option Wd}(hb:f<=J)(W:f<=o.1.size)(Y:CB o J x2 x6.1 I)(V:R? o f 202 5 I x6.2.length<|dG x6.2)(B:dy (· = J) o x4)(h3:CB x4 J x2 O I) :
  na f x4 J x2 (O,x6.2)/\Below f o x4:=by
 obtain⟨p,hh,_⟩:=Y;exact⟨⟨hb,ZE W B.4,I,h3,dJ V<|λk U=>B.5 k (V.lt k U).2<|(λk U e=>fC hh V d!<|by rw[U,e]) k U⟩,⟨B.1,B.2,B.3,B.4,λk U=>B.5 k o! o!⟩⟩
def s9(base B)(S:b?)(s)(n:Nat)(w)(h:na base w B S s)(O:S.size<=1048576)(U:n<=16777216) :
  ld prog 205 #[p?<|y? ⟨B,0,x?⟩,n? i? n] w λe w'=>e=e? (s? ⟨(iy n s.1).1.toArray⟩)/\na base w' B S ((iy n s.1).2,s.2)/\Below base w w':=by
 obtain⟨hb,V,W,J,Y⟩:=h;apply (Fo B S s.1 W n w J O U).mono;rintro e w' ⟨rfl,h3,hf,_⟩;exact⟨q?,na.turn hb V J Y hf h3⟩
def kD(base B)(S:b?)(s)(n:Nat)(w)(h:na base w B S s)(O:S.size<=1048576)(U:n<=3) :
  ld prog 204 #[p?<|y? ⟨B,0,x?⟩,n? i? n] w λe w'=>e=e? (n? i? (eU n s.1).1)/\na base w' B S ((eU n s.1).2,s.2)/\Below base w w':=by
 obtain⟨hb,V,W,J,Y⟩:=h;apply (Hy B S s.1 W n w J O U).mono;rintro e w' ⟨rfl,h3,hf,_⟩;exact⟨q?,na.turn hb V J Y hf h3⟩
def py{st}(h:mK st<=mK x6.1):gZ (st,x6.2)<=gZ x6:=by unfold gZ;simp only;omega
def RN:∀(n)(s),gZ (mP n s)<=gZ s:=by
 intro n;induction n with
 |zero=>intro s;exact Zu _|succ n B=>
  intro s;unfold mP;split;exact Zu _
  next h=>exact ZE (B _)<|K1 h
def Q2{node:jw->jw}(B:∀s,gZ (node s)<=gZ s):∀(n)(s),gZ (nt node n s)<=gZ s:=by
 intro n;induction n with
 |zero=>intro s;exact Zu _|succ n J=>intro s;unfold nt;split;exact Zu _;exact ZE (J _)<|B _
def EM:∀(f B)(s),gZ (jX f B s)<=gZ s:=by
 intro f;induction f with
 |zero=>intro B s;exact py<|ZP _|succ f J=>intro B s;unfold jX;simp only;have O:=yD s.1;have U:=lS 3 (fe s.1).2;have V:=lS 1 (eU 3 (fe s.1).2).2;have W:=RN (eU 1 (eU 3 (fe s.1).2).2).1 ((eU 1 (eU 3 (fe s.1).2).2).2,s.2);have Y:gZ ((eU 1 (eU 3 (fe s.1).2).2).2,s.2)<=gZ s:=py o!;generalize mP (eU 1 (eU 3 (fe s.1).2).2).1 ((eU 1 (eU 3 (fe s.1).2).2).2,s.2)=d at *;split;have:gZ (x?,d.2)<=gZ d:=py<|ZP _;omega;have h6:=Q2 (J<|B+1) (eU 1 d.1).1 ((eU 1 d.1).2,d.2);have h7:=py<|lS 1 d.1;omega
def oneG(s:jw):jw:=((fe s.1).2,s.2++[⟨(fe s.1).1,t?,[],0,0⟩])
def nS:Nat->jw->jw
 |0,s=>s|n+1,s=>if s.1=x? then s else nS n (oneG s)
def nT(B:Wd):Nat×jw:=((eU 1<|y? B).1,jX 32 0<|nS (eU 1<|y? B).1 ((eU 1<|y? B).2,[]))
def Ce(n)(A:E?):nS n (x?,A)=(x?,A):=by cases n<;>simp[nS]
def XA:∀(n)(B)(A:E?),match pV n B with
  |some x=>nS n (y? B,A)=(y? x.2,A++x.1)
  |none=>(nS n (y? B,A)).1=x?:=by
 intro n;induction n with
 |zero=>intro B A;simp[pV,nS]|succ n U=>
  intro B A;have V:nS (n+1) (y? B,A)=nS n (oneG (y? B,A)):=by simp[nS]
  rw[V];unfold pV oneG;rw[A9]
  cases W:gL B with
  |none=>simp[Ce]|some x=>
   simp only[Zf];have J:=U x.2<|A++[⟨x.1,t?,[],0,0⟩]
   cases O:pV n x.2 with
   |none=>rw[O]at J;simpa using J|some v=>rw[O]at J;simpa using J
def D4(f deep)(A:E?):(jX f deep (x?,A)).1=x?:=by
 cases f with
 |zero=>rfl|succ f=>unfold jX;simp only[KT,qG,mF];split;rfl;rw[oc]
def Yx(O):match zi O with
  |some x=>nT O=(x.1,y? x.2.2,x.2.1)
  |none=>(nT O).2.1=x?:=by
 unfold zi nT;rw[uN]
 cases W:rdNum O with
 |none=>simp only[ot];rw[Ce];exact D4 _ _ _
 |some a=>
  simp only[Zf];have B:=XA a.1 a.2 []
  cases U:pV a.1 a.2 with
  |none=>rw[U]at B;simp only[ot];simp only at B;rw[show nS a.1 _=(x?,(nS a.1 _).2)from x' B rfl];exact D4 _ _ _
  |some b=>
   rw[U]at B;simp only[E!]at B;simp only[Zf];rw[B];have J:=WQ 32 0 b.2 b.1
   cases V:o9 32 0 b.2 with
   |none=>rw[V]at J;simpa using J|some c=>rw[V]at J;simp only at J;simp only[Zf];rw[J]
def QY(h:x6.1≠x?):gZ (oneG x6)<=gZ x6:=by have B:=Dd h;unfold gZ oneG;simp only[Zh,w!,F!];omega
def JP(B):gG B=if 4000<B.length then x?
  else match (nT B).2.1 with
   |none=>x?
   |some r=>if r≠[]\/(nT B).2.2.length=0\/100<(nT B).1\/30<((nT B).2.2.length:Int)-(nT B).1 then x?
    else if ∀i,(h:i<(nT B).2.2.length)->oL (nT B).2.2 i (nT B).2.2[i]=t? then(if oq (nT B).2.2=B then y? (nT B).2.2 else x?)else x?:=by
 rw[<-LZ];unfold Gt;split;rfl;have h:=Yx B
 cases J:zi B with
 |none=>rw[J]at h;simp only at h;rw[h]|some x=>rw[J]at h;simp only at h;let ⟨n,l,r⟩:=x;simp only at h;rw[h]
def okT(e:eE):Prop:=l? e.1<=255/\l? e.3<=255/\(0<=e.4/\e.4<=16777215)/\0<=e.5/\e.5<=255
def vj(s:jw):Prop:=∀e∈s.2,okT e
def vZ(st):(fe st).1.length<=255:=by have B:=jA st;have J:=uZ (eU 1 st).1 (eU 1 st).2;unfold fe;omega
def ok_one(h:vj x6):vj<|D5 x6:=by
 intro e he;unfold D5 at he;obtain B|B:=Z3.1 he
 exact h e B;simp only[Zm,q!,or_false]at B;subst B;have J:=rO 3 (fe (fe x6.1).2).2 o!;have O:=jA (eU 3 (fe (fe x6.1).2).2).2;exact⟨vZ _,vZ _,⟨by simp only;omega,by simp only;omega⟩,by simp only;omega,by simp only;omega⟩
def W5(h:vj x6):vj<|oneG x6:=by
 intro e he;unfold oneG at he;obtain B|B:=Z3.1 he
 exact h e B;simp only[Zm,q!,or_false]at B;subst B;exact⟨vZ _,i!,⟨i!,i!⟩,i!,i!⟩
def Xc:∀(n)(s),vj s->vj (mP n s):=by
 intro n;induction n with
 |zero=>intro s h;exact h|succ n B=>intro s h;unfold mP;split;exact h;exact B _<|ok_one h
def WB:∀(n)(s),vj s->vj (nS n s):=by
 intro n;induction n with
 |zero=>intro s h;exact h|succ n B=>intro s h;unfold nS;split;exact h;exact B _<|W5 h
def WV{node:jw->jw}(B:∀s,vj s->vj (node s)):∀(n)(s),vj s->vj (nt node n s):=by
 intro n;induction n with
 |zero=>intro s h;exact h|succ n J=>intro s h;unfold nt;split;exact h;exact J _<|B _ h
def VL:∀(f B)(s),vj s->vj (jX f B s):=by
 intro f;induction f with
 |zero=>intro B s h;exact h|succ f O=>intro B s h;unfold jX;have J:vj<|mP (eU 1 (eU 3 (fe s.1).2).2).1 ((eU 1 (eU 3 (fe s.1).2).2).2,s.2):=Xc _ _ h;simp only;split;exact J;exact WV (O _) _ _ J
def YU(bs):vj (nT bs).2:=VL _ _ _ (WB _ _<|λe B=>by simp at B)
def jB.Za6{w a A}(h:jB w 5 (.slice a f J) f<|dG A)(k)(hk:k<=A.length)(hn:f=A.length):jB w 5 (.slice a k J) k<|dG<|A.take k:=by
 obtain⟨a',O,U,h1,h2,V,W⟩:=h;simp only[wi]at U;obtain⟨rfl,_,rfl⟩:=U
 have Y:dG (A.take k)=(dG A).take (k*5):=by
  clear V W hn;induction A generalizing k with
  |nil=>simp[dG]|cons e A ih=>
   cases k with
   |zero=>simp[dG]|succ k=>have:=ih k (by simpa using hk);simp only[dG,List.take_succ_cons,c!]at this⊢;rw[this,show(k+1)*5=k*5+5 by omega];simp[e9]
 refine⟨a,J,rfl,by omega,h2,?_,λj u B=>?_⟩;rw[Y,cX,V];omega;rw[Y,Zi]at B;split at B;exact W j u B
 cases B
def ZaG(base B:Nat)(S:b?)(f:Nat):Prop:=∀(J:Nat)(s:jw)(w:w?),na base w B S s->J+f=32->0<f->gZ s<=100000->
  ld prog 206 #[p?<|y? ⟨B,0,x?⟩,n? i? J] w λe w'=>e=e? (.tuple #[])/\na base w' B S (jX f J s)/\Below base w w'
def Za5{t}(J:f=o.1.size):jB (o.alloc<|c? #[I,P,x0,x5,y8] t) 5 (.slice (y? ⟨f,0,x?⟩) 1 1) 1 [I,P,x0,x5,y8]:=by
 subst J;refine⟨y? _,1,q?,Zu _,by unfold la;omega,q?,λj x5 B=>⟨o.1.size,0,q?,?_⟩⟩;rw[Zl _ _ _ _ rfl];match j,B with
 |0,B=>simpa using B|1,B=>simpa using B|2,B=>simpa using B|3,B=>simpa using B|4,B=>simpa using B|j+5,B=>simp at B
def na.bad(h:na f o J x2 x6):C? o ⟨J,2,x?⟩=y? (.bool x6.1.isNone):=by obtain⟨_,_,O,⟨p,B,_⟩,_⟩:=h;rw[dx B];rfl
def J4(base B)(S:b?)(hS:S.size<=1048576):∀f,ZaG base B S f:=by
 intro f;induction f with
 |zero=>intro J s w _ _ h;omega|succ f ih=>
  intro J s w hA cb _ b7;have b8:=h! ih;let ⟨i5,b9,b',bA,bB⟩:=Zz xe;have aj:=kD base B S s 1 w hA hS o!;have aX:=jA s.1;rcases hx1:eU 1 s.1 with⟨n1,t1⟩;rw[hx1]at aj aX;simp only at aj aX;clear ih hA;go_enter func206,ntmps206;go_wp2_with fail;apply aj.mono;rintro e w1 ⟨rfl,h1,aY⟩;have ak:=s9 base B S _ n1 w1 h1 hS o!;rcases hx2:iy n1 t1 with⟨b2,t2⟩;rw[hx2]at ak;simp only at ak;have bC:=h! aY;clear aj h1 aY;go_wp2_with fail;apply ak.mono;rintro e w2 ⟨rfl,h2,aZ⟩;have al:=kD base B S _ 3 w2 h2 hS o!;rcases hx3:eU 3 t2 with⟨n3,t3⟩;rw[hx3]at al;simp only at al;have bD:=h!<|bC.trans aZ;clear ak h2 aZ;go_wp2_with fail;apply al.mono;rintro e w3 ⟨rfl,h3,aa⟩;have am:=kD base B S _ 1 w3 h3 hS o!;have ba:=jA t3;rcases hx4:eU 1 t3 with⟨n,t4⟩;rw[hx4]at am ba;simp only at am ba;have bE:=h!<|bD.trans aa;clear al h3 aa;go_wp2_with fail;apply am.mono;rintro e w4 ⟨rfl,h4,bc⟩;have bF:=h! h4;have bG:=h!<|bE.trans bc
  have HX:J?<|eU 1 (eU 3 (fe s.1).2).2=(n,t4):=by show _=_;unfold fe;rw[hx1];simp only;rw[hx2];simp only;rwa[hx3]
  clear am h4 bc hx1 hx2 hx3 hx4;obtain⟨D,hD⟩:∃D,D=mP n (t4,s.2):=⟨_,q?⟩;have HD:=h! hD
  have bH:gZ (t4,s.2)<=100000:=by have h1:=yD s.1;have h2:=lS 3 (fe s.1).2;have h3:=lS 1 (eU 3 (fe s.1).2).2;rw[HX.o]at h3;have h4:gZ (t4,s.2)<=gZ s:=py (by simp only at h3;omega);omega
  clear hD;go_wp2_with fail;go_loopw [5] (λi wr=>∃(k:Nat)(s':jw),k<=n/\i=n? i? k/\mP (n-k) s'=D/\na base wr B S s'/\Below base w wr/\gZ s'<=100000) (λi _=>n-(intOf i).toNat);exact⟨0,_,ZP _,q?,HD.symm,bF,bG,bH⟩;obtain⟨k,s',hk,rfl,az,an,bd,hrS⟩:=hrel;have a0:=an.bad;have aJ:=h! az;have ab:=h! bd;clear az bd;by_cases cd:k<n
  case' neg=>have be:¬(k:Int)<(n:Int):=o!;have ao:D=s':=by rw[<-aJ.o,(o!:n-k=0)];rfl
  case' pos=>
   have be:(k:Int)<(n:Int):=o!;obtain⟨u0,A⟩:=s';cases u0
   case some r=>
    simp only[oo]at a0;have ap:=kD base B S _ 1 wr an hS o!;have bf:=rO 1 (y? r) o!;have bg:=jA<|y? r;rcases hy0:eU 1 (y? r)with⟨a1,u1⟩;rw[hy0]at ap bf bg;simp only at ap bf bg;clear an;go_wp2_with fail;apply ap.mono;rintro e v1 ⟨rfl,ac,a2⟩;have a4:=h!<|ab.trans a2;clear ap a2 ab;have aq:=s9 base B S _ a1 v1 ac hS o!;rcases hy1:iy a1 u1 with⟨c2,u2⟩;rw[hy1]at aq;simp only at aq;clear ac;go_wp2_with fail;apply aq.mono;rintro e v2 ⟨rfl,bh,a8⟩;have a9:=h!<|a4.trans a8;clear aq a8 a4;have ar:=kD base B S _ 1 v2 bh hS o!;have bi:=rO 1 u2 o!;have bj:=jA u2;rcases hy2:eU 1 u2 with⟨a3,u3⟩;rw[hy2]at ar bi bj;simp only at ar bi bj;clear bh;go_wp2_with fail;apply ar.mono;rintro e v3 ⟨rfl,ad,a'⟩;have aB:=h!<|a9.trans a';clear ar a' a9;have au:=s9 base B S _ a3 v3 ad hS o!;rcases hy3:iy a3 u3 with⟨c4,u4⟩;rw[hy3]at au;simp only at au;clear ad;go_wp2_with fail;apply au.mono;rintro e v4 ⟨rfl,bk,aC⟩;have aD:=h!<|aB.trans aC;clear au aC aB;have av:=kD base B S _ 3 v4 bk hS o!;have bl:=rO 3 u4 o!;rcases hy4:eU 3 u4 with⟨a5,u5⟩;rw[hy4]at av bl;simp only at av bl;clear bk;go_wp2_with fail;apply av.mono;rintro e v5 ⟨rfl,bm,aE⟩;have aF:=h!<|aD.trans aE;clear av aE aD;have aw:=kD base B S _ 1 v5 bm hS o!;have bn:=rO 1 u5 o!;have bo:=jA u5;rcases hy5:eU 1 u5 with⟨a6,u6⟩;rw[hy5]at aw bn bo;simp only at aw bn bo;clear bm;go_wp2_with fail;apply aw.mono;rintro e v6 ⟨rfl,aK,aG⟩;have bp:=h!<|aF.trans aG;clear aw aG aF
    have HY:J?<|D5 (y? r,A)=(u6,A++[⟨c2,f?,c4,(a5:Int),(a6:Int)⟩]):=by show D5 _=_;unfold D5 fe;simp only[hy0,hy1,hy2,hy3,hy4,hy5]
    have ce:=h! aK;obtain⟨q1,q2,vA,⟨pp,hh,bI,bq⟩,ae⟩:=id aK;obtain⟨aA,cA,rfl,cf⟩:=dK ae;have bJ:C? v6 ⟨B,3,x?⟩=y? (.slice aA A.length cA):=by rw[dx hh];rfl
    have cg:l? A<=100000:=by unfold gZ at hrS;simp only at hrS;omega
    have aL:J?<|R? v6 base 202 5 (.slice aA A.length cA) A.length<|dG A:=ae;have aM:J?<|v6.1[B]?=y? (c? #[s? S,n? _ pp,.bool u6.isNone,.slice aA A.length cA] 259 _):=hh;have bK:J? (∀r',u6=y? r'->S.1.1.drop pp=r'):=bq;clear aK hh ae hy0 hy1 hy2 hy3 hy4 hy5 bq;go_wp2_with (at_builtin;go_must (refine gE _ q? _ _ 75 q? base 202 i5 _ 5 56 oT b9 b' bA bB q? d! _ _ _ q? (aL.alloc _) _ 1 (e9 ⟨c2,f?,c4,a5,a6⟩) q? ?cr ?c0 ?c1 ?c2 ?c3 ?_))
    case cr=>exact Za5 rfl
    case c0=>intro u hu;simp[e9]at hu;obtain rfl|rfl|rfl|rfl|rfl:=hu<;>rfl
    case c1=>omega
    case c2=>unfold la;omega
    case c3=>simp;omega
    intro v7 w7 aN U _;obtain⟨a7,c7,rfl,ci⟩:=dK aN;have bL:=(AI.1 aM).1
    have ax:w7.1[B]?=y? (c? #[s? S,n? i? pp,.bool u6.isNone,.slice aA A.length cA] 259 (0,0)):=by rw[U.5 B j!<|λe=>fC aM.o aL.o d! e.symm,e! _ _ _ bL];exact aM
    have bU:C? w7 ⟨B,3,x?⟩=y? (.slice aA A.length cA):=by rw[dx ax];rfl
    have bV:=dO ax 3;have bM:=h!<|((bp.trans<|(nr base v6).alloc q2 _)).trans ⟨U.1,U.2,U.3,U.4,λj hj=>U.5 j j! (λe=>by have:=(aL.lt j e.symm).1;omega)⟩;have br:=h! ax;have bs:=h! aN;have cj:base<=w7.1.size:=by have:=U.4;simp at this;omega
    clear aN U ax bJ;go_wp2;go_roundw
    .refine⟨k+1,D5 (y? r,A),o!,by go_num,?_,?_,?_,ZE (K1 i!) hrS⟩;have:=aJ.o;rw[(o!:n-k=(n-(k+1))+1)]at this;simpa[mP]using this;rw[HY.o];refine⟨q1,by simp[m4];omega,.slice a7 _ c7,⟨pp,by rw[heap_set br.o];rfl,bI,bK⟩,?_⟩;have e1:dG (A++[⟨c2,f?,c4,(a5:Int),(a6:Int)⟩])=dG A++e9 ⟨c2,f?,c4,(a5:Int),(a6:Int)⟩:=by simp[dG]
     simp only[e1,Zh,w!,F!];exact dJ bs (λj hj=>ZH _ _ _ _<|λe=>fC br bs d!<|by rw[hj,e]);exact n6 bM q1 _
    exact M!
   simp only[op]at a0;have ao:D=(x?,A):=by rw[<-aJ.o,mF]
  all_goals
   have bt:gZ D<=100000:=by rwa[ao]
   have aO:na base wr B S D:=by rwa[ao]
   clear ao an;have ck:=h! aO;have ay:=kD base B S D 1 wr aO hS o!;have bu:=jA D.1;rcases hx5:eU 1 D.1 with⟨V,t5⟩;rw[hx5]at ay bu;simp only at ay bu;have bv:=h! hx5;clear hx5 aO;go_wp2_with fail;apply ay.mono;rintro e x1 ⟨rfl,ac,aH⟩;have af:=h!<|ab.trans aH;have aP:=h! ac
   have aQ:J? (jX (f+1) J s=if 0<V/\30<J then(x?,D.2)else nt (jX f<|J+1) V (t5,D.2)):=by show jX _ _ _=_;unfold jX;simp only[HX.o,<-HD.o,bv.o]
   have bN:gZ (t5,D.2)<=100000:=by have h1:=lS 1 D.1;rw[bv.o]at h1;have h2:gZ (t5,D.2)<=gZ D:=py h1;have h3:=bt;omega
   clear ay aH ac;by_cases aR:0<V
   .have bW:(0:Int)<(V:Int):=o!;by_cases bw:30<J
    .have bO:(30:Int)<(J:Int):=o!;obtain⟨b0,cn,bP,⟨bQ,ag,b1,b3⟩,W⟩:=aP.o;have bX:C? x1 ⟨B,2,x?⟩=y? (.bool t5.isNone):=by rw[dx ag];rfl
     have bY:=dO ag 2
     have HF:J?<|na base (x1.setCell ⟨B,2,x?⟩<|.bool t?) B S (x?,D.2):=by refine⟨b0,by simp[m4];omega,bP,⟨bQ,by rw[heap_set ag];rfl,b1,λr h=>by cases h⟩,?_⟩;exact dJ W (λj hj=>ZH _ _ _ _<|λe=>fC ag W d!<|by rw[hj,e])
     have bR:J?<|Below base w<|x1.setCell ⟨B,2,x?⟩<|.bool t?:=n6 af b0 _;have O:J?<|jX (f+1) J s=(x?,D.2):=h!<|by rw[aQ.o,if_pos ⟨aR,bw⟩]
     clear ag b3 W;go_wp2_with fail;apply ZI 1;rw[h?];go_wp2;go_end0;refine⟨q?,?_,bR⟩;rw[O.o];exact HF
    have bO:¬(30:Int)<(J:Int):=o!;obtain⟨G,hG⟩:∃G,G=nt (jX f<|J+1) V (t5,D.2):=⟨_,q?⟩;have HG:=h! hG;have O:J?<|jX (f+1) J s=G:=h!<|by rw[aQ.o,if_neg<|λh=>bw h.2,hG]
    have bS:0<f:=o!;clear hG;go_wp2_with fail;go_loopw [10] (λi wr=>∃(k:Nat)(s':jw),k<=V/\i=n? i? k/\nt (jX f (J+1)) (V-k) s'=G/\na base wr B S s'/\Below base w wr/\gZ s'<=100000) (λi _=>V-(intOf i).toNat);exact⟨0,_,ZP _,q?,HG.symm,aP,af,bN⟩;obtain⟨k,s',hk,rfl,aI,Y,b4,b5⟩:=hrel;have ah:=Y.bad;have aS:=h! aI;have aT:=h! b4;clear aI b4;by_cases bZ:k<V
    .have aU:(k:Int)<(V:Int):=o!;obtain⟨u0,A⟩:=s'
     cases u0 with
     |none=>
      simp only[op]at ah;have aV:J?<|G=(x?,A):=by show G=_;rw[<-aS.o,oc]
      have aW:=h! Y;clear Y;go_wp2;go_end0;refine⟨q?,?_,aT⟩;rw[O.o,aV.o];exact aW
     |some r=>
      simp only[oo]at ah;have ai:=b8.o (J+1) _ wr Y o! bS b5;have cq:IntKind.i64.wrap ((J:Int)+1)=((J+1:Nat):Int):=by simp only[X?];omega
      clear Y;go_wp2_with fail;apply ai.mono;rintro e x3 ⟨rfl,ad,aa⟩;have bT:=h! ad;have b6:=h!<|aT.trans aa;clear ai ad aa;go_wp2;go_roundw
      .refine⟨k+1,jX f (J+1) (y? r,A),o!,by go_num,?_,bT,b6,ZE (EM _ _ _) b5⟩;have:=aS.o;rw[(o!:V-k=(V-(k+1))+1)]at this;simpa[nt]using this
      exact M!
    have aU:¬(k:Int)<(V:Int):=o!;have aV:J?<|G=s':=by show G=_;rw[<-aS.o,(o!:V-k=0)];rfl
    have aW:=h! Y;clear Y;go_wp2;go_end0;refine⟨q?,?_,aT⟩;rw[O.o,aV.o];exact aW
   obtain rfl:V=0:=o!;have O:J?<|jX (f+1) J s=(t5,D.2):=h!<|by rw[aQ.o,if_neg<|λh=>aR h.1];rfl
   clear aR;go_wp2_with fail;apply ZI 1;rw[h?];go_wp2;go_end0;refine⟨q?,?_,af⟩;rw[O.o];exact aP
def ym(x:Wd)(h:l? x<=1048576):∃P:b?,(P.1.1=dM x/\P.size<=1048577)/\∀w,ld prog 149 #[s? ⟨a? x⟩] w λe w'=>e=e? (s? P)/\gR w w':=by refine⟨⟨(dM x).toArray⟩,⟨q?,?_⟩,λw=>Ex _ w ?_⟩;show(dM x).toArray.size<=_;simp[dM];omega;show x.toArray.size<=_;simp;omega
def EE(n)(B : -9223372036854775808<=n)(J:n<=9223372036854775807):∃P:b?,(P.1.1=gK n/\P.size=3)/\∀w,ld prog 202 #[n? i? n] w λe w'=>e=e? (s? P)/\gR w w':=
 ⟨⟨(gK n).toArray⟩,⟨q?,q?⟩,λw=>Pu n w B J⟩
def wrap_u8(n):IntKind.u8.wrap n=n % 256:=by simp[vt,vx,v9]
def rn(h:C? o ⟨f,0,x?⟩=y? (n? .u8<|IntKind.u8.wrap y6)):(convert 60 9<|.slice (y? ⟨f,0,x?⟩) 1 1).run prog o=.ok (s? ⟨#[u8 y6]⟩) o:=by
 rw[wrap_u8]at h;rw[run_convert_bytes_string o _ _ _ _ _ _ underlying60 underlying5 oC]
 have O:=run_loadCells_list (P:=prog) o _ (eX [u8 y6]) (λj u B=>by
  rw[l5]at B;match j,B with
  |0,B=>simp at B;rwa[<-B]|j+1,B=>simp at B)
 have J:(loadCells ⟨f,0,x?⟩ 1).run prog o=.ok ((([u8 y6].map λc=>(c.toNat:Int)).map<|Value.int .u8).toArray) o:=by
  have e:eX [u8 y6]=([u8 y6].map λc=>(c.toNat:Int)).map (Value.int .u8):=by simp[eX]
  rwa[<-e]
 rw[run_bytesToString o _ _ _ _ J,Ct];simp
def AL(ch:W?):Array v?:=(du ch).toArray
def WJ:AL (List.replicate 256 [])=zeroCells255:=by kernel_rfl
def lN(w wr:w?)(ch:W?):Prop:=wr.1[w.1.size]?=y? (c? (AL ch) 255 (0,0))
def zF(h)(hb:ji (dF C[f]) y4=f?):ma (C.take<|f+1) y4=ma (C.take f) y4/\gF (C.take<|f+1) y4=gF (C.take f) y4/\eZ C y4 (f+1)=eZ C y4 f:=by
 have B:(dF C[f]==y4)=f?:=by rw[beq_eq_false_iff_ne];intro e;have:ji (dF _) y4=t?:=(fy _ _).2 (by rw[e];exact gc _);rw[hb]at this;cases this
 unfold ma gF eZ;rw[IS h,Zj,Zj,b!];refine⟨?_,?_,?_⟩;simp[hb];simp[B];show tr C y4 _ C[f]=_;unfold tr;rw[if_neg (by rw[hb];simp)]
def sW{p}(h)(hb:dF C[f]=p):ma (C.take<|f+1) p=ma (C.take f) p++[C[f]]/\gF (C.take<|f+1) p=gF (C.take f) p++[C[f]]/\eZ C p (f+1)=eZ C p f:=by have B:ji (dF _) p=t?:=(fy _ _).2 (by rw[hb];exact gc _);unfold ma gF eZ;rw[IS h,Zj,Zj,b!];refine⟨?_,?_,?_⟩;simp[B];simp[beq_iff_eq.2 hb];show tr C p _ C[f]=_;unfold tr;rw[if_neg (by rw[hb];simp)]
def qD(h)(hb:ji (dF C[f]) y4=t?)(J:dF C[f]≠y4):ma (C.take<|f+1) y4=ma (C.take f) y4++[C[f]]/\gF (C.take<|f+1) y4=gF (C.take f) y4/\
  eZ C y4 (f+1)=(eZ C y4 f).set ((dF C[f]).getD y4.length 0).toNat ((dF C[f]).take<|zv C (dF C[f])<|l? y4+1):=by
 have B:(dF C[f]==y4)=f?:=by rwa[beq_eq_false_iff_ne]
 unfold ma gF eZ;rw[IS h,Zj,Zj,b!];refine⟨?_,?_,?_⟩;simp[hb];simp[B];show tr C y4 _ C[f]=_;unfold tr;rw[if_pos ⟨hb,J⟩]
def Uo(h:∀e∈C,oX e)(B:x2.1.1=(gF (C.take f) y4).flatMap lH):x2.size<=f*2097160:=by
 have U:=Kh (gF (C.take f) y4)<|λe J=>h e<|Za (Zb.1 J).1
 have O:(gF (C.take f) y4).length<=f:=by have:=No (λe=>dF e==y4)<|C.take f;unfold gF;simp at this⊢;omega
 have V:=congrArg et B;have W:l? x2.1.1=x2.size:=i!;have:=IN 2097160 O;omega
def QC(l:E?)(e:eE):gJ (l++[e])=if gJ l<e.4 then e.4 else gJ l:=by unfold gJ;rw[b!];rfl
def lN.ext(h:lN o p x1)(B:gR p x4):lN o x4 x1:=by unfold lN at *;rwa[Below.block B _ (AI.1 h).1]
def Uz{e}(h:x2.1.1=C.flatMap lH)(B:y3.1.1=dM e.1/\y9.1.1=dM e.3/\z0.1.1=gK e.4) :
  (x2++y3++y9++z0++⟨#[u8 e.5]⟩).1.1=(C++[e]).flatMap lH:=by
 simp only[o0,j1,h,B.1,B.2.1,B.2.2,Z!,c!,List.flatMap_nil,Z6,lH,Zq]
def Tq(l:E?)(s)(n):n<=zv l s n:=by unfold zv;omega
def YO(l:E?)(p):∀k,k<=l? l->∀q∈eZ l p k,q≠[]->∃e∈l,q <+: dF e/\l? p<l? q:=by
 intro k;induction k with
 |zero=>intro _ q J B;simp only[eZ,List.take_zero,List.foldl_nil,List.mem_replicate]at J;exact absurd J.2 B|succ k U=>
  intro W q J B;have O:k<l? l:=o!;by_cases hb:ji (dF l[k]) p=t?;by_cases V:dF l[k]=p;rw[(sW O V).2.2]at J;exact U o! q J B;rw[(qD O hb V).2.2]at J;obtain h|h:=e6 J
  exact U o! q h B;refine⟨l[k],Zw O,by rw[h];exact List.take_prefix _ _,?_⟩;have Y:=oz ((fy _ _).1 hb) V;have h2:=Tq l (dF l[k])<|l? p+1;rw[h,cX];omega;rw[(zF O<|u! hb).2.2]at J;exact U o! q J B
def uK(l:E?)(p)(k):(eZ l p k).length=256:=by
 unfold eZ;generalize l.take k=m
 have:∀(m:E?)(ch:W?),l? ch=256->(m.foldl (tr l p) ch).length=256:=by
  intro m;induction m with
  |nil=>intro ch h;exact h|cons e m B=>intro ch h;rw[G?];apply B _;unfold tr;split;rwa[cK];exact h
 exact this m _ List.length_replicate
def kJ(l:E?)(p:Wd)(k:Nat):List Wd:=((eZ l p l.length).take k).filter λq=>!q.isEmpty
def MO(l:E?)(p):kJ l p 256=pF l p:=by unfold kJ pF;rw[If (by rw[uK];omega)]
def JE(l:E?)(p)(k)(h):kJ l p (k+1)=kJ l p k++(if(eZ l p l.length)[k].isEmpty=t? then []else [(eZ l p l.length)[k]]):=by unfold kJ;rw[IS h,Zj,List.filter_cons,List.filter_nil];congr 1;cases(eZ l p l.length)[k].isEmpty<;>simp
def Md(l:E?)(p)(k)(g:Wd->Wd):((kJ l p k).flatMap g).length<=((pF l p).flatMap g).length:=by
 unfold kJ pF
 have e:(eZ l p l.length).filter (λq=>!q.isEmpty)=((eZ l p l.length).take k).filter (λq=>!q.isEmpty)++((eZ l p l.length).drop k).filter (λq=>!q.isEmpty):=by rw[<-Zj,List.take_append_drop]
 rw[e,Z!,Zh];omega
def NZ(h:lN o p x1)(k)(hk):C? p ⟨o.1.size,k,x?⟩=y? (s? ⟨x1[k].toArray⟩):=by unfold lN at h;rw[dx h];simp[AL,du,hk]
def lN.set(h:lN o p x1)(k)(q:b?):lN o (p.setCell ⟨o.1.size,k,x?⟩<|s? q)<|x1.set k q.1.1:=by unfold lN at *;rw[heap_set h];congr 2;unfold AL;apply kc.1;rw[Array.toList_setIfInBounds];simp[du,List.map_set]
def Wm{a}(B:x2.1.1=dM (y4.drop a.length))(J:y3.1.1=gK (gJ<|ma C y4))(O:y9.1.1=(gF C y4).flatMap lH)(hb:z0.1.1=(pF C y4).flatMap λq=>mu f C q y4) :
  x2++y3++⟨#[u8 (gF C y4).length]⟩++y9++⟨#[u8 (pF C y4).length]⟩++z0=⟨(mu (f+1) C y4 a).toArray⟩:=by
 apply o7;apply kc.1;simp only[o0,j1,B,J,O,hb,mu,Zq,B!,E!]
def R8(l:E?)(h:∀e∈l,e.4<=9223372036854775807):gJ l<=9223372036854775807:=by
 unfold gJ
 have:∀(l:E?)(g:Int),(∀e∈l,e.4<=9223372036854775807)->g<=9223372036854775807->l.foldl (λg e=>if g<e.4 then e.4 else g) g<=9223372036854775807:=by
  intro l;induction l with
  |nil=>intro g _ B;exact B|cons e l J=>intro g h B;rw[G?];apply J _ (λx O=>h x<|by simp[O]);split;exact h e i!;exact B
 exact this l 0 h o!
def LQ(J:∀e∈C,oX e)(B:l? C<=1048576)(O:f<=2097152)(p a:Wd)(U:l? p<=1073741824):(dM<|p.drop a.length).length+3+1+((gF C p).flatMap lH).length+1+((pF C p).flatMap λq=>mu f C q p).length<=7000000000000000000:=by have h:=Cy (f+1) C p a J;rw[mu]at h;simp only[Zh,w!]at h;have V:(gK<|gJ<|ma C p).length=3:=rfl;have W:(f+1)*(l? C*3145743)<=2097153*(1048576*3145743):=hU o!<|IN _ B;omega
def GM{ops}{C:w?->Prop}{a:Act}{K:(w?->Prop)->Act->Prop}(v)
  (h:∀g,K (λy=>C y/\C? y ⟨g,0,x?⟩=y? v)<|a.put x7.1<|.slice (y? ⟨g,0,x?⟩) 1 1) (O:ops[i]?=y? x7:=by rfl) (hC:gp gR C:=by first|exact fK _|exact(fK _).and<|eL _ _)
  (U:sA x7 (lo ops a.1)=t?:=by rfl) (B:∀y,C y->lO y1 x7 a y (λu J=>gR y J/\u=.slice (y? ⟨y.1.size,0,x?⟩) 1 1/\C? J ⟨y.1.size,0,x?⟩=y? v):=by intro y B;unfold lO;go_simp;exact⟨gR.alloc _ _,q?,by rw[Zl _ _ _ _ rfl];rfl⟩):N4 gR y1 ops i C K a:=
 Gu (λg=>.slice (y? ⟨g,0,x?⟩) 1 1) (λg y=>C? y ⟨g,0,x?⟩=y? v) O hC (λ_=>eL _ _) U B h
def Mi{ops B Q listed}{C:w?->Prop}{a:Act}(v)
  (h:∀g,WX gR y1 B ops Q f (S? listed i t?) (λy=>C y/\C? y ⟨g,0,x?⟩=y? v)<|a.put x7.1<|.slice (y? ⟨g,0,x?⟩) 1 1) (U:s8 B ops listed=[i]:=by kernel_rfl) (V:ops[i]?=y? x7:=by rfl)
  (hC:gp gR C:=by first|exact fK _|exact(fK _).and<|eL _ _) (W:sA x7 (lo ops a.1)=t?:=by rfl) (J:∀y,C y->lO y1 x7 a y (λu O=>gR y O/\u=.slice (y? ⟨y.1.size,0,x?⟩) 1 1/\C? O ⟨y.1.size,0,x?⟩=y? v):=by intro y J;unfold lO;go_simp;exact⟨gR.alloc _ _,q?,by rw[Zl _ _ _ _ rfl];rfl⟩):WX gR y1 B ops Q (f+1) listed C a:=
 GR U i! λj Y=>by
  obtain rfl:j=i:=by simpa using Y
  exact GM v h V hC W J
def jr{ops md Q}(i)(v){listed}{C:w?->Prop}{a}(B:∀y,C y->lO y1 x7 a y (λu J=>gR y J/\u=v))
  (h:WX gR y1 md ops Q f (S? listed i t?) C<|a.put x7.1 v) (O:ops[i]?=y? x7:=by rfl)
  (U:sB ops=t?:=by kernel_rfl) (V:te md ops listed i=t?:=by kernel_rfl) (W:(s8 md ops listed).contains i=t?:=by kernel_rfl) (hC:gp gR C:=by first|exact(fK _).and<|eL _ _|exact((fK _).and<|eL _ _).and<|eL _ _)
  (Y:sA x7 (lo ops a.1)=t?:=by rfl):WX gR y1 md ops Q (f+1) listed C a:=dA i v B h O U V W hC Y
def Sv(l:E?)(hr:∀e∈l,oX e)(a9:l? l<=1048576):∀(f)(p a:b?)(v)(w),f<=2097152->jB w 5 v l.length (dG l)->(∀e∈l,(dF e).length<=f+p.size)->a.size<=p.size->p.size<=1073741824->
  ld prog 150 #[v,s? p,s? a] w λe w'=>e=e? (s? ⟨(mu (f+1) l p.1.1 a.1.1).toArray⟩)/\B? w w':=by
 intro f;induction f using ip with
 |ind f ih=>
 intro p ah v w a' hv ad bC bD;have aA:=a9;obtain⟨a,cap,rfl,hc,hm,_,_⟩:=id hv;have HV:=h! hv;have HT:=h! hr;have HD:=h! ad;have HI:=h! ih;clear hv hr ad ih;unfold la at hm;go_enter func150,ntmps150;go_wp2;go_loopw [7,8,9,11] (λg o c i wr=>∃(k:Nat)(ob:b?),k<=l? l/\i=n? i? k/\g=n? i? (gJ (ma (l.take k) p.1.1))/\o=s? ob/\ob.1.1=(gF (l.take k) p.1.1).flatMap lH/\c=n? i? (gF (l.take k) p.1.1).length/\lN w wr (eZ l p.1.1 k)/\B? w wr) (λ_ _ _ i _=>l? l-(intOf i).toNat)
 case atStart=>exact⟨0,⟨#[]⟩,ZP _,q?,q?,q?,q?,q?,by unfold lN;rw[<-WJ];exact U! w _,(nr _ _).alloc (Zu _) _⟩
 case round=>
  obtain⟨k,ob,hk,rfl,rfl,rfl,aB,rfl,W,B⟩:=hrel;have HO:=h! aB;have HN:=h! W;clear aB W;have HS:=B.4;have ao:=Uo HT HO
  have aX:(gF (l.take k) p.1.1).length<=k:=by have:=No (λe=>dF e==p.1.1)<|l.take k;unfold gF;simp at this⊢;omega
  by_cases V:k<l? l
  .obtain⟨b,off,rfl,c0,c1,c2,c3,c4⟩:=jo (HV.below B) k V;let ⟨r1,r2,⟨r3,r4⟩,r5,r6⟩:=HT.o _<|Zw V
   have aY:(⟨l[k].3.toArray⟩:b?).size<=1099511627776:=by show l[k].3.toArray.size<=_;simp;omega
   go_wp2_with fail;apply (pZ _ _ aY).mono;rintro e w1 ⟨rfl,Y⟩;obtain⟨J,ak⟩:∃J:b?,J=⟨(dF l[k]).toArray⟩:=⟨_,q?⟩;have ap:(⟨(dP (⟨l[k].3.toArray⟩:b?).1.1).toArray⟩:b?)=J:=by rw[ak];rfl
   have HK:J?<|J.1.1=dF l[k]:=h!<|by rw[ak]
   have b':J.size<=1048576:=by rw[ak];show(dF l[k]).toArray.size<=_;unfold dF;rw[eg,eB];omega
   rw[ap];clear ak ap;have aw:=B.trans<|Y.mono HS;have HN1:=h!<|HN.ext Y;have d0:=Z0 Y c0;have d2:=Z0 Y c2;have d3:=Z0 Y c3;have d4:=Z0 Y c4;clear c0 c1 c2 c3 c4 HN;go_wp2_with fail;apply g!<|sP J p w1
   cases ax:ji J.1.1 p.1.1 with
   |false=>
    have hB:ji (dF l[k]) p.1.1=f?:=by rwa[<-HK.o]
    let ⟨s1,s2,s3⟩:=zF V hB;have HX:J?<|ma _ _=ma _ _/\gF _ _=gF _ _/\eZ l _ _=eZ l _ k:=⟨s1,s2,s3⟩;clear ax hB s1 s2 s3;go_wp2;go_roundw
    case rel=>exact⟨k+1,ob,o!,by go_num,by rw[HX.1],q?,by rw[HX.2.1];exact HO,by rw[HX.2.1],by rw[HX.2.2];exact HN1,aw⟩
    case measure=>exact M!
   |true=>
    have HB:J?<|ji (dF l[k]) p.1.1=t?:=h!<|by rwa[<-HK.o]
    have aC:=mZ<|ma (l.take k) p.1.1
    have hA:ma (l.take<|k+1) p.1.1=ma (l.take k) p.1.1++[l[k]]:=by by_cases al:J.1.1=p.1.1;exact(sW V<|by rwa[<-HK.o]).1;exact(qD V HB<|by rwa[<-HK.o]).1
    have HMX:J? (gJ (ma (l.take<|k+1) p.1.1)=if gJ (ma (l.take k) p.1.1)<l[k].4 then l[k].4 else gJ (ma (l.take k) p.1.1)):=h!<|by rw[hA,QC]
    clear hA;by_cases al:J.1.1=p.1.1
    .have aZ:(J.toList==p.toList)=t?:=by rw[X!,X!,al];simp
     let ⟨_,s2,s3⟩:=sW V (p:=p.1.1) (by rwa[<-HK.o]);have HX:J?<|gF _ _=gF _ _++[l[k]]/\eZ l _ _=eZ l _ k:=⟨s2,s3⟩;clear ax al s2 s3;let ⟨U,g1,C1⟩:=ym _ r1;let ⟨P2,g2,C2⟩:=ym _ r2;let ⟨P3,g3,C3⟩:=EE _ r3 r4;have ay:=h! C1;have az:=h! C2;have ba:=h! C3;clear C1 C2 C3;have HG:J?<|U.1.1=dM _/\P2.1.1=dM _/\P3.1.1=gK _:=⟨g1.1,g2.1,g3.1⟩;have p1:=g1.2;have p2:=g2.2;have p3:=g3.2;clear g1 g2 g3;have f2:(ob++U).size=ob.size+U.size:=ow;have f3:(ob++U++P2).size=ob.size+U.size+P2.size:=by rw[ow,ow]
     have f4:(ob++U++P2++P3).size=ob.size+U.size+P2.size+P3.size:=by rw[ow,ow,ow]
     have bc:¬(9223372036854775807<ob.size+U.size):=o!;have bd:¬(9223372036854775807<ob.size+U.size+P2.size):=o!;have bf:¬(9223372036854775807<ob.size+U.size+P2.size+3):=o!;have bg:¬(9223372036854775807<ob.size+U.size+P2.size+3+1):=o!;have bE:(k:Int)<(l? l:Int):=o!;have HB2:=h! aw;have bh:=HD;have bi:=HI;clear HD HI Y B;by_cases hw:gJ (ma (l.take k) p.1.1)<l[k].4
     all_goals
      go_wp2_with fail;refine j0 k! ?_;refine dA 0 ?_ ?_<|dA 1 ?_ ?_<|dA 2 ?_ ?_<|dA 3 ?_ ?_<|dA 4 ?_ ?_<|dA 5 ?_ ?_ ?_
      any_goals(intro y O;have q:=Z0 O d0;exact no_implicit_lambda%x!)
      refine dA 6 ?_ ?_ ?_;rotate_left
      .intro y O;exact no_implicit_lambda%(z!<|ay y)
      refine dA 7 ?_ ?_<|dA 8 ?_ ?_<|dA 9 ?_ ?_<|dA 10 ?_ ?_<|dA 11 ?_ ?_<|dA 12 ?_ ?_ ?_
      any_goals(intro y O;have q:=Z0 O d2;exact no_implicit_lambda%x!)
      refine dA 13 ?_ ?_ ?_;rotate_left
      .intro y O;exact no_implicit_lambda%(z!<|az y)
      refine dA 14 ?_ ?_<|dA 15 ?_ ?_<|dA 16 ?_ ?_<|dA 17 ?_ ?_<|dA 18 ?_ ?_<|dA 19 ?_ ?_ ?_
      any_goals(intro y O;have q:=Z0 O d3;exact no_implicit_lambda%x!)
      refine dA 20 ?_ ?_ ?_;rotate_left
      .intro y O;exact no_implicit_lambda%(z!<|ba y)
      refine dA 21 ?_ ?_<|dA 22 ?_ ?_<|dA 23 ?_ ?_<|dA 24 ?_ ?_<|dA 25 ?_ ?_<|dA 26 ?_ ?_<|dA 27 ?_ ?_ ?_
      any_goals(intro y O;have q:=Z0 O d4;exact no_implicit_lambda%x!)
      refine Mi (i:=28) (n? .u8 _) λg=>?_;refine jr 29 ?_ ?_<|jr 30 ?_ ?_<|jr 31 ?_ ?_ ?_
      any_goals(intro y O;have q:=rn O.2;exact no_implicit_lambda%x!)
      refine qF k! ?_ _;intro y O;have a0:=h!<|HB2.trans<|Below.mono O.1 HB2.4;have bj:=h!<|HN1.ext O.1;clear O;have HD:=bh;have HI:=bi;go_wp2;go_roundw
      case rel=>refine⟨k+1,_,o!,by go_num,by rw[HMX.o];first|rw[if_pos hw]|rw[if_neg<|sm.2 hw],q?,?_,?_,by rw[HX.2];exact bj,a0⟩;rw[HX.1];exact Uz HO HG;rw[HX.1,Zh];go_num
      case measure=>exact M!
    have aZ:(J.toList==p.toList)=f?:=by rwa[X!,X!,beq_eq_false_iff_ne]
    clear ax
    have aD:p.size<J.size:=by have h1:=oz ((fy _ _).1 HB) (by rwa[<-HK.o]);rw[<-HK.o]at h1;have e1:l? p.1.1=p.size:=i!;have e2:l? J.1.1=J.size:=i!;omega
    have aE:J?<|dF l[k]≠p.1.1:=h!<|by rwa[<-HK.o]
    clear al;have HB2:=h! aw;have bk:J? (∀y,Below _ w y->jB y 5 _ _ _):=λy O=>HV.below O;clear Y B d0 d2 d4 HS ao;by_cases hw:gJ (ma (l.take k) p.1.1)<l[k].4
    all_goals
     go_wp2;go_loopw [14] (λnv wr=>∃n:Nat,nv=n? i? n/\p.size+1<=n/\n<=J.size/\(∀i,p.size+1<=i->i<n->iP l (J.1.1.take i)=f?)/\lN w wr (eZ l p.1.1 k)/\B? w wr) (λn _=>J.size-(intOf n).toNat)
     case atStart=>exact⟨p.size+1,by go_num,o!,o!,λi hi On=>o!,HN1,HB2⟩
     case round=>
      obtain⟨n,rfl,bF,hn,aF,W,B⟩:=hrel;have HJ:=h! aF;have aG:=h! W;have hz:=B.4;have aH:=MD _ l (J.extract 0 n) wr (bk wr B) (λe he=>by have:=(HT e he).2.1;omega);rw[xT]at aH;have aI:=h! B;have aJ:J?<|ld prog 203 #[.slice (y? ⟨b,off,x?⟩) l.length cap,s?<|J.extract 0 n] wr λe w'=>e=e? (.bool<|iP l<|J.1.1.take n)/\B? wr w':=h!<|by rwa[xT]
      clear aF W B aH;have bG:(n:Int)<=(J.size:Int):=o!;go_wp2_with fail;apply aJ.mono;rintro e w4 ⟨rfl,a1⟩;have a2:=h!<|aI.trans<|a1.mono hz;have ae:=h!<|aG.ext a1;clear a1 aJ aI aG hz
      cases af:iP l (J.1.1.take n)with
      |false=>
       have bA:n<J.size:=by
        obtain h|h:=H! n J.size
        exact h;exfalso;rw[If j!,HK.o,Ij V rfl]at af;cases af
       have bl:=h! af;clear af;go_wp2;go_roundw
       case rel=>exact⟨n+1,by go_num,o!,o!,λi hi On=>by
        obtain h|h:=H! i n
        exact HJ i hi h;have:i=n:=o!
        subst this;exact bl,ae,a2⟩
       case measure=>exact M!
      |true=>
       have bm:J?<|eZ l p.1.1 (k+1)=(eZ l p.1.1 k).set ((dF l[k]).getD p.1.1.length 0).toNat (J.1.1.take n):=by show _=_;rw[(qD V HB.o aE.o).2.2,<-HK.o];congr 2;unfold zv;have bn:l? p.1.1=p.size:=i!;rw[bn,lT _ _ (n-(p.size+1)) j! (λi hi=>?_)<|λhi=>?_];omega;simp only[dB,Bool.not_eq_true'];exact HJ _ o! o!;simp only[dB,Bool.not_eq_false'];rwa[(o!:p.size+1+(n-(p.size+1))=n)]
       have aK:=h!<|(qD V HB aE).2.1;clear af;have bH:(p.size:Int)<(J.size:Int):=o!;have bo:J[p.size].toNat<256:=UInt8.toNat_lt _;have aW:(J[p.size].toNat:Int)<256:=o!;obtain⟨ov,bp⟩:∃ov:b?,C? w4 _=y? _:=⟨_,NZ ae _<|by rwa[uK]⟩;have bq:w4.frozen? ⟨w.1.size,J[p.size].toNat,x?⟩=f?:=dO ae _;go_wp2;refine wp_region_held (S:=λw'=>True) k! ?_;refine gf 0 ?_ trivial ?_<|gf 1 ?_ trivial ?_<|gf 2 ?_ trivial ?_<|gf 3 ?_ trivial ?_<|gf 4 ?_ trivial ?_<|gf 5 ?_ trivial ?_<|gf 6 ?_ trivial ?_<|gf 7 ?_ trivial ?_ ?_
       any_goals(rintro w' _;exact n!)
       refine kY 8 λK' aL=>?_;unfold Oper.wp;go_simp;refine aL _ _ ⟨t!,wpAnyH_done k! ?_ _⟩;clear aL;have br:J?<|B? w<|w4.setCell ⟨w.1.size,J[p.size].toNat,x?⟩<|s?<|J.extract 0 n:=by exact n6 a2 (Zu _) _
       have bs:J?<|lN w (w4.setCell ⟨w.1.size,J[p.size].toNat,x?⟩<|s?<|J.extract 0 n)<|eZ l p.1.1<|k+1:=by
        show lN _ _ _;have h5:=ae.set J[p.size].toNat<|J.extract 0 n;rw[bm.o,<-HK.o];have e1:(J.extract 0 n).1.1=J.1.1.take n:=by rw[xT]
        have e2:J.1.1.getD p.1.1.length 0=J[p.size]:=by rw[AS,(i!:l? p.1.1=p.size)];simp[aD];rfl
        rw[e1]at h5;rwa[e2]
       clear ae a2 bp bq;go_wp2;go_roundw
       case rel=>exact⟨k+1,ob,o!,by go_num,by rw[HMX.o];first|rw[if_pos hw]|rw[if_neg<|sm.2 hw],q?,by rw[aK.o];exact HO,by rw[aK.o],bs,br.drew⟩
       case measure=>exact M!
  have bt:k=l? l:=o!;subst bt;rw[o?]at HO;clear V hk ao aX;rw[o?];have aq:=LQ HT aA a' p.1.1 ah.1.1 j!;have ar:=λc=>Md l p.1.1 c<|λq=>mu f l q p.1.1;have aM:=h! ar;have a3:=h! aq;have HB0:=h! B;clear aq ar B HS;go_wp2;go_loopw [16,17,18] (λbv mv cv wx=>∃(c:Nat)(be:b?),c<=256/\cv=n? i? c/\bv=s? be/\be.1.1=((kJ l p.1.1 c).flatMap λq=>mu f l q p.1.1)/\mv=n? i? (kJ l p.1.1 c).length/\lN w wx (eZ l p.1.1 l.length)/\B? w wx) (λ_ _ c _=>256-(intOf c).toNat)
  case atStart=>exact⟨0,⟨#[]⟩,ZP _,q?,q?,q?,q?,HN,HB0⟩
  case round=>
   obtain⟨c,be,bu,rfl,rfl,a4,rfl,W,B⟩:=hrel;have ag:=h! a4;have am:=h! W;have ab:=h! B
   have bB:be.size<=7000000000000000000:=by have h1:=aM.o c;have h2:=a3.o;have h3:=congrArg et a4;have h4:l? be.1.1=be.size:=i!;omega
   have bI:(kJ l p.1.1 c).length<=256:=by unfold kJ;have:=No (λq:Wd=>!q.isEmpty)<|(eZ l p.1.1 l.length).take c;simp at this;have h2:=uK l p.1.1 l.length;omega
   clear a4 W B;by_cases V:c<256
   .have bJ:(c:Int)<256:=o!;have an:c<(eZ l p.1.1 l.length).length:=by rwa[uK]
    obtain⟨q,hq⟩:∃q,q=(eZ l _ _)[c]:=⟨_,q?⟩;have au:C? wr ⟨w.1.size,c,x?⟩=y? (s? ⟨a? q⟩):=by rw[hq];exact NZ am c an
    have aN:J?<|kJ l p.1.1 (c+1)=kJ l p.1.1 c++(if q.isEmpty=t? then []else [q]):=h!<|by rw[hq];exact JE l _ c an
    have bw:J? _:=λb0=>YO l _ _ (Zu _) q (by rw[hq];exact Zw an) b0;clear hq an;by_cases ac:q=[]
    .have HK2:J?<|kJ l p.1.1 (c+1)=kJ l p.1.1 c:=h!<|by rw[aN.o,ac];simp
     subst ac;go_wp2;go_roundw
     case rel=>exact⟨c+1,be,o!,by go_num,q?,by rw[HK2.o];exact ag,by rw[HK2.o],am,ab⟩
     case measure=>exact M!
    let ⟨e0,aO,ai,a5⟩:=bw.o ac;have b1:=HD.o e0 aO;have hk0:=ai.length_le
    have aP:l? q<=1048576:=by have:=(HT e0 aO).2.1;unfold dF at hk0;rw[eB]at hk0;omega
    have b2:l? p.1.1=p.size:=i!;have b3:(⟨a? q⟩:b?).size=l? q:=rfl;have bK:0<f:=o!;have aj:=HI.o (f-1) o! ⟨a? q⟩ p _ wr o! (HV.below ab) (λe he=>by have:=HD.o e he;omega) o! o!;rw[(o!:f-1+1=f)]at aj;obtain⟨P,a6⟩:∃P:b?,P=⟨(mu f l q p.1.1).toArray⟩:=⟨_,q?⟩;have aa:ld prog 150 #[.slice a l.length cap,s? ⟨a? q⟩,s? p] wr λe w'=>e=e? (s? P)/\B? wr w':=by rwa[a6]
    have a7:=h! aa
    have HK2:J?<|kJ l p.1.1 (c+1)=kJ l p.1.1 c++[q]:=by show _=_;rw[aN.o,if_neg<|u! ac]
    have HB6:J?<|(be++P).1.1=((kJ l p.1.1<|c+1).flatMap λq=>mu f l q p.1.1):=by show _=_;rw[HK2.o,Z!,o0,j1,ag.o,a6];simp
    have bL:¬(9223372036854775807<be.size+P.size):=by have h1:=aM.o<|c+1;have h2:=a3.o;have h3:=congrArg et HB6;have h4:(be++P).1.1.length=be.size+P.size:=i!;omega
    have aQ:(⟨a? q⟩:b?).toList.isEmpty=f?:=by
     rw[X!]
     cases q with
     |nil=>exact absurd q? ac|cons x q=>rfl
    clear aj aa a6 b3 b2 b1 hk0 ai a5 aP;have hz:=ab.4;generalize (⟨a? q⟩:b?)=qb at au a7 aQ;clear ac;go_wp2_with fail;apply a7.mono;rintro e w5 ⟨rfl,a8⟩;have b4:=h!<|ab.trans<|a8.mono hz;have b5:=h!<|am.ext a8;clear a8 a7 au;go_wp2;go_roundw
    case rel=>exact⟨c+1,be++P,o!,by go_num,q?,HB6,by rw[HK2.o,Zh];go_num,b5,b4⟩
    case measure=>exact M!
   have b6:c=256:=o!;subst b6;rw[MO]at ag⊢;have aR:l? p.1.1=p.size:=i!;have av:l? ah.1.1=ah.size:=i!;have aS:=R8 (ma l p.1.1)<|λe he=>(HT e (pq.1 he).1).2.2.1.2;have aC:=mZ<|ma l p.1.1;let ⟨P2,g2,C2⟩:=EE _ o! aS
   obtain⟨U,g1,C1⟩:∃U:b?,U.1.1=dM (p.1.1.drop ah.1.1.length)/\∀w:w?,ld prog 149 #[s?<|p.extract ah.size p.size] w λe w'=>e=e? (s? U)/\gR w w':=by
    refine⟨⟨(dM<|p.1.1.drop ah.1.1.length).toArray⟩,q?,λw=>?_⟩;have h:=Ex (p.extract ah.size p.size) w j!
    have e1:(p.extract ah.size p.size).1.1=p.1.1.drop ah.1.1.length:=by rw[av,oB];simp;rw[If i!]
    rwa[e1]at h
   have ay:=h! C1;have az:=h! C2;have b7:=h!<|Wm g1 g2.1 HO ag;have p2:=g2.2;have b8:U.size=(dM<|p.1.1.drop ah.1.1.length).length:=by rw[<-g1];simp
   have aT:ob.size=((gF l p.1.1).flatMap lH).length:=by rw[<-HO.o];simp
   have aU:be.size=((pF l p.1.1).flatMap λq=>mu f l q p.1.1).length:=by rw[<-ag.o];simp
   have b9:=a3.o;have f2:(U++P2).size=U.size+P2.size:=ow;have f3:(U++P2++⟨#[u8 (gF l p.1.1).length]⟩).size=U.size+P2.size+1:=by rw[ow,ow];rfl
   have f4:(U++P2++⟨#[u8 (gF l p.1.1).length]⟩++ob).size=U.size+P2.size+1+ob.size:=by rw[ow,f3]
   have f5:(U++P2++⟨#[u8 (gF l p.1.1).length]⟩++ob++⟨#[u8 (pF l p.1.1).length]⟩).size=U.size+P2.size+1+ob.size+1:=by rw[ow,f4];rfl
   have bc:¬(9223372036854775807<U.size+3):=o!;have bd:¬(9223372036854775807<U.size+3+1):=o!;have bf:¬(9223372036854775807<U.size+3+1+ob.size):=o!;have bg:¬(9223372036854775807<U.size+3+1+ob.size+1):=o!;have bM:¬(9223372036854775807<U.size+3+1+ob.size+1+be.size):=o!;have bN:(ah.size:Int)<=(p.size:Int):=o!;have aV:=h! ab;clear b8 aT aU b9 C1 C2 g1 g2 aS aC aR av ab am V;clear HI HD;go_wp2;refine j0 k! ?_;refine dA 0 ?_ ?_<|dA 1 ?_ ?_<|dA 2 ?_ ?_<|dA 3 ?_ ?_ ?_
   any_goals(intro y O;exact no_implicit_lambda%x!)
   refine dA 4 ?_ ?_ ?_;rotate_left
   .intro y O;exact no_implicit_lambda%(z!<|ay y)
   refine dA 5 ?_ ?_ ?_;rotate_left
   .intro y O;exact no_implicit_lambda%x!
   refine dA 6 ?_ ?_ ?_;rotate_left
   .intro y O;exact no_implicit_lambda%(z!<|az y)
   refine dA 7 ?_ ?_<|dA 8 ?_ ?_<|dA 9 ?_ ?_<|dA 13 ?_ ?_<|dA 15 ?_ ?_<|dA 16 ?_ ?_<|dA 20 ?_ ?_ ?_
   any_goals(intro y O;exact no_implicit_lambda%x!)
   refine GR (rs:=[10,17]) k! i! ?_;intro i hi;simp only[Zm,List.mem_nil_iff,or_false]at hi;obtain rfl|rfl:=hi
   case' inl=>
    refine GM (n? .u8<|IntKind.u8.wrap ((gF l p.1.1).length:Int)) λg=>jr 11 ?_ ?_<|jr 12 ?_ ?_<|jr 14 ?_ ?_ ?_
    any_goals(intro y O;have q:=rn O.2;exact no_implicit_lambda%x!)
    refine Mi (i:=17) (n? .u8<|IntKind.u8.wrap ((pF l p.1.1).length:Int)) λg=>jr 18 ?_ ?_ ?_
   case' inr=>
    refine GM (n? .u8<|IntKind.u8.wrap ((pF l p.1.1).length:Int)) λg=>jr 18 ?_ ?_ ?_
    any_goals(intro y O;have q:=rn O.2;exact no_implicit_lambda%x!)
    refine Mi (i:=10) (n? .u8<|IntKind.u8.wrap ((gF l p.1.1).length:Int)) λg=>jr 11 ?_ ?_<|jr 12 ?_ ?_<|jr 14 ?_ ?_ ?_
   any_goals(intro y O;have q:=rn O.2;exact no_implicit_lambda%x!)
   all_goals
    refine jr 19 ?_ ?_<|jr 21 ?_ ?_<|jr 22 ?_ ?_ ?_
    any_goals(intro y O;exact no_implicit_lambda%x!)
    refine qF k! ?_ _;intro y O;have a0:=h! O.1.1;clear O;go_simp;go_wp2;go_ret;refine⟨xv ?_,aV.trans<|Below.mono a0 aV.4⟩;exact b7.o
def wU(l:E?)(k:Nat):List eE:=(l.take k).filter λe=>e.2
def Va(h)(B:C[f].2=t?):wU C (f+1)=wU C f++[C[f]]:=by unfold wU;rw[IS h,Zj];simp[B]
def WI(h)(B:C[f].2=f?):wU C (f+1)=wU C f:=by unfold wU;rw[IS h,Zj];simp[B]
def Je(l:E?)(k):(wU l k).length<=k:=by unfold wU;have:=No (λe:eE=>e.2)<|l.take k;simp at this⊢;omega
def Du(m:E?)(h:∀e∈m,oX e):(m.flatMap λe=>dM e.1).length<=l? m*1048577:=by
 induction m with
 |nil=>simp|cons e m B=>
  have O:=(h e i!).1;have U:=B (λx J=>h x<|by simp[J]);rw[c!,Zh,w!];have V:(dM e.1).length=l? e.1+1:=by simp[dM]
  omega
def PN(h:∀e∈C,oX e)(B:x2.1.1=(wU C f).flatMap λe=>dM e.1):x2.size<=f*1048577:=by have O:=Du (wU C f)<|λe J=>h e<|Za (Zb.1 J).1;have U:=congrArg et B;have V:l? x2.1.1=x2.size:=i!;have:=IN 1048577<|Je C f;omega
def VU(l:E?):∀e∈l,l? e.3<=(l.map λe=>l? e.3).sum:=by
 induction l with
 |nil=>intro e B;simp at B|cons x l J=>
  intro e B;rw[ZK,J!];obtain rfl|h:=Zm.1 B
  omega;have:=J e h;omega
def Gr(v)(l:E?)(w)(hv:jB w 5 v l.length<|dG l)(hr:∀e∈l,oX e)(a6:l? l<=1048576)(ag:(l.map λe=>l? e.3).sum<=1048576) :
  ld prog 109 #[v] w λe w'=>e=e? (s? ⟨(oq l).toArray⟩)/\B? w w':=by
 have HT:J? _:=λe Y=>hr e<|jG.1 Y;have aa:(eY l).length<=1048576:=by rwa[uV]
 have ah:J? (∀e∈dE _,(dF e).length<=(oU l-1)+(⟨#[]⟩:b?).size):=λe Y=>by have h1:=VU l e<|jG.1 (Zb.1 Y).1;unfold oU dF;rw[eB];show _<=_+0;omega
 have ai:oU l-1<=2097152/\oU l-1+1=oU l:=by unfold oU;omega
 obtain⟨a,cap,rfl,hc,hm,_,_⟩:=id hv;have aj:=J7 _ l w hv o!;have ab:=h! ai;clear hv hr ai ag;unfold la at hm;go_enter func109,ntmps109;go_wp2_with fail;apply aj.mono;rintro e w1 ⟨u,rfl,V,ac⟩;have aq:=ac.4;obtain⟨sl,ad⟩:∃sl,sl=eY l:=⟨_,q?⟩;rw[<-ad]at V aa HT ah;have ar:=h! ad;clear ad aj;obtain⟨a2,c2,rfl,a9⟩:=dK V;have HV:=h!<|jB.eo V;have au:=h! ac;clear V ac;go_wp2;go_loopw [4,5,6] (λsv nv iv wr=>∃(k:Nat)(O:b?),k<=l? sl/\iv=n? i? k/\sv=s? O/\O.1.1=((wU sl k).flatMap λe=>dM e.1)/\nv=n? i? (wU sl k).length/\B? w1 wr) (λ_ _ i _=>l? sl-(intOf i).toNat);exact⟨0,⟨#[]⟩,ZP _,q?,q?,q?,q?,nr _ _⟩;obtain⟨k,O,hk,rfl,rfl,ae,rfl,B⟩:=hrel;have HO:=h! ae;have a7:=PN HT ae;have av:=Je sl k;have HS:=B.4;clear ae;by_cases U:k<l? sl
 .obtain⟨b,off,rfl,c0,c1,a',c3,c4⟩:=jo (HV.below B) k U;have aA:(k:Int)<(l? sl:Int):=o!
  cases hg:sl[k].2 with
  |false=>
   have HX:=h!<|WI U hg;rw[hg]at c1;clear hg;go_wp2;go_roundw
   .exact⟨k+1,O,o!,by go_num,q?,by rw[HX.o];exact HO,by rw[HX.o],B⟩
   exact M!
  |true=>
   have HX:=h!<|Va U hg;let ⟨P1,g1,C1⟩:=ym _ (HT _<|Zw U).1;have HG:=h! g1.1;have p1:=g1.2;have aw:¬(9223372036854775807<O.size+P1.size):=o!;rw[hg]at c1;clear hg g1;have ax:=h! C1;clear C1;go_wp2_with fail;apply (ax wr).mono;rintro e w3 ⟨rfl,ak⟩;have ay:=h!<|B.trans<|Below.mono ak HS;clear ak B;go_wp2;go_roundw
   .refine⟨k+1,O++P1,o!,by go_num,q?,?_,?_,ay⟩;rw[HX.o,Z!,o0,j1,HO.o,HG.o];simp;rw[HX.o,Zh];go_num
   exact M!
 have az:k=l? sl:=o!;subst az;have al:wU sl sl.length=sl.filter λe=>e.2:=by unfold wU;rw[o?]
 rw[al]at HO av⊢;clear al U hk;have am:=pW _ sl wr (HV.below B) o!;have a0:=h!<|au.trans<|B.mono aq;have hz:=B.4;clear B;go_wp2_with fail;apply am.mono;rintro e w4 ⟨u4,rfl,af,an⟩;have ao:=h!<|a0.trans<|an.mono o!;obtain⟨a4,c4,rfl,aB⟩:=dK af;have aC:(dE sl).length<=l? sl:=No _ _;have ap:=λy (J:gR w4 y)=>Sv (dE sl) (λe Y=>HT.o e (Zb.1 Y).1) o! _ _ _ _ y ab.1 ((jB.eo af).below J) ah (Zu _) (by show 0<=_;omega);obtain⟨P2,W⟩:∃P2:b?,P2=⟨(mu (oU l) (dE sl) [] []).toArray⟩:=⟨_,q?⟩
 have a1:J? (∀y:w?,gR w4 y->ld _ 150 _ y λe w'=>e=e? (s? P2)/\gR y w'):=λy J=>by have h:=ap y J;rw[ab.2]at h;rwa[W]
 have a8:P2.size<=7000000000000000000:=by
  have h:=Cy (oU l) (dE sl) [] []<|λe Y=>HT.o e (Zb.1 Y).1;have h4:oU l*((dE sl).length*3145743)<=2097153*(1048576*3145743):=hU (v! ab.o)<|IN _ o!;have h5:P2.size=(mu (oU l) (dE sl) [] []).length:=by rw[W];rfl
  simp only[F!]at h;omega
 have a3:J?<|⟨#[u8 (sl.filter λe=>e.2).length]⟩++O++P2=(⟨(oq l).toArray⟩:b?):=by show _=_;rw[W];apply o7;apply kc.1;unfold oq;rw[<-ar.o];simp only[o0,j1,HO.o,B!,E!,dE]
 have f2:((⟨#[u8 (sl.filter λe=>e.2).length]⟩:b?)++O).size=1+O.size:=by rw[ow];rfl
 have aw:¬(9223372036854775807<1+O.size):=o!;have aD:¬(9223372036854775807<1+O.size+P2.size):=o!;clear ap W af an am;go_wp2_with fail;refine j0 k! ?_;refine dA 0 ?_ ?_ ?_;rotate_left
 .intro y J;exact x!
 refine dA 1 ?_ ?_ ?_;rotate_left
 .intro y J;exact x!
 refine dA 4 ?_ ?_ ?_;rotate_left
 .intro y J;exact x!
 refine dA 6 ?_ ?_ ?_;rotate_left
 .intro y J;exact x!
 refine dA 7 ?_ ?_ ?_;rotate_left
 .intro y J;exact z!<|a1 y J
 refine GR (rs:=[2]) k! i! ?_;intro i hi;simp only[Zg]at hi;subst hi;refine Gu (λg=>(.slice (y? ⟨g,0,x?⟩) 1 1)) (λg y=>C? y ⟨g,0,x?⟩=y? (n? .u8<|IntKind.u8.wrap<|(sl.filter λe=>e.gone).length)) q? (fK _) (λg=>(eL _ _)) l! ?_ ?_
 .intro y J;unfold lO;go_simp;exact⟨gR.alloc _ _,q?,by rw[Zl _ _ _ _ rfl];rfl⟩
 intro g;refine dA 3 ?_ ?_ ?_ (hC:=((fK _).and<|eL _ _));rotate_left
 .intro y J;have q:=rn J.2;exact x!
 refine dA 5 ?_ ?_ ?_ (hC:=((fK _).and<|eL _ _));rotate_left
 .intro y J;exact no_implicit_lambda%x!
 refine dA 8 ?_ ?_ ?_ (hC:=((fK _).and<|eL _ _));rotate_left
 .intro y J;exact no_implicit_lambda%x!
 refine dA 9 ?_ ?_ ?_ (hC:=((fK _).and<|eL _ _));rotate_left
 .intro y J;exact no_implicit_lambda%x!
 refine qF k! ?_ _;intro y J;have a5:=h! J.1;clear J;go_simp;go_wp2;go_ret;refine⟨xv ?_,ao.trans<|Below.mono a5 ao.4⟩;exact a3.o
def Y1(base:Nat)(e:Ending)(w':w?):Option (E?)->Prop
 |none=>∃a n c,e=e? (.tuple #[.slice a n c,.bool f?])|some l=>∃a c,e=e? (.tuple #[.slice a l.length c,.bool t?])/\R? w' base 202 5 (.slice a l.length c) l.length (dG l)
def CQ(l:E?)(k)(nm tx)(gn)(wt tg):oL l k ⟨nm,gn,tx,wt,tg⟩=t?↔gr nm=t?/\eh tx=t?/\(gn=t?\/tx≠[])/\wt<=1000000/\jC (l.take k) nm=x?:=by unfold oL;simp only[IT,Z7,bne_iff_ne,decide_eq_true_eq,Option.isNone_iff_eq_none];exact⟨λh=>⟨h.1.1.1.1,h.1.1.1.2,h.1.1.2,h.1.2,h.2⟩,λh=>⟨⟨⟨⟨h.1,h.2.1⟩,h.2.2.1⟩,h.2.2.2.1⟩,h.2.2.2.2⟩⟩
def JW(A:E?)(h:∀e∈A,l? e.3<=24)(B:l? A<=1000):(A.map λe=>l? e.3).sum<=1048576:=by
 have:(A.map λe=>l? e.3).sum<=l? A*24:=by
  clear B;induction A with
  |nil=>simp|cons e A J=>have U:=h e i!;have V:=J (λx O=>h x<|by simp[O]);rw[ZK,J!,w!];omega
 omega
def yE{u:Option<|E?}{a c}(h:u=x?):Y1 f (e?<|.tuple #[.slice a J c,.bool f?]) o u:=by subst h;exact⟨_,_,_,q?⟩
def RF(B:b?)(w)(hs:B.size<=la) :
  ld prog 151 #[.string B] w λe w'=>Below w.1.size w w'/\Y1 w.1.size e w' (gG B.1.1):=by
 obtain⟨i5,bw,b0,b1,b2⟩:=Zz xe;have ag:=JP B.1.1;have ar:B.1.1.length=B.size:=i!;rw[ar]at ag;unfold la at hs;by_cases h4:4000<B.size
 .have b3:(4000:Int)<(B.size:Int):=o!;have J:J?<|gG B.1.1=x?:=h!<|by rw[ag,if_pos h4]
  clear ag ar;go_enter func151,ntmps151;go_wp2;go_ret2;exact⟨nr _ _,yE J.o⟩
 have b3:¬((4000:Int)<(B.size:Int)):=o!;rw[if_neg h4]at ag
 have HU:J? (gG _=match (nT _).2.1 with
  |none=>x?|some r=>if r≠[]\/(nT _).2.2.length=0\/100<(nT _).1\/30<((nT _).2.2.length:Int)-(nT _).1 then x?
   else if ∀i,(h:i<(nT B.1.1).2.2.length)->oL _ i _=t? then(if oq _=B.1.1 then y? _ else x?)else x?):=ag
 have Y:B.size<=1048576:=o!
 have aO:na w.1.size (w.alloc<|.cells #[.string B,.int i? 0,.bool f?,.slice x? 0 0] 259) w.1.size B (y? B.1.1,[]):=by refine⟨Zu _,i!,.slice x? 0 0,⟨0,?_,ZP _,λr h=>?_⟩,Z9 _ _ _ _⟩;exact U! w _;simp only[m?]at h;rw[<-h];rfl
 have au:=kD _ _ B _ 1 _ aO Y o!;have aP:=jA<|y? B.1.1;rcases hx1:eU 1 (y? B.1.1)with⟨n,t1⟩;rw[hx1]at au aP;simp only at au aP;have aQ:=h! hx1
 have aR:gZ (t1,([]:E?))<=100000:=by
  have h1:=lS 1<|y? B.1.1;rw[hx1]at h1;have h2:mK (y? B.1.1)=B.size+1:=by show B.1.1.length+1=_;rw[ar]
  unfold gZ;simp only[F!]at h1⊢;omega
 have aS:J?<|Below _ w<|w.alloc<|.cells #[.string B,.int i? 0,.bool f?,.slice x? 0 0] 259:=(nr _ _).alloc (Zu _) _;clear ag ar hx1 aO;go_enter func151,ntmps151;go_wp2_with fail;apply au.mono;rintro e w1 ⟨rfl,aa,aT⟩;have b4:=h! aa;have b5:=h!<|aS.o.trans aT;obtain⟨D,hD⟩:∃D,D=nS n (t1,[]):=⟨_,q?⟩;have HD:=h! hD;clear au aa aT hD aS;go_wp2_with fail;go_loopw [6] (λi wr=>∃(k:Nat)(s':jw),k<=n/\i=.int i? k/\nS (n-k) s'=D/\na w.1.size wr w.1.size B s'/\Below w.1.size w wr/\gZ s'<=100000) (λi _=>n-(intOf i).toNat);exact⟨0,_,ZP _,q?,HD.o.symm,b4.o,b5.o,aR⟩;obtain⟨k,s',hk,rfl,a4,ai,aU,hrS⟩:=hrel;have a5:=ai.bad;have aC:=h! a4;have W:=h! aU;clear a4 aU;by_cases aj:k<n
 .have aV:(k:Int)<(n:Int):=o!;obtain⟨u0,A⟩:=s'
  cases u0 with
  |none=>
   simp only[op]at a5;have ab:D=(x?,A):=by rw[<-aC.o,Ce]
   have O:=J4 _ _ B Y 32 0 D wr (by rwa[ab]) q? o! (by rwa[ab]);rcases hE:jX 32 0 D with⟨st,A'⟩;obtain rfl:st=x?:=by have h:=D4 32 0 A;rwa[<-ab,hE]at h
   have aW:nT B.1.1=(n,x?,A'):=by unfold nT;rw[aQ.o];simp only;rw[<-HD.o,hE]
   have J:J?<|gG B.1.1=x?:=by show _=_;rw[HU.o,aW]
   rw[hE]at O;clear ab ai hE aW;go_wp2_with fail;apply O.mono;rintro e x1 ⟨rfl,⟨_,_,vA,⟨pp,hh,_,_⟩,_⟩,ac⟩;have ad:=h!<|W.o.trans ac;have aD:=dx hh;clear O ac W hh;go_wp2;go_ret2;exact⟨ad.o,yE J.o⟩
  |some r=>
   simp only[oo]at a5;have av:=kD _ _ B _ 1 wr ai Y o!;have aX:=jA<|y? r;rcases hy0:eU 1 (y? r)with⟨a1,u1⟩;rw[hy0]at av aX;simp only at av aX;clear ai;go_wp2_with fail;apply av.mono;rintro e v1 ⟨rfl,aa,a6⟩;have a8:=h!<|W.o.trans a6;clear av a6 W;have aw:=s9 _ _ B _ a1 v1 aa Y o!;rcases hy1:iy a1 u1 with⟨c2,u2⟩;rw[hy1]at aw;simp only at aw;clear aa;go_wp2_with fail;apply aw.mono;rintro e v6 ⟨rfl,aY,a9⟩;have aZ:=h!<|a8.o.trans a9;clear aw a9 a8
   have HY:J?<|oneG (y? r,A)=(u2,A++[⟨c2,t?,[],0,0⟩]):=by show oneG _=_;unfold oneG fe;simp only[hy0,hy1]
   obtain⟨q1,q2,vA,⟨pp,hh,ba,ak⟩,U⟩:=id aY;obtain⟨aA,cA,rfl,b6⟩:=dK U;have aE:C? v6 ⟨w.1.size,3,x?⟩=y? (.slice aA A.length cA):=by rw[dx hh];rfl
   have bL:A.length<=100000:=by unfold gZ at hrS;simp only at hrS;omega
   have ah:J?<|R? v6 _ 202 5 (.slice aA A.length cA) A.length<|dG A:=U;have aF:J?<|v6.1[w.1.size]?=y? (.cells #[.string B,.int _ pp,.bool u2.isNone,.slice aA A.length cA] 259 _):=hh;have b7:J? (∀r',u2=y? r'->B.1.1.drop pp=r'):=ak;clear aY hh U hy0 hy1 ak;go_wp2_with (at_builtin;go_must (refine gE _ q? _ _ 75 q? _ 202 i5 _ 5 56 oT bw b0 b1 b2 q? d! _ _ _ q? (ah.o.alloc _) _ 1 (e9 ⟨c2,t?,[],0,0⟩) q? ?cr ?c0 ?c1 ?c2 ?c3 ?_))
   case cr=>exact Za5 rfl
   case c0=>intro u hu;simp[e9]at hu;obtain rfl|rfl|rfl|rfl|rfl:=hu<;>rfl
   case c1=>omega
   case c2=>unfold la;omega
   case c3=>simp;omega
   intro v7 w7 aG ae _;obtain⟨a7,c7,rfl,bM⟩:=dK aG;have b8:=(AI.1 aF.o).1
   have ax:w7.1[w.1.size]?=y? (.cells #[.string B,.int i? pp,.bool u2.isNone,.slice aA A.length cA] 259 (0,0)):=by rw[ae.5 _ j!<|λe=>fC aF.o ah.o d! e.symm,e! _ _ _ b8];exact aF.o
   have bG:C? w7 ⟨w.1.size,3,x?⟩=y? (.slice aA A.length cA):=by rw[dx ax];rfl
   have bH:=dO ax 3;have b9:=h!<|((aZ.o.trans<|(nr w.1.size v6).alloc q2 _)).trans ⟨ae.1,ae.2,ae.3,ae.4,λj hj=>ae.5 j j! (λe=>by have:=(ah.o.lt j e.symm).1;omega)⟩;have bc:=h! ax;have bd:=h! aG;have bN:w.1.size<=w7.1.size:=by have:=ae.4;simp at this;omega
   clear aG ae ax aE;go_wp2;go_roundw
   .refine⟨k+1,oneG (y? r,A),o!,by go_num,?_,?_,?_,ZE (QY i!) hrS⟩;have:=aC.o;rw[(o!:n-k=(n-(k+1))+1)]at this;simpa[nS]using this;rw[HY.o];refine⟨q1,by simp[m4];omega,.slice a7 _ c7,⟨pp,by rw[heap_set bc.o];rfl,ba,b7.o⟩,?_⟩;have e1:dG (A++[⟨c2,t?,[],0,0⟩])=dG A++e9 ⟨c2,t?,[],0,0⟩:=by simp[dG]
    simp only[e1,Zh,w!,F!];exact dJ bd.o (λj hj=>ZH _ _ _ _<|λe=>fC bc.o bd.o d!<|by rw[hj,e]);exact n6 b9.o q1 _
   exact M!
 have ab:D=s':=by rw[<-aC.o,(o!:n-k=0)];rfl
 have be:na w.1.size wr w.1.size B D:=by rwa[ab]
 have bf:gZ D<=100000:=by rwa[ab]
 have aV:¬(k:Int)<(n:Int):=o!;clear ab ai;have O:=J4 _ _ B Y 32 0 D wr be q? o! bf
 have bg:J?<|nT B.1.1=(n,jX 32 0 D):=by show nT _=_;unfold nT;rw[aQ.o];simp only;rw[<-HD.o]
 clear be;go_wp2_with fail;apply O.mono;rintro e x1 ⟨rfl,aa,ac⟩;have ad:=h!<|W.o.trans ac;clear O ac W;rcases hE:jX 32 0 D with⟨st,A⟩;rw[hE]at aa;have aH:J?<|nT B.1.1=(n,st,A):=h!<|by rw[bg.o,hE]
 have bh:J? (∀e∈A,okT e):=by have h:=YU B.1.1;rwa[aH.o]at h
 have bO:A.length<=100000:=by have h1:=EM 32 0 D;rw[hE]at h1;have h2:gZ (st,A)=A.length+mK st:=rfl;omega
 clear hE bg;obtain⟨q1,q2,vA,⟨pp,hh,ba,ak⟩,U⟩:=aa;obtain⟨aA,cA,rfl,b6⟩:=dK U;have bP:C? x1 ⟨w.1.size,1,x?⟩=y? (.int i? pp):=by rw[dx hh];rfl
 have aD:C? x1 ⟨w.1.size,2,x?⟩=y? (.bool st.isNone):=by rw[dx hh];rfl
 have aE:C? x1 ⟨w.1.size,3,x?⟩=y? (.slice aA A.length cA):=by rw[dx hh];rfl
 have ah:J?<|R? x1 _ 202 5 (.slice aA A.length cA) A.length<|dG A:=U;have ay:J?<|jB x1 5 (.slice aA A.length cA) A.length<|dG A:=jB.eo U
 have b':J?<|cA<=9223372036854775807:=by obtain⟨a',c',he,_,hm,_⟩:=ay.o;simp only[wi]at he;unfold la at hm;have:=he.2.2;show cA<=_;omega
 clear hh U
 cases st with
 |none=>
  simp only[op]at aD
  have J:J?<|gG B.1.1=x?:=by show _=_;rw[HU.o];rw[aH.o]
  go_wp2;go_ret2;exact⟨ad.o,yE J.o⟩
 |some r=>
  simp only[oo]at aD;have hr:=ak r rfl
  have aI:J? (gG B.1.1=if r≠[]\/A.length=0\/100<n\/30<(A.length:Int)-n then x? else if ∀i,(h:i<A.length)->oL A i A[i]=t? then(if oq A=B.1.1 then y? A else x?)else x?):=by show _=_;rw[HU.o,aH.o]
  have bA:r.length=B.size-pp:=by rw[<-hr];simp
  clear ak hr
  have aJ:(J? (gG B.1.1=x?)/\(pp≠B.size/\((pp:Int)==(B.size:Int))=f?\/pp=B.size/\(((A.length:Int)==0)=t?\/((A.length:Int)==0)=f?/\((100:Int)<(n:Int)\/¬((100:Int)<(n:Int))/\30<(A.length:Int)-n))))\/
    (J? (gG B.1.1=if ∀i,(h:i<A.length)->oL A i A[i]=t? then(if oq A=B.1.1 then y? A else x?)else x?)/\pp=B.size/\((A.length:Int)==0)=f?/\¬((100:Int)<(n:Int))/\¬30<(A.length:Int)-n):=by
   have hz:r=[]↔pp=B.size:=by rw[<-List.length_eq_zero_iff];omega
   simp only[beq_iff_eq,beq_eq_false_iff_ne];by_cases hb:r≠[]\/A.length=0\/100<n\/30<(A.length:Int)-n;refine .inl ⟨by show _=_;rw[aI.o,if_pos hb],?_⟩;rw[Ne,hz]at hb;omega;refine .inr ⟨by show _=_;rw[aI.o,if_neg hb],?_⟩;rw[Ne,hz]at hb;omega
  clear bA aI;obtain⟨J,⟨c0,c1⟩|⟨rfl,c2|⟨c2,c3|⟨c3,c4⟩⟩⟩⟩|⟨aK,rfl,c2,c3,c4⟩:=aJ
  any_goals
   go_wp2;go_ret2;exact⟨ad.o,yE J.o⟩
  go_wp2;go_loopw [8] (λiv wr=>∃k:Nat,k<=A.length/\iv=.int i? k/\OX A k/\gR x1 wr) (λi _=>A.length-(intOf i).toNat);exact⟨0,ZP _,q?,λi h hi=>o!,gR.refl _⟩;obtain⟨k,hk,rfl,aB,af⟩:=hrel;have al:=h! aB;have az:=h! af;have am:=Z0 af aE;clear aB;by_cases aj:k<A.length
  .have bQ:(k:Int)<(A.length:Int):=o!;obtain⟨b,off,rfl,c0,c1,c2,c3,c4⟩:=jo (ay.o.below af) k aj;let ⟨o1,o2,⟨o3,o4⟩,o5,o6⟩:=bh.o _<|Zw aj;rcases hxk:A[k]with⟨nm,V,tx,wt,tg⟩;rw[hxk]at c0 c1 c2 c3 c4 o1 o2 o3 o4 o5 o6;simp only at c0 c1 c2 c3 c4 o1 o2 o3 o4 o5 o6;have aL:=h! hxk;clear hxk;obtain⟨nb,an⟩:∃nb:b?,nb=⟨a? nm⟩:=⟨_,q?⟩;obtain⟨tb,ao⟩:∃tb:b?,tb=⟨a? tx⟩:=⟨_,q?⟩;rw[<-an]at c0;rw[<-ao]at c2;have bi:nb.size<=la:=by rw[an];show nm.toArray.size<=_;unfold la;simp;omega
   have bj:tb.size<=la:=by rw[ao];show tx.toArray.size<=_;unfold la;simp;omega
   obtain⟨bn,aM⟩:∃bn,bn=gr nm:=⟨_,q?⟩;obtain⟨bq,ap⟩:∃bq,bq=eh tx:=⟨_,q?⟩;obtain⟨fv,aq⟩:∃fv,fv=zx (jC (A.take k) nm):=⟨_,q?⟩
   have bk:J? (∀y:w?,ld _ 141 #[.string nb] y λe w'=>e=.returned (.bool bn)/\y=w'):=λy=>by have h:=lg nb y bi;rw[aM];rw[an]at h⊢;exact h
   have bl:J? (∀y:w?,ld _ 142 #[.string tb] y λe w'=>e=.returned (.bool bq)/\y=w'):=λy=>by have h:=gY tb y bj;rw[ap];rw[ao]at h⊢;exact h
   have bm:J? (∀y:w?,gR x1 y->ld _ 144 #[.slice _ k cA,.string nb] y λe w'=>e=.returned (.int _ fv)/\y=w'):=λy hy=>by
    have h0:=(ay.o.below hy).Za6 k o! rfl;have e:(A.take k).length=k:=by rw[cX];omega
    have h:=xP _ _ nm y (by rwa[e]);rwa[aq,an]
   have bo:=h! aM;have bp:=h! ap;have br:=h! aq;have bs:=h! ao;have bR:=trivial;have bI:k<=cA:=o!;have bJ:(k:Int)<=(cA:Int):=o!;have bK:=b'.o;clear af an ao aM ap aq;go_wp2_with fail;apply g!<|bk.o _;go_wp2_with fail;apply g!<|bl.o _;have hX:gR wr<|wr.alloc<|.cells #[.string nb,.bool V,.string tb,.int i? wt,.int i? tg] 202:=gR.alloc _ _;have d0:C? (wr.alloc<|.cells #[.string nb,.bool V,.string tb,.int i? wt,.int i? tg] 202) ⟨wr.1.size,0,x?⟩=y? (.string nb):=by rw[Zl _ _ _ _ rfl];rfl
   have d1:C? (wr.alloc<|.cells #[.string nb,.bool V,.string tb,.int i? wt,.int i? tg] 202) ⟨wr.1.size,1,x?⟩=y? (.bool V):=by rw[Zl _ _ _ _ rfl];rfl
   have d2:C? (wr.alloc<|.cells #[.string nb,.bool V,.string tb,.int i? wt,.int i? tg] 202) ⟨wr.1.size,2,x?⟩=y? (.string tb):=by rw[Zl _ _ _ _ rfl];rfl
   have d3:C? (wr.alloc<|.cells #[.string nb,.bool V,.string tb,.int i? wt,.int i? tg] 202) ⟨wr.1.size,3,x?⟩=y? (.int i? wt):=by rw[Zl _ _ _ _ rfl];rfl
   have d9:=Z0 hX am;have aN:=h!<|az.o.trans hX;clear hX c0 c1 c2 c3 c4 am bk bl az bi bj o1 o2 o3 o4 o5 o6;generalize (wr.alloc<|.cells #[.string nb,.bool V,.string tb,.int i? wt,.int i? tg] 202)=wx at *;generalize wr.1.size=g at *;have bB:J? (∀m,ld _ 144 _ _ λe w'=>e=.returned _/\w'=wx.drewN m):=λm=>(bm.o _<|j5 aN.o m).mono<|λe w' h=>⟨h.1,h.2.symm⟩;clear bm
   have aJ:(J? (gG B.1.1=x?)/\(bn=f?\/bn=t?/\(bq=f?\/bq=t?/\(V=f?/\tb.toList.isEmpty=t?\/(V=t?\/V=f?/\tb.toList.isEmpty=f?)/\(1000000<wt\/¬1000000<wt/\0<=fv)))))\/
     (J? (OX A<|k+1)/\bn=t?/\bq=t?/\(V=t?\/V=f?/\tb.toList.isEmpty=f?)/\¬1000000<wt/\fv = -1):=by
    have he:tb.toList.isEmpty=tx.isEmpty:=by rw[X!,bs.o]
    have hf:fv = -1/\jC (A.take k) nm=x?\/0<=fv/\jC (A.take k) nm≠x?:=by
     rw[br.o]
     cases jC (A.take k) nm with
     |none=>exact .inl ⟨q?,q?⟩|some fi=>exact .inr ⟨Int.natCast_nonneg fi,i!⟩
    rw[he,bo.o,bp.o];have hs:=CQ A k nm tx V wt tg;by_cases a0:oL A k ⟨nm,V,tx,wt,tg⟩=t?;let ⟨h1,h2,h3,h4,h5⟩:=hs.1 a0;refine .inr ⟨λi h hi=>?_,h1,h2,?_,o!,hf.elim (λh=>h.1) λh=>absurd h5 h.2⟩;obtain h6|h6:=H! i k
    exact al.o i h h6;obtain rfl:i=k:=o!;rwa[aL.o]
    cases V<;>simp at h3⊢;exact h3;refine .inl ⟨by show _=_;rw[aK.o,if_neg<|λh=>a0 (by have:=h k aj;rwa [aL.o]at this)],?_⟩;rw[hs]at a0;cases h1:gr nm
    .exact .inl rfl
    cases h2:eh tx
    .exact .inr ⟨q?,.inl q?⟩
    refine .inr ⟨q?,.inr ⟨q?,?_⟩⟩;have h3:V=f?/\tx.isEmpty=t?\/V=t?\/V=f?/\tx.isEmpty=f?:=by cases V<;>cases tx<;>simp
    obtain h3|h3:=h3
    exact .inl h3;refine .inr ⟨h3,?_⟩;have h4:V=t?\/tx≠[]:=h3.imp_right λh=>by have:=h.2;cases tx<;>simp at this⊢
    by_cases h5:1000000<wt;exact .inl h5;exact .inr ⟨h5,hf.elim (λh=>absurd ⟨h1,h2,h4,o!,h.2⟩ a0) λh=>h.1⟩
   clear aK al bo bp br bs aL;obtain⟨J,rfl|⟨rfl,rfl|⟨rfl,⟨rfl,c1⟩|⟨rfl|⟨rfl,c1⟩,c2|⟨c2,c3⟩⟩⟩⟩⟩|⟨bC,rfl,rfl,rfl|⟨rfl,c1⟩,c2,rfl⟩:=aJ
   all_goals
    go_wp2;go_quiet (first|(go_at_call 144;exact ld.quiet_of_same<|bB.o _));go_wp2
   any_goals
    go_ret2;exact⟨j5 (ad.o.trans<|Below.mono aN.o ad.o.4) nq,yE J.o⟩
   all_goals
    go_roundw
    .exact⟨k+1,o!,by go_num,bC.o,j5 aN.o nq⟩
    exact M!
  have bD:k=A.length:=o!;subst bD
  have bt:J? (gG B.1.1=if oq A=B.1.1 then y? A else x?):=by show _=_;rw[aK.o,if_pos<|λi h=>al.o i h h]
  have bu:J? (∀e∈A,oX e/\e.3.length<=24):=λe he=>by obtain⟨i,hi,rfl⟩:=ZF.1 he;obtain⟨o1,o2,⟨o3,o4⟩,o5,o6⟩:=bh.o _ he;refine⟨⟨o!,o!,⟨o!,o!⟩,o!,o!⟩,?_⟩;have h1:=al.o i hi hi;rcases hxk:A[i]with⟨nm,V,tx,wt,tg⟩;rw[hxk,CQ]at h1;have h2:=h1.2.1;simp only[eh,IT,decide_eq_true_eq]at h2;exact h2.1
  have bE:A.length<=1000:=o!;obtain⟨pk,a2⟩:∃pk:b?,pk=⟨(oq A).toArray⟩:=⟨_,q?⟩
  have bF:J? (∀y:w?,gR wr y->ld _ 109 _ y λe w'=>e=.returned (.string pk)/\gR y w'):=λy hy=>by rw[a2];exact Gr _ A y (ay.o.below<|az.o.trans hy) (λe he=>(bu.o e he).1) o!<|JW A (λe he=>(bu.o e he).2) bE
  clear aj hk al af;by_cases a3:oq A=B.1.1
  case' pos=>
   have ap:(pk.toList==B.toList)=t?:=by rw[a2,X!,X!,<-a3];simp
   have J:J?<|gG B.1.1=y? A:=h!<|by rw[bt.o,if_pos a3]
  case' neg=>
   have ap:(pk.toList==B.toList)=f?:=by rwa[a2,X!,X!,beq_eq_false_iff_ne]
   have J:J?<|gG B.1.1=x?:=h!<|by rw[bt.o,if_neg a3]
  all_goals
   clear a2 a3;go_wp2_with fail;refine j0 k! ?_;refine dA 0 ?_ ?_<|dA 1 ?_ ?_<|dA 2 ?_ ?_<|dA 3 ?_ ?_<|dA 4 ?_ ?_<|dA 5 ?_ ?_<|dA 6 ?_ ?_<|dA 7 ?_ ?_ ?_
   any_goals(intro y hy;have q:=Z0 hy am;exact no_implicit_lambda%x!)
   refine dA 8 ?_ ?_ ?_;rotate_left
   .intro y hy;exact z!<|bF.o y hy
   refine dA 9 ?_ ?_<|dA 10 ?_ ?_<|dA 11 ?_ ?_<|dA 12 ?_ ?_ ?_
   any_goals(intro y hy;exact no_implicit_lambda%x!)
   refine qF k! ?_ _;intro y hy;have bv:=h!<|az.o.trans hy;clear hy;go_simp;go_wp2;go_ret2;refine⟨ad.o.trans<|Below.mono bv.o ad.o.4,?_⟩
   first|exact yE J.o|(unfold Y1;rw[J.o];exact⟨_,_,rfl,dJ ah.o<|λk hk=>bv.o.5 k (ah.o.lt k hk).2⟩)
def BH{a}{B:v?->w?->Prop}(s x)(t)
  (ho:x7.2=.call {callee:=.builtin .append,args:=#[s,x],argTypes:=#[t,t]})
  (base) (e) (i) (z) (bytes) (ht:y1.underlying t=y? (.slice e)) (hi:y1.info? e=y? i) (hz:i.8=y? z)
  (O:i.3=1) (Y:i.4=bytes) (aa:z.cells.size=1)
  (v) (n) (xs:L?) (hs:a.eval s=v) (W:R? o base e 1 v n xs)
  (y) (news:L?) (hx:a.eval x=y) (hy:Rd o y news) (h1:∀u∈news,u.oneCell'=t?)
  (J:(n+l? news)*bytes<=140737488355328) (ab:n+l? news<=la) (U:base<=o.1.size)
  (h:∀V w',R? w' base e 1 V (n+l? news) (xs++news)->o.grownBy w' (O? v)->(O? V=O? v\/O? V=y? o.1.size)->B V w'):lO y1 x7 a o B:=by
 obtain⟨V,w',hr,h2,h3,h4⟩:=mc o base t x7.3 e i z bytes ht hi hz O Y aa v n xs W y news hy h1 J ab U;unfold lO execOp;simp only[ho,resolve,invoke,builtin,Sem.run_bind,Sem.run_pure,Result.andThen_ok,List.map_toArray,ZK,ZU,hs,hx,hr];exact h V w' h2 h3 h4
def VW{ops}{C:w?->Prop}{a}{K:(w?->Prop)->Act->Prop}{X:Type}(U:ops[i]?=y? x7)(V:sA x7 (lo ops a.1)=t?)(B:X->w?->Prop)(J:X->v?)(W:∀x,gp gR<|B x)(Y:∀x,iA<|B x)(hc:∀x y,B x y->C y)
  (hy:∀y,C y->lO y1 x7 a y (λv O=>gR y O/\∃x,v=J x/\B x O)) (h:∀x,K (B x)<|a.put x7.1<|J x):wJ y1 ops i C K a:=by
 unfold wJ;simp only[U,V,if_true];exact⟨X,B,J,W,Y,hc,hy,h⟩
def Hx{e}(h:Sh e):oX e/\l? e.3<=24:=by
 have O:∀x,gr x=t?->l? x<=8:=λx B=>by simp only[gr,IT,decide_eq_true_eq]at B;omega
 have U:∀x,eh x=t?->l? x<=24:=λx B=>by simp only[eh,IT,decide_eq_true_eq]at B;exact B.1
 obtain⟨_,J,V,_,Y,h6,h7,h8⟩|⟨W,J⟩:=h
 have:=O _ J;have:=U _ V;exact⟨⟨o!,o!,⟨o!,o!⟩,o!,o!⟩,o!⟩;have:=O _ J;rw[W];exact⟨⟨by simp only;omega,i!,⟨i!,i!⟩,i!,i!⟩,i!⟩
def PI(h:nz C):(∀e∈C,oX e)/\l? C<=1048576/\(C.map λe=>l? e.3).sum<=1048576:=by have:=kF h;exact⟨λe B=>(Hx<|h.1 e B).1,o!,JW C (λe B=>(Hx<|h.1 e B).2) o!⟩
def Xm(F:F?)(b)(af:E?)(ss:List<|E?)(ts:List<|W?)(n)(w)(hR:lc w F b af ss ts)(J:∀l∈ss,nz l) :
  ld prog 108 #[p?<|y? ⟨b,0,x?⟩,n? i? n] w λe w'=>e=e? (.tuple #[s? ⟨(jW ss n).1.toArray⟩,n? i? (jW ss n).2])/\B? w w':=by
 obtain⟨vB,vS,vT,hh,ah,W,O,Y⟩:=id hR;obtain⟨vs,aa,B,ab,U⟩:=id O;obtain⟨aS,cS,rfl,ai⟩:=dC B;have aj:C? w ⟨b,1,x?⟩=y? (.slice aS ss.length cS):=by rw[dx hh];rfl
 by_cases V:n<0
 .have HU:J?<|jW ss n=([],6):=h!<|by unfold jW;rw[if_pos<|.inl V]
  clear hR hh W Y O B U aa ab J;go_enter ro,p7;go_wp2;go_ret2;rw[HU.o];exact⟨q?,nr _ _⟩
 by_cases ad:(l? ss:Int)<=n
 .have HU:J?<|jW ss n=([],6):=h!<|by unfold jW;rw[if_pos<|.inr ad]
  clear hR hh W Y O B U aa ab J;go_enter ro,p7;go_wp2;go_ret2;rw[HU.o];exact⟨q?,nr _ _⟩
 obtain⟨m,rfl⟩:=N? (o!:0<=n);have hm:m<l? ss:=o!;let ⟨u,hu,hE⟩:=U m hm;obtain⟨bS,oS,rfl,kO⟩:=eM B m _ hu;obtain⟨au,cu,rfl,ak⟩:=dK hE.1;have hk:=J _<|Zw hm;let ⟨k1,k2,k3⟩:=PI hk;have ac:=Gr _ _ w (jB.eo hE.1) k1 k2 k3;rw[G7<|yA hk]at ac
 have HU:J?<|jW ss (m:Int)=(fc ss[m],0):=by
  show jW _ _=_;unfold jW;rw[if_neg o!];have e:ss.getD ((m:Int)).toNat []=ss[m]:=by rw[sd,AS,BY hm];rfl
  rw[e]
 have al:(m:Int)<(l? ss:Int):=o!;clear hR hh W Y O B U aa ab J V k1 k2 k3 hk hE hu;go_enter ro,p7;go_wp2_with fail;apply ac.mono;rintro e w1 ⟨rfl,ae⟩;have ag:=h! ae;clear ac ae;go_wp2;go_ret2;rw[HU.o];exact⟨q?,ag⟩
def M8(h:Inv C x8)(J:l? z7<=130):gO (x8++[z7])<=536870912:=by have B:=xg h;simp[gO]at B⊢;omega
structure Fz(w:w?)(g:Nat)(l:E?)(uL:v?)(w':w?)(v:v?)(n:Nat)(vs:L?):Prop where
 below:B? w w'
 blk:w'.1[g]?=some (.cells #[.slice none 0 0,v,.slice none 0 0] 120 (0,0))
 row:R? w' w.1.size 75 1 v n vs
 Og:R? w' w.1.size 202 5 uL l.length (dG l)
 gz:w.1.size<=g
def LV(hb:B? o p)(hk:p.1[f]?=y? (c? #[.slice x? 0 0,.slice x? 0 0,.slice x? 0 0] 120 (0,0)))
  (hl:R? p o.1.size 202 5 I C.length<|dG C) (ho:R? x4 o.1.size 75 1 P J U) (Y:p.grownBy x4<|O?<|Value.slice x? 0 0) (aa:o.1.size<=f) :
  Fz o f C I (x4.setCell ⟨f,1,x?⟩ P) P J U:=by
 have hz:=hb.4;have ac:=Y.4;have V:∀k,k<p.1.size->x4.1[k]?=p.1[k]?:=λk hk=>Y.5 k hk (by simp[wd]);have W:x4.1[f]?=y? (c? #[.slice x? 0 0,.slice x? 0 0,.slice x? 0 0] 120 (0,0)):=by rwa[V f<|eN hk]
 have ab:=dJ hl<|λk B=>V k (hl.lt k B).2;have O:∀k,k≠f->(x4.setCell ⟨f,1,x?⟩ P).1[k]?=x4.1[k]?:=λk hk=>ZH _ _ _ _ hk;refine⟨?_,by rw[heap_set W];rfl,dH ho<|λk B=>O k (λe=>by subst e;exact fD W ho d! B),dJ ab<|λk B=>O k (λe=>by subst e;exact fC W ab d! B),aa⟩;exact n6 (hb.trans ⟨Y.1,Y.2,Y.3,Y.4,λk B=>V k o!⟩) aa _
def Ky{V o}(h:Fz p f C I x4 P J U)(ho:R? V p.1.size 75 1 x0 (J+1)<|U++[I])(hg:(x4.alloc o).grownBy V<|O? P) :
  V.1[f]?=y? (c? #[.slice x? 0 0,P,.slice x? 0 0] 120 (0,0))/\Fz p f C I (V.setCell ⟨f,1,x?⟩ x0) x0 (J+1) (U++[I]):=by
 have hz:=h.1.4;have Y:∀k,k<x4.1.size->O? P≠y? k->V.1[k]?=x4.1[k]?:=λk hk ab=>by rw[hg.5 k j!<|λe=>ab e.symm,e! _ _ _ hk]
 have O:V.1[f]?=y? (c? #[.slice x? 0 0,P,.slice x? 0 0] 120 (0,0)):=by rw[Y f (eN h.2)<|fD h.2 h.3 d!];exact h.2
 have aa:=dJ h.4<|λk B=>Y k (h.4.lt k B).2<|λe=>fX h.4 h.3 d! k B e;have W:∀k,k≠f->(V.setCell ⟨f,1,x?⟩ x0).1[k]?=V.1[k]?:=λk hk=>ZH _ _ _ _ hk;refine⟨O,?_,by rw[heap_set O];rfl,dH ho<|λk B=>W k (λe=>by subst e;exact fD O ho d! B),dJ aa<|λk B=>W k (λe=>by subst e;exact fC O aa d! B),h.5⟩;refine n6 (h.1.trans ⟨?_,?_,?_,(by have:=hg.4;simp at this;omega),λk B=>Y k o! (λe=>by have:=(h.3.lt k e).1;omega)⟩) h.5 _;exact hg.1;exact hg.2;exact hg.3
def I5(hF:∀k,x9 k->k<o.1.size)(V:Zip (kX o x9) U x8)(h:Fz o f C I p P J<|U++[I]) :
  Zip (kX p<|iJ x9 o p) (U++[I]) (x8++[C]):=by
 refine Zip.append (V.mono<|λu x O=>⟨dJ O.1<|λk B=>h.1.5 k<|hF k<|O.2 k B,λk B=>Or.inl<|O.2 k B⟩)<|Zip.one ⟨eH h.4<|ZP _,λk B=>Or.inr ⟨(h.4.lt k B).1,(h.4.lt k B).2⟩⟩
def Cg(hF:∀k,x9 k->k<o.1.size)(W:Zip (kX o x9) U x8)(h:Fz o f C I p P (l? x8+1)<|U++[I])(J:gO (x8++[C])<=536870912) :
  ld prog 143 #[p?<|y? ⟨f,0,x?⟩] p λe B=>∃u,e=e? u/\R? B p.1.size 202 5 u (dV (x8++[C]) []).length (dG<|dV (x8++[C]) [])/\B? p B:=by
 have V:=I5 hF W h;exact uB _ f _ P _ [] _ p h.2 ⟨Z9 _ _ _ _,λk O=>by simp[wd]at O⟩ ⟨U++[I],V.1,(by rw[Zh];exact eH h.3<|ZP _),λk O=>Or.inr<|h.3.lt k O,V.2⟩ J i!
def Vd{b}{ts:List<|W?}(hF:∀k,x9 k->k<o.1.size)
  (hh:o.1[b]?=y? (c? #[x0,x5,y8] 120 (0,0))) (V:x9 b) (W:kX o x9 x0 z7) (hT:nM o x9 y8 ts) (hZ:Zip (kX o x9) U x8) (h:Fz o f C I p P (l? x8+1)<|U++[I]) (B:B? p x4) :
  x4.1[b]?=y? (c? #[x0,x5,y8] 120 (0,0))/\lc (x4.setCell ⟨b,1,x?⟩ P) (iJ x9 o<|x4.setCell ⟨b,1,x?⟩ P) b z7 (x8++[C]) ts/\dy x9 o (x4.setCell ⟨b,1,x?⟩ P):=by
 have aa:=B.4;have J:=I5 hF hZ h;refine Jb hF hh V W hT (h.1.trans<|B.mono h.1.4) (by rw[Zh];exact dH h.3<|λk O=>B.5 k (h.3.lt k O).2) J.1<|λi hi=>?_;obtain⟨u,hu,Y⟩:=J.2 i hi
 exact⟨u,hu,dJ Y.1<|λk O=>B.5 k (Y.1.lt k O).2,λk O=>by
  obtain h1|h1:=Y.2 k O
  exact .inl h1
  exact .inr ⟨h1.1,o!⟩⟩
def W9(F:F?)(b)(J:E?)(ss:List<|E?)(ts:List<|W?)(B:b?)(w:w?)(hF:∀k,F k->k<w.1.size)(hR:lc w F b J ss ts)(hI:Inv J ss)(hs:B.size<=la) :
  ld prog 110 #[p?<|y? ⟨b,0,x?⟩,s? B] w λe w'=>e=e? (n? i? (iT J ss B.1.1).1)/\
   lc w' (iJ F w w') b J (iT J ss B.1.1).2 ts/\dy F w w':=by
 obtain⟨i8,a0,a1,a2,a4⟩:=Zz My;have HR:=h! hR;have HF:=h! hF;have a5:=h! hI;have bn:=hI.5;have V:=RF B w hs;let ⟨vB,vS,vT,hh,a7,aq,a9,a'⟩:=hR;let ⟨vs,ar,au,aV,av⟩:=id a9;obtain⟨aS,cS,rfl,bo⟩:=dC au;obtain⟨aB,cB,rfl,bp⟩:=dK aq.1;have bq:=hF b a7;have aA:C? w ⟨b,0,x?⟩=y? (.slice aB J.length cB):=by rw[dx hh];rfl
 have aW:C? w ⟨b,1,x?⟩=y? (.slice aS ss.length cS):=by rw[dx hh];rfl
 have HH:=h! hh;have aX:=h! aq;have aY:=h! a';have aC:=h! au;have HZ:J?<|Zip _ vs ss:=⟨ar,av⟩;have HVL:=h! ar
 have aD:J? (∀u∈vs,u.oneCell'=t?):=λu hu=>by obtain⟨i,hi,rfl⟩:=ZF.1 hu;obtain⟨u',aw,hE⟩:=av i o!;rw[BY hi]at aw;simp only[m?]at aw;obtain⟨a,c,e,_⟩:=dK hE.1;rw[aw,e];rfl
 clear hR hh aq a' a9 au av hF hI aV ar
 cases hu:gG B.1.1 with
 |none=>
  have HU:J?<|iT J ss B.1.1=(7,ss):=h!<|by unfold iT;rw[hu]
  rw[hu]at V;clear hu;go_enter rf,p6;go_wp2_with fail;apply V.mono;rintro e w1 ⟨O,aU,nU,cU,rfl⟩;have W:=h! O;clear O V;go_wp2;go_ret;refine⟨dQ (by rw[HU.o];rfl),?_,dy.eF W⟩;rw[HU.o];exact kH HR HF W
 |some l=>
  have HU:J? (iT J ss B.1.1=if 0<J.length then(3,ss)else if 6<l? ss+1\/30<(dV (ss++[l]) []).length then(4,ss)else(0,ss++[l])):=h!<|by unfold iT;rw[hu]
  have aZ:=kF (uO hu).1;rw[hu]at V;clear hu;by_cases ah:0<l? J
  .have U:J?<|iT J ss B.1.1=(3,ss):=h!<|by rw[HU.o,if_pos ah]
   have aE:(0:Int)<(l? J:Int):=o!;go_enter rf,p6;go_wp2_with fail;apply V.mono;rintro e w1 ⟨O,aU,cU,rfl,ai⟩;have W:=h! O;have an:=Z0 O aA;clear O V ai;go_wp2;go_ret;refine⟨dQ (by rw[U.o];rfl),?_,dy.eF W⟩;rw[U.o];exact kH HR HF W
  have aE:¬((0:Int)<(l? J:Int)):=o!;go_enter rf,p6;go_wp2_with fail;apply V.mono;rintro e w1 ⟨O,aU,cU,rfl,ai⟩;have W:=h! O;have an:=Z0 O aA;have ao:=Z0 O aW;have aF:=h! ai;clear O V ai;go_wp2;have ax:=W.o.4;obtain⟨w2,aj⟩:∃w2,w2=w1.alloc (c? #[.slice x? 0 0,.slice x? 0 0,.slice x? 0 0] 120):=⟨_,q?⟩;have aa:Below w1.1.size w1 w2:=by rw[aj];exact(nr _ _).alloc (Zu _) _
  have ac:=h!<|W.o.trans<|aa.mono ax;have Y:J?<|w2.1[w1.1.size]?=y? (c? #[.slice x? 0 0,.slice x? 0 0,.slice x? 0 0] 120 (0,0)):=h!<|by rw[aj];exact U! w1 _
  have ak:=h!<|dJ aF<|λk hk=>aa.5 k (aF.o.lt k hk).2
  have ba:J?<|Rd w2 (.slice aS ss.length cS) vs:=by have h:=Rd.eo<|dH aC<|λk hk=>ac.o.5 k (aC.o.lt k hk).2;exact h
  have ap:=Z0 aa ao;have aG:C? w2 ⟨w1.1.size,1,x?⟩=y? (.slice x? 0 0):=by rw[dx Y.o];rfl
  rw[<-aj];clear aj aa an ao;have bc:=ax;clear ax;generalize w1.1.size=g at *;refine jS (Sd:=λa y=>y.2=w2.2->qP _ _ _ [12] a y) (last:=12) (tl:=[]) k! ?_<|λa y h ht=>h ht;refine ew 0 ?_ ?_<|ew 1 ?_ ?_<|ew 2 ?_ ?_<|ew 3 ?_ ?_<|ew 4 ?_ ?_ ?_
  any_goals(intro y hy;have q:=eT hy aG;exact x!)
  refine ew 5 ?_ ?_<|ew 6 ?_ ?_<|ew 7 ?_ ?_<|ew 8 ?_ ?_ ?_
  any_goals(intro y hy;have q:=eT hy ap;exact x!)
  go_simp;have st:∀x,gp gR<|λy=>lu w2 y/\R? y w.1.size 75 1 x ss.length vs:=λx y y' h hx=>⟨lu.zc _ _ _ h.1 hx,dH h.2 λk hk=>hx.5 k (h.2.lt k hk).2⟩;have fr:∀x,iA<|λy=>lu w2 y/\R? y w.1.size 75 1 x ss.length vs:=λx y τ h=>⟨lu.free _ _ _ h.1,h.2⟩;refine M5 (i:=9) k! d!<|VW q? l! _ id st fr (λ_ _ h=>h.1) (λy hy=>?_) λx=>?_
  .obtain⟨τ,hx⟩:=id hy;refine BH _ _ 118 q? _ 75 i8 _ 24 oN a0 a1 a2 a4 q? (.slice x? 0 0) 0 [] q? (Z9 _ _ _ _) _ _ q? (Rd.below (w:=tp w2 τ) ba hx) aD ?c1 ?c2 (ZE ac.o.4 hx.4) ?_
   case c1=>rw[HVL.o];omega
   case c2=>rw[HVL.o];unfold la;omega
   intro v3 w3 ad af br;rw[ZD,E!,HVL.o]at ad;have aH:gR y w3:=⟨af.1,af.2,af.3,af.4,λk hk=>af.5 k hk<|by simp[wd]⟩;exact⟨aH,v3,q?,lu.zc _ _ _ hy aH,ad⟩
  refine ew 10 ?_ ?_ (ew 11 ?_ ?_ ?_ (hC:=st x) (hT:=fr x)) (hC:=st x) (hT:=fr x)
  any_goals(intro y hy;exact x!)
  refine sJ k! (λt=>GG k! _ _) ?_;intro y ⟨hy,ad⟩ ht;have hx:=xS hy ht;have ak:=h!<|dJ ak<|λk hk=>hx.5 k (ak.o.lt k hk).2;have Y:=h!<|(hx.5 g<|eN Y).trans Y;have ac:=h!<|ac.o.trans<|hx.mono ac.o.4;clear hy ht hx ap aG st fr;obtain⟨a3,c3,rfl,bs⟩:=dC ad;have bd:=dx Y;have be:=dO Y 1;apply pX q? rfl;unfold lO;go_simp;apply uX;clear bd be;have ay:=LV ac Y ak ad ⟨q?,q?,q?,Zu _,λ_ _ _=>rfl⟩ bc;obtain⟨w4,aI⟩:∃w4,w4=y.setCell ⟨g,1,x?⟩ (.slice a3 ss.length c3):=⟨_,q?⟩;rw[<-aI]at ay⊢;have al:=h! ay;clear ay ad aI;have aJ:C? w4 ⟨g,1,x?⟩=y? (.slice a3 ss.length c3):=by rw[dx al.o.2];rfl
  have bt:=al.o.1.4;go_wp2_with (at_builtin;go_must (refine dU _ q? _ _ 118 q? _ 75 i8 _ 24 oN a0 a1 a2 a4 q? _ _ _ q? (al.o.3.alloc _) _ [.slice aU l.length cU] q? ?k0 ?k9 ?k1 ?k2 ?k3 ?_))
  case k0=>go_light;exact Rd.one<|jn q?
  case k9=>intro u hu;simp at hu;subst hu;rfl
  case k1=>simp;omega
  case k2=>simp[la];omega
  case k3=>simp;omega
  intro v6 w6 az aK bf;obtain⟨a6,c6,rfl,bu⟩:=dC az;have am:=Ky al az aK;have bi:C? w6 ⟨g,1,x?⟩=y? (.slice a3 ss.length c3):=by rw[dx am.1];rfl
  have bj:=dO am.1 1;have ae:=h! am.2;clear am az aK bf aJ;by_cases h6:6<l? ss+1
  .have bg:(6:Int)<(l? ss:Int)+1:=o!;have U:J?<|iT J ss B.1.1=(4,ss):=h!<|by rw[HU.o,if_neg ah,if_pos<|.inl h6]
   have aL:=h! ae.o.1;go_wp2;go_ret;refine⟨dQ (by rw[U.o];rfl),?_,dy.eF aL⟩;rw[U.o];exact kH HR HF aL
  have bg:¬((6:Int)<(l? ss:Int)+1):=o!;have aM:C? (w6.setCell ⟨g,1,x?⟩<|.slice a6 (l? ss+1) c6) ⟨g,1,x?⟩=y? (.slice a6 (l? ss+1) c6):=by rw[dx ae.o.2];rfl
  have aN:=Cg HF HZ ae<|M8 a5 aZ;have bh:=ae.o.1.4;go_wp2_with fail;apply aN.mono;rintro e w8 ⟨u8,rfl,aO,ag⟩;obtain⟨a8,c8,rfl,bv⟩:=dK aO;have aP:=h!<|ae.o.1.trans<|ag.mono bh;have bk:=Z0 ag aM;clear aN aO;by_cases aQ:30<(dV (ss++[l]) []).length
  .have aR:(30:Int)<((dV (ss++[l]) []).length:Int):=o!;have U:J?<|iT J ss B.1.1=(4,ss):=h!<|by rw[HU.o,if_neg ah,if_pos<|.inr aQ]
   clear ag;go_wp2;go_ret;refine⟨dQ (by rw[U.o];rfl),?_,dy.eF aP⟩;rw[U.o];exact kH HR HF aP
  have aR:¬((30:Int)<((dV (ss++[l]) []).length:Int)):=o!
  have U:J?<|iT J ss B.1.1=(0,ss++[l]):=by show iT _ _ _=_;rw[HU.o,if_neg ah,if_neg (by rintro(h|h);exact h6 h;exact aQ h)]
  have ab:=Vd HF HH a7 aX aY HZ ae ag;have bl:C? w8 ⟨b,1,x?⟩=y? (.slice aS ss.length cS):=by rw[dx ab.1];rfl
  have bm:=dO ab.1 1;have aT:=h! ab.2;clear ab ag;go_wp2;go_ret;refine⟨dQ (by rw[U.o];rfl),?_⟩;rw[U.o];exact aT
def XK{s}(n:b?)(J:n.size<=la):XX 110 (λp=>#[p,s? n]) s (n? i? (iT s.b s.s n.1.1).1) ⟨s.b,(iT s.b s.s n.1.1).2,s.t⟩:=
 λ_ _ _ h hF B=>(W9 _ _ _ _ _ n _ hF h B J).mono λ_ _ ⟨O,U,V⟩=>⟨O,U,V,Hp B _⟩
def Zaz{s}(n):XX 108 (λp=>#[p,n? i? n]) s (.tuple #[s? ⟨(jW s.s n).1.toArray⟩,n? i? (jW s.s n).2]) s:=
 λ_ _ _ h hF B=>(Xm _ _ _ _ _ n _ h B.4).mono λ_ _ ⟨O,J⟩=>⟨O,kH h hF J,.eF J,B⟩
def K2(O:∀e∈C,oX e)(B:l? C<=1048576)(U:(C.map λe=>l? e.3).sum<=1048576):(⟨(oq C).toArray⟩:b?).size<=la:=by show(oq C).toArray.size<=_;rw[eg];unfold oq la;rw[w!,Zh];have h1:=Du ((eY C).filter λe=>e.2)<|λe J=>O e<|jG.1 (Zb.1 J).1;have V:((eY C).filter λe=>e.2).length<=(eY C).length:=No _ _;have W:((eY C).filter λe=>!e.2).length<=(eY C).length:=No _ _;rw[uV]at V W;have Y:=Cy (oU C) ((eY C).filter λe=>!e.2) [] []<|λe J=>O e<|jG.1 (Zb.1 J).1;have h5:oU C*(((eY C).filter λe=>!e.2).length*3145743)<=2097153*(1048576*3145743):=hU (by unfold oU;omega)<|IN _ o!;have h6:=IN 1048577<|ZE V B;simp only[F!]at Y;omega
def Rp(w:w?)(v:v?):Prop:=∃B:E?,jB w 5 v B.length (dG B)/\(∀e∈B,oX e)/\l? B<=1048576/\(B.map λe=>l? e.3).sum<=1048576
def Rp.low(h:Rp o I)(B:pP o p):Rp p I:=by obtain⟨l,J,O⟩:=h;exact⟨l,J.low B,O⟩
def VM{c K aL made}(h:PS o p c f I P x0 J U x1 x3)(hi)(hx:x3[i].x=y0)(hy:x3[i].y=y0)(ho:VG z4 z5 K z3 x2 y3)(hL:Rp p<|.slice aL y2 y5)(h2:6<=y6)(h5:y6<=8) :
  ld prog 77 #[.agg #[p?<|y? ⟨x3[i].1,0,x?⟩,p?<|y? ⟨x3[i].2,0,x?⟩],.agg<|GQ y6 z3 z4 z5 K x2 y3 (.slice aL y2 y5) made] p λe w'=>e=e? (.bool t?)/\∃c' s',s'.t=y0.t/\PS o w' c' f I P x0 J U x1 (x3.set i ⟨x3[i].1,x3[i].2,s',s'⟩):=by
 have hk:y6=6\/y6=7\/y6=8:=o!;let ⟨c1,h1,z1,z2,Y,p2,B,ad⟩:=(h.ma hi hx hy).two (c? #[p?<|y? ⟨x3[i].1,0,x?⟩,p?<|y? ⟨x3[i].2,0,x?⟩] 122)<|c? (GQ y6 z3 z4 z5 K x2 y3 (.slice aL y2 y5) made) 77;generalize x3[i].1=b1 at *;generalize x3[i].2=b2 at *;have H1:=h! h1;have d1:=dx Y;have d2:=dx p2;let ⟨lE,l1,l2,l3,l4⟩:=hL.low ad;have aa:i<(x3.set i ⟨b1,b2,y0,y0⟩).length:=by rwa[cK]
 have O:=H1.x i aa;have V:=H1.y i aa;rw[tq]at O V;clear h hx hy h2 h5 h1 ad hL aa;unfold GQ at *;obtain rfl|rfl|rfl:=hk
 .obtain⟨F1,F2,hA,_⟩:=O;obtain⟨F,⟨vB,vS,vT,hh,_,_,⟨vs,_,ae,_,_⟩,_⟩,_,_⟩:=V;obtain⟨aS,cS,rfl,_⟩:=dC ae;have d3:=dx hh;have C:=hA.CP;clear ae hh;go_enter qr,pt;go_wp2_with fail;apply g! C;clear C;go_wp2;go_ret;exact⟨dW i!,_,_,q?,H1⟩
 .clear O V l1 l2 l3 l4;have HX:=h!<|Za0 (s:=y0) z4;have HY:=h!<|Zaz (s:=y0) z4;generalize (⟨(jW y0.s z4).1.toArray⟩:b?)=dS at *;generalize (jW y0.s z4).2=dN at *;have af:(dS.toList==dS.toList)=t?:=i!;go_enter qr,pt;go_wp2_with fail;apply (H1.opX hi HX).mono;rintro e w1 ⟨rfl,c2,h2,z⟩;have q1:=dx<|(z.2 _ o! z1).1.trans Y;have q2:=dx<|(z.2 _ o! z2).1.trans p2;have H2:=h! h2;clear h2 z d1 d2 Y p2 H1;go_wp2_with fail;apply (H2.opY hi HY).mono;rintro e w2 ⟨rfl,c3,h3,_⟩;have H3:=h! h3;clear h3 H2 q1 q2;go_wp2_with fail;apply g!<|uR _ _;go_wp2;go_ret;exact⟨dW i!,_,_,q?,H3⟩
 clear O V
 obtain rfl:y2=l? lE:=by obtain⟨a',c',he,_⟩:=id l1;simp only[wi]at he;exact he.2.1
 cases made
 case' false=>have HX:=h!<|Yc (s:=y0) x2 ho.s;have HY:=h!<|XK (s:=y0) x2 ho.s;clear l1 l2 l3 l4;go_enter qr,pt;go_wp2_with fail;have HP:=h! H1
 case' true=>have C:=Gr _ lE _ l1 l2 l3 l4;have ab:=K2 l2 l3 l4;generalize (⟨(oq lE).toArray⟩:b?)=pk at *;have HX:=h!<|Yc (s:=y0) pk ab;have HY:=h!<|XK (s:=y0) pk ab;clear l1 l2 l3 l4 ab;go_enter qr,pt;go_wp2_with fail;apply C.mono;rintro e w9 ⟨rfl,W⟩;have ac:=pP.of W;have HP:=h!<|H1.same ac 0;have Y:=(W.5 _ o!).trans Y;have p2:=(W.5 _ o!).trans p2;have z1:=(jm (m:=0)<|AT (o!:p.1.size<p.1.size+2) B).trans z1;have z2:=(jm (m:=0)<|AT (o!:p.1.size+1<p.1.size+2) B).trans z2;have B:=ZE B ac.2;have d1:=dx Y;have d2:=dx p2;clear C W ac;go_wp2_with fail
 all_goals
  apply (HP.opX hi HX).mono;rintro e w1 ⟨rfl,c2,h2,z⟩;have q1:=dx<|(z.2 _ o! z1).1.trans Y;have q2:=dx<|(z.2 _ o! z2).1.trans p2;have H2:=h! h2;clear h2 z d1 d2 Y p2 H1 HP;go_wp2_with fail;apply (H2.opY hi HY).mono;rintro e w2 ⟨rfl,c3,h3,_⟩;have H3:=h! h3;clear h3 H2 q1 q2;go_wp2_with fail;apply g!<|uR _ _;go_wp2;go_ret;refine⟨dW i!,_,_,?_,H3⟩;rfl
open Conc Maps
def MM(m)(w):ld prog 46 #[n? i? m] w λe w'=>e=e? (.bool<|decide<|0<=m/\m<=3)/\w=w':=by
 by_cases B:0<=m
 case' pos=>by_cases J:m<=3
 all_goals
  go_enter func46,ntmps46;go_wp2;go_ret;exact⟨dW j!,q?⟩
def AW.PV{Z:oJ prog}{fn}{tm:V?}{os:List OF}{k:List Item}{b}{ts:List<|W?}{ops:Array Oper}{rest:List Nat}(hi:ops[i]?=y? x7)(h:AW x4 p y7 z6 b C x8 ts)(h5:5<=x4.1.size)(aa:qv p)
  (hm:J<=3) (ht:y2<=255) (ac:1<=y5) (ad:y5<=20) (hq:eh x2.1.1=t?)
  (hn:∀(w2)(u)(L:E?),AW x4 w2 y7 z6 b C x8 ts->pP p w2->L.Perm ((dV x8 C).filter<|Ask.has ⟨J,⟨(dP x2.1.1).toArray⟩,y2⟩)->(L.Pairwise λx y=>fw x y=t?)->R? w2 p.1.size 9 1 u ((L.take y5).map jV).length (du<|(L.take y5).map jV)->dv (jj Z o x9) (⟨fn,fV x7.1 tm<|.tuple #[u,n? i? 0],r? ops rest::k⟩::os) w2 []) :
  dv (jj Z o x9) (⟨17,#[p?<|y? ⟨b,0,x?⟩,n? i? J,s? x2,n? i? y2,n? i? y5,B3,B3,B3,B3,B3,B3,B3,B3,B3,B3,B3,B3,B3,B3,B3,B3,B3,B3,B3,B3,B3,B3,B3,B3,B3,B3,B3,B3,B3,B3,B3,B3,B3,B3,B3,B3,B3,B3,B3,B3,B3,B3,B3,B3,B3,B3,B3,B3,B3,B3,B3,B3,B3,B3,B3,B3,B3,B3,B3,B3,B3,B3],[.code<|eG f17]⟩::⟨fn,tm,r? ops (i::rest)::k⟩::os) p []:=by
 obtain⟨⟨h1,h2,h3,Bb,vS,B,n,vK,kn,h4,h6⟩,k1,k2,k3⟩:=id h
 have ae:x2.size<=1000:=by
  have:=l9 hq;have e:x2.size=l? x2.1.1:=by show x2.1.size=_;rw[ko]
  omega
 have af:=ZE h5 k3.2;have hI:=h4.7;have ao:=pf hI
 have ag:∀e∈C,l? e.1<=65536/\l? e.3<=1048576/\(e.2=f?->0<=e.5/\e.5<=255):=λe he=>by
  have O:=hI.1 e he;have h1:=(iq<|tX O).2;refine⟨o!,(yM O).2,λe0=>?_⟩;obtain O|O:=O
  exact⟨O.2.2.2.2.2.2.1,O.2.2.2.2.2.2.2⟩;rw[O.1]at e0;cases e0
 let ⟨P,ah,ai⟩:=UX hI
 have W:∃sa sc,vS=.slice sa x8.length sc/\((sa=x?/\l? x8=0)\/∃sb so c f,sa=y? ⟨sb,so,x?⟩/\5<=sb/\p.1[sb]?=y? (c? c 9 f)/\∀j,j<l? x8->c[so+j]?=y? (s? ⟨(fc<|x8.getD j []).toArray⟩)):=by
  obtain⟨rfl,h0⟩|⟨g,cap,cur,rfl,_,O,c1,c2,c3,c4⟩:=h4.5.2
  exact⟨x?,0,by rw[h0],.inl ⟨q?,h0⟩⟩;refine⟨_,cap,q?,.inr ⟨g,0,cur,_,q?,ZE h5<|k1 g<|h4.6 g q?,O,λj U=>?_⟩⟩;have Y:=fI (x8.map fc) j<|u! U;rw[<-c4,Zi,if_pos<|u! U]at Y
  have e1:(x8.map fc)[j]'(u! U)=fc (x8.getD j []):=by rw[z?,AS,BY U];rfl
  rw[e1]at Y;simpa using Y
 let ⟨sa,sc,aj,ak⟩:=W;refine Qc hi aj h4.1 h4.4 (ZE h5<|k1 Bb h4.3) ⟨ak,hI.5,λj U=>?_,λA _=>ai A⟩ o! ag hm ht ac ad hq ae (λe he O y hy=>?_) af ?_;have e1:x8.getD j []=x8[j]:=by rw[AS,BY U];rfl
 have hl:=r7<|hI.4 _<|Zw U;let ⟨ps,qs,q1,q2⟩:=ah j U;simp only[e1];have e2:(⟨(fc x8[j]).toArray⟩:b?).size=(fc x8[j]).length:=by simp[oA]
 rw[e2];exact⟨o!,ps,qs,q1,q2⟩;exact SH (yq hI he) y (MB aa hy) (by have:=hy 4 o!;rw[Z1 (o!:4<p.1.size)]at this;have:=(AI.1 this).1;omega);intro w2 v hb hz ho ab;obtain⟨L,al,am,u,rfl,an⟩:=ab;have V:pP p w2:=⟨ho,hz,hb⟩;apply hn w2 u L (h.same V) V al am;rwa[Z5]
def AW.Zbp{Z fn}{tm:V?}{os k b}{ts:List<|W?}{ops rest xs tys mode dY most}(h:AW x4 p y7 z6 b C x8 ts)(h5:5<=x4.1.size)(O:qv p)(aa:x2.size<=la)
  (hn:∀(w2)(u),pP p w2->R? w2 p.1.size 9 1 u (kW (dV x8 C) mode x2.1.1 dY most).1.length (du (kW (dV x8 C) mode x2.1.1 dY most).1)->dv (jj Z o x9) (⟨fn,fV x7.1 tm<|.tuple #[u,n? i? (kW (dV x8 C) mode x2.1.1 dY most).2],r? ops rest::k⟩::os) w2 [])
  (hi:ops[i]?=y? x7:=by rfl) (ab:sA x7 (lo ops tm)=t?:=by rfl) (ho:x7.2=.call {callee:=.value<|.func 17,args:=xs,argTypes:=tys}:=by rfl) (ac:∀x∈xs.1,eI (jj Z o x9).7 (jj Z o x9).5 x:=by simp[eI,Plain])
  (ha:xs.map (mE tm)=#[p?<|y? ⟨b,0,x?⟩,n? i? mode,s? x2,n? i? dY,n? i? most]:=by kernel_rfl):dv (jj Z o x9) (⟨fn,tm,r? ops (i::rest)::k⟩::os) p []:=by
 have ad:xs.size=5:=by have:=congrArg Array.size ha;simpa using this
 refine dv.su (#[p?<|y? ⟨b,0,x?⟩,n? i? mode,s? x2,n? i? dY,n? i? most,B3,B3,B3,B3,B3,B3,B3,B3,B3,B3,B3,B3,B3,B3,B3,B3,B3,B3,B3,B3,B3,B3,B3,B3,B3,B3,B3,B3,B3,B3,B3,B3,B3,B3,B3,B3,B3,B3,B3,B3,B3,B3,B3,B3,B3,B3,B3,B3,B3,B3,B3,B3,B3,B3,B3,B3,B3,B3,B3,B3,B3,B3]:V?) (iI:=f17) (c:=eG f17) hi ab rx k! QB ho ac (by rw[ha,ad];kernel_rfl) ?_;clear ha ab ho ac ad;have hI:Inv C x8:=by obtain⟨_,_,_,_,_,_,_,_,_,h4,_⟩:=h.j;exact h4.7
 by_cases B:¬(mode<0\/3<mode\/dY<0\/255<dY\/most<1\/20<most)/\eh x2.1.1=t?
 .obtain⟨hb,Y⟩:=B;obtain⟨m,rfl⟩:=N? (o!:0<=mode);obtain⟨t,rfl⟩:=N? (o!:0<=dY);obtain⟨n,rfl⟩:=N? (o!:0<=most);refine h.PV hi h5 O o! o! o! o! Y λw2 u L _ V hp hs U=>?_;rw[IF (zu hI) (λe he=>(yq hI he).1) o! o! o! o! Y hp hs]at U;have h2:=hn w2 u V U;rwa [show(kW (dV x8 C) m x2.1.1 t n).2=0 by unfold kW;rw[if_neg hb,if_pos Y]]at h2
 have ae:(J? (kW (dV x8 C) mode x2.1.1 dY most=([],3))/\((decide<|0<=mode/\mode<=3)=f?\/(decide<|0<=mode/\mode<=3)=t?/\(dY<0\/¬dY<0/\(255<dY\/¬255<dY/\(decide<|1<=most/\most<=20)=f?))))\/(J? (kW (dV x8 C) mode x2.1.1 dY most=([],2))/\(decide<|0<=mode/\mode<=3)=t?/\¬dY<0/\¬255<dY/\(decide<|1<=most/\most<=20)=t?/\eh x2.1.1=f?):=by simp only[decide_eq_false_iff_not,decide_eq_true_eq];by_cases hb:mode<0\/3<mode\/dY<0\/255<dY\/most<1\/20<most;exact .inl ⟨by show _=_;unfold kW;rw[if_pos hb],o!⟩;have Y:¬eh _=t?:=λh=>B ⟨hb,h⟩;exact .inr ⟨by show _=_;unfold kW;rw[if_neg hb,if_neg Y],o!,o!,o!,o!,u! Y⟩
 clear B;have c1:=λy=>MM mode y;have c2:=λy=>Bf most y;have c3:=λy=>qC x2 y aa;generalize decide (0<=mode/\mode<=3)=d1 at *;generalize decide (1<=most/\most<=20)=d2 at *;generalize eh x2.1.1=d3 at *;have HN:=h! hn;have HC:=h!<|A? c1<|A? c2 c3;clear hn c1 c2 c3 h hI O h5 aa;show dv _ (⟨_,_,[.code<|.seq (.region 0 _ f?)<|.seq (.seq (.region 1 _ f?)<|.cond _ (.seq (.region 2 _ f?) .ret) .skip)<|.seq (.seq (.region 3 _ f?)<|.cond _ (.seq (.region 4 _ f?) .ret) .skip) _]⟩::_) _ _;refine dv.sr λW J=>?_
 (iterate 2 (refine fH ?_;go_simp));apply dv.ie J;clear J W;refine dv.seq<|gD λW J y V=>?_;have HL:=h! V;clear V;obtain⟨HE,rfl|⟨rfl,e1|⟨e1,e2|⟨e2,rfl⟩⟩⟩⟩|⟨HE,rfl,e1,e2,rfl,rfl⟩:=ae
 all_goals
  go_wp2_with fail;apply g!<|HC.1 _;go_wp2_with (first|(go_at_call 47;apply g!<|HC.2.1 _));apply eV J;clear J W
 rotate_right;refine dv.ni trivial (congrArg _ (j!:(decide _ || decide _)=f?)) (dv.skip<|dv.seq<|gD λW J y2 V=>?_);have HL:=h!<|HL.trans V;clear V;go_wp2_with fail;apply g!<|HC.2.2 _;go_wp2;apply eV J;clear J W
 all_goals
  refine dv.rG trivial (by first|rfl|exact congrArg Value.bool (j!:(decide (dY<0) || decide (255<dY))=t?)) (dv.sr λW J=>?_)
  (iterate 2 (refine fH ?_;go_simp));apply dv.ie J;clear J W;have h2:=HN.o _ _ HL (by rw[HE.o];exact Z9 _ _ _ _);rw[HE.o]at h2;exact dv.back (.inr ⟨_,q?⟩) rx hi (λτ=>by simp[lf,results17,go_sem]) h2
end
section
open RowKit
section
variable {f:E?}{g i:Nat}
def Iq:Option Nat->Int
 |none=>-1|some b=>(b:Int)
def lenOf:v?->Nat
 |.slice _ n _=>n|_=>0
def MW{ok b told}(h:ib f ok g []=told++ib f ok (g-l? told) told)(J:l? told<g)(hb:jY f (λi=>ok i && !told.contains i) f.length=y? b) :
  ib f ok g []=(told++[b])++ib f ok (g-(told++[b]).length) (told++[b]):=by
 rw[h];obtain⟨r,B⟩:∃r,g-l? told=r+1:=⟨g-l? told-1,o!⟩;rw[B,ib,hb,(j!:g-(told++[b]).length=r)];simp
def ME{ok told}(h:ib f ok g []=told++ib f ok (g-l? told) told)(hb:jY f (λi=>ok i && !told.contains i) f.length=x?):ib f ok g []=told:=by
 rw[h]
 cases g-told.length with
 |zero=>simp[ib]|succ r=>rw[ib,hb];simp
def LD{ok told}(h:ib f ok g []=told++ib f ok (g-l? told) told)(B:¬told.length<g):ib f ok g []=told:=by rw[h,(o!:g-l? told=0)];simp[ib]
def Xz{ok}(h:ok i=f?):jY f ok (i+1)=jY f ok i:=by rw[jY];cases jY f ok i<;>simp[h]
def LP{ok}(h:ok i=t?)(hb:jY f ok i=x?):jY f ok (i+1)=y? i:=by rw[jY,hb];simp[h]
def RV{ok b}(h:ok i=t?)(hb:jY f ok i=y? b):jY f ok (i+1)=if fw (f.getD i je) (f.getD b je)=t? then y? i else y? b:=by rw[jY,hb];simp[h]
def Q9{t j}:((cC<|j+1).all λi=>zy t g i)=(((cC j).all λi=>zy t g i)&&((t / 2 ^ j % 2==0) || (g / 2 ^ j % 2==1))):=by rw[D!,List.all_append];simp[zy]
def tc(l:E?)(told:List Nat):List Wd:=told.map λi=>jV<|l.getD i je
def xu(n:Nat)(told:List Nat):List v?:=(cC n).map λi=>.bool<|told.contains i
def Rl(n):(madeCells #[Value.bool f?] n).1=xu n []:=by rw[CJ];unfold jK xu;apply List.ext_getElem<;>simp
def Fq{told}(h:i<g):(xu g told)[i]?=y? (.bool<|told.contains i):=by unfold xu;rw[ZZ,de h];rfl
def R4{told b}(h:b<g):(xu g told).set b (.bool t?)=xu g (told++[b]):=by apply ep;intro j;unfold xu;rw[List.getElem?_set];simp only[ZZ,Z5,fB];by_cases e:b=j;subst e;simp[h,de h];rw[if_neg e];by_cases B:j<g;rw[de B];simp[Ne.symm e];rw[ZA j!];rfl
end
section
open Conc
def Zag(B:Region.Mode)(ops:Array Oper):Nat->List Nat->List Nat
 |0,acc=>acc|n+1,acc=>Zag B ops n (if acc.any (λk=>(vO B ops k).contains n)then n::acc else acc)
def OP{ops md last}:∀(n)(acc),(∀i∈acc,i=last\/XQ md ops last i)->∀i∈Zag md ops n acc,i=last\/XQ md ops last i
 |0,_,h=>h|n+1,acc,h=>OP n _ (by
  intro i B;split at B;rename_i V;obtain rfl|B:=Zm.1 B
  obtain⟨k,W,Y⟩:=C!.1 V;obtain⟨o,e,J,O,U,rfl⟩:=Cr<|List.contains_iff_mem.1 Y;obtain rfl|ha:=h k W
  exact .inr (.base J O U);exact .inr (.step ha J O U);exact h i B
  exact h i B)
def XZ(B:Region.Mode)(ops:Array Oper)(last:Nat)(listed:Array Bool)(i:Nat):Bool:=sB ops&&te B ops listed i&&(s8 B ops listed).contains i&&(Zag B ops last [last]).contains i&&i != last&&OJ B ops listed
def eJ{P ops md last tl Sd}(i)(v){oi fuel listed C a}(O:∀y,C y->lO P oi a y (λu U=>gR y U/\u=v))
  (h:WS P md ops last tl Sd fuel (S? listed i t?) C<|a.put oi.1 v) (B:ops[i]?=y? oi:=by rfl) (hb:XZ md ops last listed i=t?:=by kernel_rfl) (hC:gp gR C:=by exact lu.zc _) (hT:iA C:=by exact lu.free _)
  (V:sA oi (lo ops a.1)=t?:=by rfl):WS P md ops last tl Sd (fuel+1) listed C a:=by
 simp only[XZ,IT]at hb;obtain⟨⟨⟨⟨⟨W,Y⟩,h3⟩,h4⟩,J⟩,h6⟩:=hb;exact IK B ((OP last [last] (λi B=>.inl<|u! B) i<|u! h4).resolve_left<|u! J) (u! J) (Region.noSelect_spec W) fuel listed C a (NT h6) (λj oj a b c d=>.inl<|Region.free_spec B Y j oj a b c d) (u! h3) hC hT (.inl ⟨V,O⟩) h
end
def Xn{e}(h:Es e){N:Nat}(B:e.4=N):(⟨(jV e).toArray⟩)=(⟨a? e.1⟩:b?)++⟨#[32]⟩++⟨(oE N).toArray⟩++⟨#[32]⟩++⟨a? e.3⟩/\
  (⟨a? e.1⟩:b?).size<=1000/\(⟨a? e.3⟩:b?).size<=1000/\(⟨(oE N).toArray⟩:b?).size<=7/\N<=1000000:=by
 have hb:N<=1000000:=by have:=h.2.2.2.2.2.1;omega
 refine⟨?_,?_,?_,?_,hb⟩;rw[XF];simp[jV,B];have:=(AN h).1;show e.1.toArray.size<=_;simp;omega;have:=(AN h).2;show e.3.toArray.size<=_;simp;omega;have:=JG 7 N o! o!;show(oE N).toArray.size<=_;simpa using this
def BB{F:F?}{b vB vS vT}{am:E?}{ss:List<|E?}{m t n:Nat}{qb:b?}{w}(hh:w.1[b]?=y? (c? #[vB,vS,vT] 120 (0,0)))(a9:kX w F vB am)(a':Cc w F vS ss)(hI:Inv am ss)
  (hm:m<=3) (ht:t<=255) (b5:1<=n) (hn:n<=20) (hq:eh qb.1.1=t?) (aV:qb.size<=1048576) {L:E?} (hL:L=dV ss am) :
  ld prog 111 #[p?<|y? ⟨b,0,x?⟩,n? i? m,s? qb,n? i? t,n? i? n] w λe w'=>∃v,e=e? (.tuple #[v,n? i? 0])/\
   R? w' w.1.size 9 1 v (ib L (λi=>pT m t qb.1.1<|L.getD i je) n []).length (du<|tc L<|ib L (λi=>pT m t qb.1.1<|L.getD i je) n [])/\Below w.1.size w w':=by
 have aA:J? (ld prog 143 #[p?<|y? ⟨b,0,x?⟩] w λe w'=>∃u,e=e? u/\R? w' w.1.size 202 5 u L.length (dG L)/\Below w.1.size w w'):=by rw[hL];exact uB F b vB vS vT am ss w hh a9 a' (by have:=xg hI;simp[gO]at this⊢;omega)<|v!<|pf hI
 have aB:J?<|(L.map eE.name).Nodup:=by rw[hL];exact zu hI
 have aw:J? (∀e∈L,Es e):=by rw[hL];exact λe he=>yq hI he
 have bw:l? L<=30:=by rw[hL];exact hI.7
 obtain⟨ok,ax⟩:∃ok:Nat->Bool,ok=λi=>pT m t qb.1.1<|L.getD i je:=⟨_,q?⟩;rw[<-ax];have aW:=h! ax;clear ax hL hh a9 a' hI;have b6:(0:Int)<=m:=o!;have b7:(m:Int)<=3:=o!;have b8:(0:Int)<=t:=o!;have b9:(t:Int)<=255:=o!;have b':(1:Int)<=n:=o!;have bA:(n:Int)<=20:=o!;let ⟨i4,aX,aY,aZ,hx2⟩:=Zz XJ;let ⟨i9,ba,bc,bd,be⟩:=Zz rH;go_enter re,p5;go_wp2_with fail;apply g!<|gY qb _ (by unfold la;omega);rw[hq];go_wp2_with fail;apply aA.o.mono;rintro e w1 ⟨u,rfl,an,O⟩;obtain⟨au,cu,rfl,bB⟩:=dK an;have hz1:=O.4;clear aA;go_wp2_with (at_make;go_must (refine wpList_make_full _ q? _ _ 209 q? w.1.size 4 i4 _ 1 underlying209 aX aY aZ _ _ _ _ _ q? q? q? q? ?m1 ?m2 ?m3 ?_))
 case m1=>rw[hx2];omega
 case m2=>unfold la;omega
 case m3=>exact hz1
 intro w5 ay az;rw[Rl]at ay;have aC:=h!<|dJ an<|λk U=>az.5 k (an.lt k U).2 i!;have aD:=h!<|O.grown az hz1 i!;have aE:J? _:=ay;clear ay az an O hz1;generalize w1.1.size=g at *;go_wp2;go_loopw [14] (λv wr=>∃told:List Nat,l? told<=n/\ib L ok n []=told++ib L ok (n-l? told) told/\R? wr w.1.size 4 1 (.slice (y? ⟨g,0,x?⟩) L.length L.length) L.length (xu L.length told)/\R? wr w.1.size 9 1 v told.length (du<|tc L told)/\R? wr w.1.size 202 5 (.slice au L.length cu) L.length (dG L)/\Below w.1.size w wr) (λv _=>n-(lenOf v));exact⟨[],i!,i!,aE.o,Z9 _ _ _ _,aC.o,aD.o⟩;obtain⟨told,bC,aF,aG,ag,aH,B⟩:=hrel;obtain⟨aR,cR,rfl,bD⟩:=dC ag;have HP:=h! aF;have HU:=h! aG;have HO:=h! ag;have HR:=h! aH;have HB:=h! B;clear aF aG ag aH B aC aD aE;by_cases aI:l? told<n
 .have b0:(l? told:Int)<(n:Int):=o!;obtain⟨Y,ar⟩:∃Y:Nat->Bool,Y=λi=>ok i && !told.contains i:=⟨_,q?⟩;have HT:=h! ar;clear ar;generalize wr=wo at *;go_wp2;go_loopw [16,17] (λbv iv wr=>∃i:Nat,i<=l? L/\iv=n? i? i/\bv=n? i? (Iq (jY L Y i))/\Below wo.1.size wo wr) (λ_ i _=>l? L-(intOf i).toNat);exact⟨0,o!,q?,q?,nr _ _⟩;obtain⟨i,hi,rfl,rfl,B⟩:=hrel;have V:=h! B;by_cases ai:i<l? L
  .have b3:(i:Int)<(l? L:Int):=o!;obtain⟨bl,off,rfl,d0,d1,d2,d3,d4⟩:=jo ((jB.eo HR.o).below B) i ai;let ⟨bu,ou,aj,hu⟩:=eM HU.o i _<|Fq ai;simp only[m?,O!]at aj;obtain⟨rfl,rfl,_⟩:=aj;rw[ZD]at hu;have hu:=Z0 B hu;have HE:=h!<|aw.o _<|Zw ai;have a0:J?<|L.getD i je=L[i]:=h!<|by rw[AS,BY ai];rfl
   obtain⟨tg,hg⟩:∃tg:Nat,L[i].5=tg:=⟨L[i].5.toNat,by have:=HE.o.2.2.2.2.2.2.1;omega⟩;have bf:tg<=255:=by have:=HE.o.2.2.2.2.2.2.2;omega
   have a1:J?<|L[i].3.length<=1048576:=ZE (AN HE.o).2 o!
   have ao:J?<|Y i=(nB t tg&&iz m (dP qb.1.1) (dP L[i].3) && !told.contains i):=by show _=_;rw[HT.o];show(ok i&&_)=_;rw[aW.o];show(pT _ _ _ (L.getD i je)&&_)=_;rw[a0.o];unfold pT dF;rw[hg];rfl
   have aJ:J? (∀y,ld _ 152 _ y λee w'=>ee=e? (.bool<|iz m _<|dP L[i].3)/\Below _ y w'):=λy=>SS m qb ⟨L[i].3.toArray⟩ y hm aV (by show L[i].3.toArray.size<=_;simpa using a1.o);rw[hg]at d4;have aK:J?<|vN L[i]=.agg #[s? ⟨L[i].1.toArray⟩,.bool L[i].2,s? ⟨L[i].3.toArray⟩,n? i? L[i].4,n? i? (tg:Int)]:=h!<|by rw[<-hg];rfl
   clear hg B;generalize told.contains i=tl at *;generalize iz m (dP qb.1.1) (dP L[i].3)=ft at *;generalize hx:L[i]=x at *;have HX:=h! hx;clear hx;obtain⟨nm,gn,tx,wt,aL⟩:=x;simp only at d0 d1 d2 d3;go_wp2;go_loopw [18,19] (λhv bv wy=>∃j:Nat,j<=8/\bv=n? i? ((2 ^ j:Nat):Int)/\hv=.bool ((cC j).all λi=>zy t tg i)/\wy=wr) (λ_ b _=>256-(intOf b).toNat);exact⟨0,o!,q?,q?,q?⟩;obtain⟨j,hj,rfl,rfl,rfl⟩:=hrel;by_cases bE:j<8
   .have hp:0<2 ^ j/\2 ^ j<=128:=⟨Nat.two_pow_pos j,hH o! (o!:j<=7)⟩;have HM:=h!<|Q9 (t:=t) (g:=tg) (j:=j);have aM:2 ^ (j+1)=2*2 ^ j:=by rw[i2,Nat.mul_comm]
    generalize 2 ^ j=p at *;generalize aN:2 ^ (j+1)=p2 at *;have bF:(p:Int)≠0:=o!;have bG:(p:Int)<256:=o!;have bH:IntKind.i64.wrap (2*(p:Int))=((p2:Nat):Int):=by simp only[X?];omega
    have q1:(t:Int).tdiv (p:Int)=((t / p:Nat):Int):=by rw[si o!];rfl
    have q2:(tg:Int).tdiv (p:Int)=((tg / p:Nat):Int):=by rw[si o!];rfl
    have b1:t / p<=255:=ZE (i0 _ _) ht;have b2:tg / p<=255:=ZE (i0 _ _) bf;generalize t / p=d1 at *;generalize tg / p=d2 at *;generalize aO:(gx (cC<|j+1) λi=>zy t tg i)=nw at *;generalize (gx (cC j) λi=>zy t tg i)=od at *;have w1:IntKind.i64.wrap (d1:Int)=(d1:Int):=by simp only[X?];omega
    have w2:IntKind.i64.wrap (d2:Int)=(d2:Int):=by simp only[X?];omega
    have HZ:J?<|p2=2*p/\2 ^ (j+1)=p2:=⟨aM,aN⟩;have bg:=h! aO;have r1:(d1:Int).tmod 2=((d1 % 2:Nat):Int):=by rw[sg o!];rfl
    have r2:(d2:Int).tmod 2=((d2 % 2:Nat):Int):=by rw[sg o!];rfl
    have s1:d1 % 2=0\/d1 % 2=1:=o!;have s2:d2 % 2=0\/d2 % 2=1:=o!;generalize d1 % 2=m1 at *;generalize d2 % 2=m2 at *;clear aM aN aO;have ak:J? (∀v,nw=v->(∃j:Nat,j<=8/\Value.int i? _=n? _ ((2 ^ j:Nat))/\Value.bool v=.bool ((cC j).all _)/\True)/\256-(intOf<|n? i? p2).toNat<256-(intOf<|n? i? p).toNat):=λv hv=>⟨⟨j+1,o!,by rw[HZ.o.2],by rw[bg.o,hv],t!⟩,by have:=HZ.o.1;simp[intOf];omega⟩
    cases od with
    |false=>go_wp2;exact ak.o _ HM.o
    |true=>
     obtain rfl|rfl:=s1
     go_wp2;exact ak.o _ HM.o;obtain rfl|rfl:=s2
     all_goals
      go_wp2;exact ak.o _ HM.o
   obtain rfl:j=8:=o!;rw[<-RH o!];generalize nB t tg=hs at *;go_wp2_with fail;apply (aJ.o _).mono;rintro ee wf ⟨rfl,aa⟩;have y0:=Z0 aa d0;have y1:=Z0 aa d1;have y2:=Z0 aa d2;have y3:=Z0 aa d3;have y4:=Z0 aa d4;have hu:=Z0 aa hu;have ae:=h!<|V.o.trans<|aa.mono V.o.4;clear aa d0 d1 d2 d3 d4 aJ V;cases tl<;>cases hs<;>cases ft
   case false.true.true=>
    cases W:jY L Y i with
    |none=>have HN:=h!<|LP (by rw[ao.o];rfl) W;rw[show Iq x? = -1 from rfl];clear W;go_wp2;exact⟨⟨i+1,o!,by go_num,by rw[HN.o];rfl,ae.o⟩,by simp[intOf];omega⟩
    |some bb=>
     let ⟨O,_,_⟩:=wF aB.o i bb o! W;have a2:bb<l? L:=o!;have HN:=h!<|RV (by rw[ao.o];rfl) W;have av:=ae.o;let ⟨bI,b4,aP,e0,e1,e2,e3,e4⟩:=jo ((jB.eo HR.o).below av) bb a2;simp only[m?,O!]at aP;obtain⟨rfl,rfl,_⟩:=aP;have HC:J? (∀y,ld _ 153 #[vN ⟨nm,gn,tx,wt,aL⟩,vN _] y _):=λy=>RO _ _ y a1.o<|ZE (AN<|aw.o _<|Zw a2).2 o!;rw[a0.o,show L.getD bb je=L[bb] by rw[AS,BY a2];rfl]at HN;rw[aK.o]at HC;generalize fw ⟨nm,gn,tx,wt,aL⟩ L[bb]=ah at *;generalize L[bb]=z at *;obtain⟨bJ,bK,bL,bM,bN⟩:=z;unfold vN at HC;simp only at e0 e1 e2 e3 e4 HC;rw[show Iq _=bb from rfl];have bh:(bb:Int)<(l? L:Int):=o!;clear av W aK ao a0 HX HE a1;go_wp2_with fail;refine jS (Sd:=λa y=>y.2=wf.2->qP _ _ _ [8,9] a y) (last:=8) (tl:=[9]) k! ?_<|λa y h ht=>h ht;refine ew 0 ?_ ?_<|ew 1 ?_ ?_<|ew 2 ?_ ?_<|ew 3 ?_ ?_ ?_
     any_goals(intro y J;have q0:=eT J y0;have q1:=eT J y1;have q2:=eT J y2;have q3:=eT J y3;have q4:=eT J y4;exact x!)
     go_simp;refine ew 4 ?_ ?_<|ew 5 ?_ ?_<|ew 6 ?_ ?_<|ew 7 ?_ ?_ ?_
     any_goals(intro y J;have q0:=eT J e0;have q1:=eT J e1;have q2:=eT J e2;have q3:=eT J e3;have q4:=eT J e4;exact x!)
     go_simp;refine sJ k! (λt=>Gd k! k! _ _) ?_;intro y J ht;have hF:=HC.o y;have a3:=h!<|ae.o.trans<|Below.mono (xS J ht) ae.o.4;clear J ht y0 y1 y2 y3 y4 e0 e1 e2 e3 e4 HC ae hu;apply pX q? rfl;unfold lO;go_simp;refine⟨q?,hF.mono ?_⟩;rintro ee y3 ⟨rfl,aQ⟩;have bi:=h!<|a3.o.trans<|aQ.mono a3.o.4;clear hF aQ a3;refine⟨_,q?,?_⟩;apply pX q? rfl;unfold lO;go_simp;apply uX;cases ah
     all_goals
      go_wp2;exact⟨⟨i+1,o!,by go_num,by rw[HN.o];rfl,bi.o⟩,by simp[intOf];omega⟩
   all_goals
    have HN:J?<|jY L Y _=jY L Y i:=Xz (by rw[ao.o];rfl);go_wp2;exact⟨⟨i+1,o!,by go_num,by rw[HN.o],ae.o⟩,by simp[intOf];omega⟩
  obtain rfl:i=l? L:=o!;have bO:¬(l? L:Int)<(l? L:Int):=o!;clear B ai hi
  cases W:jY L Y L.length with
  |none=>have HF:=h! (ME HP.o<|by rwa[<-HT.o]);rw[show Iq x? = -1 from rfl];have bj:=h!<|dH HO.o λk U=>V.o.5 k (HO.o.lt k U).2;have ap:=h!<|HB.o.trans<|V.o.mono HB.o.4;clear W;go_wp2;go_ret2;refine⟨_,q?,?_,ap.o⟩;rw[HF.o];exact bj.o
  |some bb=>
   let ⟨O,_,_⟩:=wF aB.o _ bb (Zu _) W;have bk:=h! (MW HP.o aI<|by rwa[<-HT.o]);have HE:=h!<|aw.o _<|Zw O
   have bm:J?<|tc L (told++[bb])=tc L told++[jV L[bb]]:=by show _=_;unfold tc;rw[Z4];simp[AS,BY O]
   obtain⟨N,hN⟩:∃N:Nat,L[bb].4=N:=⟨L[bb].4.toNat,by have:=HE.o.2.2.2.2.1;omega⟩;let ⟨r1,r2,r3,r4,r5⟩:=Xn HE.o hN;have ad:=h!<|dH HU.o λk U=>V.o.5 k (HU.o.lt k U).2;have a4:=h!<|dH HO.o λk U=>V.o.5 k (HO.o.lt k U).2;have a5:=h!<|dJ HR.o λk U=>V.o.5 k (HR.o.lt k U).2;have ap:=h!<|HB.o.trans<|V.o.mono HB.o.4;let ⟨bu,ou,aj,hu⟩:=eM ad.o bb _<|Fq O;simp only[m?,O!]at aj;obtain⟨rfl,rfl,_⟩:=aj;rw[ZD]at hu;have bn:=mB ad.o bb;obtain⟨ws,al⟩:∃ws,wr.setCell ⟨g,bb,x?⟩ (.bool t?)=ws:=⟨_,q?⟩;have af:J?<|R? ws w.1.size 4 1 (.slice (y? ⟨g,0,x?⟩) L.length L.length) L.length<|xu L.length<|told++[bb]:=by rw[<-al,<-R4 O];exact rF ad.o bb _ O
   have ab:J?<|R? ws w.1.size 9 1 (.slice aR told.length cR) told.length<|du<|tc L told:=by rw[<-al];exact jR a4.o _ _ (by obtain h|h:=jh a4.o ad.o d!;rw[h];simp;exact h)
   have ac:J?<|R? ws w.1.size 202 5 (.slice au L.length cu) L.length<|dG L:=by rw[<-al];exact dJ a5.o λk U=>ZH _ _ _ _ λe=>fX a5.o ad.o d! k U (by rw[e];rfl)
   have HBS:J?<|Below w.1.size w ws:=by rw[<-al];exact ap.o.setCell (ad.o.lt g q?).1 _
   obtain⟨bl,off,rfl,e0,_,e2,e3,_⟩:=jo (jB.eo ac.o) bb O;rw[hN]at e3;have HD:J? _:=λy=>Nd N y o!;obtain⟨lb,a6⟩:∃lb:b?,lb=⟨(jV L[bb]).toArray⟩:=⟨_,q?⟩;have bo:=h! a6;rw[<-a6]at r1;have bp:=h! r1;rw[show Iq _=bb from rfl];have bh:(bb:Int)<(l? L:Int):=o!;clear W hN a6 r1 HU HO HR HP HT V ad a4 a5 ap HE;generalize (⟨L[bb].1.toArray⟩:b?)=nb at *;generalize (⟨L[bb].3.toArray⟩:b?)=tb at *;generalize (⟨(oE N).toArray⟩:b?)=db at *;have q1:¬(9223372036854775807<nb.size+1):=o!;have q2:¬(9223372036854775807<nb.size+1+db.size):=o!;have q3:¬(9223372036854775807<nb.size+1+db.size+1):=o!;have q4:¬(9223372036854775807<nb.size+1+db.size+1+tb.size):=o!;go_wp2;clear al hu bn;refine jS (Sd:=λa y=>y.2=ws.2->qP _ _ _ [22,23] a y) (last:=22) (tl:=[23]) k! ?_<|λa y h ht=>h ht;refine eJ 0 ?_ ?_<|eJ 1 ?_ ?_<|eJ 2 ?_ ?_<|eJ 3 ?_ ?_<|eJ 4 ?_ ?_<|eJ 5 ?_ ?_<|eJ 6 ?_ ?_ ?_
   any_goals(intro y J;have q:=eT J e0;exact x!)
   refine eJ 7 ?_ ?_<|eJ 8 ?_ ?_<|eJ 9 ?_ ?_<|eJ 10 ?_ ?_<|eJ 11 ?_ ?_ ?_
   any_goals(intro y J;have q:=eT J e3;exact x!)
   refine eJ 12 ?_ ?_ ?_;rotate_left
   .intro y J;exact y!<|HD.o y
   refine eJ 13 ?_ ?_<|eJ 14 ?_ ?_<|eJ 15 ?_ ?_<|eJ 16 ?_ ?_<|eJ 17 ?_ ?_<|eJ 18 ?_ ?_<|eJ 19 ?_ ?_<|eJ 20 ?_ ?_ ?_
   any_goals(intro y J;have q:=eT J e2;exact x!)
   go_simp;refine M5 (i:=21) k! d!<|Jo (λg=>.slice (y? ⟨g,0,x?⟩) 1 1) (λg y=>C? y ⟨g,0,x?⟩=y? (s?<|nb++⟨#[32]⟩++db++⟨#[32]⟩++tb)) q? (lu.zc _) (lu.free _) (λ_=>eL _ _) (λ_ _ _ h=>h) l! ?_ λg'=>?_
   .intro y J;unfold lO;go_simp;exact⟨gR.alloc _ _,q?,by rw[Zl _ _ _ _ rfl];rfl⟩
   refine sJ k! (λt=>Gd k! k! _ _) ?_;intro y ⟨J,aS⟩ ht;rw[<-bp.o]at aS;have hx:=xS J ht;have af:=h!<|dH af.o λk U=>hx.5 k (af.o.lt k U).2;have ab:=h!<|dH ab.o λk U=>hx.5 k (ab.o.lt k U).2;have ac:=h!<|dJ ac.o λk U=>hx.5 k (ac.o.lt k U).2;have HBS:=h!<|HBS.o.trans<|hx.mono HBS.o.4;clear J ht hx e0 e2 e3 HD;apply pX q? rfl;refine BH _ _ 31 q? _ 9 i9 _ 16 rb ba bc bd be q? _ _ _ q? ab.o _ _ q? (Rd.one aS) ?c00 ?c1 ?c2 ?c3 ?_
   case c00=>intro u hu;simp at hu;subst hu;rfl
   case c1=>simp;omega
   case c2=>unfold la;simp;omega
   case c3=>exact HBS.o.4
   intro v8 w8 a7 aq bq;have aT:=HBS.o.4;have br:=h!<|HBS.o.grown aq aT λk U=>(ab.o.lt k U).1;have bs:=h!<|af.o.kept aq<|jh af.o ab.o d!
   have bt:=h! (dJ ac.o λk U=>by rw[aq.5 k (ac.o.lt k U).2<|λe=>fX ac.o ab.o d! k U e.symm])
   have aU:J?<|R? w8 w.1.size 9 1 v8 (l? told+1)<|du<|tc L<|told++[bb]:=by show World.ownsRow _ _ _ _ _ _ _;rwa[bm.o,iN,<-bo.o]
   obtain⟨a8,c8,rfl,_⟩:=dC aU.o;clear a7 aq bq aT ab HBS af ac;apply pX q? rfl;unfold lO;go_simp;apply uX;go_wp2;exact⟨⟨told++[bb],j!,bk.o,bs.o,by rw[Zh];exact aU.o,bt.o,br.o⟩,by simp[lenOf];omega⟩
 have bP:¬(l? told:Int)<(n:Int):=o!;have HF:=h!<|LD HP.o aI;go_wp2;go_ret2;refine⟨_,q?,?_,HB.o⟩;rw[HF.o];exact HO.o
def KC{F:F?}{b}{B:E?}{ss:List<|E?}{ts:List<|W?}{mode dY most}{J:b?}{w}(hR:lc w F b B ss ts)(hI:Inv B ss)(U:J.size<=la) :
  ld prog 111 #[p?<|y? ⟨b,0,x?⟩,n? i? mode,s? J,n? i? dY,n? i? most] w λe w'=>∃v,e=e? (.tuple #[v,n? i? (kW (dV ss B) mode J.1.1 dY most).2])/\
   R? w' w.1.size 9 1 v (kW (dV ss B) mode J.1.1 dY most).1.length (du (kW (dV ss B) mode J.1.1 dY most).1)/\B? w w':=by
 by_cases hb:mode<0\/3<mode\/dY<0\/255<dY\/most<1\/20<most
 .have e:kW (dV ss B) mode J.1.1 dY most=([],3):=by unfold kW;rw[if_pos hb]
  rw[e];have hc:mode<0\/(¬mode<0/\3<mode)\/(¬mode<0/\¬3<mode/\dY<0)\/(¬mode<0/\¬3<mode/\¬dY<0/\255<dY)\/(¬mode<0/\¬3<mode/\¬dY<0/\¬255<dY/\most<1)\/(¬mode<0/\¬3<mode/\¬dY<0/\¬255<dY/\¬most<1/\20<most):=o!;clear hb e;obtain c|⟨c,d⟩|⟨c,d,f⟩|⟨c,d,f,g⟩|⟨c,d,f,g,h⟩|⟨c,d,f,g,h,i⟩:=hc
  all_goals
   go_enter re,p5;go_wp2;go_ret2;exact⟨_,q?,Z9 _ _ _ _,nr _ _⟩
 by_cases O:eh J.1.1=t?;obtain⟨m,rfl⟩:=N? (o!:0<=mode);obtain⟨t,rfl⟩:=N? (o!:0<=dY);obtain⟨n,rfl⟩:=N? (o!:0<=most);have hz:=(Pn O).1;rw[ko]at hz;obtain⟨vB,vS,vT,hh,_,V,W,_⟩:=hR
 have e:kW (dV ss B) m J.1.1 t n=(tc (dV ss B)<|ib (dV ss B) (λi=>pT m t J.1.1<|(dV ss B).getD i je) n [],0):=by unfold kW;rw[if_neg hb,if_pos O];rfl
 rw[e];have h:=BB hh V W hI (m:=m) (t:=t) (n:=n) o! o! o! o! O (ZE hz o!) rfl;unfold tc at h⊢;simp only[Z5]at h⊢;exact h;have e:kW (dV ss B) mode J.1.1 dY most=([],2):=by unfold kW;rw[if_neg hb,if_neg O]
 rw[e];have Y:eh J.1.1=f?:=by simpa using O
 have h1:¬mode<0/\¬3<mode/\¬dY<0/\¬255<dY/\¬most<1/\¬20<most:=o!;obtain⟨c1,c2,c3,c4,c5,c6⟩:=h1;clear hb e O;go_enter re,p5;go_wp2_with fail;apply g!<|gY J _ U;rw[Y];go_wp2;go_ret2;exact⟨_,q?,Z9 _ _ _ _,nr _ _⟩
open Conc Maps
section
variable {f o p i:Nat}{g l:w?}
def pP.tape(h:pP g l)(τ:Tape):pP g<|tp l τ:=⟨h.1,h.2,h.3⟩
def Pr(l:E?)(mode)(q)(dY most):(kW l mode q dY most).1.length<=20:=by
 unfold kW;split;simp;split;rw[Z5];rename_i h _
 have:∀(l:E?)(ok:Nat->Bool)(n:Nat)(t:List Nat),(ib l ok n t).length<=n:=by
  intro l ok n;induction n with
  |zero=>intro t;simp[ib]|succ n B=>intro t;rw[ib];split;simp;have:=B<|t++[‹Nat›];simp;omega
 exact ZE (this _ _ _ _) o!;simp
def ML{Z:oJ prog}{Mp:F?}{fn}{tm:V?}{os:List OF}{w0}{k:List Item}{c:Nat->Nat}{va vl vm}{us:L?}{ms:W?}{es:List DJ}{s}{ops:Array Oper}{rest:List Nat}{o j W N M K}{S T:b?}{aL:Option Addr}{nL cL made}(hi:ops[i]?=y? o)(h:PS w0 l c f va vl vm p us ms es)(hj:j<l? es)(hx:es[j].x=s)(hy:es[j].y=s)(h5:5<=w0.1.size)(ab:qv l)(ho:VG N M K W S T)(B:p<=1073741824)(hu:l? us<=17179869184)
  (hn:∀w2 c' ad ae ac af,PS w0 w2 c' f va ad ae (p+1) ac af es->l? ac=l? us+9->dv (jj Z g Mp) (⟨fn,fV o.1 tm<|.bool t?,r? ops rest::k⟩::os) w2 []) :
  dv (jj Z g Mp) (⟨78,#[p?<|y? ⟨f,0,x?⟩,.agg #[p?<|y? ⟨es[j].1,0,x?⟩,p?<|y? ⟨es[j].2,0,x?⟩],.agg<|GQ 9 W N M K S T (.slice aL nL cL) made,B3,B3,B3,B3,B3,B3,B3,B3,B3,B3,B3,B3,B3,B3,B3,B3,B3,B3,B3,B3,B3,B3,B3,B3,B3,B3,B3,B3,B3,B3,B3,B3,B3,B3,B3,B3,B3,B3,B3,B3,B3,B3,B3,B3,B3,B3,B3,B3,B3,B3,B3,B3,B3,B3,B3,B3,B3,B3,B3,B3,B3,B3,B3,B3,B3,B3,B3,B3,B3,B3,B3,B3,B3,B3,B3,B3,B3,B3,B3,B3,B3,B3,B3,B3,B3,B3,B3,B3,B3,B3,B3,B3,B3,B3,B3,B3,B3,B3,B3,B3,B3,B3,B3,B3,B3,B3,B3,B3,B3,B3],[.code<|eG f78]⟩::⟨fn,tm,r? ops (i::rest)::k⟩::os) l []:=by
 unfold GQ;obtain⟨F1,F2,hA,_⟩:=h.x j hj;obtain⟨F,hR,hF,hI⟩:=h.y j hj;rw[hx]at hA;rw[hy]at hR hI;generalize es[j].1=b1 at *;generalize es[j].2=b2 at *;have H:=h!<|A? h<|A? h5<|A? ab<|A? ho<|A? B<|A? hu hn;have HA:=h! hA;have HR:J? (lc l F b2 s.b s.s s.t/\Inv s.b s.s/\∀k,F k->k<l.1.size):=⟨hR,hI,λk hk=>(hF k hk).1⟩;clear h hx hy h5 ab ho B hu hn hA hR hI hF;show dv _ (⟨_,_,[.code<|.seq (.region 0 _ f?)<|.seq (.seq (.region 1 _ f?)<|.block 0<|.seq (.region 2 _ f?)<|.cond _ (.seq (.region 3 _ f?)<|.seq (.region 4 _ f?)<|.seq (.region 5 _ f?)<|.seq (.region 6 _ f?)<|.seq (.region 7 _ f?) .ret) _) _]⟩::_) _ _;refine gD λV J y B=>?_;have hz:=B.2;have HL:J?<|pP l<|(y.alloc<|c? #[p?<|y? ⟨b1,0,x?⟩,p?<|y? ⟨b2,0,x?⟩] 122).alloc<|c? #[n? i? 9,n? i? W,n? i? N,n? i? M,n? i? K,s? S,s? T,.slice aL nL cL,.bool made] 77:=B.trans<|.of<|((nr _ _).alloc (Zu _) _).alloc i! _;have p1:((y.alloc<|c? #[p?<|y? ⟨b1,0,x?⟩,p?<|y? ⟨b2,0,x?⟩] 122).alloc<|c? #[n? i? 9,n? i? W,n? i? N,n? i? M,n? i? K,s? S,s? T,.slice aL nL cL,.bool made] 77).1[y.1.size]?=_:=(e! _ _ _ i!).trans<|sK _ _;have p2:=sK (y.alloc<|c? #[p?<|y? ⟨b1,0,x?⟩,p?<|y? ⟨b2,0,x?⟩] 122)<|c? #[n? i? 9,n? i? W,n? i? N,n? i? M,n? i? K,s? S,s? T,.slice aL nL cL,.bool made] 77;clear B;go_wp2;apply eV J;clear J V;have am:∃P O:Nat,P=y.1.size/\O=y.1.size+1:=⟨_,_,q?,q?⟩;rw[(i!:(y.alloc _).1.size=y.1.size+1)]at p2;generalize ((y.alloc<|c? #[p?<|y? ⟨b1,0,x?⟩,p?<|y? ⟨b2,0,x?⟩] 122).alloc<|c? #[n? i? 9,n? i? W,n? i? N,n? i? M,n? i? K,s? S,s? T,.slice aL nL cL,.bool made] 77)=w1 at *;generalize y.1.size+1=O at *;generalize y.1.size=Pb at *;clear am;have HP:J? (∀y,pP w1 y->(∀o,C? y _=_)/\∀o,C? y _=_):=λy B=>⟨dx<|(B.3 _<|eN p1).trans p1,dx<|(B.3 _<|eN p2).trans p2⟩;clear p1 p2;refine dv.seq<|gD λV J y B=>?_;have HY:=h! B;let ⟨d1,d2⟩:=HP.o y B;clear B;go_wp2;apply eV J;clear J V d1 d2;refine dv.block<|gD λV J y2 B=>?_;have HY:=h!<|HY.o.trans B;clear B;go_wp2;apply eV J;clear J V;refine dv.rG trivial q? (dv.sr λV J=>?_)
 (refine fH ?_;go_simp);refine ud q? l! k! λτ=>?_;have q:=(HP _<|HY.o.tape τ).1;unfold lO;go_simp;simp only[iR];apply dv.qg τ;clear q
 (refine fH ?_;go_simp);refine ud q? l! k! λτ=>?_;have q:=(HP _<|HY.o.tape τ).2;unfold lO;go_simp;simp only[iR];apply dv.qg τ;clear q
 (refine fH ?_;go_simp);refine ud q? l! k! λτ=>?_;have q:=(HP _<|HY.o.tape τ).2;unfold lO;go_simp;simp only[iR];apply dv.qg τ;clear q
 (refine fH ?_;go_simp);refine ud q? l! k! λτ=>?_;have q:=(HP _<|HY.o.tape τ).2;unfold lO;go_simp;simp only[iR];apply dv.qg τ;clear q
 (refine fH ?_;go_simp);refine ud q? l! k! λτ=>?_;have q:=(HP _<|HY.o.tape τ).2;unfold lO;go_simp;simp only[iR];apply dv.qg τ;clear q;refine AW.Zbp (mode:=N) (dY:=M) (most:=K) (HA.o.same<|HL.o.trans HY) H.o.2.1 (Hi ⟨H.o.2.2.1,ZE H.o.2.1 HA.o.4.2⟩<|HL.o.trans HY) H.o.2.2.2.1.s λw3 u B U=>?_;have ag:=h!<|HY.o.trans B;have U:=eH U (HL.o.trans HY).2;have C:=λy (B:pP l y)=>KC (mode:=N) (dY:=M) (most:=K) (HR.o.1.stay λk hk=>B.3 k<|HR.o.2.2 k hk) HR.o.2.1 H.o.2.2.2.1.s;have kO:=Pr (dV s.s s.b) N S.1.1 M K;generalize (kW (dV s.s s.b) N S.1.1 M K).1=ah at *;generalize (kW (dV s.s s.b) N S.1.1 M K).2=code at *;have Y:=h! U;obtain⟨ua,uc,rfl,_⟩:=dC U;clear B U;rw[kA];go_simp
 (iterate 5 (refine fH ?_;go_simp));apply dv.ie J;clear J V;have HC:=h! C;clear C HA HR;refine gD λV J y4 B=>?_;have aa:=h!<|ag.o.trans B;have Y:=h!<|dH Y λk hk=>B.3 k (Y.o.lt k hk).2;let ⟨d1,d2⟩:=HP.o y4 aa;clear B ag HY;go_wp2_with fail;apply (HC y4<|HL.o.trans aa).mono;rintro e w5 ⟨v,rfl,hv,hb⟩;have ai:=h!<|aa.o.trans<|.of hb;have Y:=h!<|dH Y λk hk=>hb.5 k (Y.o.lt k hk).2;have HV:=h! hv;obtain⟨an,vc,rfl,_⟩:=dC hv;clear hb hv HC aa d1 d2;go_wp2;apply eV J;clear J V;refine gD λV J y6 B=>?_;have aj:=h!<|ai.o.trans B;have Y:=h!<|dH Y λk hk=>B.3 k (Y.o.lt k hk).2;have C:=JU _ _ ah y6 (Rd.eo Y) (Rd.eo<|dH HV λk hk=>B.3 k (HV.o.lt k hk).2) o!;clear B HV ai;go_wp2_with fail;apply C.mono;rintro e w7 ⟨rfl,nq,rfl⟩;have ak:=h!<|aj.o.trans<|.of<|lx (nr _ _) nq;have Y:J?<|R? (y6.drewN nq) _ 9 1 _ _ _:=Y.o;clear C aj;generalize y6.drewN nq=w7 at *;go_wp2;apply eV J;clear J V;refine gD λV J y8 B=>?_;have C:=T6 H.o.1 ((HL.o.trans ak).trans B) (dH Y λk hk=>B.3 k (Y.o.lt k hk).2) H.o.2.2.2.2.1 H.o.2.2.2.2.2.1 o!;clear B Y ak;go_wp2_with fail;apply C.mono;rintro e w9 ⟨rfl,_,c',ad,ae,ac,af,hp,al⟩;have H9:=h!<|A? hp al;clear C hp al;go_wp2;apply eV J;clear J V;refine gD λV J ao B=>?_;have H9:=h!<|A? (H9.o.1.same B 0) H9.o.2;clear B;go_wp2_with fail;apply g!<|uR _ _;go_wp2;apply eV J;clear J V;refine dv.back (v:=.bool t?) (.inr ⟨_,q?⟩) pi hi (λτ=>by simp[lf,pv,go_sem]) ?_;exact H.o.2.2.2.2.2.2 _ _ _ _ _ _ H9.o.1 H9.o.2
def UH(M:Nat)(es:List DJ):Prop:=∀e∈es,e.x=e.y/\eK e.x.t<=M
def WM(w0 w:w?)(B last n u M:Nat):Prop:=∃c U V W J O ms es,PS w0 w c B U V W J O ms es/\J<=last+1/\l? O<=u+9/\n<=l? es/\l? es<=n+1/\UH (M+25) es
def UH.mono{es}(h:UH f es)(hm:f<=o):UH o es:=λe B=>⟨(h e B).1,ZE (h e B).2 hm⟩
def UH.set{es s}(h:UH f es)(B:eK s.t<=f):UH f<|es.set i ⟨o,p,s,s⟩:=λe J=>by
 obtain O|rfl:=e6 J
 exact h e O;exact⟨q?,B⟩
def BF:f78.1≠ "runtime.NumGoroutine":=by have:f78.1 = "(*hint/hintlaw.World).tells":=k!;rw[this];decide
def PF(w:w?)(a:Option Addr)(n:Nat):Prop:=∀k,k<n->∃b off kind W N M K S T aL nL cL made,a=y? ⟨b,off,x?⟩/\(∀j,j<9->C? w ⟨b,off+k*9+j,x?⟩=(GQ kind W N M K S T (.slice aL nL cL) made)[j]?)/\VG N M K W S T/\Rp w (.slice aL nL cL)
def PF.low{a}(h:PF g a f)(B:pP g l):PF l a f:=λk J=>by obtain⟨b,off,kind,W,N,M,K,S,T,aL,nL,cL,made,O,U,V,Y⟩:=h k J;refine⟨b,off,kind,W,N,M,K,S,T,aL,nL,cL,made,O,λj hj=>?_,V,Y.low B⟩;have:=U j hj;rw[<-this];have hs:(GQ kind W N M K S T (.slice aL nL cL) made).size=9:=rfl;rw[Z1<|by rwa[hs]]at this;exact(gS B this).trans this.symm
def R5(w0 w:w?)(B k:Nat):Prop:=∃c O U V last J ms es,PS w0 w c B O U V last J ms es/\last<=k/\l? J<=9*k/\1<=l? es/\l? es<=10/\UH (25*k) es
def Tz(V:Int)(X:w?->Prop):Prop:=∀(Z:oJ prog)(U:w?)(Mp:F?)(fn:mm)(tm:V?)(os:List OF)(wl w0:w?)(k:List Item)(c:Nat->Nat)(B:Nat)(Y vl vm:v?)(last:Nat)(J:L?)(ms:W?)(es:List DJ)(ops:Array Oper)(i:Nat)(rest:List Nat)(o:Oper)(O:Nat)(kind W N M K:Int)(S T:b?)(aL:Option Addr)(nL cL:Nat)(made:Bool),ops[i]?=y? o->PS w0 wl c B Y vl vm last J ms es->1<=l? es->l? es<=9->UH O es->O<=16777216->5<=w0.1.size->X w0->VG N M K W S T->Rp wl (.slice aL nL cL)->last<=1073741824->l? J<=17179869184->kind=1\/2<=kind/\kind<=V->
 (∀w2,WM w0 w2 B last es.length J.length O->dv (jj Z U Mp) (⟨fn,fV o.1 tm<|.bool t?,r? ops rest::k⟩::os) w2 [])->
 dv (jj Z U Mp) (⟨41,#[p?<|y? ⟨B,0,x?⟩,.agg<|GQ kind W N M K S T (.slice aL nL cL) made,B3,B3,B3,B3,B3,B3,B3,B3,B3,B3,B3,B3,B3,B3,B3,B3,B3,B3,B3,B3,B3,B3,B3,B3,B3,B3,B3,B3,B3,B3,B3,B3,B3,B3,B3,B3,B3,B3,B3,B3,B3,B3,B3,B3,B3,B3,B3,B3,B3],[.code<|eG f41]⟩::⟨fn,tm,r? ops (i::rest)::k⟩::os) wl []
def R2:f41.1≠ "runtime.NumGoroutine":=by have:f41.1 = "(*hint/hintlaw.World).step":=k!;rw[this];decide
def TY(c:Code):Code:=match c with
 |.seq _ (.seq _<|.seq _<|.seq _<|.seq (.seq _<|.block _<|.loop x) _)=>x|_=>.skip
def OS(c:Code):Code:=match c with
 |.seq _ (.seq _<|.seq _<|.seq _<|.seq (.seq _<|.block _<|.loop _) y)=>y|_=>.skip
def MC{Z:oJ prog}{Mp:F?}{fn}{tm:V?}{os:List OF}{k:List Item}{ops:Array Oper}{rest:List Nat}{o}{a:Option Addr}{B hi}{X:w?->Prop}(bc:ops[i]?=y? o)(bd:Tz hi X)(h5:5<=l.1.size)(hX:X l)(hs:PF l a f)(bq:f<=600000)
  (hn:∀w2,pP l w2->dv (jj Z g Mp) (⟨fn,fV o.1 tm<|.bool t?,r? ops rest::k⟩::os) w2 []) :
  ∀(d m)(w)(a3 a4 a5 a6 a8 ab ac ad ae af ag ah ai aj ak al am an ao ap aq ar au aw ax ay az a0 a1 a2 a7 a9 a' aA aB aC aD aE aF aG aH aI aJ aK aM aN aO aP aQ aR aS aT aU aV aW aX aY aZ ba),f=m+d->R5 l w B m->
   dv (jj Z g Mp) (⟨13,#[.slice a f p,n? i? 2,n? i? hi,a3,a4,a5,a6,p?<|y? ⟨B,0,x?⟩,a8,n? i? (m:Int),ab,ac,ad,ae,af,ag,ah,ai,aj,ak,al,am,an,ao,ap,aq,ar,au,aw,ax,ay,az,a0,a1,a2,a7,a9,a',aA,aB,aC,aD,aE,aF,aG,aH,aI,aJ,aK,aM,aN,aO,aP,aQ,aR,aS,aT,aU,aV,aW,aX,aY,aZ,ba],[.code<|TY<|eG qz,.inLoop<|TY<|eG qz,.inBlock 0,.code<|OS<|eG qz]⟩::⟨fn,tm,r? ops (i::rest)::k⟩::os) w []:=by
 have H:=h!<|A? bd<|A? h5<|A? hX<|A? hs hn;clear bd h5 hX hs hn;intro d;induction d with
 |zero=>intro m w a3 a4 a5 a6 a8 ab ac ad ae af ag ah ai aj ak al am an ao ap aq ar au aw ax ay az a0 a1 a2 a7 a9 a' aA aB aC aD aE aF aG aH aI aJ aK aM aN aO aP aQ aR aS aT aU aV aW aX aY aZ ba hm hR;obtain⟨c,va,vl,vm,last,us,ms,es,aa,_⟩:=hR;obtain rfl:f=m:=hm;have HP:=h! aa;clear aa;show dv _ (⟨_,_,.code (.seq (.seq (.region 6 _ f?)<|.cond _ .skip<|.exit 0) _)::_⟩::_) _ _;refine dv.seq<|gD λV O y J=>?_;have HL:=h!<|HP.o.3.trans J;have br:¬(f:Int)<(f:Int):=o!;clear J HP;go_wp2;apply eV O;clear O V;refine dv.ni trivial q? ?_;apply dv.exit (k':=[.code<|OS<|eG qz]) rfl;show dv _ (⟨_,_,[.code<|.seq (.region 14 _ f?) .ret]⟩::_) _ _;refine gD λV O y2 J=>?_;have HL:=h!<|HL.o.trans J;clear J;go_wp2;apply eV O;exact dv.back (v:=.bool t?) (.inr ⟨_,q?⟩) ry bc (λτ=>by simp[lf,results13,go_sem])<|H.o.2.2.2.2 _ HL
 |succ d ih=>
  intro m w a3 a4 a5 a6 a8 ab ac ad ae af ag ah ai aj ak al am an ao ap aq ar au aw ax ay az a0 a1 a2 a7 a9 a' aA aB aC aD aE aF aG aH aI aJ aK aM aN aO aP aQ aR aS aT aU aV aW aX aY aZ ba hm hR;obtain⟨c,va,vl,vm,last,us,ms,es,aa,bs,bt,be,bf,hq⟩:=hR;have HP:=h! aa;have HQ:=h! hq;have HM:=h! hm;have bu:(m:Int)<(f:Int):=o!;clear aa hq;show dv _ (⟨_,_,.code (.seq (.seq (.region 6 _ f?)<|.cond _ .skip<|.exit 0)<|.seq (.block 1<|.seq (.region 8 _ f?)<|.seq (.region 9 _ f?)<|.cond _ (.seq (.region 10 _ f?)<|.seq (.region 11 _ f?)<|.seq (.region 12 _ f?)<|.cond _ (.seq (.region 13 _ f?) .ret) .skip) .skip)<|.region 7 _ f?)::_⟩::_) _ _;refine dv.seq<|gD λV O y J=>?_;have HP:=h!<|HP.o.same J 0;obtain⟨av,cv,rfl,_⟩:=dK HP.o.1.4;have d0:=dx HP.o.1.1;clear J hm;by_cases bp:l? es<10
  case neg=>have bi:¬(l? es:Int)<10:=o!;go_wp2;apply eV O;clear O V d0;refine dv.ni trivial (by first|rfl|exact congrArg Value.bool<|decide_eq_false o!) ?_;apply dv.exit (k':=[.code<|OS<|eG qz]) rfl;show dv _ (⟨_,_,[.code<|.seq (.region 14 _ f?) .ret]⟩::_) _ _;refine gD λV O y2 J=>?_;have HL:=h!<|HP.o.3.trans J;clear J;go_wp2;apply eV O;exact dv.back (v:=.bool t?) (.inr ⟨_,q?⟩) ry bc (λτ=>by simp[lf,results13,go_sem])<|H.o.2.2.2.2 _ HL
  have bi:(l? es:Int)<10:=o!;go_wp2;apply eV O;clear O V d0;refine dv.rG trivial q? (dv.skip<|dv.seq<|dv.block<|gD λV O y2 J=>?_);have HP:=h!<|HP.o.same J 0;obtain⟨b,off,kind,W,N,M,K,S,T,aL,nL,cL,made,rfl,U,bg,bh⟩:=(H.o.2.2.2.1.low HP.o.3) m o!;have c0:C? y2 ⟨b,off+m*9,x?⟩=y? (n? _ kind):=U 0 o!;have HO:=h! bg
  have HC:J? (∀y,pP y2 y->C? y ⟨b,off+m*9,x?⟩=y? (n? i? kind)/\C? y _=y? (n? i? W)/\C? y _=y? (n? i? N)/\C? y _=y? (n? i? M)/\C? y _=y? (n? i? K)/\C? y _=y? (s? S)/\C? y _=y? (s? T)/\C? y _=y? (.slice aL nL cL)/\C? y _=y? (.bool made)/\Rp y _):=λy J=>⟨gS J<|U 0 o!,gS J<|U 1 o!,gS J<|U 2 o!,gS J<|U 3 o!,gS J<|U 4 o!,gS J<|U 5 o!,gS J<|U 6 o!,gS J<|U 7 o!,gS J<|U 8 o!,bh.low J⟩
  clear J U bg bh;go_wp2;apply eV O;clear O V c0;refine gD λV O y3 J=>?_;have H3:=h! J;clear J;by_cases hk:kind=1\/2<=kind/\kind<=hi
  case neg=>
   have n1:(kind==1)=f?:=by rw[beq_eq_false_iff_ne];omega
   have HR:J?<|R5 l y3 B<|m+1:=⟨_,_,_,_,_,_,_,_,HP.o.same H3 0,o!,o!,be,bf,HQ.o.mono o!⟩;have Y:kind<2\/2<=kind/\hi<kind:=o!;obtain h2|⟨h2,h3⟩:=Y
   all_goals
    go_wp2;apply eV O;clear O V;refine dv.ni trivial (by first|rfl|exact congrArg _<|decide_eq_false o!) (dv.skip<|dv.inBlock<|dv.region ?_)
    (iterate 3 (refine fH ?_;go_simp));refine dv.inRegion<|dv.inLoop ?_;rw[show IntKind.i64.wrap _=((m+1:Nat)) by simp only[X?];omega];exact ih _ _ _ _ _ _ _ _ _ _ _ _ _ _ _ _ _ _ _ _ _ _ _ _ _ _ _ _ _ _ _ _ _ _ _ _ _ _ _ _ _ _ _ _ _ _ _ _ _ _ _ _ _ _ _ _ _ _ _ _ _ (v! HM.o) HR
  have bj:=h! hk;have Y:kind=1\/(kind==1)=f?/\2<=kind/\kind<=hi:=hk.imp_right λh=>⟨by rw[beq_eq_false_iff_ne];omega,h⟩;clear hk;obtain h1|⟨h1,h2,h3⟩:=Y
  all_goals
   try subst h1
   go_wp2;apply eV O;clear O V;refine dv.rG trivial (by first|rfl|exact congrArg Value.bool<|decide_eq_true o!) (dv.sr λV O=>?_)
   (iterate 4 (refine fH ?_;go_simp));refine ud q? l! k! λτ=>?_;obtain⟨q0,q1,q2,q3,q4,q5,q6,q7,q8,_⟩:=HC.o _<|H3.o.tape τ;unfold lO;go_simp;simp only[iR];apply dv.qg τ;clear q0 q1 q2 q3 q4 q5 q6 q7 q8
   refine dv.su _ (iI:=f41) (c:=eG f41) q? l! pm k! R2 q? (by simp[eI,Plain]) k!
    (H.o.1 Z g Mp _ _ _ y3 l _ _ B _ vl vm last us ms es _ 5 _ _ (25*m) _ W N M K S T aL nL cL made q? (HP.o.same H3 0) be o! HQ o! H.o.2.1 H.o.2.2.1 HO (HC y3 H3).2.2.2.2.2.2.2.2.2 o! o! (by first|exact bj|exact .inl rfl) λw4 hN=>?_)
   have HN:=h! hN;clear hN;rw[kA];go_simp
   (refine fH ?_;go_simp);apply dv.ie O;clear O V;refine gD λV O y5 J=>?_;obtain⟨c',bv,bk,bl,bm,bn,bo,bw,hp,n1,n2,n3,n4,n5⟩:=HN.o;have hp:=hp.same J 0;let ⟨D,hD,_⟩:=hp.1.2;have d5:=dx hp.1.1;have C:=Ur B D bk bl bn bo y5 (d5 1) (d5 2) hD hp.1.3 o!;have HR:J? (∀y,pP y5 y->R5 l y B (m+1)):=λy J=>⟨_,_,_,_,_,_,_,_,hp.same J 0,o!,o!,o!,o!,n5.mono o!⟩;clear J hp hD d5 n1 n2 n3 n4 n5;go_wp2_with fail;apply C.mono;clear C;rintro e w6 ⟨rfl,nq,rfl⟩;have H6:J?<|pP y5<|y5.drewN nq:=.of<|lx (nr _ _) nq;generalize y5.drewN nq=w6 at *;go_wp2;apply eV O;clear O V;refine gD λV O y7 J=>?_;have HR:=h!<|HR y7<|H6.o.trans J;clear J H6;go_wp2;apply eV O;clear O V;refine dv.ni trivial q? (dv.skip<|dv.inBlock<|dv.region ?_)
   (iterate 3 (refine fH ?_;go_simp));refine dv.inRegion<|dv.inLoop ?_;rw[show IntKind.i64.wrap _=((m+1:Nat)) by simp only[X?];omega];exact ih _ _ _ _ _ _ _ _ _ _ _ _ _ _ _ _ _ _ _ _ _ _ _ _ _ _ _ _ _ _ _ _ _ _ _ _ _ _ _ _ _ _ _ _ _ _ _ _ _ _ _ _ _ _ _ _ _ _ _ _ _ (v! HM.o) HR
def PS.start(w):PS w (w.alloc<|c? #[tD,tD,tD,n? i? 0] 74) (λk=>if k<w.1.size then 0 else 1) w.1.size tD tD tD 0 [] [] []:=by
 have J:∀k,O? tD≠y? k:=λk B=>by simp[tD,wd]at B
 refine⟨⟨sK _ _,⟨λ_=>False,⟨Z9 _ _ _ _,Z9 _ _ _ _,λ_ _ h=>h,λ_ _ h=>h,λh=>h,λ_ h=>h.elim,λi u U h=>by simp at h⟩,λ_ h=>h.elim,λ_ _ h=>h⟩,q?,Z9 _ _ _ _,if_neg<|Nat.lt_irrefl _,λk B=>absurd B<|J k,λk B=>absurd B<|J k,λk B=>absurd B<|J k⟩,λk B=>if_pos B,.of<|gR.alloc _ _,λi O=>by simp at O,λi O=>by simp at O⟩
def Mn{Z:oJ prog}{Mp:F?}{fn}{tm:V?}{os:List OF}{k:List Item}{ops:Array Oper}{rest:List Nat}{o}{a:Option Addr}{hi}{X:w?->Prop}(aa:ops[i]?=y? o)(W:Tz hi X)(h5:5<=l.1.size)(hX:∀y,pP l y->X y)(hs:PF l a f)(ab:f<=600000)
  (hn:∀w2,pP l w2->dv (jj Z g Mp) (⟨fn,fV o.1 tm<|.bool t?,r? ops rest::k⟩::os) w2 []) :
  dv (jj Z g Mp) (⟨13,#[.slice a f p,n? i? 2,n? i? hi,B3,B3,B3,B3,B3,B3,B3,B3,B3,B3,B3,B3,B3,B3,B3,B3,B3,B3,B3,B3,B3,B3,B3,B3,B3,B3,B3,B3,B3,B3,B3,B3,B3,B3,B3,B3,B3,B3,B3,B3,B3,B3,B3,B3,B3,B3,B3,B3,B3,B3,B3,B3,B3,B3,B3,B3,B3,B3,B3,B3,B3],[.code<|eG qz]⟩::⟨fn,tm,r? ops (i::rest)::k⟩::os) l []:=by
 have H:=h!<|A? W<|A? h5<|A? hX<|A? hs hn;clear W h5 hX hs hn;show dv _ (⟨_,_,[.code<|.seq (.region 0 _ f?)<|.seq (.region 1 _ f?)<|.seq (.region 2 _ f?)<|.seq (.seq (.region 3 _ f?)<|.cond _ _ .skip)<|.seq (.seq (.region 5 _ f?)<|.block 0<|.loop<|TY<|eG qz)<|OS<|eG qz]⟩::_) _ _;refine gD λU O y J=>?_;have V:=h! J;clear J;go_wp2;apply eV O;clear O U;refine gD λU O y1 J=>?_;have V:=h!<|V.trans J;have HP:=h!<|PS.start y1;unfold tD at HP;clear J;go_wp2;apply eV O;clear O U;generalize y1.alloc (c? #[.slice x? 0 0,.slice x? 0 0,.slice x? 0 0,n? i? 0] 74)=w2 at *;generalize y1.1.size=B at *;refine gD λU O y3 J=>?_;have C:=SJ (HP.same J 0) i!;clear J HP;go_wp2_with fail;apply C.mono;clear C;rintro e w4 ⟨rfl,c',ac,bx,yb,hp⟩;have Y:J?<|R5 y1 w4 B 0:=⟨_,_,_,_,_,_,_,_,hp,o!,i!,i!,i!,λe he=>by obtain rfl:=Zg.1 he;exact⟨q?,by simp[V5,eK]⟩⟩;clear hp;go_wp2;apply eV O;clear O U;refine dv.seq<|gD λU O y5 J=>?_
 have Y:J?<|R5 y1 y5 B 0:=by obtain⟨c,va,vl,vm,last,us,ms,es,h1,h2⟩:=Y.o;exact⟨_,_,_,_,_,_,_,_,h1.same J 0,h2⟩
 clear J;go_wp2;apply eV O;clear O U;refine dv.ni trivial q? (dv.skip<|dv.seq<|gD λU O y6 J=>?_)
 have Y:J?<|R5 y1 y6 B 0:=by obtain⟨c,va,vl,vm,last,us,ms,es,h1,h2⟩:=Y.o;exact⟨_,_,_,_,_,_,_,_,h1.same J 0,h2⟩
 clear J;go_wp2;apply eV O;clear O U;refine dv.block<|dv.loop ?_;exact MC aa H.o.1 (ZE H.o.2.1 V.2) (H.o.2.2.1 _ V) (H.o.2.2.2.1.low V) ab (λw2 J=>H.o.2.2.2.2 w2<|V.trans J) f 0 _ _ _ _ _ _ _ _ _ _ _ _ _ _ _ _ _ _ _ _ _ _ _ _ _ _ _ _ _ _ _ _ _ _ _ _ _ _ _ _ _ _ _ _ _ _ _ _ _ _ _ _ _ _ _ _ _ _ _ _ o! Y
end
end
section
open Conc RowKit
variable {f P:w?}{g o Mp:F?}{i U:v?}{l p x0:Nat}{C:Ren}{I:L?}{J:Bool}
def stands:∀v,∃x,(∀m,VR m x v)/\∀t z,v=.iface t z->∃J,x=.iface t J
 |.bool b=>⟨_,λ_=>.bool b,λ_ _ e=>(by cases e)⟩
 |.int k n=>⟨_,λ_=>.int k n,λ_ _ e=>(by cases e)⟩
 |.string s=>⟨_,λ_=>.string s,λ_ _ e=>(by cases e)⟩
 |.float k b=>⟨_,λ_=>.gV _ t!,λ_ _ e=>(by cases e)⟩
 |.complex k a b=>⟨_,λ_=>.gV _ t!,λ_ _ e=>(by cases e)⟩
 |p? x?=>⟨_,λ_=>.iQ,λ_ _ e=>(by cases e)⟩
 |p? (y? a)=>⟨_,λ_=>.gV _ t!,λ_ _ e=>(by cases e)⟩
 |.slice x? l c=>⟨_,λ_=>.gC l c,λ_ _ e=>(by cases e)⟩
 |.slice (y? a) l c=>⟨_,λ_=>.gV _ t!,λ_ _ e=>(by cases e)⟩
 |.map x?=>⟨_,λ_=>.oH,λ_ _ e=>(by cases e)⟩
 |.map (y? r)=>⟨_,λ_=>.gV _ t!,λ_ _ e=>(by cases e)⟩
 |.chan x?=>⟨_,λ_=>.kg,λ_ _ e=>(by cases e)⟩
 |.chan (y? r)=>⟨_,λ_=>.gV _ t!,λ_ _ e=>(by cases e)⟩
 |.nilFunc=>⟨_,λ_=>.nilFunc,λ_ _ e=>(by cases e)⟩
 |.nilIface=>⟨_,λ_=>.nilIface,λ_ _ e=>(by cases e)⟩
 |.tuple c=>⟨_,λ_=>.gV _ t!,λ_ _ e=>(by cases e)⟩
 |.iface t v=>by
  obtain⟨x,U,_⟩:=stands v
  exact⟨.iface t x,λm=>.iface t<|U m,λ_ _ e=>(by cases e;exact⟨_,q?⟩)⟩
 |.agg c=>by have B:∀i(h:i<c.size),∃x,(∀m,VR m x c[i])/\∀t z,c[i]=.iface t z->∃J,x=.iface t J:=λi h=>stands _;refine⟨.agg<|j3 λi=>n8<|B _ i.2,λm=>.agg i! λi h V=>?_,λ_ _ e=>(by cases e)⟩;simp only[jt];exact(n7<|B i _).1 m
 |.func (.func f) a c=>⟨_,λ_=>.gV _ t!,λ_ _ e=>(by cases e)⟩
 |.func (.methodOf t n) a c=>⟨_,λ_=>.gV _ t!,λ_ _ e=>(by cases e)⟩
 |.func (.via t p f b) a c=>⟨_,λ_=>.gV _ t!,λ_ _ e=>(by cases e)⟩
 |.func (.yield l) a c=>⟨_,λ_=>.gV _ t!,λ_ _ e=>(by cases e)⟩
 |.func (.method n) f c=>by have B:∀i(h:i<f.size),∃x,(∀m,VR m x f[i])/\∀t z,f[i]=.iface t z->∃J,x=.iface t J:=λi h=>stands _;refine⟨.func _ (j3 λi=>n8<|B _ i.2) _,λm=>.tC i! (λi h V=>?_)<|λt w W=>?_,λ_ _ e=>(by cases e)⟩;simp only[jt];exact(n7<|B i _).1 m;obtain⟨O,Y⟩:=AI.1 W;obtain⟨z,hz⟩:=(n7<|B 0 O).2 t w Y;refine⟨z,?_⟩;rw[Z1<|u! O];simp only[jt];rw[hz]
termination_by v=>SizeOf.sizeOf v
decreasing_by
 all_goals simp_wf
 all_goals(first|omega|(have:=kj c i h;omega)|(have:=kj f i h;omega))
def Ng{B:Type}(f:B->Nat):∀{l:List B}{x},x∈l->f x<=(l.map f).sum
 |y::l,x,h=>by
  simp only[ZK,J!]
  obtain rfl|h:=Zm.1 h
  omega;have:=Ng f h;omega
def DF(Mp B:F?):v?->Prop
 |.bool _|n? _ _|s? _|p? x?|.slice x? _ _|.map x?|.chan x?|.nilFunc|.nilIface=>True|p? (y? a)=>Mp a.1|.slice (y? a) l c=>Mp a.1\/(l=0/\c=0/\B a.1)
 |_=>False
def NO(Mp Y:F?)(v)(J:¬DF Mp Y v):∃x,(∀m,VR m x v)/\(qL x\/∀m O,VR m x O->O=v):=by
 have B:Vt v->∃x,(∀m,VR m x v)/\(qL x\/∀m O,VR m x O->O=v):=λh=>⟨.tuple #[],λm=>.gV _ h,.inl t!⟩
 cases v with
 |bool b=>exact absurd trivial J|int k n=>exact absurd trivial J|string s=>exact absurd trivial J|float k b=>exact B trivial|complex k a b=>exact B trivial|pointer a=>cases a with|none=>exact absurd trivial J|some a=>exact B trivial
 |slice a l c=>cases a with|none=>exact absurd trivial J|some a=>exact B trivial
 |map a=>cases a with|none=>exact absurd trivial J|some a=>exact B trivial
 |chan a=>cases a with|none=>exact absurd trivial J|some a=>exact B trivial
 |nilFunc=>exact absurd trivial J|nilIface=>exact absurd trivial J|iface t v=>exact B trivial|tuple c=>exact B trivial|agg c=>
  let ⟨x,V,_⟩:=stands<|.agg c
  have hx:qL x:=by have:=V ⟨λ_=>x?,λ_=>x?,λ_=>False,λ_=>True,λ_=>True,False,λ_=>False,λ_=>0,λ_ _=>x?,λ_=>x?,0,λ_ _ h=>(by cases h),λ_ _ _ h=>(by cases h),λ_ _ _ h=>(by cases h)⟩;cases this<;>trivial
  exact⟨x,V,.inl hx⟩
 |func fn f c=>
  cases fn with
  |func g=>exact B trivial|methodOf t n=>exact B trivial|via t p g b=>exact B trivial|yield l=>exact B trivial|method n=>
   have U:∀i(h:i<f.size),∃x,(∀m,VR m x f[i])/\∀t z,f[i]=.iface t z->∃z',x=.iface t z':=λi h=>stands _;refine⟨.func _ (j3 λi:_root_.Fin _=>n8<|U i.1 i.2) _,λm=>.tC i! (λi h h'=>?_)<|λt w hw=>?_,.inr λm O h=>?_⟩;simp only[jt];exact(n7<|U i _).1 m;obtain⟨W,e0⟩:=AI.1 hw;obtain⟨z,hz⟩:=(n7<|U 0 W).2 t w e0;refine⟨z,?_⟩;rw[Z1<|u! W];simp only[jt];rw[hz]
   cases h with
   |func hf=>cases hf
   |tC _ _ _=>rfl
def QZ(hm:∀r,g r->C.1 r=y? r)(B:∀r,o r->C.7 r)(h:DF g o i):VR C i i:=by
 cases i with
 |bool b=>exact .bool b|int k n=>exact .int k n|string s=>exact .string s|pointer a=>cases a with|none=>exact .iQ|some a=>exact .ptr<|.mk<|hm _ h
 |slice a l c=>cases a with|none=>exact .gC l c|some a=>obtain h|⟨rfl,rfl,h⟩:=h<;>first|exact .slice l c<|.mk<|hm _ h|exact .zero a<|B _ h
 |map a=>cases a with|none=>exact .oH|some a=>exact h.elim
 |chan a=>cases a with|none=>exact .kg|some a=>exact h.elim
 |nilFunc=>exact .nilFunc|nilIface=>exact .nilIface|_=>exact h.elim
def QJ(hm:∀r,g r->C.1 r=y? r)(O:∀r r',o r->C.1 r≠y? r')(h:DF g o i)(V:VR C i U):U=i:=by
 have B:∀{a J:Addr},g a.1->AR C a J->J=a:=fun {a J} ha x=>by
  cases x with
  |mk hb=>rw[hm _ ha]at hb;cases hb;rfl
 cases V with
 |gV _ _=>exact h.elim|ptr x=>rw[B h x]|slice l c x=>
  obtain h|⟨rfl,rfl,h⟩:=h
  rw[B h x];exact absurd x.blk<|O _ _ h
 |map _=>exact h.elim|gone _=>exact h.elim|chan _=>exact h.elim|func _ _ _ _ _=>exact h.elim|iface _ _=>exact h.elim|agg _ _=>exact h.elim|tuple _ _=>exact h.elim|tC _ _ _=>exact h.elim|_=>rfl
noncomputable def V6 (Mp Zp:F?) (v:v?):v?:=@dite _ (DF Mp Zp v) (oa _) (λ_=>v) λh=>n8 (NO Mp Zp v h)
def xJ(h:DF g o i):V6 g o i=i:=by simp[V6,h]
def IC(h):V6 g o i=n8 (NO g o i h):=by simp[V6,h]
def Zbn(hm:∀r,g r->C.1 r=y? r)(B:∀r,o r->C.7 r)(v):VR C (V6 g o v) v:=by by_cases h:DF g o v;rw[xJ h];exact QZ hm B h;rw[IC h];exact(n7<|NO g o v h).1 C
def U4(hm:∀r,g r->C.1 r=y? r)(J:∀r r',o r->C.1 r≠y? r')(B:VR C (V6 g o i) U):qL (V6 g o i)\/U=i:=by by_cases h:DF g o i;rw[xJ h]at B;exact .inr (QJ hm J h B);rw[IC h]at B⊢;exact(n7<|NO g o i h).2.imp id λx=>x C U B
noncomputable def V' (W:w?) (Mp:F?) (b:Nat):Obj->Obj
 |c? c e f=>@ite _ (Mp b) (oa _) (c? (c.map (V6 Mp (Zo W))) e f) (c? c e f)|_=>c? #[] 0
noncomputable def mq (W0:w?) (Mp:F?):w?:={W0 with heap:=W0.1.mapIdx (V' W0 Mp)++j2 (W0.1.1.map SF).sum (c? #[] 0)}
def vY:f.1.size<=(mq f Mp).1.size:=by simp[mq]
def CF{b}(h:b<f.1.size):(mq f g).1[b]?=(f.1[b]?).map (V' f g b):=by unfold mq;simp only;rw[P!<|u! h,ka]
def sf{b}(h:g b){c:V?}{e f}(hb:P.1[b]?=y? (c? c e f)):(mq P g).1[b]?=y? (c? (c.map<|V6 g<|Zo P) e f):=by rw[CF (AI.1 hb).1,hb];simp[V',h]
def Fl{b}(h:¬g b){c:V?}{e f}(hb:P.1[b]?=y? (c? c e f)):(mq P g).1[b]?=y? (c? c e f):=by rw[CF (AI.1 hb).1,hb];simp[V',h]
def il{a}(J:DF g (Zo P) i)(h:C? P a=y? i):C? (mq P g) a=y? i:=by
 unfold m5 at h⊢
 cases B:P.1[a.1]? with
 |none=>rw[B]at h;cases h
 |some o=>
  rw[B]at h
  cases o with
  |cells c e f=>
   by_cases hm:g a.1;rw[sf hm B];simp only at h⊢;split at h
   cases h;rename_i O;rw[if_neg O,Array.getElem?_map,h];simp[xJ J];rwa[Fl hm B]
  |_=>cases h
def LJ{b}(hb:Zo P b):∃c f,(mq P g).1[b]?=y? (c? c 0 f):=by
 obtain⟨U,O⟩:=hb;by_cases B:b<P.1.size;rw[CF B]
 cases J:P.1[b]? with
 |none=>rw[Array.getElem?_eq_none_iff]at J;omega|some x=>
  cases x with
  |cells c e f=>exact absurd J<|O c e f|_=>exact⟨_,_,q?⟩
 unfold mq;simp only;rw[Array.getElem?_append_right<|u! B,Array.getElem?_replicate,if_pos (by simp only[Array.size_mapIdx];omega)];exact⟨_,_,q?⟩
noncomputable def pS (W0:w?) (Mp:F?):Ren where
 blk:=λr=>@ite _ (Mp r) (oa _) (y? r) x?
 ch:=λ_=>x?
 loose:=λ_=>False
 ok:=Sy prog xm vi t?
 nu:=λf=>xm f=t?
 SN:=False
 dead:=Zo W0
 dm:=λ_=>0
 Yd:=λr o=>@ite _ (Mp r) (oa _) (C? W0 ⟨r,o,x?⟩) x?
 Li:=λ_=>x?
 G:=5
 Lp:=λr r' h=>by split at h<;>cases h;exact Iff.rfl
 inj:=λr s t h1 h2=>by
  split at h1<;>cases h1
  split at h2<;>cases h2
  rfl
 TZ:=λ_ _ _ h=>by cases h
def pY(h:g l):(pS f g).1 l=y? l:=by simp[pS,h]
def nY(h:(pS f g).1 l=y? p):g l/\p=l:=by
 simp only[pS]at h;split at h
 cases h;exact⟨a!,q?⟩
 cases h
def QE(O:5<=P.1.size)(U:∀r,g r->∃c e f,P.1[r]?=y? (.cells c e f)):WR (pS P g) (mq P g) P:=by
 refine⟨λr r' B=>?_,λr r' c e f W Y f' B V J _=>?_,λ_ _ _ _ _ _ _ _ _ _ _ h=>h.elim,λ_ _ h=>(by cases h),ZE O vY,O,q?,λ_ _ h=>(by cases h),λ_ _ _ h=>h.elim,λr B=>⟨?_,LJ B⟩,λr o v hv=>?_⟩;obtain⟨hm,rfl⟩:=nY B;obtain⟨c,e,f,hb⟩:=U _ hm
 exact⟨_,_,sf hm hb,hb,.cells e f f (fh.jb i! λi h h'=>by
  simp only[ks]
  exact Zbn (λr B=>pY B) (λ_ h=>h) _)⟩
 obtain⟨hm,rfl⟩:=nY B;rw[sf hm J]at V;cases V;rfl
 cases he:(pS P g).1 r with
 |none=>rfl|some r'=>obtain⟨c,e,f,hb⟩:=U r (nY he).1;exact absurd hb<|B.2 c e f
 simp only[pS]at hv;split at hv
 rename_i hm;refine⟨r,pY hm,λc e f W Y f' x _ J _ _=>?_⟩;unfold m5 at hv;rw[J]at hv;simpa using hv
 cases hv
def QT{Z}(J:∀g,vi g=t?->Mp g):Rg (jj Z f Mp)<|pS f Mp:=
 ⟨YD q? q? q? (λ_ h=>h)<|λg O=>pY<|J g O,id,λ_ _ h=>(by cases h),q?,q?,λr B=>pY B,λr o v B U=>by simp[pS,B,U],λ_ h=>h⟩
def T7{Z wS w}(hc:∀r,g r->∃c e f,P.1[r]?=y? (c? c e f))(B:Rg (jj Z P g) C)(hw:WR C wS w)(Y:∀b,(jj Z P g).2 b->w.1[b]?=(jj Z P g).3.1[b]?)(O:∀k,k<(mq P g).1.size->wS.1[k]?=(mq P g).1[k]?) :
  ∀b,b<P.1.size->w.1[b]?=P.1[b]?:=by
 intro b hb;by_cases hm:g b;obtain⟨c,e,f,J⟩:=hc b hm;have U:=B.x.1 b hm;let ⟨o,o',h1,h2,h3⟩:=hw.1 b b U;have aa:=AT hb<|vY (Mp:=g);rw[O b aa,sf hm J]at h1;cases h1
 cases h3 with
 |@cells _ c' _ _ f' ab=>
  have ac:wS.1[b]?=y? (c? (c.map<|V6 g<|Zo P) e f):=by rw[O b aa];exact sf hm J
  have ag:c'=c:=by
   have ad:=ab.size;simp at ad;refine kx ad.symm λi hi V=>?_;have hv:=ab.idx i (u! V) hi;simp only[ks]at hv
   have hz:∀r r',Zo P r->C.1 r≠y? r':=λr r' hr e=>by rw[(hw.10 r<|B.x.2.2 r hr).1]at e;cases e
   obtain hn|he:=U4 (B.x.1) hz hv
   have W:C? P ⟨b,i,x?⟩=y? c[i]:=by unfold m5;rw[J];simp[V]
   have hp:=B.x.2.1 b i _ hm W;let ⟨r',ae,af⟩:=hw.11 b i _ hp;rw[U]at ae;cases ae;have:=af _ _ _ _ _ _ _ ac h2 (by simp[V]) hn;rw[Z1 hi]at this;exact sz this;exact he
  rw[h2,J,hw.2 b b _ _ _ _ _ _ U ac h2<|B.1.2 q? b,ag]
 have:=Y b ⟨hb,hm⟩;rw[this];exact E4 hm
def rN{H:Type}{enc:ln×v?->H}{a:Assume}{C:Checked}{os:Os}{f:mm}{fn:Func}{s:OpenSpec}{F:Stop.Interp}{U:List PathCond}{fresh O V:Bool}{laid:List<|String×DataW Unit}
  (own:ownKnob C.2.godebug=x?) (Y:os.Started) (ad:C.2.2[f]?=y? fn)
  (witness:∃(w:w?)(tape:Tape)(i:Input),w.4=os/\(w.forCall tape i).Shaped C.2/\i.3=[]/\Input.okWide C.2 (w.forCall tape i) .any w.1.size f i/\
    s.preRow enc C.2 fn U J laid (w.forCall tape i).memory i.2/\a.holds C.2 (lone (Frame.enter C.2 f i.2 .normal) []<|w.forCall tape i))
  (runs:∀(W:w?)(base:Nat)(args:V?)(ds gs:List<|DataW H)(B:List MemPlace),
    (∀(j:Nat)t v,fn.4[j]?=y? t->args[j]?=y? v->wg C.2 W .any base t v)->
    DataW.Whole enc C.2 fn.4.1 s.2 J W args.1 ds gs B->
    (∀k,s.4=y? k->k H (ds++gs)=t?)->
    l0 C.2 laid W->W.ShapedOpen C.2->args.size=fn.4.size->
    wR C.2 (λv W'=>∃W2:w?,W2.blind=W'.blind/\(s.at F).post enc C.2 fn J fresh O V W args v W2) (solo (G (Frame.enter C.2 f args .normal) []) W) #[]) :
  ls a C os f .any (s.preRow enc C.2 fn U J laid) ((s.at F).post enc C.2 fn J fresh O V):=by
 apply returnsInLeavingWide_of_good own Y witness;intro w tape i _ ae _ af aa _;obtain⟨_,_,_,ah,ab,_,_,_,ag,ac⟩:=af;have e:=sz<|ab.symm.trans ad;subst e;obtain⟨⟨hp,hl⟩,_⟩:=aa;let ⟨ds,gs,B,hw,_,hk⟩:=OpenSpec.pre_parts hp;let ⟨N,last,o,w',t',h1,h2,h3,h4⟩:=runs _ _ _ ds gs B ac (DataW.Whole.of_heap (w':=w.forCall tape i) l! hw) hk (hl.of_heap l!) ae ag;exact⟨N,last,o,w',t',h1,h2,h3,h4.mono λv ⟨W2,e2,hp⟩=>by rw[<-e2];exact ChangeSpec.post_blind hp⟩
def xq(W:w?)(w:w?):Prop:=B? W {w with tape:=W.2}
def XB{f iI}{rs:Array Tmp}{tm:V?}{wl:w?}(hc:∀r,g r->∃c e f,P.1[r]?=y? (c? c e f))(hf:prog.2[f]?=y? iI)(af:prog.inits.idxOf? f=x?)(O:∀k,k<(mq P g).1.size->wl.1[k]?=(mq P g).1[k]?)(aa:Plain i)(U:∀w,(lf iI tm).run prog w=.ok i w) :
  dv (jj (ending prog λv' w=>v'=i/\xq P w) P g) [⟨f,tm,[.code .ret]⟩] wl []:=by
 apply dv.tail (λx hx=>by simp only[Zg]at hx;subst hx;trivial) (.inr λ_ h=>by cases h);let B:LS->Prop:=λS=>S.2=[door prog]/\S.1.1=f/\S.w.1=wl.1/\S.1.leaving prog S.w (e? i);refine jZ.IW (Stop:=λS=>∃τ,B<|S.on τ) (λS τ ⟨J,h⟩=>⟨J,h⟩) (λτ _=>⟨1,⟨⟨f,tm,[.code _],[],.returning,.normal,x?⟩,[door _],tp wl τ⟩,q?,⟨τ,q?,q?,q?,q?,q?,q?,iI,hf,U _⟩,i!⟩) λS' ⟨J,ab,ac,hh,hl⟩=>?_;apply jZ.tape (τ:=J);refine jZ.done q? q? ab hl (by rwa[ac]) λm v2 w ad hv hw V W=>⟨?_,?_⟩
 cases hv<;>first|rfl|exact aa.elim
 have hold:=T7 hc ad hw V (λk hk=>by rw[hh];exact O k hk);refine⟨W.1,q?,W.2,?_,hold⟩;show P.1.size<=w.1.size;obtain Y|ae:=H! w.1.size P.1.size
 have:=hold _ Y;rw[ZB<|Zu _,Z1 Y]at this;cases this;exact ae
open ChangeShapes WideShapes ChangeAt
def ZaH:ownKnob prog.godebug=x?:=by kernel_rfl
def xn:laidOutB prog=t?:=by kernel_rfl
def XD:List<|String×DataW Unit:=[("math/bits.deBruijn32tab",Rows.laid_math_bits_deBruijn32tab),("math/bits.deBruijn64tab",Rows.laid_math_bits_deBruijn64tab),("internal/strconv.uint64pow10",Rows.laid_internal_strconv_uint64pow10),("hint/follow.weights",Rows.laid_hint_follow_weights)]
def Hl(h:l0 prog XD f):Qg f:=by have B:=yh (k:=.u64) (zs:=[4,10,25]) (g:=0) (t:=195) (e:=141) (n:=3) k! k! underlying195 qt k! k! h.tail.tail.tail;exact⟨B.cell k! 0 d!,B.cell k! 1 d!,B.cell k! 2 d!⟩
def CS(h:P.ShapedOpen prog):∀g,g<5->∃c e f,P.1[g]?=y? (c? c e f):=by
 have key:∀g,g<5->(((begin prog (λ_ _=>0) default).1.1[g]?).bind Obj.row?).isSome=t?:=by intro g B;rcases(o!:g=0\/g=1\/g=2\/g=3\/g=4)with rfl|rfl|rfl|rfl|rfl<;>kernel_rfl
 intro g B;obtain⟨⟨z,t⟩,O⟩:=Option.isSome_iff_exists.1<|key g B;obtain⟨cs,J,_⟩:=h.1 g z t (B) O;exact⟨cs,t,_,J⟩
def QU{t e a c}(U:prog.underlying t=y? (.slice e))(h:wg prog P .any l t<|.slice (y? a) p c):a.3=x?/\∃cs B f,P.1[a.1]?=y? (c? cs B f):=by
 simp only[wg,U,Cell.okWide,Cell.ok]at h;obtain⟨_,_,_,J,row,cells,hsh,_⟩:=h;refine⟨J,?_⟩;unfold World.shape? at hsh
 cases O:P.1[a.1]? with
 |none=>rw[O]at hsh;cases hsh
 |some o=>
  cases o with
  |cells cs B f=>exact⟨cs,B,f,q?⟩|_=>rw[O]at hsh;cases hsh
def VJ(h:vi l=t?):l<5:=by unfold vi at h;simp only[Z7,beq_iff_eq]at h;omega
def Oe(B:P.ShapedOpen prog):5<=P.1.size:=by obtain⟨c,e,f,h⟩:=CS B 4 o!;have:=(AI.1 h).1;omega
def Q3(B:f.ShapedOpen prog):5<=(mq f Mp).1.size:=ZE (Oe B) vY
def Bi(h:Qg f):Qg<|mq f g:=⟨il trivial h.1,il trivial h.2.1,il trivial h.2.2⟩
def wR.mono{P}{A B:v?->w?->Prop}{M t}(h:wR P A M t)(J:∀v w,A v w->B v w):wR P B M t:=by obtain⟨N,last,o,w',t',O,U,V,W⟩:=h;exact⟨N,last,o,w',t',O,U,V,W.mono λv=>J v w'⟩
def Uf(h:l0 prog XD f):qv f:=by exact yh (k:=.u64) (zs:=yg) (g:=2) (t:=295) (e:=141) (n:=20) k! k! underlying295 qt k! k! h.tail.tail
def Si(h:qv P):qv<|mq P Mp:=by
 unfold qv yd nc at h⊢;rw[show prog.globalNamed "internal/strconv.uint64pow10" = y? 2 by kernel_rfl]at h⊢;simp only[Zf]at h⊢
 cases B:P.1[2]? with
 |none=>rw[B]at h;cases h
 |some o=>
  rw[B]at h
  cases o with
  |cells c e f=>simp only[m?]at h;by_cases hm:Mp 2;rw[sf hm B];simp only[m?];rw[h];apply Array.ext';simp only[Array.toList_map,cH];apply ZM;intro z _;exact xJ trivial;rw[Fl hm B];simp only[m?];exact h
  |_=>cases h
def nN{n}(h:(Lit.int i? n).wf=t?) : -9223372036854775808<=n/\n<=9223372036854775807:=by have B:IntKind.i64.min = -9223372036854775808:=rfl;have J:IntKind.i64.max=9223372036854775807:=rfl;simp only[Lit.wf,IT,decide_eq_true_eq]at h;omega
def xi(h:(I.drop l).take 1=[i]):I[l]?=y? i:=by
 have:((I.drop l).take 1)[0]?=y? i:=by rw[h];rfl
 rw[Zi,if_pos o!,List.getElem?_drop]at this;simpa using this
def Dm:prog.cellsOf 202=5:=by kernel_rfl
def O0:prog.cellsOf 77=9:=by kernel_rfl
def Vp{a}(h:C? P a=y? i):∃cs e f,P.1[a.1]?=y? (c? cs e f):=by
 unfold m5 at h
 cases B:P.1[a.1]? with
 |none=>rw[B]at h;cases h
 |some o=>
  rw[B]at h
  cases o with
  |cells cs e f=>exact⟨cs,e,f,q?⟩|_=>cases h
def Gf{l:E?}(h:(dG l)[p]?=y? i):DF g o i:=by
 have J:=(Zs.1 h).1;rw[tY]at J;rw[(o!:p=p / 5*5+p % 5),tN l _ o! _ o!]at h;have B:p % 5<5:=o!;generalize p % 5=f at h B;match f,B with
 |0,_|1,_|2,_|3,_|4,_=>simp[e9]at h;rw[<-h];trivial
def IG{H}(l r:List<|DataW H):ne (l++r)=ne l+ne r:=by
 induction l with
 |nil=>simp[ne]|cons x l B=>simp only[B!,ne,B];omega
def ul{H}(l)(i:Nat)(d:DataW H)(h:l[i]?=y? d):nl d<=ne l:=by
 induction l generalizing i with
 |nil=>simp at h|cons x l B=>
  cases i with
  |zero=>simp at h;subst h;simp only[ne];omega|succ i=>have:=B i<|u! h;simp only[ne];omega
def K0{H}(D:Nat->DataW H)(g):∀n,(∀i,i<n->g i<=nl (D i))->((cC n).map g).sum<=ne ((cC n).map D):=by
 intro n;induction n with
 |zero=>intro _;simp|succ n B=>intro h;have J:=B<|λi O=>h i o!;have U:=h n o!;rw[D!,Z4,Z4,gi,IG];simp only[ZK,ZU,J!,List.sum_nil,ne];omega
def SE(n):((cC n).map<|λ_=>1).sum=n:=by
 induction n with
 |zero=>rfl|succ n B=>rw[D!,Z4,gi,B];rfl
def Oq{H}{enc:ln×v?->H}{O:Array Field}{xs:List<|DataW H×List MemPlace}(V:∀(i:Nat)(f),O[i]?=y? f->ty enc prog P l (λ_=>t?) J p f.2 ((I.drop f.3).take<|prog.cellsOf f.2)=xs[i]?)(i){B:Field}(h:O[i]?=y? B)(W:B.3=i)(Y:prog.cellsOf B.2=1)(U:i<l? xs) :
  ∃y,xs[i]?=y? y/\ty enc prog P l (λ_=>t?) J p B.2 ((I.drop i).take 1)=y? y:=by
 have:=V i B h;rw[W,Y,BY U]at this;exact⟨_,BY U,this⟩
def US{H}{enc:ln×v?->H}{b}{x:DataW H×List MemPlace}
  (hc:P.cells? l ⟨b,x0,x?⟩ 5=y? I) (h:ty enc prog P l (λ_=>t?) J p 202 I=y? x) :
  ∃e,(∀f u,(e9 e)[f]?=y? u->C? P ⟨b,x0+f,x?⟩=y? u)/\(-9223372036854775808<=e.4/\e.4<=9223372036854775807)/\(-9223372036854775808<=e.5/\e.5<=9223372036854775807)/\l? e.1+l? e.3+2<=nl x.1:=by
 obtain⟨xs,n,rfl,hx,hl,aa,V⟩:=un underlying202 h;obtain⟨_,ac,U⟩:=m6 hc;have ab:l? xs=5:=aa
 have cell:∀i,i<5->∀v,(I.drop i).take 1=[v]->C? P _=y? v:=λi hi v hv=>by have:=U i hi;rwa[wn,xi hv]at this
 let ⟨y0,Y,f0⟩:=Oq V 0 q? q? k! o!;let ⟨y1,_,f1⟩:=Oq V 1 q? q? k! o!;let ⟨y2,e2,f2⟩:=Oq V 2 q? q? k! o!;let ⟨y3,_,f3⟩:=Oq V 3 q? q? k! o!;let ⟨y4,_,f4⟩:=Oq V 4 q? q? k! o!;let ⟨S,g0,z0,_⟩:=tt oC f0;let ⟨B,g1,_⟩:=ut pd f1;let ⟨T,g2,z2,_⟩:=tt oC f2;let ⟨W,g3,_,w3⟩:=ti oK f3;let ⟨G,g4,_,w4⟩:=ti oK f4;refine⟨⟨S.1.1,B,T.1.1,W,G⟩,λf u O=>?_,nN w3,nN w4,?_⟩;match f,O with
 |0,O=>simp[e9]at O;rw[<-O];exact cell 0 o! _ g0|1,O=>simp[e9]at O;rw[<-O];exact cell 1 o! _ g1|2,O=>simp[e9]at O;rw[<-O];exact cell 2 o! _ g2|3,O=>simp[e9]at O;rw[<-O];exact cell 3 o! _ g3|4,O=>simp[e9]at O;rw[<-O];exact cell 4 o! _ g4|f+5,O=>simp[e9]at O
 rw[hx];simp only[nl];match xs,ab,Y,e2 with
 |[a0,a1,a2,a3,a4],_,Y,e2=>simp at Y e2;subst Y e2;simp only[ZK,ZU,ne,z0,z2,nl];omega
def O1(w:w?)(a:Option Addr)(n c:Nat):Prop:=∀x,a=y? x->(∃cs e f,w.1[x.1]?=y? (c? cs e f))\/n=0/\c=0
def RZ{H}{enc:ln×v?->H}{x:DataW H×List MemPlace}
  (h:ty enc prog P l (λ_=>t?) J p 75 I=y? x) (hb:nl x.1<=1048576):∃a n c,I=[.slice a n c]/\O1 P a n c/\Rp P (.slice a n c):=by
 obtain⟨aa,_⟩|⟨a,len,cap,m,n,D,Pl,aa,_,hl,hm,ac,hx,ab⟩:=Deep.open_slice oT h
 exact⟨x?,0,0,aa,λ_ h=>(by cases h),[],⟨x?,0,q?,Zu _,by unfold la;omega,q?,λj u Y=>by simp[dG]at Y⟩,λe he=>by simp at he,i!,i!⟩
 have ad:O1 P (y? a) len cap:=λx hx=>by cases hx;by_cases hc:cap=0;exact .inr ⟨o!,hc⟩;obtain⟨ag,U,_⟩:=ab 0 (by rw[ac];simp;omega);rw[Dm]at U;obtain⟨_,ae,O⟩:=m6 U;have V:=O 0 o!;rw[BY o!]at V;let ⟨I,e,f,h2⟩:=Vp V;exact .inl ⟨I,e,f,by simpa[wu]using h2⟩
 refine⟨y? a,len,cap,aa,ad,?_⟩;clear ad;have an:len<=m:=by rw[ac];split<;>omega
 have ao:ne ((cC len).map D)<=1048576:=by have e1:x.1=.slice _ _:=congrArg _ hx;rw[e1]at hb;simp only[nl]at hb;omega
 clear hb;by_cases h0:len=0;subst h0;exact⟨[],⟨y? a,cap,q?,ZP _,hm,q?,λj u Y=>by simp[dG]at Y⟩,λe he=>by simp at he,i!,i!⟩;let ⟨b,off,spot⟩:=a
 have ah:spot=x?:=by obtain⟨ag,U,_⟩:=ab 0 o!;rw[Dm]at U;obtain⟨_,ae,O⟩:=m6 U;have V:=O 0 o!;rw[BY o!]at V;simpa[wu]using m' V
 subst ah
 have ai:∀i,i<len->∃e:eE,(∀f u,(e9 e)[f]?=y? u->C? P _=y? u)/\(-9223372036854775808<=e.4/\e.4<=9223372036854775807)/\(-9223372036854775808<=e.5/\e.5<=9223372036854775807)/\l? e.1+l? e.3+2<=nl (D i):=λi B=>by obtain⟨cs',hc,ht⟩:=ab i o!;rw[Dm,wn]at hc;exact US hc ht
 obtain⟨g,hg⟩:∃g:Nat->eE,∀i,i<len->(∀f u,(e9<|g i)[f]?=y? u->C? P ⟨b,off+i*5+f,x?⟩=y? u)/\(-9223372036854775808<=(g i).4/\(g i).4<=9223372036854775807)/\(-9223372036854775808<=(g i).5/\(g i).5<=9223372036854775807)/\(g i).1.length+(g i).3.length+2<=nl (D i):=
  ⟨λi=>if h:i<len then n8 _ else⟨[],f?,[],0,0⟩,λi B=>by
    simp only[B,dite_true]
    exact n7<|ai i B⟩
 have af:∀e∈(cC len).map g,∃i,i<len/\g i=e:=λe he=>by obtain⟨i,B,rfl⟩:=Zv.1 he;exact⟨i,G!.1 B,q?⟩
 have aj:∀i,i<len->nl (D i)<=ne ((cC len).map D):=λi B=>ul _ i _ (by simp[B]);refine⟨(cC len).map g,?_,λe he=>?_,?_,?_⟩;have W:((cC len).map g).length=len:=i!;refine⟨y? _,cap,by rw[W],by rwa[W],hm,by rw[tY],λj u Y=>⟨b,off,q?,?_⟩⟩
 have ak:j<((cC len).map g).length*5:=by rw[<-tY];exact(Zs.1 Y).1
 rw[W]at ak;obtain⟨i,f,al,am⟩:∃i f,j=i*5+f/\f<5:=⟨j / 5,j % 5,o!,o!⟩;subst al;have B:i<len:=o!;rw[tN _ i (by rwa[W]) f am]at Y;rw[z?,dB]at Y;have:=(hg i B).1 f u Y;rwa[(o!:off+(i*5+f)=off+i*5+f)];obtain⟨i,B,rfl⟩:=af e he;have V:=hg i B;have h2:=aj i B;exact⟨o!,o!,V.2.1,V.2.2.1.1,V.2.2.1.2⟩;rw[Z5,fB];have V:=K0 D (λ_=>1) len (λi B=>by have:=(hg i B).2.2.2;omega);have h2:=SE len;omega;have V:=K0 D (λi=>(g i).3.length) len (λi B=>by have:=(hg i B).2.2.2;omega);rw[cH];have h2:((λe:eE=>l? e.3) ∘ g)=λi=>(g i).3.length:=rfl;rw[h2];omega
def WW{H}{enc:ln×v?->H}{b}{x:DataW H×List MemPlace}
  (hc:f.cells? l ⟨b,x0,x?⟩ 9=y? I) (h:ty enc prog f l (λ_=>t?) J p 77 I=y? x) (hb:nl x.1<=1048576) :
  ∃kind W N M K S T aL nL cL made,(∀j,j<9->C? f ⟨b,x0+j,x?⟩=(GQ kind W N M K S T (.slice aL nL cL) made)[j]?)/\VG N M K W S T/\Rp f (.slice aL nL cL)/\O1 f aL nL cL:=by
 obtain⟨xs,n,rfl,hx,hl,U,B⟩:=un ra h;obtain⟨_,Y,O⟩:=m6 hc;have aa:l? xs=9:=U
 have cell:∀i,i<9->∀v,(I.drop i).take 1=[v]->C? f _=y? v:=λi hi v hv=>by have:=O i hi;rwa[wn,xi hv]at this
 let ⟨y0,_,f0⟩:=Oq B 0 q? q? k! o!;let ⟨y1,_,f1⟩:=Oq B 1 q? q? k! o!;let ⟨y2,_,f2⟩:=Oq B 2 q? q? k! o!;let ⟨y3,_,f3⟩:=Oq B 3 q? q? k! o!;let ⟨y4,_,f4⟩:=Oq B 4 q? q? k! o!;let ⟨y5,_,f5⟩:=Oq B 5 q? q? k! o!;let ⟨y6,_,f6⟩:=Oq B 6 q? q? k! o!;let ⟨y7,e7,f7⟩:=Oq B 7 q? q? k! o!;let ⟨y8,_,f8⟩:=Oq B 8 q? q? k! o!;let ⟨kind,g0,_,_⟩:=ti oK f0;let ⟨W,g1,_,w1⟩:=ti oK f1;let ⟨N,g2,_,w2⟩:=ti oK f2;let ⟨M,g3,_,w3⟩:=ti oK f3;let ⟨K,g4,_,w4⟩:=ti oK f4;let ⟨S,g5,_,s5⟩:=tt oC f5;let ⟨T,g6,_,s6⟩:=tt oC f6;let ⟨aL,nL,cL,g7,V,hL⟩:=RZ f7 (by rw[hx]at hb;simp only[nl]at hb;have:=ul (xs.map (·.1)) 7 y7.1 (by rw[ZZ,e7];rfl);omega);let ⟨made,g8,_⟩:=ut pd f8;have b1:=nN w1;have b2:=nN w2;have b3:=nN w3;have b4:=nN w4;refine⟨kind,W,N,M,K,S,T,aL,nL,cL,made,λj hj=>?_,⟨b2.1,b2.2,b3.1,b3.2,b4.1,b4.2,b1.1,b1.2,s5,s6⟩,hL,V⟩;match j,hj with
 |0,h=>exact cell 0 h _ g0|1,h=>exact cell 1 h _ g1|2,h=>exact cell 2 h _ g2|3,h=>exact cell 3 h _ g3|4,h=>exact cell 4 h _ g4|5,h=>exact cell 5 h _ g5|6,h=>exact cell 6 h _ g6|7,h=>exact cell 7 h _ g7|8,h=>exact cell 8 h _ g8
def Y4(w:w?)(a:Option Addr)(n:Nat):Prop:=∀k,k<n->∃b off kind W N M K S T aL nL cL made,a=y? ⟨b,off,x?⟩/\(∀j,j<9->C? w ⟨b,off+k*9+j,x?⟩=(GQ kind W N M K S T (.slice aL nL cL) made)[j]?)/\VG N M K W S T/\Rp w (.slice aL nL cL)/\O1 w aL nL cL
def DD(W:w?)(b:Nat):Prop:=∃c e f,W.1[b]?=y? (c? c e f)
def U7(h:Rp f i):Rp (mq f Mp) i:=by obtain⟨l,⟨a,c,J,O,U,V,W⟩,g⟩:=h;refine⟨l,⟨a,c,J,O,U,V,λj u B=>?_⟩,g⟩;obtain⟨b,o,e,Y⟩:=W j u B;exact⟨b,o,e,il (Gf B) Y⟩
def Tw{a x c}(h:C? P a=y? (.slice (y? x) l c)):x.1<P.1.size+(P.1.1.map SF).sum:=by
 unfold m5 at h
 cases B:P.1[a.1]? with
 |none=>rw[B]at h;cases h
 |some o=>
  rw[B]at h
  cases o with
  |cells cs e f=>
   simp only at h;split at h
   cases h;have J:=Ng Yr<|ZQ.2<|j4 h;have O:=Ng SF<|ZQ.2<|j4 B;simp only[SF,Yr]at J O;omega
  |_=>cases h
def V1{a}(h:Y4 P a l):PF (mq P<|DD P) a l:=λk O=>by
 obtain⟨b,off,kind,U,N,M,K,S,T,aL,nL,cL,made,V,B,W,Y,h5⟩:=h k O;refine⟨b,off,kind,U,N,M,K,S,T,aL,nL,cL,made,V,λj hj=>?_,W,U7 Y⟩
 have hn:DF (DD P) (Zo P)<|.slice aL nL cL:=by
  cases aL with
  |none=>trivial|some x=>
   by_cases J:DD P x.1;exact .inl J;obtain h|h:=h5 x q?
   exact absurd h J;exact .inr ⟨h.1,h.2,Tw<|B 7 o!,λc e f he=>J ⟨c,e,f,he⟩⟩
 match j,hj with
 |0,h=>exact il trivial (B 0 h)|1,h=>exact il trivial (B 1 h)|2,h=>exact il trivial (B 2 h)|3,h=>exact il trivial (B 3 h)|4,h=>exact il trivial (B 4 h)|5,h=>exact il trivial (B 5 h)|6,h=>exact il trivial (B 6 h)|7,h=>exact il hn<|B 7 h|8,h=>exact il trivial (B 8 h)
def Qe{args:V?}{f iI c tm}(J:P.ShapedOpen prog)(W:prog.2[f]?=y? iI)(hb:iI.9=y? c)(B:fh (pS P<|DD P) args args)(U:args++j2 (iI.7-args.size) B3=tm)
  (h:dv (jj (ending prog λO w=>O=i/\xq P w) P<|DD P) [⟨f,tm,[.code c]⟩] (mq P<|DD P) []):wR prog (λO w=>O=i/\xq P w) (solo (G (Frame.enter prog f args .normal) []) P) #[]:=
 LO (E:=jj (ending prog λO w=>O=i/\xq P w) P<|DD P) (m:=pS P<|DD P) q? (λb hb=>⟨hb.1,(E4 hb.2).symm⟩) (λr b V hb=>absurd (nY V).1 (by rw[<-(nY V).2];exact hb.2)) (I2 _ _ _) (by rw[show(jj _ P _).3.1.size=P.1.size from zP P _];exact Zu _) ⟨q?,q?⟩ q? W hb (QT λg Y=>CS J g<|VJ Y) (QE (Oe J) λ_ h=>h) B (by rwa[U])
def M3:qz.1≠ "runtime.NumGoroutine":=by have:qz.1 = "hint/hintlaw.plays":=k!;rw[this];decide
end
section
open Conc RowKit Maps
variable {f g I:w?}{i J P:v?}{l o p C U:Nat}{x0 x1 x2:Int}
def uQ{xs:L?}(h:R? I l o p i C xs)(B:O? i=y? U):∃c f,I.1[U]?=y? (c? c o f):=by
 obtain⟨rfl,_⟩|⟨g,cap,cur,rfl,_,J,_⟩:=h.2
 cases B
 cases B;exact⟨_,_,J⟩
def ZbP{s}(t:b?)(J:eK s.t<=16777216)(O:t.size<=la):Ye 34 (λp=>#[p,s? t]) s (n? i? (ml s.t t.1.1).1) ⟨s.b,s.s,(ml s.t t.1.1).2⟩:=
 λ_ _ U _ _ h=>(h.observe t J O).mono λ_ _ ⟨V,B,W,Y⟩=>⟨V,U,B,W,Y⟩
def Zb2{s}(t:b?)(hB:eK s.t<=16777216)(ht:t.size<=la):XX 114 (λp=>#[p,s? t]) s (n? i? (ml s.t t.1.1).1) ⟨s.b,s.s,(ml s.t t.1.1).2⟩:=by
 intro w F b ⟨vB,V,vT,h1,h2,h3,⟨ws,g1,g2,g3,g4⟩,⟨vs,k1,k2,k3,k4⟩⟩ hF hI
 have E:∀{G:F?},(∀k c e f,G k->w.1[k]?=y? (c? c e f)->e≠202/\e≠75)->∀w',dy G w w'->(∀{u es},kX w F u es->kX w' (iJ F w w') u es)/\R? w' 0 75 1 V _ ws:=λhG w' J=>by refine⟨fun {u es} he=>⟨dJ he.1 λk B=>?_,λk B=>.inl<|he.2 k B⟩,dH g2 λk B=>?_⟩;obtain⟨c,f,O⟩:=uQ he.1 B;exact J.5 k (hF k<|he.2 k B) λW=>(hG k _ _ _ W O).1 rfl;obtain⟨c,f,O⟩:=uQ g2 B;exact J.5 k (hF k<|g3 k B) λW=>(hG k _ _ _ W O).2 rfl
 have hT:∀{k c e f},w.1[k]?=y? (c? c e f)->F k->e≠202->e≠75->F k/\∀c e f,w.1[k]?=y? (c? c e f)->e≠202/\e≠75:=λO B n1 n2=>⟨B,λc' e' f' h=>by rw[O]at h;cases h;exact⟨n1,n2⟩⟩;refine(LB (λk=>F k/\∀c e f,w.1[k]?=y? (c? c e f)->e≠202/\e≠75) b vB V s.t t w (λk B=>hF k B.1) ⟨vT,h1,hT h1 h2 d! d!,vs,k1,k2,λk B=>?_,λi U=>?_⟩ ht hB).mono ?_;obtain⟨c,f,O⟩:=uQ k2 B;exact hT O (k3 k B) d! d!;obtain⟨u,u1,u2,u3⟩:=k4 i U;refine⟨u,u1,u2,λk B=>?_⟩;obtain⟨c,f,O⟩:=uQ u2 B;exact hT O (u3 k B) d! d!;rintro e w' ⟨rfl,⟨Y,q1,q2,vs',p1,p2,p3,p4⟩,J⟩;obtain⟨e1,e2⟩:=E (λk c e f B h=>B.2 c e f h) w' J;have up:∀k,iJ (λk=>F k/\∀c e f,w.1[k]?=y? (c? c e f)->e≠202/\e≠75) w w' k->iJ F w w' k:=λk B=>B.imp_left And.left;refine⟨q?,⟨vB,V,Y,q1,up _ q2,e1 h3,⟨ws,g1,e2,λk B=>.inl<|g3 k B,λi U=>?_⟩,vs',p1,p2,λk B=>up k<|p3 k B,λi U=>?_⟩,⟨J.1,J.2,J.3,J.4,λk B hn=>J.5 k B λh=>hn h.1⟩,hI⟩;obtain⟨u,u1,u2⟩:=g4 i U;exact⟨u,u1,e1 u2⟩;obtain⟨u,u1,u2,u3⟩:=p4 i U;exact⟨u,u1,u2,λk B=>up k<|u3 k B⟩
def AW.UO{V U:F?}{b}{O:E?}{ss:List<|E?}{J:List<|W?}(h:AW f g V U b O ss J)(W:Qg g)(s:b?)(most)(Y:eK J<=16777216)(hs:s.size<=la) :
  ld prog 35 #[p?<|y? ⟨b,0,x?⟩,s? s,n? i? most] g λe w'=>∃v,e=e? (.tuple #[v,n? i? (oO J s.1.1 most).2])/\R? w' g.1.size 9 1 v (oO J s.1.1 most).1.length (du (oO J s.1.1 most).1)/\B? g w':=by
 obtain⟨⟨h1,h2,h3,Bb,vS,B,n,vK,kn,h4,h5⟩,k1,k2,k3⟩:=h;exact Kk g U b J s most W ⟨h2,_,_,B,n,vK,kn,h5⟩ Y hs
def KE{Z:oJ prog}{Mp:F?}{fn}{tm:V?}{os:List OF}{k:List Item}{c:Nat->Nat}{va}{us:L?}{ms:W?}{es:List DJ}{s}{ops:Array Oper}{i}{rest:List Nat}{o:Oper}{Mb kind K}{S T:b?}{aL:Option Addr}{nL cL made}(hi:ops[i]?=y? o)(h:PS I g c l va J P p us ms es)(hj:U<l? es)(hx:es[U].x=s)(hy:es[U].y=s)(hq:UH Mb es)(hB:Mb<=16777216)(hW:Qg g)(ho:VG x1 x2 K x0 S T)(B:p<=1073741824)(hu:l? us<=17179869184)(hk:kind=10\/kind=11)
  (hn:∀w2,WM I w2 l p es.length us.length Mb->dv (jj Z f Mp) (⟨fn,fV o.1 tm<|.bool t?,r? ops rest::k⟩::os) w2 []) :
  dv (jj Z f Mp) (⟨78,#[p?<|y? ⟨l,0,x?⟩,.agg #[p?<|y? ⟨es[U].1,0,x?⟩,p?<|y? ⟨es[U].2,0,x?⟩],.agg<|GQ kind x0 x1 x2 K S T (.slice aL nL cL) made,B3,B3,B3,B3,B3,B3,B3,B3,B3,B3,B3,B3,B3,B3,B3,B3,B3,B3,B3,B3,B3,B3,B3,B3,B3,B3,B3,B3,B3,B3,B3,B3,B3,B3,B3,B3,B3,B3,B3,B3,B3,B3,B3,B3,B3,B3,B3,B3,B3,B3,B3,B3,B3,B3,B3,B3,B3,B3,B3,B3,B3,B3,B3,B3,B3,B3,B3,B3,B3,B3,B3,B3,B3,B3,B3,B3,B3,B3,B3,B3,B3,B3,B3,B3,B3,B3,B3,B3,B3,B3,B3,B3,B3,B3,B3,B3,B3,B3,B3,B3,B3,B3,B3,B3,B3,B3,B3,B3,B3,B3],[.code<|eG f78]⟩::⟨fn,tm,r? ops (i::rest)::k⟩::os) g []:=by
 unfold GQ;have ah:eK s.t<=Mb:=by rw[<-hx];exact(hq _<|Zw hj).2
 have h1:=h.ma hj hx hy;generalize es[U].1=b1 at *;generalize es[U].2=b2 at *;have H:=h!<|A? h1<|A? hq<|A? hB<|A? hW<|A? ho.s<|A? B<|A? hu<|A? ah hn;clear h h1 hx hy hq hB hW ho B hu ah hn;show dv _ (⟨_,_,[.code<|.seq (.region 0 _ f?)<|.seq (.seq (.region 1 _ f?)<|.block 0<|.seq (.region 2 _ f?)<|.cond _ _<|.seq (.region 8 _ f?)<|.cond _ (.seq (.region 9 _ f?)<|.seq (.region 10 _ f?)<|.seq (.region 11 _ f?) .ret) .skip)<|.seq (.region 12 _ f?)<|.seq (.region 13 _ f?)<|.seq (.region 14 _ f?)<|.seq (.region 15 _ f?)<|.seq (.region 16 _ f?) .ret]⟩::_) _ _;refine gD λkk W y B=>?_;have ac:=B.2;have ai:g.1.size<=y.1.size+1:=Nat.le_succ_of_le ac;have HL:J?<|pP g<|(y.alloc<|c? #[p?<|y? ⟨b1,0,x?⟩,p?<|y? ⟨b2,0,x?⟩] 122).alloc<|c? #[n? i? kind,n? i? x0,n? i? x1,n? i? x2,n? i? K,s? S,s? T,.slice aL nL cL,.bool made] 77:=B.trans<|.of<|((nr _ _).alloc (Zu _) _).alloc i! _;have p1:((y.alloc<|c? #[p?<|y? ⟨b1,0,x?⟩,p?<|y? ⟨b2,0,x?⟩] 122).alloc<|c? #[n? i? kind,n? i? x0,n? i? x1,n? i? x2,n? i? K,s? S,s? T,.slice aL nL cL,.bool made] 77).1[y.1.size]?=_:=(e! _ _ _ i!).trans<|sK _ _;have p2:=sK (y.alloc<|c? #[p?<|y? ⟨b1,0,x?⟩,p?<|y? ⟨b2,0,x?⟩] 122)<|c? #[n? i? kind,n? i? x0,n? i? x1,n? i? x2,n? i? K,s? S,s? T,.slice aL nL cL,.bool made] 77;clear B;go_wp2;apply eV W;clear W kk;rw[(i!:(y.alloc _).1.size=y.1.size+1)]at p2;generalize ((y.alloc<|c? #[p?<|y? ⟨b1,0,x?⟩,p?<|y? ⟨b2,0,x?⟩] 122).alloc<|c? #[n? i? kind,n? i? x0,n? i? x1,n? i? x2,n? i? K,s? S,s? T,.slice aL nL cL,.bool made] 77)=w1 at *;generalize y.1.size+1=O at *;generalize y.1.size=Pb at *;have HZ:J?<|g.1.size<=Pb/\g.1.size<=O/\Pb<w1.1.size/\O<w1.1.size:=⟨ac,ai,eN p1,eN p2⟩;have HP:J?<|w1.1[Pb]?=_/\w1.1[O]?=_:=⟨p1,p2⟩;clear p1 p2 ac ai;refine dv.seq<|gD λkk W y B=>?_;have HY:=h! B;have d1:=dx<|(B.3 _ HZ.o.2.2.1).trans HP.o.1;have d2:=dx<|(B.3 _ HZ.o.2.2.2).trans HP.o.2;clear B;obtain rfl|rfl:=hk
 all_goals
  go_wp2;apply eV W;clear W kk d1 d2;refine dv.block<|gD λkk W y2 B=>?_;have HY:=h!<|HY.o.trans B;clear B;go_wp2;apply eV W;clear W kk;refine dv.ni trivial q? (gD λkk W y3 B=>?_);have HY:=h!<|HY.o.trans B;clear B;go_wp2;apply eV W;clear W kk
 .refine dv.rG trivial q? (gD λkk W y4 B=>?_);have V:=HY.o.trans B;have aa:=HL.o.trans V;have d1:=dx<|(V.3 _ HZ.o.2.2.1).trans HP.o.1;have d2:=dx<|(V.3 _ HZ.o.2.2.2).trans HP.o.2;have C:=(H.o.1.same aa 0).opX hj<|ZbP S (by have:=H.o.2.2.1;have:=H.o.2.2.2.2.2.2.2.1;omega) H.o.2.2.2.2.1;have Q:∀w' c',Zc (vF c _ 0) y4 c' w'->(w'.1[Pb]?=_/\w'.1[O]?=_)/\Pb<w'.1.size/\O<w'.1.size:=λw' c' z=>⟨⟨((z.2 _ (AT HZ.o.2.2.1 V.2)<|nC HZ.o.1).1.trans<|V.3 _ HZ.o.2.2.1).trans HP.o.1,((z.2 _ (AT HZ.o.2.2.2 V.2)<|nC HZ.o.2.1).1.trans<|V.3 _ HZ.o.2.2.2).trans HP.o.2⟩,AT (AT HZ.o.2.2.1 V.2) z.1,AT (AT HZ.o.2.2.2 V.2) z.1⟩;have HQ:=h! Q;clear B V aa HY HL Q;go_wp2_with fail;apply C.mono;rintro e w5 ⟨rfl,c2,h2,z⟩;have HP:=h!<|HQ.o w5 c2 z;have H2:=h! h2;clear C h2 z d1 d2 HQ HZ;go_wp2;apply eV W;clear W kk;refine gD λkk W y6 B=>?_;have d1:=dx<|(B.3 _ HP.o.2.1).trans HP.o.1.1;have d2:=dx<|(B.3 _ HP.o.2.2).trans HP.o.1.2;have C:=(H2.o.same B 0).opY hj<|Zb2 S (by have:=H.o.2.2.1;have:=H.o.2.2.2.2.2.2.2.1;omega) H.o.2.2.2.2.1;clear B H2 HP;go_wp2_with fail;apply C.mono;rintro e w7 ⟨rfl,c3,h3,_⟩;have H3:=h! h3;clear C h3 d1 d2;go_wp2;apply eV W;clear W kk;refine gD λkk W y8 B=>?_;have HN:J?<|WM I y8 l p es.length us.length Mb:=⟨_,_,_,_,_,_,_,_,H3.o.same B 0,o!,o!,i!,i!,(H.o.2.1.mono o!).set<|ZE (UW s.t _)<|Nat.add_le_add_right H.o.2.2.2.2.2.2.2.1 25⟩;clear B H3;go_wp2_with fail;apply g!<|uR _ _;go_wp2;apply eV W;clear W kk;exact dv.back (v:=.bool t?) (.inr ⟨_,q?⟩) pi hi (λτ=>by simp[lf,pv,go_sem])<|H.o.2.2.2.2.2.2.2.2 _ HN.o
 refine dv.ni trivial q? (dv.skip<|dv.inBlock<|gD λkk W y4 B=>?_);have aj:U<(es.set U ⟨b1,b2,s,s⟩).length:=by rwa[cK]
 have V:=HY.o.trans B;have aa:=HL.o.trans V;have h4:=H.o.1.same aa 0;let ⟨F1,F2,hA,_⟩:=h4.x U aj;let ⟨F,hR,hF,_⟩:=h4.y U aj;rw[tq]at hA hR;dsimp only at hA hR;obtain⟨vB,vS,vT,r1,r2,_,_,r5⟩:=hR;have hW:=H.o.2.2.2.1;have C:=hA.UO ⟨gS aa hW.1,gS aa hW.2.1,gS aa hW.2.2⟩ S K (by have:=H.o.2.2.1;have:=H.o.2.2.2.2.2.2.2.1;omega) H.o.2.2.2.2.1;have HR:J? (An y4 F b2 vB vS s.t/\∀k,F k->k<y4.1.size):=⟨⟨vT,r1,r2,r5⟩,λk hk=>(hF k hk).1⟩;have au:=Uk s.t S.1.1 K;have d1:=dx<|(V.3 _ HZ.o.2.2.1).trans HP.o.1;have d2:=dx<|(V.3 _ HZ.o.2.2.2).trans HP.o.2;have HY:=h! V;have H4:=h! h4;clear hA r1 r2 r5 hF B V aa hW h4;go_wp2_with fail;apply C.mono;rintro e w5 ⟨v1,rfl,ad,ak⟩;have al:J?<|pP y4 w5:=.of ak;have Y:=h! ad;obtain⟨a1,e1,rfl,_⟩:=dC ad;clear C ak ad d1 d2;go_wp2;apply eV W;clear W kk;refine gD λkk W y6 B=>?_;have ab:=h!<|al.o.trans B;have Y:=h!<|dH Y.o λk hk=>B.3 k (Y.o.lt k hk).2;have V:=HY.o.trans ab.o;have d1:=dx<|(V.3 _ HZ.o.2.2.1).trans HP.o.1;have d2:=dx<|(V.3 _ HZ.o.2.2.2).trans HP.o.2;have C:=NJ F b2 vB vS s.t S K y6 (HR.o.1.stay λk hk=>ab.o.3 k<|HR.o.2 k hk) H.o.2.2.2.2.1 (by have:=H.o.2.2.1;have:=H.o.2.2.2.2.2.2.2.1;omega);clear B V al HR HY HP HZ;go_wp2_with fail;apply C.mono;rintro e w7 ⟨v2,rfl,ae,af⟩;have am:=h!<|ab.o.trans<|.of af;have Y:=h!<|dH Y.o λk hk=>af.5 k (Y.o.lt k hk).2;have ag:=h! ae;obtain⟨a2,e2,rfl,_⟩:=dC ae;clear C af ae d1 d2 ab;generalize (oO s.t S.1.1 K).1=an at *;generalize (oO s.t S.1.1 K).2=code at *;go_wp2;apply eV W;clear W kk;refine gD λkk W y8 B=>?_;have ao:=h!<|am.o.trans B;have Y:=h!<|dH Y.o λk hk=>B.3 k (Y.o.lt k hk).2;have C:=JU _ _ an y8 (Rd.eo Y.o) (Rd.eo<|dH ag.o λk hk=>B.3 k (ag.o.lt k hk).2) o!;clear B ag am;go_wp2_with fail;apply C.mono;rintro e w9 ⟨rfl,nq,rfl⟩;have ap:=h!<|ao.o.trans<|.of<|lx (nr _ _) nq;have Y:J?<|R? (y8.drewN nq) _ 9 1 _ _ _:=Y.o;clear C ao;generalize y8.drewN nq=w9 at *;go_wp2;apply eV W;clear W kk;refine gD λkk W av B=>?_;have C:=T6 H4.o (ap.o.trans B) (dH Y.o λk hk=>B.3 k (Y.o.lt k hk).2) H.o.2.2.2.2.2.1 H.o.2.2.2.2.2.2.1 o!;clear B Y ap H4;go_wp2_with fail;apply C.mono;rintro e aw ⟨rfl,_,c',ax,ay,az,a0,hp,aq⟩;have H9:=h!<|A? hp aq;clear C hp aq;go_wp2;apply eV W;clear W kk;refine gD λkk W ar B=>?_;have HN:J?<|WM I ar l p es.length us.length Mb:=⟨_,_,_,_,_,_,_,_,H9.o.1.same B 0,o!,by have:=H9.o.2;omega,i!,i!,(H.o.2.1.mono o!).set<|ZE H.o.2.2.2.2.2.2.2.1 o!⟩;clear B H9;go_wp2_with fail;apply g!<|uR _ _;go_wp2;apply eV W;clear W kk;exact dv.back (v:=.bool t?) (.inr ⟨_,q?⟩) pi hi (λτ=>by simp[lf,pv,go_sem])<|H.o.2.2.2.2.2.2.2.2 _ HN.o
def Tn{Z:oJ prog}{Mp:F?}{fn}{tm:V?}{os:List OF}{w0}{k:List Item}{c:Nat->Nat}{va}{us:L?}{ms:W?}{es:List DJ}{ops:Array Oper}{i}{rest:List Nat}{o:Oper}{M K}{S T:b?}{aL:Option Addr}{nL cL made}(hi:ops[i]?=y? o)(h:PS w0 I c l va J P p us ms es)(h1:1<=l? es)(au:l? es<=9)(hq:UH U es)(an:U<=16777216)(h5:5<=w0.1.size)(ag:WT w0)(ho:VG x2 M K x1 S T)(hL:Rp I<|.slice aL nL cL)(B:p<=1073741824)(hu:l? us<=17179869184)(hk:x0=1\/2<=x0/\x0<=11)
  (hn:∀w2,WM w0 w2 l p es.length us.length U->dv (jj Z f Mp) (⟨fn,fV o.1 tm<|.bool t?,r? ops rest::k⟩::os) w2 []) :
  dv (jj Z f Mp) (⟨41,#[p?<|y? ⟨l,0,x?⟩,.agg<|GQ x0 x1 x2 M K S T (.slice aL nL cL) made,B3,B3,B3,B3,B3,B3,B3,B3,B3,B3,B3,B3,B3,B3,B3,B3,B3,B3,B3,B3,B3,B3,B3,B3,B3,B3,B3,B3,B3,B3,B3,B3,B3,B3,B3,B3,B3,B3,B3,B3,B3,B3,B3,B3,B3,B3,B3,B3,B3],[.code<|eG f41]⟩::⟨fn,tm,r? ops (i::rest)::k⟩::os) I []:=by
 unfold GQ;have H:=h!<|A? h<|A? hq<|A? h5<|A? ag<|A? ho<|A? hL<|A? B<|A? hu hn;clear h hq h5 ag ho hL B hu hn;show dv _ (⟨_,_,[.code<|.seq (.region 0 _ f?)<|.seq (.seq (.region 1 _ f?)<|.cond _ (.seq (.region 2 _ f?) .ret) .skip)<|.seq (.seq (.region 3 _ f?)<|.cond _ (.seq (.region 4 _ f?) .ret) .skip)<|.seq (.region 5 _ t?)<|.seq (.block 0<|.seq (.region 6 _ f?)<|.cond _ (.seq (.region 7 _ f?) .ret)<|.seq (.region 8 _ f?)<|.cond _ (.seq (.region 9 _ f?) .ret) .skip)<|.seq (.region 10 _ f?) .ret]⟩::_) _ _;refine gD λW V y B=>?_;have HL:J?<|pP I<|y.alloc<|c? #[n? i? x0,n? i? x1,n? i? x2,n? i? M,n? i? K,s? S,s? T,.slice aL nL cL,.bool made] 77:=B.trans<|.of<|gR.alloc _ _;have p1:=sK y<|c? #[n? i? x0,n? i? x1,n? i? x2,n? i? M,n? i? K,s? S,s? T,.slice aL nL cL,.bool made] 77;clear B;go_wp2;apply eV V;clear V W;generalize y.alloc (c? #[n? i? x0,n? i? x1,n? i? x2,n? i? M,n? i? K,s? S,s? T,.slice aL nL cL,.bool made] 77)=w1 at *;generalize y.1.size=O at *;have HP:J? (∀y,pP w1 y->∀o,C? y _=_):=λy B=>dx<|(B.3 _<|eN p1).trans p1;clear p1;refine dv.seq<|gD λW V y B=>?_;have d:=HP.o y B;have HY:=h! B;clear B;obtain rfl|⟨k2,k9⟩:=hk
 .go_wp2;apply eV V;clear V W d;refine dv.rG trivial q? (gD λW V y2 B=>?_);have C:=SJ (H.o.1.same ((HL.trans HY).trans B) 0) o!;clear B;go_wp2_with fail;apply C.mono;clear C;rintro e w2 ⟨rfl,c',ao,bx,yb,hp⟩;have HN:J?<|WM w0 w2 l p es.length us.length U:=⟨c',ao,_,_,_,_,_,_,hp,o!,o!,i!,i!,λe he=>?_⟩;rotate_left
  .obtain h1|h1:=Z3.1 he
   exact H.o.2.1.mono o! e h1;obtain rfl:=Zg.1 h1;exact⟨q?,by simp[V5,eK]⟩
  clear hp;go_wp2;apply eV V;clear V W;exact dv.back (v:=.bool t?) (.inr ⟨_,q?⟩) pm hi (λτ=>by simp[lf,oQ,go_sem])<|H.o.2.2.2.2.2.2.2.2 _ HN
 have n1:(x0==1)=f?:=by rw[beq_eq_false_iff_ne];omega
 have n2:¬x0<2:=o!;have n3:¬11<x0:=o!;go_wp2;apply eV V;clear V W d;refine dv.ni trivial q? (dv.skip<|dv.seq<|gD λW V y2 B=>?_);have HY:=h!<|HY.trans B;have d:=HP.o y2 HY;clear B;go_wp2;apply eV V;clear V W d;refine dv.ni trivial (congrArg _ (j!:(decide _ || decide _)=f?)) (dv.skip<|gD λW V y3 B=>?_);have HY:=h!<|HY.trans B;have d:=HP.o y3 HY;have Y:=H.o.1.same (HL.trans HY) 0;obtain⟨j,ah⟩:∃j,j=Ew x1 es.length:=⟨_,q?⟩;have hj:=ah▸Jf x1 _ h1
 have aj:J? (∀w':w?,ld _ 75 _ w' λe ap=>e=e? (n? _ j)/\w'=ap):=λw'=>by rw[ah];exact Ux x1 _ w' H.o.2.2.2.2.1.7 H.o.2.2.2.2.1.8 h1 o!
 clear ah B
 obtain⟨g,cc,aq,e0,e1⟩:∃g cc,va=.slice _ _ cc/\C? y3 _=y? _/\C? y3 _=y? _:=by
  obtain⟨_,h0⟩|⟨g,cap,cur,he,_⟩:=Y.1.4.2
  omega;have hc:=Y.1.4.cells (g:=g) (by rw[he];rfl);have hp:=Fg es j hj;refine⟨g,cap,he,?_,?_⟩;have:=hc _ _ hp.1;rwa [wn,ZD]at this;have:=hc _ _ hp.2;rwa [wn,ZD]at this
 subst aq;have d0:=dx Y.1.1 0;have dw:C? y3 _=y? (n? _ x1):=d 1;have av:(j:Int)<(l? es:Int):=o!;have ak:=H.o.2.1 _<|Zw hj;have HX:=h! ak;have HQ:=h! Y;clear Y ak d;generalize al:es[j].1=b1 at *;generalize am:es[j].2=b2 at *;have HB:J?<|es[j].1=b1/\es[j].2=b2:=⟨al,am⟩;clear al am;refine jS (Sd:=λa y=>y.2=y3.2->qP _ _ _ [15] a y) (last:=15) (tl:=[]) k! ?_<|λa y h ht=>h ht;refine eJ 0 ?_ ?_<|eJ 1 ?_ ?_<|eJ 2 ?_ ?_<|eJ 3 ?_ ?_<|eJ 4 ?_ ?_<|eJ 5 ?_ ?_ ?_
 any_goals(intro y hy;have q0:=eT hy d0;have q1:=eT hy dw;exact x!)
 refine eJ 6 ?_ ?_<|eJ 7 ?_ ?_<|eJ 8 ?_ ?_<|eJ 9 ?_ ?_<|eJ 10 ?_ ?_ ?_
 any_goals(intro y hy;have q0:=eT hy d0;exact x!)
 refine eJ 11 ?_ ?_ ?_;rotate_left
 .intro y hy;exact y!<|aj y
 refine eJ 12 ?_ ?_<|eJ 13 ?_ ?_ ?_
 any_goals(intro y hy;have q0:=eT hy e0;have q1:=eT hy e1;exact x!)
 go_simp;refine M5 (i:=14) k! d!<|Jo (λg=>p?<|y? ⟨g,0,x?⟩) (λg y=>y.1[g]?=y? (c? #[p? x?,p? x?] 122 (0,0))/\y3.1.size<=g) q? (lu.zc _) (lu.free _) (λ_ y y' h hx=>⟨(hx.5 _<|eN h.1).trans h.1,h.2⟩) (λ_ _ _ h=>h) l! ?_ λg'=>?_
 .intro y hy;obtain⟨_,hz⟩:=id hy;unfold lO;go_simp;exact⟨gR.alloc _ _,q?,sK _ _,hz.4⟩
 refine sJ k! (λt=>GG k! _ _) ?_;intro y ⟨hy,ad,ar⟩ ht;have ae:=h!<|HY.trans<|.of<|xS hy ht;have q0:=dx ad;have q1:=λo=>dO ad o;apply pX q? rfl;unfold lO;go_simp;apply uX;apply eV V;obtain⟨w4,ab⟩:∃w4,w4=(y.setCell ⟨g',0,x?⟩<|p?<|y? ⟨b1,0,x?⟩).setCell ⟨g',1,x?⟩ (p?<|y? ⟨b2,0,x?⟩):=⟨_,q?⟩;have p4:w4.1[g']?=y? (c? #[p?<|y? ⟨b1,0,x?⟩,p?<|y? ⟨b2,0,x?⟩] 122 (0,0)):=by rw[ab,heap_set<|heap_set ad _ _];rfl
 have aa:J?<|pP w1 w4:=by have hz:=HY.2;refine⟨by rw[ab];exact ae.1,by rw[ab];simp[m4];exact ae.2,λk hk=>?_⟩;rw[ab,ZH _ _ _ _ (o!:k≠g'),ZH _ _ _ _ (o!:k≠g')];exact ae.3 k hk
 have ai:J? (∀y,pP w4 y->∀o,C? y _=_):=λy B=>dx<|(B.3 _<|eN p4).trans p4;rw[<-ab];clear ab p4 q0 q1 ad ar hy ht ae HY HQ d0 dw e0 e1 aj;refine dv.seq<|dv.block<|gD λW V y5 B=>?_;have H5:=h! B;have d:=HP.o y5<|aa.trans B;clear B;go_wp2;apply eV V;clear V W d;by_cases k5:x0<=5
 .refine dv.rG trivial (congrArg _<|decide_eq_true k5) (gD λW V y6 B=>?_);have H6:=h!<|H5.trans B;have d:=HP.o y6<|aa.trans H6;have e:=ai.o y6 H6;have C:=Xw (aL:=aL) (nL:=nL) (cL:=cL) (made:=made) (H.o.1.same ((HL.trans aa).trans H6) 0) hj q? HX.1.symm H.o.2.2.2.2.1 k2 k5;rw[HB.1,HB.2]at C;unfold GQ at C;clear B H5;go_wp2_with fail;apply C.mono;clear C d e;rintro e w7 ⟨rfl,c',s',ht,hp⟩;have HN:J?<|WM w0 w7 l p es.length us.length U:=⟨c',_,_,_,_,_,_,_,hp,o!,o!,i!,i!,(H.o.2.1.set (by rw[ht];exact HX.2)).mono o!⟩;clear hp;go_wp2;apply eV V;clear V W;exact dv.back (v:=.bool t?) (.inr ⟨_,q?⟩) pm hi (λτ=>by simp[lf,oQ,go_sem])<|H.o.2.2.2.2.2.2.2.2 _ HN
 refine dv.ni trivial (congrArg _<|decide_eq_false k5) (gD λW V y6 B=>?_);have H6:=h!<|H5.trans B;have d:=HP.o y6<|aa.trans H6;clear B H5;go_wp2;apply eV V;clear V W d;by_cases k8:x0<=8
 .refine dv.rG trivial (congrArg _<|decide_eq_true k8) (gD λW V y7 B=>?_);have H7:=h!<|H6.trans B;have d:=HP.o y7<|aa.trans H7;have e:=ai.o y7 H7;have ac:=(HL.trans aa).trans H7;have C:=VM (made:=made) (H.o.1.same ac 0) hj q? HX.1.symm H.o.2.2.2.2.1 (H.o.2.2.2.2.2.1.low ac) o! k8;rw[HB.1,HB.2]at C;unfold GQ at C;clear B H6 ac;go_wp2_with fail;apply C.mono;clear C d e;rintro e w8 ⟨rfl,c',s',ht,hp⟩;have HN:J?<|WM w0 w8 l p es.length us.length U:=⟨c',_,_,_,_,_,_,_,hp,o!,o!,i!,i!,(H.o.2.1.set (by rw[ht];exact HX.2)).mono o!⟩;clear hp;go_wp2;apply eV V;clear V W;exact dv.back (v:=.bool t?) (.inr ⟨_,q?⟩) pm hi (λτ=>by simp[lf,oQ,go_sem])<|H.o.2.2.2.2.2.2.2.2 _ HN
 refine dv.ni trivial (congrArg _<|decide_eq_false k8) (dv.skip<|dv.inBlock<|dv.sr λW V=>?_)
 (refine fH ?_;go_simp);refine ud q? l! k! λτ=>?_;have q:=ai.o _<|H6.tape τ;unfold lO;go_simp;simp only[iR];apply dv.qg τ;clear q;refine ud q? l! k! λτ=>?_;have q:=HP.o _<|(aa.trans H6).tape τ;unfold lO;go_simp;simp only[iR];apply dv.qg τ;clear q;have ac:=(HL.trans aa).trans H6;let ⟨e1,e2⟩:=HB.o;subst e1;subst e2;have Y:=H.o.1.same ac 0;have af:=H.o.1.3.trans ac;have hW:=H.o.2.2.2.1;by_cases kt:x0=9
 case' pos=>subst kt;refine dv.su _ (iI:=f78) (c:=eG f78) q? l! pi k! BF q? (by simp[eI,Plain]) k!<|ML (aL:=aL) (nL:=nL) (cL:=cL) (made:=made) q? Y hj q? HX.1.symm H.o.2.2.1 (Hi ⟨hW.2,H.o.2.2.1⟩ af) H.o.2.2.2.2.1 H.o.2.2.2.2.2.2.1 H.o.2.2.2.2.2.2.2.1 λw8 c' aw ax ay az hp a0=>?_;have HN:J?<|WM w0 w8 l p es.length us.length U:=⟨c',_,_,_,_,_,_,_,hp,o!,o!,o!,o!,H.o.2.1.mono o!⟩;clear hp
 case' neg=>refine dv.su _ (iI:=f78) (c:=eG f78) q? l! pi k! BF q? (by simp[eI,Plain]) k!<|KE (kind:=x0) (aL:=aL) (nL:=nL) (cL:=cL) (made:=made) q? Y hj q? HX.1.symm H.o.2.1 an ⟨gS af hW.1.1,gS af hW.1.2.1,gS af hW.1.2.2⟩ H.o.2.2.2.2.1 H.o.2.2.2.2.2.2.1 H.o.2.2.2.2.2.2.2.1 o! λw8 hN=>?_;have HN:=h! hN;clear hN
 all_goals
  rw[kA];go_simp
  (refine fH ?_;go_simp);apply dv.ie V;clear V W;exact dv.back (v:=.bool t?) (.inr ⟨_,q?⟩) pm hi (λτ=>by simp[lf,oQ,go_sem])<|H.o.2.2.2.2.2.2.2.2 _ HN
def WD:Tz 11 WT:=by intro Z W0 Mp fn tm os wl w0 k c B va vl vm last us ms es ops i rest o Mb kind W N M K S T aL nL cL made O h U J V Y h5 hX ho hL hl hu hk hn;exact Tn O h U J V Y h5 hX ho hL hl hu hk hn
end
section
open ChangeShapes WideShapes ChangeAt RowKit Conc
def SD{W a n cap}(J:W.ShapedOpen prog)(U:Qg W)(O:qv W)(hs:Y4 W a n)(V:∀x,a=y? x->∃c e f,W.1[x.1]?=y? (c? c e f))(hn:n<=600000) :
  wR prog (λv' w=>v'=.bool t?/\xq W w) (solo (G (Frame.enter prog 12 #[.slice a n cap] .normal) []) W) #[]:=by
 refine Qe (iI:=rv) (c:=eG rv) J pr k! (.one ?_) q? ?_
 .cases a with
  |none=>exact .gC _ _|some x=>exact .slice _ _<|.mk<|pY<|V x q?
 have Y:=Q3 (Mp:=DD W) J;show dv _ (⟨_,#[.slice a n cap,B3,B3,B3,B3],[.code<|.seq (.region 0 _ f?)<|.seq (.region 1 _ f?) .ret]⟩::_) _ _;refine dv.seq<|dv.region ?_
 (refine fH ?_;go_simp);refine dv.inRegion<|dv.seq<|dv.region ?_
 (refine fH ?_;go_simp);refine dv.su #[.slice a n cap,n? i? 2,n? i? 11,B3,B3,B3,B3,B3,B3,B3,B3,B3,B3,B3,B3,B3,B3,B3,B3,B3,B3,B3,B3,B3,B3,B3,B3,B3,B3,B3,B3,B3,B3,B3,B3,B3,B3,B3,B3,B3,B3,B3,B3,B3,B3,B3,B3,B3,B3,B3,B3,B3,B3,B3,B3,B3,B3,B3,B3,B3,B3,B3,B3,B3] (i:=1) (iI:=qz) (c:=eG qz) q? q? ry k! M3 q? (by simp[eI,Plain]) k! ?_;refine Mn q? WD Y (λy B=>⟨⟨gS B (Bi U).1,gS B (Bi U).2.1,gS B (Bi U).2.2⟩,Hi ⟨Si (Mp:=DD W) O,Y⟩ B⟩) (V1 hs) hn λw2 B=>?_
 (refine fH ?_;go_simp);apply dv.inRegion;refine XB (iI:=rv) (rs:=#[]) (λ_ h=>h) pr k! (B.3) trivial λw=>?_;simp[lf,results12,go_sem,fV]
end
section
open Go
def we{p s c}(f)(fn)(hn:c.1=p.1)(hs:c.2=p.2)(W:c.4=s.1)(B:c.20=.entering)(V:c.18=[])(Y:c.21=[]/\c.22=x?/\c.23=[]/\c.24=f?/\c.25=f?/\c.26=[]/\c.27=[])(hb:c.28=f?)(aa:c.29=t?)(J:c.30=x?)(O:c.17=s.4.isSome)(ab:c.43=f?)
  (ac:p.3.2.funcNamed c.3=y? f) (hf:p.3.2.2[f]?=y? fn) (closed:lv p.3.2 f fn s.bare c=t?) (hi:fn.isInstance p.3.2 c.5 c.6) (hw:fn.isWrapper p.3.2 c.7 c.8)
  (h:∀os,os.Started->∀(H)(enc:ln×v?->H),∀F,ls c.assume p.3 os f .any (c.pre enc p.3.2 fn s)<|(s.at F).post enc p.3.2 fn c.11 c.12 c.13 c.14):c.holds p s:=by
 simp only[lv,IT,beq_iff_eq,Array.all_eq_true_iff_forall_mem,Zy,decide_eq_true_eq]at closed;obtain⟨⟨⟨⟨⟨⟨⟨⟨⟨⟨⟨⟨⟨⟨⟨⟨⟨⟨⟨⟨⟨⟨⟨⟨⟨⟨⟨⟨⟨⟨⟨k1,k2⟩,k3⟩,k4⟩,k5⟩,k6⟩,k7⟩,k8⟩,k9⟩,ad⟩,ae⟩,af⟩,ag⟩,ah⟩,ai⟩,aj⟩,ak⟩,al⟩,am⟩,an⟩,ao⟩,ap⟩,aq⟩,U⟩,ar⟩,au⟩,av⟩,aw⟩,ax⟩,ay⟩,az⟩,a0⟩:=closed;have hq:∀os:Os,Stop.quiet _ os:=λos k hk=>by rw[k9]at hk;cases hk
 refine⟨k1,hn,hs,W,k2,k3,(by unfold zk;rwa[B]),(by unfold yu;rw[B];exact⟨Y.1,Y.2.1,Y.2.2⟩),f,fn,ac,hf,⟨k4,an⟩,(λx=>by rw[hb]at x;cases x),by unfold Bs;rwa[J],hi,hw,k6.trans k7.symm,⟨k8.trans k9.symm,by unfold Program.envWorded;rw[k9];rfl,ar⟩,ad,ae,af,ag,ah,⟨ai,az,a0⟩,⟨aj,ao⟩,⟨ak,ap,ax,ay⟩,⟨aq,av,aw,al⟩,?_,λn a1=>varReadable_some<|am n a1,⟨_,by unfold yt;rw[V,B];exact WideRow.started_initial,hq _⟩,[],by unfold Bv;rw[J],λos st _ H enc _=>?_⟩;rw[V,O]
 cases a2:c.33 with
 |none=>simp|some _=>rw[a2]at U;cases U
 rw[z9 ab];unfold Bx Bk B0 B1;simp only[B,k6,hb,aa,J,V];exact λF=>(λF=>h os (by unfold yt at st;rwa[V,B]at st) H enc F au) F
end
section
open ChangeMaps ChangeShapes WideShapes ChangeAt RowKit Conc
def Ht{H}(l:List<|DataW H):l? l*2<=ne l+l? l:=by
 induction l with
 |nil=>simp[ne]|cons d r B=>
  have:1<=nl d:=by
   cases d with
   |lit l=>cases l<;>simp[nl]
   |nil=>simp[nl]|ptr d=>simp[nl]|slice elems spare=>simp[nl]|agg parts=>simp[nl]|iface t d=>simp[nl]|map entries=>simp[nl]|held h=>simp[nl]
  simp only[ne,w!];omega
def SQ{H}(D:Nat->DataW H):∀(n),(∀i,i<n->2<=nl (D i))->2*n<=ne ((cC n).map D):=by
 have B:∀l r:List<|DataW H,ne (l++r)=ne l+ne r:=by
  intro l r;induction l with
  |nil=>simp[ne]|cons x l J=>simp only[B!,ne,J];omega
 intro n;induction n with
 |zero=>intro _;omega|succ n J=>intro h;have O:=J<|λi U=>h i o!;have V:=h n o!;rw[D!,Z4,B];simp only[ZK,ZU,ne];omega
def Ks{H}{enc:ln×v?->H}{W}{a0:Option Addr}{B cap0}{d0:DataW H}{p0:List MemPlace}(h0:DataW.Trod enc prog W 0 (λ_=>t?) t? 22 (.slice a0 B cap0) d0 p0)(Y:ne [d0]<=1048576):Y4 W a0 B/\B<=600000:=by
 obtain⟨ag,hf⟩:=h0;obtain⟨J,_⟩|⟨x,l,c,m,n,D,Pl,J,_,hl,hm,ab,hx,U⟩:=Deep.open_slice pc hf
 simp[wh]at J;obtain⟨rfl,rfl,rfl⟩:=J;exact⟨λk Y=>o!,o!⟩;simp[wh]at J;obtain⟨rfl,rfl,rfl⟩:=J;have ai:B<=m:=by rw[ab];split<;>omega
 have fu:ne ((cC B).map D)<=1048576:=by
  have O:=Y
  have hd:d0=.slice ((cC B).map D) ((cC<|m-B).map λj=>D<|B+j):=by have:=congrArg xb hx;exact this
  rw[hd]at O;simp only[ne,nl]at O;omega
 constructor;intro k Y;obtain⟨b,off,spot⟩:=x
 have ac:spot=x?:=by obtain⟨aj,aa,_⟩:=U 0 o!;rw[O0]at aa;obtain⟨_,ah,V⟩:=m6 aa;have h1:=V 0 o!;rw[BY o!]at h1;simpa[wu]using m' h1
 subst ac;let ⟨cs,hc,ht⟩:=U k o!;rw[O0,wn]at hc;let ⟨kind,Wn,N,M,K,S,T,aL,nL,cL,made,ad⟩:=WW hc ht<|ZE (ul _ k _<|by simp[Y]) fu;exact⟨b,off,kind,Wn,N,M,K,S,T,aL,nL,cL,made,q?,ad⟩;have O:=Y
 have hd:d0=.slice ((cC B).map D) ((cC<|m-B).map λj=>D<|B+j):=by have:=congrArg xb hx;exact this
 have hD:∀i,i<B->2<=nl (D i):=λi hi=>by
  obtain⟨cs,hc,ht⟩:=U i o!;obtain⟨xs,n',rfl,ae,_,ak,_⟩:=un ra ht;have af:D i=.agg (xs.map (·.1)):=by have:=congrArg xb ae;exact this
  have al:(xs.map (·.1)).length=9:=by rwa[Z5]
  have:=Ht (xs.map (·.1));rw[af];simp only[nl];omega
 have:=SQ D B hD;rw[hd]at O;simp only[ne,nl]at O;omega
def RY(os)(args:V?):laidMet prog XD ((m8 prog 29 os).forCall (λ_ _=>0) ⟨#[],args,[]⟩).memory:=
 laidMet_of_run' 8 k! k!
def Yo(os){H}(enc:ln×v?->H):∃places,DataW.whole enc prog ((m8 prog 29 os).forCall (λ_ _=>0) ⟨#[],#[.slice x? 0 0],[]⟩).memory rv.4.1 nn.2 f? #[Value.slice x? 0 0].1 8=y? ([.nil],[],places):=
 ⟨[],k!⟩
def X4(os)(B:os.Started)(H)(enc:ln×v?->H)(F) :
  ls {} rt os 12 .any ((Rows.OpenSpec.upto nn).preRow enc prog rv no.15 f? XD) (((Rows.OpenSpec.upto nn).at F).post enc prog rv f? t? f? f?):=by
 obtain⟨places,hx⟩:=Yo os enc
 refine rN (C:=rt) (s:=Rows.OpenSpec.upto nn) (F:=F) ZaH B pr
  (witness_row_at (enc:=enc) (C:=rt) f? (m8 prog 29 os) #[.slice x? 0 0] q? k! k! k!
    (OpenSpec.preRow_of_cond 8 hx k! (λk hk=>by cases hk;kernel_rfl) k!<|RY os _)) ?_
 intro W base args ds gs ac J hW U hL ad _;have O:∀(j:Nat)t v,rv.4[j]?=y? t->args[j]?=y? v->wg prog W _ base t v:=J;have Y:=hW;obtain⟨p,q,aa,hV,rfl,_,_⟩:=hW;have hA:DataW.TrodAll enc prog W 0 _ t? _ _ ds p:=aa;rw[params12]at hA O;obtain⟨v0,ai,d0,aj,p0,q0,V,rfl,rfl,h0,r0⟩:=trodAll_cons hA;obtain⟨rfl,rfl,rfl⟩:=trodAll_nil r0;obtain rfl:args=#[v0]:=by cases args;simp_all
 obtain⟨rfl,rfl⟩:=trodVars_none hV;obtain⟨a0,ag,ah,rfl⟩:=okWide_slice pc<|O 0 22 v0 q? q?;have ae:=O 0 22 _ q? rfl;have k0:=h0;have af:∀x∈p0,x.block<W.1.size:=by obtain⟨m,hm⟩:=k0;exact DataW.trod_lt m _ _ _ hm
 let ⟨hs,hn⟩:=Ks h0<|of_decide_eq_true<|U _ q?;clear aa J V;simp only[Z6]at Y;refine(SD ad (Hl hL) (Uf hL) hs (λx hx=>by subst hx;exact(QU pc ae).2) hn).mono λv w ⟨hv,ab⟩=>?_;subst hv;refine⟨{w with tape:=W.2},rfl,?_⟩;exact⟨_,_,_,[],_,[],Y,trodAll_mk1<|shut_bool pd _,trodAll_cons_mk (Below.trod xn k! (of_decide_eq_true k!) k0 ab af) trodAll_mk0,q?,ab.frame _,λh=>by cases h⟩
def Wj:lv prog 12 rv (Rows.OpenSpec.upto nn).bare no=t?:=by unfold lv;simp only[IT];and_intros <;>(as_aux_lemma=>kernel_rfl)
def Xp:Rows.AllUptoSaid:=
 we 12 rv q? q? q? q? q? ⟨q?,q?,q?,q?,q?,q?,q?⟩ q? q? q? q? q? k! pr Wj
  (of_decide_eq_true k!) (by unfold Func.isWrapper;first|(rw[if_pos<|by decide +kernel];kernel_rfl)|(rw[if_neg<|by decide +kernel];exact⟨q?,q?⟩))
  (λos B H enc F=>by rw[z8];exact X4 os B H enc F)
def SV(f)(fn)(O:Tryz.pinned.3.2.funcNamed no.3=y? f)(B:Tryz.pinned.3.2.2[f]?=y? fn) :
  t?=Tryz.pinned.3.2.looks []/\∀(j:Nat)t,fn.4[j]?=y? t->Tryz.pinned.3.2.wantsStandIn t=f?:=by
 obtain rfl:f=12:=sz ((k!:prog.funcNamed no.3=y? 12).symm.trans O) |>.symm
 obtain rfl:fn=rv:=(sz<|pr.symm.trans B).symm;refine⟨k!,λj t J=>?_⟩;rw[params12]at J;obtain rfl:t=22:=by simpa using j4 J
 exact(k!:prog.wantsStandIn 22=f?)
end
