import Derived.Conc.LeavingOf
import Derived.Deep.DeepHandedRow
import Derived.LaidMore
import Derived.Stop.LaidErr
import Derived.Lib.SmallJoins
import Derived.Test.YtocbogeoffeolaaGreatDoorAllAD
set_option linter.all false
set_option maxHeartbeats 8000000
set_option maxRecDepth 1000000
open List renaming range->cC,map_map->cH,length_set->cK,length_take->cX,getElem?_range->de,getElem_set->dl,getElem_range->dB,size_toArray->eg,ext_getElem?->ep,length->et,filter_map->ev,mem_or_eq_of_mem_set->e6,Nodup->fs,prefix_refl->gc,map->gt,set_set->gv
open Nat renaming pow_le_pow_right->hH,mul_le_mul->hU,strongRecOn->ip,sub_self->i1,pow_succ->i2,mod_one->i6
open Array renaming getElem_ofFn->jt,toList_append->j1,replicate->j2,ofFn->j3,getElem?_mapIdx->ka,toList_inj->kc,set!_eq_setIfInBounds->kd,getElem?_push->kr,ext->kx
open Classical renaming choose_spec->n7,choose->n8,propDecidable->oa,axiomOfChoice->ol
open Option renaming isNone_some->oo,isNone_none->op,bind_none->ot
open ByteArray renaming size_append->ow,data_append->o0,ext->o7,data_extract->oB
open Int renaming toNat_natCast->sd,not_lt->sm
open Option.some renaming inj->sz
open Prod renaming fst->xb,snd->xt,ext->x'
open And renaming intro->A?
open Array renaming setIfInBounds->S?
open Bool renaming false->f?,true->t?
open List renaming length->l?,toArray->a?
open Option renaming none->x?,some->y?
namespace Go.Proofs.YtocbogeoffeolaaGreatDoor
open Go renaming maxLen->la,Calls->ld,results->lf,TypeId->ln,yielded->lo,goexitEntry->lw,FuncId->mm
open World renaming setCell->m4,cell?->m5,drewN->m7,block_lt_of_cell?->m9,var?->nc
open RowKit.Below renaming refl->nr,setCell->n6
open Proofs.Tryz renaming underlying9->oC,underlying118->oN,underlying75->oT,ntmps205->px,ntmps107->p',underlying31->rb,func205->rc,func107->rr,func17->rx
open Region renaming ready->s8,wanted->sA,noSelect->sB,free->te
open IntKind renaming wrap->vt,signed->vx,bits->v9
open Value renaming ownBlock->wd
open Value.slice renaming injEq->wi
open Addr renaming add_lit->wn
open Lib renaming decDigits->yc,TabIs->yd,pow10Tab->yg
open Region.linearise renaming go->yo
open Go renaming undef->B3
open Go renaming Program->P?,Value->v?,World->w?
open Ending renaming returned->e?
open IntKind renaming i64->i?
open Item renaming inRegion->r?
open Obj renaming cells->c?
open Value renaming int->n?,ownBlock->O?,pointer->p?,string->s?
open World renaming cell?->C?,ownsRow->R?
open Proofs.Tryz
section
open Conc RowKit Maps
variable {f g:Nat}
def xd(w:w?)(a)(v):(w.setCell a v).1.size=w.1.size:=by simp
def NW(c:Code):Code:=match c with
 |.seq _ (.seq _<|.seq _ y)=>y|_=>.skip
def Vq:f80.1≠ "runtime.NumGoroutine":=by decide
def JA:f82.1≠ "runtime.NumGoroutine":=by decide
def oe(cl:Nat->Option Nat)(n r:Nat):Nat->Option Nat:=λk=>if k=n then y? r else cl k
def NU{cl}(h:f<7):(yk cl).set! f (.chan<|y? g)=yk (oe cl f g):=by rcases(o!:f=0\/f=1\/f=2\/f=3\/f=4\/f=5\/f=6)with rfl|rfl|rfl|rfl|rfl|rfl|rfl<;>rfl
def sw(A:Ask)(num:Nat)(p:Nat×eE):rj:=if A.has p.2=t? then⟨num,p.1,p.2.1,t?,Gy p.2,p.2.3,p.2.4,p.2.5⟩else⟨num,p.1,p.2.1,f?,[],[],0,0⟩
def JK(A)(num)(p):(sw A num p).val=pJ A num p:=by unfold sw pJ;split<;>rfl
structure JQ(ms:List rj):Prop where
 len:l? ms<=1048576
 each:∀m∈ms,m.1<=1000/\m.2<4611686018427387904/\l? m.3<=la
 places:(ms.map λm=>(m.1,m.2)).Nodup
 names:((gw ms ms).map eE.name).Nodup
 texts:∀e∈gw ms ms,l? e.3<=1048576
def Wb{a b c}(h:V3 a b=V3 c f):a=c/\b=f:=by unfold V3 at h;simp only[Value.agg.injEq,Array.mk.injEq,List.cons.injEq,Value.int.injEq,true_and,and_true]at h;omega
def JQ.all{ms}(h:JQ ms):S8 (ms.map rj.val) where
 met:=λv J=>by obtain⟨m,hm,rfl⟩:=Zv.1 J;have:=h.2 m hm;exact⟨m.1,m.2,_,_,_,_,_,_,o!,this.2.1,q?⟩
 nodup:=by rw[cH];have B:=h.3;rw[fs,ZY]at B⊢;refine B.imp fun {x y} hne e=>hne ?_;have:=Wb e;rw[this.1,this.2]
 len:=by rw[Z5];have:=h.1;unfold la;omega
def XG{ms:List rj}{l:List<|v?×v?}(B:(l.map xt).Perm<|ms.map rj.val)(J:∀p∈l,p.1=Sf p.2):l.Perm<|ms.map rj.kv:=by
 have e:l=(l.map xt).map λv=>(Sf v,v):=by
  rw[cH];conv=>lhs;rw[<-List.map_id l]
  refine ZM λp O=>?_;show p=(Sf _,p.2);rw[<-J p O]
 have U:=B.map λv=>(Sf v,v);rw[cH (l:=ms)]at U;rwa[e]
def Yn(ms:List rj)(L:E?):Prop:=L.Perm (gw ms ms)/\L.Pairwise λx y=>fw x y=t?
def Fp(ms:List rj)(l cp:Nat):Prop:=l=0/\cp=0/\Yn ms []
def EF(ms:List rj)(off:Nat)(spot:Option Nat)(l cp:Nat)(cs:V?)(e:ln)(f:Nat×Nat):Prop:=
 off=0/\spot=x?/\e=96/\f=(0,0)/\∃L,Yn ms L/\l=l? L/\l<=cp/\cp<=la/\cs.size=cp*4/\cs.1.take (l*4)=l6 L
def F8{Z:oJ prog}{w:w?}{T:List Frame}{q K}{wl:w?}{V:Vs}{A:Ask}{es:E?}{ex}{cl:Nat->Option Nat}{sa:Option Addr}{n sc bx b s}{ms aJ:List rj}{a2 a3 a4 a6 a8 a9 a10 a11 a12 a13 a14 a15 a16 a17 a18 a19 a20 a21 a22 a23 a24 a25 a26 a27 a28 a29 a30 a31 a32 a33 a34 a35 a36 a37 a38 a39 a40}(hT:∀ps,T=[ps]->ps.5≠.panicking [lw])
  (hs:s=wl.1.size) (hA:A.Ok) (hK:K<=s+5) (h5:5<=s) (ad:f<s) (ae:5<=q) (hq:q<w.1.size) (U:w.1[q]?=y? ex) (hM:uF ex es) (W:∀(r:Nat)a c,wl.1[r]?≠y? (.map a c))
  (hl:l? es<=100000) (af:∀e∈es,l? e.1<=la/\l? e.3<=1048576/\(e.2=f?->0<=e.5/\e.5<=255)) (hn:n<=6) (hV:∀x∈V,x.1<s)
  (ag:wl.1[bx]?=y? (c? #[n? i? A.m,s? A.q,n? i? A.t] 94 (0,0))) (hb:wl.1[b]?=y? (c? (yk cl) 125 (0,0)))
  (ah:∀k,n<=k->cl k=x?) (kO:∀k r,k<7->cl k=y? r->∃vs,(r,y? vs)∈V) (fu:∀x∈V,∃k vs,k<7/\cl k=y? x.1/\x.2=y? vs) (wK:∀k k' r,k<7->k'<7->cl k=y? r->cl k'=y? r->k=k') (iS:(V.map xb).Nodup) (Y:l? V=n)
  (ai:vk V=aJ.map rj.val) (aj:ms=(iO es).map (sw A n)++aJ) (aa:JQ ms)
  (fin:∀(ab:Env prog)aK aE aL,ab.Z=Z->ab.T=T->ab.3=w->(aE=[]\/∃k2,aE=.code .ret::k2)->El prog ab Tryz.f49 aK aL (Fp ms) (EF ms)->dv ab [⟨49,aK,aE⟩] aL []) :
  dv (qw prog Z w T f q K f?) [⟨49,#[.slice sa n sc,.map<|y? f,a2,a3,a4,p?<|y? ⟨bx,0,x?⟩,a6,p?<|y? ⟨b,0,x?⟩,a8,a9,a10,a11,a12,a13,a14,a15,a16,a17,a18,a19,a20,a21,a22,a23,a24,a25,a26,a27,a28,a29,a30,a31,a32,a33,a34,a35,a36,a37,a38,a39,a40],[.code<|NW<|eG Tryz.f49]⟩] wl V:=by
 have HA:=h!<|A? hs<|A? hA<|A? hK<|A? h5<|A? ad<|A? ae<|A? hq<|A? U<|A? hM<|A? W<|A? hl<|A? af<|A? hn<|A? hV<|A? ag hb;have HC:=h!<|A? ah<|A? kO<|A? fu<|A? wK<|A? iS<|A? Y<|A? ai<|A? aj<|A? aa<|A? fin hT;clear hs hA hK h5 ad ae hq U hM W hl af hn hV ag hb ah kO fu wK iS Y ai aj aa fin hT;show dv _ [⟨_,_,[.code<|.seq (.region 7 _ f?)<|.seq (.region 8 _ f?)<|.seq (.region 9 _ f?)<|.seq (.region 10 _ f?) .ret]⟩] _ _;refine dv.sr λkk HK=>?_
 (iterate 5 (refine fO ?_;go_simp));refine qo q? l! k! λy0 ak am=>?_;have e0:=dx (by rw[ak];exact HA.2.2.2.2.2.2.2.2.2.2.2.2.2.2.1);have HY:J?<|y0.1=wl.1/\y0.4=wl.4:=⟨ak,am⟩;clear ak am;unfold lO;go_simp;simp only[iR];let ⟨hs,hA,hK,h5,ad,ae,hq,U,hM,W,hl,af,hn,hV,ag,hb⟩:=HA.o;rw[<-HY.1]at hs W ag hb;clear e0;refine dv.su #[n? i? (n:Int),.map<|y? f,.agg #[n? i? A.m,s? A.q,n? i? A.t],B3,B3,B3,B3,B3,B3,B3,B3] (i:=6) (iI:=f80) (c:=eG f80) q? q? func80 k! Vq q? (by simp[eI]) k! ?_;refine Df n A es ex s hs q? hA hK h5 ad ae hq U hM W hl af o! hV λw2 z2 o2 aM p2=>?_;obtain⟨ah,kO,fu,wK,iS,Y,ai,aj,aa,fin,hT⟩:=HC.o;have ar:b<s:=by rw[hs];exact(AI.1 hb).1
 have a5:=(o2 b ar).trans hb;have aN:n<7:=o!;have H2:=h!<|A? z2<|A? o2<|A? p2<|A? a5 ar;clear ah kO fu wK iS Y ai aj aa fin hT hs hA hK h5 ad ae hq U hM W hl af hV ag hb hn z2 o2 aM p2 a5 ar;rw[kA];go_simp;have aO:(n:Int)<7:=o!
 (refine fO ?_;go_simp);clear aO;refine qo q? l! k! λy1 al an=>?_;have gb:y1.1[b]?=y? (c? (yk cl) 125 (0,0)):=by rw[al];exact H2.2.2.2.1
 have e0:C? y1 ⟨b,n,x?⟩=y? (.chan<|cl n):=by rw[dx gb];rcases(o!:n=0\/n=1\/n=2\/n=3\/n=4\/n=5\/n=6)with rfl|rfl|rfl|rfl|rfl|rfl|rfl<;>rfl
 have f0:=dO gb n;have a7:J?<|y1.1=w2.1/\y1.4=w2.4:=⟨al,an⟩;have HG:=h! gb;clear al an gb;unfold lO;go_simp;simp only[iR];clear e0 f0;obtain⟨w3,aq⟩:∃w3,w3=y1.setCell ⟨b,n,x?⟩ (.chan<|y?<|s+3):=⟨_,q?⟩;have g3:w3.1[b]?=y? (c? (yk<|oe cl n<|s+3) 125 (0,0)):=by rw[aq,heap_set HG.o n _,<-NU aN];simp only[kd]
 have o3:∀r,r≠b->w3.1[r]?=w2.1[r]?:=λr hr=>by rw[aq,ZH _ _ _ _ hr,a7.1]
 have z3:w3.1.size=s+5:=by rw[aq,xd,a7.1];exact H2.1
 have p3:w3.4=w2.4:=by rw[aq,sS];exact a7.2
 rw[<-aq];clear aq HG a7 y1;have H3:=h!<|A? g3<|A? o3<|A? z3 p3;clear g3 o3 z3 p3;apply dv.ie HK;clear HK kk;refine dv.sr λkk HK=>?_
 (iterate 3 (refine fO ?_;go_simp));have aP:IntKind.i64.wrap ((n:Int)+1)=(n:Int)+1:=by simp only[X?];omega
 rw[aP];clear aP;let ⟨ah,kO,fu,wK,iS,Y,ai,aj,aa,fin,hT⟩:=HC.o;let ⟨hs,hA,hK,h5,ad,ae,hq,U,hM,W,hl,af,hn,hV,ag,hb⟩:=HA.o;let ⟨g3,o3,z3,p3⟩:=H3.o;let ⟨z2,o2,p2,a5,ar⟩:=H2.o;obtain⟨V2,ac⟩:∃V2,V2=(s+3,y?<|(iO es).map<|pJ A n)::V:=⟨_,q?⟩;have aQ:(n:Int)+1=(l? V2:Int):=by rw[ac,w!,Y];rfl
 have au:vk V2=ms.map rj.val:=by rw[ac];show(iO es).map (pJ A n)++vk V=_;rw[ai,aj,Z4,cH];congr 1;refine ZM λp _=>(JK A n p).symm
 have aF:∀k r,cl k=y? r->k<7->r≠s+3:=λk r hr hk e=>by obtain⟨vs,h⟩:=kO k r hk hr;have:=hV _ h;simp only at this;omega
 have aB:∀k r,k<7->oe cl n (s+3) k=y? r->∃vs,(r,y? vs)∈V2:=λk r hk hr=>by
  unfold oe at hr;rw[ac];split at hr
  cases hr;exact⟨_,ZT ..⟩;obtain⟨vs,h⟩:=kO k r hk hr;exact⟨vs,ZG _ h⟩
 have av:∀x∈V2,∃k vs,k<7/\oe cl n (s+3) k=y? x.1/\x.2=y? vs:=λx hx=>by
  rw[ac]at hx;obtain rfl|hx:=Zm.1 hx
  exact⟨n,_,aN,by unfold oe;rw[if_pos rfl],q?⟩;obtain⟨k,vs,a1,a2,a3⟩:=fu x hx;refine⟨k,vs,a1,?_,a3⟩;have:k≠n:=λe=>by rw[e,ah n<|Zu _]at a2;cases a2
  unfold oe;rwa[if_neg this]
 have aC:∀k k' r,k<7->k'<7->oe cl n (s+3) k=y? r->oe cl n (s+3) k'=y? r->k=k':=λk k' r hk aR h1 h2=>by
  unfold oe at h1 h2;split at h1<;>split at h2;omega
  cases h1;exact absurd q?<|aF k' _ h2 aR
  cases h2;exact absurd q?<|aF k _ h1 hk;exact wK k k' r hk aR h1 h2
 have ao:(V2.map xb).Nodup:=by rw[ac,ZK,Z2];refine⟨λh=>?_,iS⟩;obtain⟨x,hx,e⟩:=Zv.1 h;have:=hV x hx;simp only at e;omega
 rw[aQ,<-ac];refine dv.su (#[p?<|y? ⟨b,0,x?⟩,n? i? (l? V2:Int),B3,B3,B3,B3,B3,B3,B3,B3,B3,B3,B3,B3,B3,B3,B3,B3,B3,B3,B3,B3,B3,B3,B3,B3,B3,B3,B3,B3]:V?) (i:=3) (iI:=f82) (c:=eG f82) q? q? func82 k! JA q? (by simp[eI]) k! ?_;apply KW (mb:=s+5) q? aa.all z3.symm o! g3 aB av aC ao (by rw[ac,w!,Y];omega) au;intro w4 l aS aT aU _ _;have aG:QD w4 _ ms:=aU.perm<|XG aS aT;have aV:=aG.lt;have aW:=h!<|A? aG aV
 have aX:∀b,w.1[b]?=y? rX->b<w.1.size/\(t?=t?->b≠q):=λb hb=>⟨(AI.1 hb).1,λ_ e=>by
  obtain⟨a,c,hx⟩:=hM.1;rw[e,U,hx]at hb
  cases hb⟩
 have be:=h! aX;clear ah kO fu wK iS Y ai aj hs hA hK h5 ad ae hq U hM W hl af hn hV ag hb g3 o3 z3 p3 z2 o2 p2 a5 ar ac aQ au aF aB av aC ao aS aT aU aG aV HA HC H2 H3;have HF:=h!<|A? aa<|A? fin hT;clear aa fin hT aX;show dv _ [⟨_,fV _ _ _,_⟩] _ _;rw[kA];go_simp;refine qo q? l! k! λy0 ak am=>?_;have aY:QD y0 _ ms:=lI.stay aW.1 (by rw[ak]);have aw:s+6<=y0.1.size:=by rw[ak];exact aW.2
 have aD:=Ha _ ms y0 aY HF.1.1 λm hm=>⟨(HF.1.2 m hm).1,(HF.1.2 m hm).2.2⟩;clear ak am aY;unfold lO;go_simp;simp only[iR];refine⟨t!,aD.mono ?_⟩;clear aD;rintro e w5 ⟨v,aH,rfl,B,J,a',ax⟩;refine⟨v,q?,?_⟩;obtain⟨aZ,aI,rfl,ba⟩:=dK J;have HO:=h!<|A? B<|A? J<|A? a'<|A? ax aw;clear B J a' ax aw ba
 (refine fO ?_;go_simp);apply dv.ie HK;clear HK kk;refine dv.sr λkk HK=>?_
 (refine fO ?_;go_simp);refine qo q? l! k! λy1 al an=>?_;obtain⟨B,J,a',ax,aw⟩:=HO.o;have fL:(gw ms aH).Perm _:=J0 B;have ay:=dJ J (λk hk=>by rw[al]);have az:=T1 _ aZ aI _ y1 ay ((fL.map _).nodup_iff.2 HF.1.4) (by have h1:=ED ms aH;have h2:=B.length_eq;have h3:=HF.1.1;omega) (λe he=>HF.1.5 e<|fL.mem_iff.1 he) (ax.stay λg hg=>by rw[al]);have HP:=h!<|A? fL aw;clear B J a' ax aw fL ay al an HO;unfold lO;go_simp;simp only[iR];refine⟨t!,az.mono ?_⟩;clear az;rintro e w6 ⟨rfl,bf,L,a0,aA,O,ap⟩;refine⟨_,q?,?_⟩;have H6:=h!<|A? a0<|A? aA<|A? O ap;clear bf a0 aA O ap;apply dv.ie HK;clear HK kk;apply dv.seq;apply dv.region
 (iterate 2 (refine fO ?_;go_simp));apply dv.inRegion;refine HF.2.1 _ _ _ _ q? q? q? (.inr ⟨_,q?⟩) ⟨⟨.slice aZ (gw ms aH).length aI,λτ=>by simp[lf,results49,go_sem],?_⟩,be⟩;obtain⟨a0,aA,O,ap⟩:=H6.o;have hL:=a0.length_eq;have bc:Yn ms L:=⟨a0.trans HP.1,aA⟩;obtain⟨he,bi⟩|⟨g,cap,cur,he,bg,bd,h1,h2,h3,h4⟩:=O.2
 left;simp only[wi]at he;refine⟨_,_,?_,he.2.1,he.2.2,?_⟩;rw[he.1];have:L=[]:=List.eq_nil_of_length_eq_zero o!;rwa[<-this];right;simp only[wi]at he;obtain⟨rfl,_,rfl⟩:=he;refine⟨g,0,x?,_,aI,cur,_,_,q?,bd,ap g cur _ _ q? bd,λm hm bh=>?_,d!,q?,q?,q?,q?,L,bc,hL.symm,h1,h2,h3,h4⟩;have:=hm.x.2.2 g bh;have:=HP.2;omega
def atKey_mem{L}(B:L.Pairwise<|λp q=>p.1≠q.1){k d}(J:WideAt.IsKeyLit k)(hm:(k,d)∈L)(z:DataW v?):(DataW.map L).atKey k z=d:=by
 unfold DataW.atKey;simp only
 have:L.find? (λp=>p.1.sameKey k)=y? (k,d):=by
  induction L with
  |nil=>cases hm
  |cons a L O=>
   rw[List.pairwise_cons]at B;rw[List.find?_cons];obtain e|hm:=Zm.1 hm
   rw[<-e];simp only[WideAt.sameKey_self J];rw[sameKey_ne<|B.1 _ hm];exact O B.2 hm
 rw[this]
def Um(e):Flat (mQ e).2:=by
 refine .agg λi B=>?_;have:=B;match i,this with
 |0,_=>exact .bool _|1,_|2,_=>exact .string _|3,_|4,_=>exact .int ..
def Tl{x}(B:Flat x.1)(J:Flat x.2)(m):wq m x x:=⟨B.refl m,J.refl m,q?⟩
def Pe{es:List MapEntry}(h:∀x∈es,Flat x.1/\Flat x.2)(m):eA (wq m) es es:=by
 induction es with
 |nil=>exact .nil|cons a l B=>exact .cons (Tl (h a i!).1 (h a i!).2 m) (B λx J=>h x<|by simp[J])
def V7{es J:List MapEntry}{m}(h:∀x∈es,Flat x.1/\Flat x.2)(U:eA (wq m) es J):J=es:=by
 induction U with
 |nil=>rfl|@cons a b l l' B _ V=>have O:=h a i!;have W:=O.1.eq m _ B.1;have Y:=O.2.eq m _ B.2;have e3:=B.3;rw[V λx hx=>h x<|by simp[hx]];cases a;subst W Y e3;rfl
def K5{w}{es:E?}(h:fN w f es):∃ex,w.1[f]?=y? ex/\uF ex es:=by
 obtain⟨D,⟨xs,clock,hb,F,W,hD⟩,Y⟩:=h
 have U:∀x∈xs.1,Flat x.1/\Flat x.2:=by
  intro x hx;obtain⟨y,hy⟩:=F.3 x hx;have iV:=WideElems.rd_key hy;let ⟨nm,aa,ab⟩:=Od oC iV
  have ac:y=(.string nm,.held x.2):=by unfold WideElems.rd at hy;rw[iV]at hy;simp only[Zf,mT,Option.map_some,m?]at hy;rw[<-hy,ab]
  refine⟨by rw[aa];exact .string _,?_⟩;have V:(Lit.string nm,DataW.held _)∈(xs.1.map<|WideElems.rg _ 9 mT).foldr _ []:=mem_sorted.2<|Zv.2 ⟨x,hx,by rw[WideElems.rg_of hy,ac]⟩;have J:=atKey_mem ((WideShapes.sorted_perm _).symm.pairwise (F.apart<|WideMaps.string_law oC)<|λh=>h.symm) (k:=.string nm) trivial V;rw[<-hD]at J;have B:=has_true_of_atKey J;rw[Y.4 nm,C!]at B;let ⟨p,hp,O⟩:=B;have O:=by simpa using O
  have h2:=Y.5 p hp<|.held x.2;rw[O,J]at h2;have h3:=by simpa using h2
  rw[h3];obtain⟨e,_,rfl⟩:=Zv.1 hp;exact Um e
 refine⟨.map xs clock,hb,⟨xs,clock,q?⟩,λm=>.map clock<|Pe U m,λm o' ho=>?_,λw' B' ad=>?_⟩
 cases ho with
 |@map _ ae _ ha=>have:=V7 U ha;simp at this;rw[this]
 exact⟨D,⟨xs,clock,ad,F,W,hD⟩,Y⟩
end
section
open Conc
def VR.flatten{m x Y}(h:VR m x Y):∃y,(∀m1,VR m1 y Y)/\(Flat x->y=x)/\∀t z,x=.iface t z->∃O,y=.iface t O:=by
 induction h with
 |gV v hv=>exact⟨_,λ_=>.gV v hv,nofun,nofun⟩|bool b=>exact⟨_,λ_=>.bool b,λ_=>rfl,nofun⟩|int k n=>exact⟨_,λ_=>.int k n,λ_=>rfl,nofun⟩|string s=>exact⟨_,λ_=>.string s,λ_=>rfl,nofun⟩|iQ=>exact⟨_,λ_=>.iQ,λ_=>rfl,nofun⟩|gC l c=>exact⟨_,λ_=>.gC l c,λ_=>rfl,nofun⟩|zero _ _=>exact⟨_,λ_=>.gV _ t!,nofun,nofun⟩|oH=>exact⟨_,λ_=>.oH,λ_=>rfl,nofun⟩|kg=>exact⟨_,λ_=>.kg,λ_=>rfl,nofun⟩|nilFunc=>exact⟨_,λ_=>.nilFunc,λ_=>rfl,nofun⟩|nilIface=>exact⟨_,λ_=>.nilIface,λ_=>rfl,nofun⟩|ptr _=>exact⟨_,λ_=>.gV _ t!,nofun,nofun⟩|slice _ _ _=>exact⟨_,λ_=>.gV _ t!,nofun,nofun⟩|map _=>exact⟨_,λ_=>.gV _ t!,nofun,nofun⟩|gone _=>exact⟨_,λ_=>.gV _ t!,nofun,nofun⟩|chan _=>exact⟨_,λ_=>.gV _ t!,nofun,nofun⟩|iface t _ U=>obtain⟨y,h1,_,_⟩:=U;exact⟨.iface t y,λm1=>.iface t<|h1 m1,nofun,λ_ _ e=>(by cases e;exact⟨_,q?⟩)⟩
 |tuple _ _ _=>exact⟨_,λ_=>.gV _ t!,nofun,nofun⟩|func B _ _ _ _ _ _=>
  cases B with
  |func f _=>exact⟨_,λ_=>.gV _ t!,nofun,nofun⟩|yield _=>exact⟨_,λ_=>.gV _ t!,nofun,nofun⟩
 |@tC W n f c V hi hx U=>have J:∀i(h:i<W.size),∃y,(∀m1,VR m1 y _)/\(Flat _->y=W[i])/\∀t z,W[i]=.iface t z->∃O,y=.iface t O:=λi h=>U i h<|V▸h;refine⟨.func _ (j3 λi:_root_.Fin _=>n8<|J i.1 i.2) _,λm1=>.tC (by simp[V]) (λi h h'=>?_)<|λt w hw=>?_,nofun,nofun⟩;simp only[jt];exact(n7<|J i _).1 m1;obtain⟨x,h0⟩:=hx t w hw;obtain⟨hl,e0⟩:=AI.1 h0;obtain⟨z,hz⟩:=(n7<|J 0 hl).2.2 t x e0;refine⟨z,?_⟩;rw[Z1<|u! hl];simp only[jt];rw[hz]
 |@agg c c' V hi U=>
  have J:∀i(h:i<c.size),∃y,(∀m1,VR m1 y _)/\(Flat _->y=c[i])/\∀t z,c[i]=.iface t z->∃O,y=.iface t O:=λi h=>U i h<|V▸h;refine⟨.agg<|j3 λi:_root_.Fin _=>n8<|J i.1 i.2,λm1=>.agg (by simp[V]) λi h h'=>?_,λB=>?_,nofun⟩;simp only[jt];exact(n7<|J i _).1 m1;congr 1;refine kx i! λi h1 h2=>?_;simp only[jt];apply (n7<|J i h2).2.1
  cases B with
  |agg B=>exact B i h2
def fh.flatten{m}{c J:V?}(h:fh m c J):∃c1,(∀m1,fh m1 c1 J)/\c1.size=c.size/\∀i(B)(O:i<c.size),Flat c[i]->c1[i]=c[i]:=by
 have U:∀i(B:i<c.size),∃y,(∀m1,VR m1 y<|J[i]'(h.size▸B))/\(Flat _->y=c[i]):=λi B=>by obtain⟨y,V,W,_⟩:=(h.idx i B (h.size▸B)).flatten;exact⟨y,V,W⟩
 refine⟨j3 λi=>n8<|U _ i.2,λm1=>fh.jb (by simp[h.size]) λi B O=>?_,i!,λi B O Y=>?_⟩;simp only[jt];exact(n7<|U i _).1 m1;simp only[jt];exact(n7<|U i O).2 Y
def A5:Obj:=c? #[] 0 (0,0)
def ph0(o:Obj)(w:w?):w?:={w with heap:=#[A5,A5,A5,A5,A5,o,A5]}
def phR(B)(q:Nat)(U:∀b,B=y? b->5<=b):Ren where
 blk:=λr=>if r=5 then B else x?
 ch:=λ_=>x?
 loose:=λr=>r=5
 ok:=Sy prog Se Gv f?
 nu:=λf=>Se f=t?
 SN:=False
 dead:=λr=>r=6
 dm:=λ_=>q
 Yd:=λ_ _=>x?
 Li:=λ_=>x?
 G:=5
 Lp:=λr r' h=>by
  split at h
  .rename_i e
   have:=U r' h
   omega
  .cases h
 inj:=λr s t J O=>by
  split at J
  .split at O
   .omega
   .cases O
  .cases J
 TZ:=λ_ _ _ h=>by cases h
def Zan{Z w T b5 q}(h5):Rg (qw prog Z w T 6 q 6 f?)<|phR b5 q h5:=
 ⟨Gg _ q? q? Cu.symm,id,λ_ _ h=>(by cases h),q?,q?,q?,q?,λr B=>by have:r=5:=B;omega⟩
def Y7{w O q}(W)(Y:5<=w.1.size){c1:V?}{e5}(hb:∀b,O=y? b->∃U f',w.1[b]?=y? (.cells U e5 f')/\∀m1,fh m1 c1 U) :
  WR (phR O q W) (ph0 (.cells c1 e5 (0,c1.size)) w) w:=by
 have key:∀r r',(phR O q W).1 r=y? r'->r=5/\O=y? r':=λr r' h=>by
  have h:(if r=5 then O else x?)=y? r':=h;split at h;exact⟨a!,h⟩
  cases h
 refine⟨λr r' B=>?_,λr r' c e f U e' f' B V h2 hn=>?_,λr r' c e f U e' f' B V h2 hl o ho=>?_,λ_ _ h=>(by cases h),by show 5<=7;omega,Y,q?,λ_ _ h=>(by cases h),λr r' B hl=>?_,λr B=>?_,λr i v hv=>(by cases hv)⟩;obtain⟨rfl,J⟩:=key r r' B;obtain⟨U,f',g1,g2⟩:=hb r' J;exact⟨_,_,q?,g1,.cells e5 _ f'<|g2 _⟩;obtain⟨rfl,J⟩:=key r r' B;exact absurd q? hn;obtain⟨rfl,J⟩:=key r r' B;have V:y? (Obj.cells c1 e5 _)=y? _:=V;simp only[m?,Obj.cells.injEq]at V;obtain⟨rfl,_,rfl⟩:=V;show 0<=o/\o<c1.size;omega;obtain⟨rfl,J⟩:=key r r' B;exact⟨_,_,_,q?⟩;have:r=6:=B;subst this;exact⟨q?,_,_,q?⟩
open RowKit Maps
def Be(es:E?):iO es=(cC es.length).map λk=>(k,(tu es).getD k ⟨[],f?,[],0,0⟩):=by apply ep;intro k;rw[uk,ZZ];have B:=(qm es).length_eq;by_cases h:k<l? es;rw[de h];simp[AS,BY (o!:k<(tu es).length)];rw[ZA o!,ZA j!];rfl
def js{A}(num)(p):(sw A num p).1=num/\(sw A num p).2=p.1/\(sw A num p).3=p.2.1/\(sw A num p).4=A.has p.2:=by unfold sw;split;exact⟨q?,q?,q?,by simp_all⟩;exact⟨q?,q?,q?,by simp_all⟩
def wV{A:Ask}{e}(h:A.has e=t?):e.2=f?:=by
 unfold Ask.has at h
 cases B:e.2 with
 |false=>rfl|true=>rw[B]at h;simp at h
def Hr{A num p}(h:A.has p.2=t?):(sw A num p).Og=p.2:=by have B:=wV h;let ⟨k,nm,J,tx,wt,tg⟩:=p;subst B;unfold sw;rw[if_pos h];rfl
def Ig(es:E?):(iO es).map xt=tu es:=by apply ep;intro k;rw[ZZ,uk];cases(tu es)[k]?<;>rfl
def S6:Tryz.f49.1≠ "runtime.NumGoroutine":=by decide
end
section
open RowKit Go.Sort
def X8:∀n,yc n=oE n:=by
 intro n;induction n using ip with
 |ind n B=>
  have e:∀d,d<=9->UInt8.ofNat (48+d)=48+UInt8.ofNat d:=λd J=>by rcases(o!:d=0\/d=1\/d=2\/d=3\/d=4\/d=5\/d=6\/d=7\/d=8\/d=9)with rfl|rfl|rfl|rfl|rfl|rfl|rfl|rfl|rfl|rfl<;>rfl
  by_cases h:n<=9;rw[BW h,yc,dif_pos o!,e n h];rw[yL h,yc,dif_neg o!,B _ o!,e _ o!]
def UL(n:Nat)(O:n<9223372036854775808)(w)(B:yd prog w "internal/strconv.uint64pow10" .u64 yg) :
  ld prog 85 #[n? i? n] w λe w'=>e=e? (s? ⟨(oE n).toArray⟩)/\gR w w':=by
 apply (Any.strconv_Itoa TO n o! o! w B).mono;rintro e w' ⟨rfl,k,os,rfl⟩;refine⟨?_,⟨q?,q?,q?,by simp[grow,m7],λj J=>?_⟩⟩;unfold Lib.itoa;rw[if_neg o!,sd,X8];show(w.1++os)[j]?=_;rw[P! J]
def Uq(e)(w)(B:0<=e.4)(hI:∀y,gR w y->ld prog 85 #[n? i? e.4] y λen w'=>en=e? (s? ⟨(oE e.4.toNat).toArray⟩)/\gR y w')(hn:l? e.1<=65536)(ht:l? e.3<=1048576)(hd:(oE e.4.toNat).length<=100) :
  ld prog 51 #[.agg #[s? ⟨a? e.1⟩,s? ⟨a? e.3⟩,n? i? e.4,n? i? e.5]] w λen w'=>en=e? (s? ⟨(jV e).toArray⟩)/\gR w w':=by
 obtain⟨nm,gn,tx,wt,tg⟩:=e;simp only at B hI hn ht hd⊢;obtain⟨Y,J⟩:∃Y:b?,Y=⟨(oE wt.toNat).toArray⟩:=⟨_,q?⟩;obtain⟨nb,O⟩:∃nb:b?,nb=⟨a? nm⟩:=⟨_,q?⟩;obtain⟨U,V⟩:∃U:b?,U=⟨a? tx⟩:=⟨_,q?⟩;have ad:nb.size<=65536:=by rw[O];show nm.toArray.size<=_;simpa using hn
 have ae:U.size<=1048576:=by rw[V];show tx.toArray.size<=_;simpa using ht
 have af:Y.size<=100:=by rw[J];show(oE wt.toNat).toArray.size<=_;simpa using hd
 have k0:¬9223372036854775807<nb.size+1:=o!;have k1:¬9223372036854775807<nb.size+1+Y.size:=o!;have k2:¬9223372036854775807<nb.size+1+Y.size+1:=o!;have k3:¬9223372036854775807<nb.size+1+Y.size+1+U.size:=o!;rw[<-J]at hI;rw[<-O,<-V];have HI:=h! hI;have aa:J?<|Y=⟨(oE _).toArray⟩/\nb=⟨a? nm⟩/\U=⟨a? tx⟩:=⟨J,O,V⟩;clear hI B hn ht hd J O V;obtain⟨w0,B⟩:∃w0,w0=w.alloc (c? #[s? nb,s? U,n? i? wt,n? i? tg] 96):=⟨_,q?⟩
 have hA:∀j,C? w0 _=(#[Value.string nb,s? U,n? i? wt,n? i? tg])[j]?:=λj=>by rw[B,Zl _ _ _ _ rfl]
 have ab:J?<|gR w w0:=by rw[B];exact gR.alloc _ _
 have d0:C? w0 _=y? (s? nb):=hA 0;have d1:C? w0 _=y? (s? U):=hA 1;have d2:C? w0 _=y? (n? _ wt):=hA 2;clear hA;go_enter func51,ntmps51;go_wp2_with fail;rw[<-B];clear B;refine j0 k! ?_;refine dA 0 ?_ ?_<|dA 1 ?_ ?_<|dA 2 ?_ ?_<|dA 3 ?_ ?_<|dA 4 ?_ ?_ ?_
 any_goals(intro y W;have q:=Z0 W d0;have q1:=Z0 W d2;exact x!)
 go_simp;refine dA 5 ?_ ?_ ?_;rotate_left
 .intro y W;unfold lO;go_simp;refine⟨q?,(HI y<|(gR.trans ab W)).mono ?_⟩;rintro e y2 ⟨rfl,h2⟩;refine⟨_,q?,h2,?_⟩;with_reducible rfl
 go_simp;refine dA 6 ?_ ?_<|dA 7 ?_ ?_<|dA 8 ?_ ?_<|dA 9 ?_ ?_<|dA 10 ?_ ?_<|dA 11 ?_ ?_ ?_
 any_goals(intro y W;have q:=Z0 W d1;exact x!)
 go_simp;refine qF k! ?_ _;intro y W;have ac:=h!<|gR.trans ab W;clear W;go_simp;go_wp2;go_ret;refine⟨?_,ac⟩;show Ending.returned (s?<|nb++⟨#[32]⟩++Y++⟨#[32]⟩++U)=_;obtain⟨rfl,rfl,rfl⟩:=aa.o;congr 2;unfold jV;apply o7;simp[o0]
end
section
open Conc RowKit Maps
variable {f l:w?}{g:F?}{o:V?}{i:Nat}
noncomputable def marked (W:w?) (Mp:F?):w?:={W with heap:=W.1.mapIdx λb x=>@ite _ (Mp b) (oa _) rX x}
def E4{b}(h:¬g b):(marked f g).1[b]?=f.1[b]?:=by
 show(f.1.mapIdx _)[b]?=_;rw[ka]
 cases f.1[b]? with
 |none=>rfl|some x=>simp[h]
def Q8{b}(hb:b<f.1.size)(h:g b):(marked f g).1[b]?=y? rX:=by show(f.1.mapIdx _)[b]?=_;rw[ka,Z1 hb];simp[h]
def zP(W)(Mp:F?):(marked W Mp).1.size=W.1.size:=by show(W.1.mapIdx _).size=_;simp
def Yr:v?->Nat
 |.slice (y? a) _ _=>a.1+1|_=>0
def SF:Obj->Nat
 |c? c _ _=>(c.1.map Yr).sum|_=>0
def Zo(W:w?)(b:Nat):Prop:=b<W.1.size+(W.1.1.map SF).sum/\∀c e f,W.1[b]?≠y? (c? c e f)
noncomputable def jj (Z:oJ prog) (W0:w?) (Mp:F?):Env prog where
 Z:=Z
 qW:=λb=>b<W0.1.size/\¬Mp b
 w0:=marked W0 Mp
 T:=[]
 gl:=λg=>vi g=t?
 st:=t?
 nu:=λf=>xm f=t?
 ok:=Sy prog xm vi t?
 X:=λm=>(∀r,Mp r->m.1 r=y? r)/\(∀r o v,Mp r->C? W0 ⟨r,o,x?⟩=y? v->m.9 r o=y? v)/\∀r,Zo W0 r->m.7 r
 le:=λ_ _ h x=>⟨λr hr=>h.1 r r (x.1 r hr),λr o v hr hv=>by rw[h.11];exact x.2.1 r o v hr hv,λr hr=>by rw[h.9];exact x.2.2 r hr⟩
def I2(Z)(W0)(Mp:F?):∀b,b<(jj Z W0 Mp).3.1.size->(jj Z W0 Mp).2 b\/(jj Z W0 Mp).3.1[b]?=y? rX:=λb hb=>by
 have hb:b<W0.1.size:=by rwa[<-zP W0 Mp]
 by_cases h:Mp b;exact .inr (Q8 hb h);exact .inl ⟨hb,h⟩
def ud{Z fn}{tm:V?}{os}{V:List<|Nat×Option (L?)}{k ops rest o}(O:ops[i]?=y? o)(J:sA o (lo ops tm)=t?)(U:KQ prog xm vi t? o.2=t?)
  (B:∀τ,lO prog o ⟨tm,[]⟩ (tp l τ)<|λv y=>dv (jj Z f g) (⟨fn,(Act.put ⟨tm,[]⟩ o.1 v).1,r? ops rest::k⟩::os) y V):dv (jj Z f g) (⟨fn,tm,r? ops (i::rest)::k⟩::os) l V:=
 dv.YJ O J (yI U) B
def fH{Z fn}{tm:V?}{os}{V:List<|Nat×Option (L?)}{k ops rest o v}(h:dv (jj Z f g) (⟨fn,(Act.put ⟨tm,[]⟩ o.1 v).1,r? ops rest::k⟩::os) l V)(J:ops[i]?=y? o:=by rfl)(O:∀y,lO prog o ⟨tm,[]⟩ y<|λu U=>Same y U/\u=v:=by intro y;unfold lO;go_simp;refine⟨q?,?_⟩;with_reducible rfl)
  (B:sA o (lo ops tm)=t?:=by rfl) (W:KQ prog xm vi t? o.2=t?:=by kernel_rfl):dv (jj Z f g) (⟨fn,tm,r? ops (i::rest)::k⟩::os) l V:=dv.pu J B (yI W) O h
def Rw{Z fn}{tm:V?}{os}{V:List<|Nat×Option (L?)}{k c}(B:lD (λo=>KQ prog xm vi t? o.2) c=t?)(J:k.all mh=t?)(O:os≠[])(h:∀y0:w?,y0.1=l.1->y0.4=l.4->c.wp prog (Lw (jj Z f g) fn k os V) ⟨tm,[]⟩ y0):dv (jj Z f g) (⟨fn,tm,.code c::k⟩::os) l V:=
 dv.OC (rE B) J (.inl O) λτ _=>h _ q? rfl
def KL{Z fn}{tm:V?}{os}{V:List<|Nat×Option (L?)}{k c}(B:lD (λo=>KQ prog xm vi t? o.2) c=t?)(J:k.all mh=t?)(O:os≠[])(h:∀τ,c.wp prog (Lw (jj Z f g) fn k os V) ⟨tm,[]⟩<|tp l τ):dv (jj Z f g) (⟨fn,tm,.code c::k⟩::os) l V:=
 dv.OC (rE B) J (.inl O) λτ _=>h τ
def GG{md ops listed acc}(O:s8 md ops listed=[]):∀(B t),yo md ops B t listed acc=acc.reverse
 |0,_=>rfl
 |f+1,t=>by
  simp only[yo]
  split
  .rename_i q U
   have J:(s8 md ops listed)[t % (s8 md ops listed).length]?=y? q:=U
   rw[O]at J;simp at J
  rfl
def Gd{md ops listed}(U:s8 md ops listed=[i])(V:s8 md ops (S? listed i t?)=[])(fuel t):yo md ops (fuel+1) t listed []=[i]:=by
 simp only[yo];split;rename_i q J;have B:(s8 md ops listed)[t % (s8 md ops listed).length]?=y? q:=J;rw[U]at B;have O:t % ([i]).length=0:=i6 t;rw[O]at B;have W:=by simpa using B.symm
 subst W;exact GG V ..;rename_i J;have B:(s8 md ops listed)[t % (s8 md ops listed).length]?=x?:=J;rw[U]at B;have O:t % ([i]).length=0:=i6 t;rw[O]at B;simp at B
def YW{ops:Array Oper}{last}{Z:oJ prog}(h:((cC ops.size).all λi=>i==last || (match ops[i]? with|some o=>KQ prog xm vi t? o.2|none=>t?))=t?):∀(i)o,i≠last->ops[i]?=y? o->OkOp prog (jj Z f g).7 (jj Z f g).5 (jj Z f g).6 o.2:=by
 intro i o B J;have:=Zy.1 h i<|G!.2<|(AI.1 J).1;rw[J]at this;simp only[Z7,beq_iff_eq]at this;obtain e|e:=this
 exact absurd e B;exact yI e
def MP(m:Nat)(hm:m<=3)(w):ld prog 46 #[n? i? m] w λe w'=>e=e? (.bool t?)/\w=w':=by have B:(m:Int)<=3:=o!;go_wp2;go_ret;exact⟨q?,q?⟩
def Wl(w:w?)(base:Nat)(es:E?)(A:Ask)(most:Nat)(v:v?):Prop:=∃L:E?,L.Perm (es.filter A.has)/\L.Pairwise (λx y=>fw x y=t?)/\∃u,v=.tuple #[u,n? i? 0]/\R? w base 9 1 u (L.take most).length (du<|(L.take most).map jV)
def S7(c:Code):Code:=match c with
 |.seq _ (.seq _<|.seq _<|.seq _ y)=>y|_=>.skip
def xM{Z:oJ prog}{Mp:F?}{fn}{tm:V?}{os:List OF}{k:List Item}{ops:Array Oper}{rest:List Nat}{o}{fa:Option Addr}{l cp most}{L:E?}{wl a0 a1 a2 a3 a5 a6 a7 a8 a9 a10 a11 a13 a14 a15 a16 a17 a18 a19 a20 a21 a22 a23 a24 a25 a26 a27 a28 a29 a30 a31 a32 a33 a34 a35 a36 a37 a38 a39 a40 a41 a42 a43 a44 a45 a46 a47 a48 a49 a50 a51 a52 a53 a54 a55 a56 a57 a58 a59 a60 a61 a62 a63 a64 a65 a66}(hi:ops[i]?=y? o)(hR:jB wl 4 (.slice fa l cp) l<|l6 L)(hL:l=L.length)(aB:1<=most)(aC:most<=20)(h5:5<=wl.1.size)
  (B:∀e∈L,∀y:w?,(∀r,r<5->y.1[r]?=wl.1[r]?)->ld prog 51 #[.agg #[.string ⟨a? e.1⟩,.string ⟨a? e.3⟩,.int i? e.4,.int i? e.5]] y λen w'=>en=.returned (.string ⟨(jV e).toArray⟩)/\gR y w')
  (hn:∀(w2:w?)(u),(∀r,r<wl.1.size->w2.1[r]?=wl.1[r]?)->wl.1.size<=w2.1.size->w2.4=wl.4->R? w2 wl.1.size 9 1 u (L.take most).length (du<|(L.take most).map jV)->dv (jj Z f Mp) (⟨fn,fV o.1 tm<|.tuple #[u,.int i? 0],.inRegion ops rest::k⟩::os) w2 []) :
  dv (jj Z f Mp) (⟨17,#[a0,a1,a2,a3,.int i? most,a5,a6,a7,a8,a9,a10,a11,.slice fa l cp,a13,a14,a15,a16,a17,a18,a19,a20,a21,a22,a23,a24,a25,a26,a27,a28,a29,a30,a31,a32,a33,a34,a35,a36,a37,a38,a39,a40,a41,a42,a43,a44,a45,a46,a47,a48,a49,a50,a51,a52,a53,a54,a55,a56,a57,a58,a59,a60,a61,a62,a63,a64,a65,a66],[.code<|S7<|eG f17]⟩::⟨fn,tm,.inRegion ops (i::rest)::k⟩::os) wl []:=by
 have HA:=h!<|And.intro hR<|And.intro hL<|And.intro h5<|And.intro B hn;clear hR h5 B hn;show dv _ (⟨_,_,[.code<|.seq (.region 6 _ f?)<|.seq (.seq (.region 7 _ f?)<|.block 0 _)<|.seq (.region 12 _ f?) .ret]⟩::_) _ _;refine dv.sr λkk HK=>?_
 (refine fH ?_;go_simp);apply dv.ie HK;clear HK kk;refine dv.sc λkk HK=>?_;refine Rw k! (by rw[HK.o];rfl) i! λy0 ab U=>?_;obtain⟨hR,hL,h5,B,hn⟩:=HA.o;have ac:=hR.later λa u h=>by simp only[m5]at h⊢;rwa[ab]
 obtain⟨n,ad⟩:∃n,n=min most l:=⟨_,q?⟩;have a':min (most:Int) (l:Int)=(n:Int):=o!;have aD:n<=l:=o!;let ⟨aE,aF,ai,aG,aj,_,V⟩:=id ac;simp only[wi]at ai;obtain⟨rfl,_,rfl⟩:=ai;have aH:n<=cp:=o!;have aA:cp<=9223372036854775807:=aj;have HR:=h!<|And.intro ac<|And.intro V<|And.intro ab<|And.intro U ad;clear hR hL h5 B hn ac V ab U ad aj;let ⟨i9,ap,ak,aq,ar⟩:=Zz rH;go_wp2_with fail;go_loopw [13,56] (λu i wr=>∃j:Nat,j<=n/\i=.int i? j/\R? wr y0.1.size 9 1 u j (du ((L.take j).map jV))/\Below y0.1.size y0 wr) (λ_ i _=>n-(intOf i).toNat);exact⟨0,ZP _,q?,Z9 _ _ _ _,nr _ _⟩;obtain⟨j,hj,rfl,W,hb⟩:=hrel;obtain⟨ag,cg,rfl,aI⟩:=dC W;have HO:=h! W;have HB:=h! hb;clear W hb;by_cases aJ:j<n
 .have ae:j<L.length:=o!;obtain⟨e,he⟩:∃e,e=L[j]:=⟨_,q?⟩;have aa:e∈L:=by rw[he];exact Zw ae
  have Y:∀c,c<4->(l6 L)[j*4+c]?=(oD e)[c]?:=λc hc=>by rw[EA L j c ae hc,he]
  obtain⟨bg,og,rfl,au⟩:=HR.o.2.1 (j*4) _<|Y 0 o!
  have J:∀c u,c<4->(oD e)[c]?=y? u->C? wr ⟨bg,og+j*4+c,x?⟩=y? u:=λc u hc hu=>by obtain⟨b',o',h1,h2⟩:=HR.o.2.1 _ u (by rwa[Y c hc]);simp only[m?,O!]at h1;obtain⟨rfl,rfl,_⟩:=h1;rw[Nat.add_assoc];exact Z0 HB.o h2
  have d0:C? wr ⟨bg,og+j*4,x?⟩=y? _:=J 0 _ o! rfl;have d1:=J 1 _ o! rfl;have d2:=J 2 _ o! rfl;have d3:=J 3 _ o! rfl;have HE:=h!<|And.intro he aa;clear he aa Y J au;go_wp2_with fail;have al:=HB.o.4;refine(HA.o.2.2.2.1 e HE.o.2 _<|λr hr=>?_).mono ?_
  .have h5:=HA.o.2.2.1;have O:=HR.o.2.2.1;rw[jO _ _ (by rw[O]at al;omega),HB.o.5 r (by rw[O];omega),O]
  rintro en w5 ⟨rfl,hx⟩;have av:=hx.4;simp only[World.size_alloc]at av;have af:=((nr _ _).alloc (Zu _) _).trans<|Below.mono hx i!;have aw:=h!<|HB.o.trans<|af.mono al;have am:=h!<|dH HO.o<|λg hg=>af.5 g (HO.o.lt g hg).2;clear d0 d1 d2 d3 hx af
  go_wp2_with (first
   |(at_builtin;refine eu _ q? _ _ 31 q? _ 9 i9 _ 16 rb ap ak aq ar q? _ _ _ q? (am.o.alloc _) _ _ q? (Ab rfl) q? ?c1 ?c2 ?c3 ?_))
  case c1=>omega
  case c2=>unfold la;omega
  case c3=>first|omega|(simp;omega)
  intro v3 w3 ah an _
  have ax:J?<|R? w3 y0.1.size 9 1 v3 (j+1)<|du<|(L.take<|j+1).map jV:=by show R? w3 _ _ _ _ _ _;rw[IS ae,Z4,<-HE.o.1];rwa[show(gt jV _++gt jV [e])=(L.take j).map jV++[jV e]from rfl,iN,List.map_take]
  have ay:=h!<|(aw.o.alloc o! _).grown an j!<|λg hg=>(am.o.lt g hg).1;clear ah an;go_wp2;go_roundw
  .exact⟨j+1,o!,by go_num,ax.o,ay.o⟩
  exact M!
 have az:j=n:=o!;subst az;go_wp2;apply ja;rw[HK.o];refine dv.seq<|dv.region ?_
 (iterate 3 (refine fH ?_;go_simp));apply dv.inRegion;refine dv.back (v:=.tuple #[.slice ag j cg,.int i? 0]) (.inr ⟨_,q?⟩) rx hi (λτ=>by simp[lf,results17,go_sem]) ?_;obtain⟨_,aK,h5,B,hn⟩:=HA.o;obtain⟨_,_,O,U,ad⟩:=HR.o;have hO:=HO.o;have hB:=HB.o;rw[O]at hO hB;have ao:(L.take most).length=j:=by rw[cX];omega
 have a4:L.take j=L.take most:=by by_cases hc:most<=L.length;rw[(o!:j=most)];rw[(o!:j=L.length),o?,If o!]
 refine hn wr _ (λr hr=>?_) (by have:=hB.4;rwa[O]at this) (hB.1.trans U) ?_;rw[hB.5 r hr,O];rwa[ao,<-a4]
end
section
open RowKit Maps
variable {f g:w?}{i l x1 x2:Nat}{o p:F?}{C:List (W?)}{I:List (E?)}{J:E?}{P:Ask}{U:L?}{x0:b?}
structure pP(w0 w:w?):Prop where
 os:w.4=w0.4
 size:w0.1.size<=w.1.size
 block:∀k,k<w0.1.size->w.1[k]?=w0.1[k]?
def pP.refl(w):pP w w:=⟨q?,Zu _,λ_ _=>rfl⟩
def pP.trans{a b c}(h:pP a b)(B:pP b c):pP a c:=⟨B.1.trans h.1,ZE h.2 B.2,λk J=>(B.3 k<|AT J h.2).trans<|h.3 k J⟩
def pP.of(h:B? f g):pP f g:=⟨h.1,h.4,h.5⟩
structure AW(w0 w:w?)(F1 F2:F?)(b:Nat)(buf:E?)(ss:List (E?))(ts:List (W?)):Prop where
 j:PJ w F1 F2 b buf ss ts
 hi1:∀k,F1 k->w0.1.size<=k
 On:∀k,F2 k->w0.1.size<=k
 low:pP w0 w
structure St(w w':w?)(F1 F2 F1' F2':F?):Prop where
 size:w.1.size<=w'.1.size
 block:∀k,k<w.1.size->¬F1 k->¬F2 k->w'.1[k]?=w.1[k]?
 f1:∀k,F1' k->F1 k\/w.1.size<=k
 f2:∀k,F2' k->F2 k\/w.1.size<=k
def St.same(h:pP f g):St f g o p o p:=⟨h.2,λk B _ _=>h.3 k B,λ_ B=>.inl B,λ_ B=>.inl B⟩
def AW.same{w' b}(h:AW f g o p b J I C)(B:pP g w'):AW f w' o p b J I C:=⟨h.j.below B.2 B.3,h.2,h.3,h.4.trans B⟩
def AW.Og{w b f}{args:V?}{U:E?}{W:List<|E?}(h:AW g w o p b J I C)(hc:∀vM vK,wO vM vK w o b J I->ld prog f args w (YY (wO vM vK) w o b i U W)) :
  ld prog f args w λe w'=>e=e? (n? i? i)/\∃Y,AW g w' Y p b U W C/\St w w' o p Y p:=by
 obtain⟨⟨h1,h2,h3,Bb,vS,B,n,vK,kn,h4,h5⟩,k1,k2,k3⟩:=h;apply (hc _ vK ⟨h1,Bb,vS,h4⟩).mono;rintro e w' ⟨rfl,F',hp,hF,O⟩;refine⟨q?,F',⟨PJ.entries h1 h2 h3 h4 h5 hp hF O,λk V=>?_,k2,?_⟩,⟨O.4,λk V hn _=>O.5 k V hn,hF,λ_ V=>.inl V⟩⟩;obtain hf|hf:=hF k V
 exact k1 k hf;exact ZE k3.2 hf;exact⟨O.1.trans k3.1,ZE k3.2 O.4,λk V=>(O.5 k (AT V k3.2) λhf=>absurd (k1 k hf) o!).trans<|k3.3 k V⟩
def AW.observe{b}(h:AW f g o p b J I C)(s:b?)(hB:eK C<=16777216)(hs:s.size<=la) :
  ld prog 34 #[p?<|y? ⟨b,0,x?⟩,s? s] g λe w'=>e=e? (n? i? (ml C s.1.1).1)/\∃V,AW f w' o V b J I (ml C s.1.1).2/\St g w' o p o V:=by
 obtain⟨⟨h1,h2,h3,Bb,vS,B,n,vK,kn,h4,h5⟩,k1,k2,W⟩:=h;apply (GJ g p b C s ⟨h2,B,n,vK,kn,h5⟩ hB hs).mono;rintro e w' ⟨rfl,F',hp,hF,O⟩;refine⟨q?,F',⟨PJ.words h1 h2 h3 h4 h5 hp hF O,k1,λk U=>?_,?_⟩,⟨O.4,λk U _ hn=>O.5 k U hn,λ_ U=>.inl U,hF⟩⟩;obtain Y|Y:=hF k U
 exact k2 k Y;exact ZE W.2 Y;exact⟨O.1.trans W.1,ZE W.2 O.4,λk U=>(O.5 k (AT U W.2) λY=>absurd (k2 k Y) o!).trans<|W.3 k U⟩
def AW.pe3{b}(h:AW f g o p b J I C):∃U O,wO U O g o b J I:=by obtain⟨⟨V,h2,h3,W,Y,B,n,O,kn,h4,h5⟩,k1,k2,k3⟩:=h;exact⟨_,_,V,W,Y,h4⟩
def AW.del{b}(h:AW f g o p b J I C)(s:b?)(O:s.size<=la):ld prog 37 #[p?<|y? ⟨b,0,x?⟩,s? s] g λe w'=>e=e? (n? i? (mn J I s.1.1).1)/\∃B,AW f w' B p b (mn J I s.1.1).2 I C/\St g w' o p B p:=
 h.Og λW Y U=>(WN g o b J I s U O).mono λ_ _ h=>⟨h.1,o,h.2.1,λ_ V=>.inl V,h.2.2⟩
def AW.ups{b}(h:AW f g o p b J I C)(s t:b?)(x y)(O:s.size<=la)(U:t.size<=la):ld prog 38 #[p?<|y? ⟨b,0,x?⟩,s? s,s? t,n? i? x,n? i? y] g λe w'=>e=e? (n? i? (kM J I s.1.1 t.1.1 x y).1)/\∃B,AW f w' B p b (kM J I s.1.1 t.1.1 x y).2 I C/\St g w' o p B p:=
 h.Og λY vK V=>(Wt g o b J I s t x y V O U).mono λ_ _ h=>⟨h.1,o,h.2.1,λ_ W=>.inl W,h.2.2⟩
def AW.flush{b}(h:AW f g o p b J I C):ld prog 29 #[p?<|y? ⟨b,0,x?⟩] g λe w'=>e=e? (n? i? (fZ J I).1)/\∃B,AW f w' B p b (fZ J I).2.1 (fZ J I).2.2 C/\St g w' o p B p:=
 h.Og λU V O=>Zac g o b J I O
def AW.merge{b}(h:AW f g o p b J I C)(n):ld prog 39 #[p?<|y? ⟨b,0,x?⟩,n? i? n] g λe w'=>e=e? (n? i? (gI I n).1)/\∃B,AW f w' B p b J (gI I n).2 C/\St g w' o p B p:=
 h.Og λU V O=>YN g o b J I n O
def AW.CP{b}(h:AW f g o p b J I C):ld prog 30 #[p?<|y? ⟨b,0,x?⟩] g λe w'=>e=e? (n? i? I.length)/\g=w':=by obtain⟨O,U,B⟩:=h.pe3;exact QO g o b J I B
def ZbF(w):ld prog 31 #[] w λe w'=>∃(b:Nat)(F1 F2:F?),e=e? (p?<|y? ⟨b,0,x?⟩)/\AW w w' F1 F2 b [] [] []/\B? w w':=by have ab:=@run_makeMap prog;go_enter func31,ntmps31;go_wp2_with fail;apply (UD _).mono;rintro e w1 ⟨B,rfl,V,hC,J⟩;go_wp2;go_ret;have O:(w.alloc<|Obj.map #[] 0).1.size=w.1.size+1:=i!;have W:fN w1 _ []:=ed.below (ed.made w) J;rw[O]at J V;have Y:=J.4;rw[O]at Y;have aa:=hC.lt;have U:=(((nr _ _).alloc (Zu _) _).trans<|J.mono o!).alloc (o:=c? #[.map<|y? w.1.size,.slice x? 0 0,.map<|y? B,.slice x? 0 0] 90) o!;refine⟨w1.1.size,λk=>k=w1.1.size\/k=w.1.size,λk=>k=w1.1.size\/k=B,q?,⟨⟨?_,?_,?_,w.1.size,.slice x? 0 0,B,0,.slice x? 0 0,[],?_,?_⟩,?_,?_,.of U⟩,U⟩;rintro k (rfl|rfl);simp;simp;omega;rintro k (rfl|rfl);simp;simp;omega;rintro k (h|h) (h'|h')<;>omega;exact⟨qa ..,.inl q?,.inr q?,ed.stay W<|e! _ _ _ o!,Z9 ..,nofun,OU⟩;refine⟨qa ..,.inl q?,.inr q?,?_,by simp[eK],Z9 ..,nofun,by simp[eP],nofun,i!⟩;refine(hC.stay<|e! _ _ _ aa).mono (Zu _) (λws _=>by rw[Td]);rintro k (rfl|rfl)<;>omega;rintro k (rfl|rfl)<;>omega
open Conc
structure SG(w:w?)(num:Nat)(A:Ask)(cap:Nat)(ms:L?):Prop where
 c0:w.1[5]?=some (.cells #[.chan (some 10)] 167 (0,1))
 c2:w.1[7]?=some (.cells #[.int .i64 num] 3 (0,1))
 c3:w.1[8]?=some (.cells #[.int .i64 A.m,.string A.q,.int .i64 A.t] 94 (0,3))
 ch:w.1[10]?=some (.chan cap ms.toArray false ms.length 0 false)
def SG.stay{w':w?}(h:SG f i P l U)(hb:∀k,k=5\/k=7\/k=8\/k=10->w'.1[k]?=f.1[k]?):SG w' i P l U:=
 ⟨(hb 5 i!).trans h.1,(hb 7 i!).trans h.2,(hb 8 i!).trans h.3,(hb 10 i!).trans h.4⟩
def SG.lt(h:SG f i P l U):10<f.1.size:=eN h.4
def SG.zd(h:SG f i P l U)(B:lu f g):SG g i P l U:=by obtain⟨τ,B⟩:=B;have:=h.lt;exact h.stay λk J=>B.5 k (by show k<f.1.size;omega)
def SG.jx(h:SG f i P l U)(v):SG {f with heap:=S? f.1 10<|.chan l (U.toArray.push v) f? (l? U+1) 0 f?} i P l (U++[v]):=by
 have J:=h.lt;have hb:∀k,k≠10->(S? f.1 10<|.chan l (U.toArray.push v) f? (l? U+1) 0 f?)[k]?=f.1[k]?:=λk B=>by rw[Zd<|Ne.symm B]
 refine⟨(hb 5 o!).trans h.1,(hb 7 o!).trans h.2,(hb 8 o!).trans h.3,?_⟩;rw[Array.getElem?_setIfInBounds_self_of_lt o!];simp
def Wq{q:Nat}{e}(hA:P.Ok)(h:SG f i P l U)(hc:l? U<l)(he:Told e) :
  ld prog 118 #[n? i? (q:Int),s? ⟨a? e.1⟩,ve e,p?<|y? ⟨5,0,x?⟩,p?<|y? ⟨7,0,x?⟩,p?<|y? ⟨8,0,x?⟩] f λen w'=>en=e? (.tuple #[])/\SG w' i P l (U++[pJ P i (q,e)])/\dy (· = 10) f w':=by
 have HS:=h! h
 have HM:J? (∀y:w?,ld _ 119 #[.agg _,s? _,ve e,.agg _] y λx w'=>x=e? (pJ P i (q,e))/\gR y w'):=λy=>by apply (JJ i q ⟨a? e.name⟩ e.gone ⟨(Gy e).toArray⟩ ⟨a? e.text⟩ e.dR e.dY P.m P.t P.q y hA.m hA.t he.2.2 hA.q (by show e.text.toArray.size<=_;have:=he.2.1;simp;omega)).mono;rintro x w' ⟨h1,h2⟩;exact⟨h1,h2⟩
 obtain⟨Y,aa⟩:∃Y,Y=pJ P i (q,e):=⟨_,q?⟩;rw[<-aa]at HM⊢;obtain⟨w0,ab⟩:∃w0,f.alloc (c? #[.bool e.2,s? ⟨(Gy e).toArray⟩,s? ⟨a? e.3⟩,n? i? e.4,n? i? e.5] 111)=w0:=⟨_,q?⟩;have ac:J?<|B? f w0:=h!<|by rw[<-ab];exact(nr _ _).alloc (Zu _) _
 have V:w0.1[f.1.size]?=y? (c? #[.bool e.2,s? ⟨(Gy e).toArray⟩,s? ⟨a? e.3⟩,n? i? e.4,n? i? e.5] 111 (0,0)):=by rw[<-ab];exact U! f _
 have O:=h!<|h.stay λk hk=>ac.5 k<|v! h.lt;have HY:J? (∀y,lu w0 y->y.1[f.1.size]?=y? _):=λy ⟨τ,B⟩=>(B.5 _<|eN V).trans V;clear h he hA aa V HS;unfold ve at HM⊢;go_enter func118,ntmps118;go_upto_region 1 with fail;refine jS (Sd:=λa y=>y.2=w0.2->qP _ _ _ [8] a y) (last:=8) (tl:=[]) k! ?_<|λa y h ht=>h ht;refine ew 0 ?_ ?_ ?_;rotate_left
 .intro y B;have J:=(O.zd B).1;have q0:=dx J 0;clear J;exact x!
 go_simp;refine ew 1 ?_ ?_ ?_;rotate_left
 .intro y B;have J:=(O.zd B).2;have q0:=dx J 0;clear J;exact x!
 go_simp;refine ew 2 ?_ ?_<|ew 3 ?_ ?_<|ew 4 ?_ ?_ ?_
 any_goals(intro y B;exact x!)
 go_simp;refine ew 5 ?_ ?_ ?_;rotate_left
 .intro y B;have J:=HY.o y B;have q0:=dx J;clear J;exact x!
 go_simp;refine ew 6 ?_ ?_ ?_;rotate_left
 .intro y B;have J:=(O.zd B).3;have q0:=dx J;clear J;exact x!
 go_simp;refine ew 7 ?_ ?_ ?_;rotate_left
 .intro y B;exact z!<|HM y
 go_simp;refine sJ k! (λt=>TT k! _ _) ?_;intro y B ht;have W:=O.zd B;apply B7 (v:=Y) q? q? q? q? q? q? W.ch<|u! hc;have ad:=h!<|W.jx Y
 have HF:J? (dy (· = 10) f {y with heap:=S? y.1 10<|.chan l (U.toArray.push Y) f? (l? U+1) 0 f?}):=by obtain⟨τ,hx⟩:=B;have hb:=ac.o;refine⟨hx.1.trans hb.1,ht.trans hb.2,hx.3.trans hb.3,?_,λk hk hn=>?_⟩;show _<=(S? y.1 10 _).size;rw[Array.size_setIfInBounds];exact ZE hb.4 hx.4;show(S? y.1 10 _)[k]?=_;rw[Zd<|Ne.symm hn];exact(hx.5 k<|AT hk hb.4).trans<|hb.5 k hk
 clear W;generalize ({y with heap:=S? y.1 10<|.chan l (U.toArray.push Y) f? (l? U+1) 0 f?}:w?)=w3 at *;go_end0;exact⟨q?,ad,HF⟩
def ZaQ(num:Nat)(A:Ask)(cap:Nat):PU where
 fn:=118
 cp:=#[p?<|y? ⟨5,0,x?⟩,p?<|y? ⟨7,0,x?⟩,p?<|y? ⟨8,0,x?⟩]
 own k:=k=10
 dom k:=k=5\/k=7\/k=8\/k=10
 T w told:=SG w num A cap<|told.map<|pJ A num
def VB(J:P.Ok)(V:1099511627776<=l):(ZaQ i P l).Ok x1 where
 iI:=⟨_,_,func118,q?,k!⟩
 sub _ h:=.inr<|.inr<|.inr h
 lt:=by intro w told k h B;have:=SG.lt h;have B:k=5\/k=7\/k=8\/k=10:=B;omega
 stay h hb:=SG.stay h hb
 tell:=by intro w q told e h _ W O _;apply (Wq (q:=q) J h (by rw[Z5];omega) O).mono;rintro Y w' ⟨rfl,g1,U⟩;exact⟨q?,by show SG _ _ _ _ _;rwa[Z4],U⟩
def Zav(L:L?)(w:w?):Exit->Act->w?->Prop:=λe a w'=>(e=.normal\/e=.ret)/\a.2=tM/\(∃cap B s r t,w'.1[10]?=y? (.chan cap B f? s r t)/\B.1=L)/\dy (· = 10) w w'
def Za9{ps qs}(Y:P.Ok)(hc:1099511627776<=l)(h:SG f i P l [])(O:f.1[6]?=y? (c? #[s? x0] 9 (0,1)))(hS:x0.size<=1099511627775)(U:jd x0.size x0.1.1=y? (ps,qs)) :
  (yi f116).wp prog (Zav ((ps++qs).map<|pJ P i) f) ⟨(yJ 116 8 4 .skip).2,tM⟩ f:=by
 have B:=Sm (VB Y hc) h hS<|Zu _;rw[U]at B;rw[show(ZaQ i P l).v=.func (.func 118) #[] #[p? _,p? _,p? _]from rfl]at B;have aa:∀(fn:Fn)(first l:V?)(f:w?),(Instr.makeFunc fn first l).run prog f=.ok _ f:=λ_ _ _ _=>rfl;have c6:=dx O 0;clear h O U;rw[show(yJ 116 8 4 _).2=#[p?<|y? ⟨5,0,x?⟩,p?<|y? ⟨6,0,x?⟩,p?<|y? ⟨7,0,x?⟩,p?<|y? ⟨8,0,x?⟩,.chan _,B3,B3,B3]from rfl];show Code.wp prog (Code.region 1 _ f?) _ _ _;obtain⟨L,J⟩:∃L,L=(ps++qs).map (pJ P i):=⟨_,q?⟩;rw[<-J];have HL:=h! J;clear J;go_wp2_with fail;apply B.mono;rintro e w2 ⟨V,rfl,W⟩;have HG:J? _:=W;have HF:J? _:=V;clear B V W;go_wp2;exact⟨.inl q?,q?,⟨_,_,_,_,_,HG.4,by rw[HL.o]⟩,HF⟩
abbrev cmS(s:Nat)(S:b?)(num:Nat)(A:Ask):Nat->Array v?:=cmV s (s? S) num A
def cdS(S:b?)(num:Nat)(A:Ask):Nat->Array v?|0=>#[.chan<|y? 10]|1=>#[s? S]|2=>#[n? i? num]|_=>Zaa A
abbrev teS:Nat->ln:=teV 9
def Rx{Z T q K num s ps qs os lent}(V:P.Ok)(hK:K<=s+5)(h5:5<=s)(W:l<s)
  (Y:∀i,i<4->g.1[bb s i]?=y? (c? (cmS s x0 num P i) (teS i) (0,0))) (hS:x0.size<=1099511627775) (hX:jd x0.size x0.1.1=y? (ps,qs)) :
  Sends (qw prog Z f T l q K lent) (qw prog Z f T l q (s+5) lent) 116 (CI<|bb s) os os g (xf g [bb s 0,bb s 1,bb s 2,bb s 3]) (s+3) ((ps++qs).map<|pJ P num):=by
 refine ID (cd:=cdS x0 num P) (M:=x?) (ex:=.map #[] 0) (cap:=1099511627776) Zbb q? q? d! d! d! ZaY (λv hv=>?_) ⟨q?,q?,q?,q?,q?,Gg,λm B=>?_,λb=>?_,λi hi=>?_,Uy s,Y,λm B i hi=>?_,q?,q?,λi U h4 m mi w' a' B hw aa O=>?_,nofun⟩ λτ=>?_;obtain⟨p,_,rfl⟩:=Zv.1 hv;exact Il P num p;obtain⟨x1,x2,x3⟩:=B.x;refine⟨x1,x2,λr B=>?_⟩;obtain B|B:=B
 have:=x3 r B;omega;simp only[Zm,q!,or_false,bb]at B;omega;exact⟨λh=>⟨h,nofun⟩,λh=>h.1⟩;have:=NN s i;omega;obtain⟨x1,_,_⟩:=B.x;rw[x1];have:=(NN s i).1;omega;have:i=1\/i=2\/i=3:=o!;obtain rfl|rfl|rfl:=this
 exact Flat.arr (λj J=>by
  have:=J;match j,this with
  |0,_=>exact .string _) O
 exact Flat.arr (λj J=>by
  have:=J;match j,this with
  |0,_=>exact .int ..) O
 exact Flat.arr (λj J=>by
  have:=J;match j,this with
  |0,_=>exact .int ..|1,_=>exact .string _|2,_=>exact .int ..) O
 exact EH (Za9 V (Zu _) ⟨q?,q?,q?,q?⟩ q? hS hX) λe a w' ⟨U,h2,h3,_⟩=>⟨U,h2,h3,.inl q?⟩
def Aw{Z T dd K lent fn}{tm:V?}{os}{V:List<|Nat×Option (L?)}{k}(num)(A){ps qs ops i rest}{o:Oper}(s)(W:s=g.1.size)(Y:ops[i]?=y? o)(hA:A.Ok)(hK:K<=s+5)(h5:5<=s)(B:dd<s)(J:∀(r:Nat)a c,g.1[r]?≠y? (.map a c))
  (O:x0.size<=1099511627775) (hX:jd x0.size x0.1.1=y? (ps,qs)) (hV:∀x∈V,x.1<s)
  (hn:∀w2:w?,w2.1.size=s+5->(∀r,r<s->w2.1[r]?=g.1[r]?)->(∀(r:Nat)a c,w2.1[r]?≠y? (.map a c))->w2.4=g.4->dv (qw prog Z f T dd l (s+5) lent) (⟨fn,fV o.1 tm<|.chan<|y?<|s+3,r? ops rest::k⟩::os) w2 ((s+3,y?<|(ps++qs).map<|pJ A num)::V)) :
  dv (qw prog Z f T dd l K lent) (⟨79,#[n? i? num,s? x0,.agg #[n? i? A.m,s? A.q,n? i? A.t],B3,B3,B3,B3,B3,B3,B3,B3],[.code<|eG f79]⟩::⟨fn,tm,r? ops (i::rest)::k⟩::os) g V:=by
 exact Jj (y? x0) num A _ s W Y J hV (λw6 os U _=>Rx hA hK h5 B U O hX) (λq' h1 h2=>absurd h1 h2) hn
def De(c:Code):Code:=match c with
 |.seq _ (.seq _<|.seq (.seq _<|.block _<|.loop x) _)=>x|_=>.skip
def Ub:f79.1≠ "runtime.NumGoroutine":=by decide
def Ql{Z:oJ prog}{T:List Frame}{K:Nat}{V:Vs}{ps qs:List<|Nat×eE}{cl:Nat->Option Nat}{so n sc bx b s k:Nat}{a2 a3 a4 a6 a8 a9 am aD aE aF aG aH aI aJ aK aL aM aN an ao ap aq ar au av aw ax ay az a0 a1 a5 a7 a':v?}{td:List Item}(hT:∀ps,T=[ps]->ps.5≠.panicking [lw])
  (hs:s=g.1.size) (hA:P.Ok) (hK:K<=s+5) (h5:5<=s) (U:l<s) (J:∀(r:Nat)a c,g.1[r]?≠y? (.map a c)) (hn:n<=6) (hk:k<n) (hV:∀x∈V,x.1<s)
  (W:g.1[bx]?=y? (c? #[n? i? P.m,s? P.q,n? i? P.t] 94 (0,0))) (hb:g.1[b]?=y? (c? (yk cl) 125 (0,0)))
  (ab:C? g ⟨x2,so+k,x?⟩=y? (s? x0)) (Y:x0.size<=1099511627775) (hX:jd x0.size x0.1.1=y? (ps,qs))
  (fin:∀(w2:w?)(c8 c9 aO aP aQ aR aS aT aU aV aW aX aY:v?),w2.1.size=s+5->(∀r,r<s->r≠b->w2.1[r]?=g.1[r]?)->w2.1[b]?=y? (c? (yk<|oe cl k<|s+3) 125 (0,0))->(∀(r:Nat)a c,w2.1[r]?≠y? (.map a c))->w2.4=g.4->
    dv (qw prog Z f T l x1 (s+5) f?) [⟨49,#[.slice (y? ⟨x2,so,x?⟩) n sc,.map<|y? l,a2,a3,a4,p?<|y? ⟨bx,0,x?⟩,a6,p?<|y? ⟨b,0,x?⟩,c8,c9,am,.slice (y? ⟨x2,so,x?⟩) n sc,n? i? (n:Int),n? i? ((k+1:Nat):Int),aO,aP,aQ,aR,aS,aT,aU,aV,aW,aX,aY,an,ao,ap,aq,ar,au,av,aw,ax,ay,az,a0,a1,a5,a7,a'],.code (De<|eG Tryz.f49)::.inLoop (De<|eG Tryz.f49)::td⟩] w2 ((s+3,y?<|(ps++qs).map<|pJ P k)::V)) :
  dv (qw prog Z f T l x1 K f?) [⟨49,#[.slice (y? ⟨x2,so,x?⟩) n sc,.map<|y? l,a2,a3,a4,p?<|y? ⟨bx,0,x?⟩,a6,p?<|y? ⟨b,0,x?⟩,a8,a9,am,.slice (y? ⟨x2,so,x?⟩) n sc,n? i? (n:Int),n? i? (k:Int),aD,aE,aF,aG,aH,aI,aJ,aK,aL,aM,aN,an,ao,ap,aq,ar,au,av,aw,ax,ay,az,a0,a1,a5,a7,a'],.code (De<|eG Tryz.f49)::.inLoop (De<|eG Tryz.f49)::td⟩] g V:=by
 have HA:=h!<|A? hs<|A? hA<|A? hK<|A? h5<|A? U<|A? J<|A? hV<|A? W<|A? hb<|A? ab<|A? Y<|A? hX<|A? fin hT;clear hs hA hK h5 U J hV W hb ab Y hX fin hT;obtain⟨B,hB⟩:∃B,B=Item.inLoop (De<|eG Tryz.f49):=⟨_,q?⟩;rw[<-hB];have HB:=h! hB;clear hB;show dv _ [⟨_,_,.code (.seq (.region 3 _ f?)<|.seq (.cond _ .skip<|.exit 0)<|.seq (.block 1<|.seq (.region 4 _ f?)<|.region 5 _ f?)<|.region 6 _ f?)::_⟩] _ _;refine dv.sr λkk HK=>?_;have aZ:(k:Int)<(n:Int):=o!
 (refine fO ?_;go_simp);apply dv.ie HK;clear HK kk;refine dv.seq<|dv.rG trivial q? (dv.skip ?_);refine dv.seq<|dv.block<|dv.sr λkk HK=>?_
 (iterate 2 (refine fO ?_;go_simp));refine qo q? l! k! λy0 ah ae=>?_
 have e0:C? y0 ⟨x2,so+k,x?⟩=y? (s? x0):=by have:=HA.2.2.2.2.2.2.2.2.2.1;unfold m5 at this⊢;rwa[ah]
 have HY:J?<|y0.1=g.1/\y0.4=g.4:=⟨ah,ae⟩;clear ah ae;unfold lO;go_simp;simp only[iR];clear e0
 (iterate 2 (refine fO ?_;go_simp));apply dv.ie HK;clear HK kk;refine rM λkk HK=>?_;apply dv.region
 (iterate 3 (refine fO ?_;go_simp));refine qo q? l! k! λy1 aA af=>?_;have ai:=aA.trans HY.1;have e0:=dx (by rw[ai];exact HA.2.2.2.2.2.2.2.1);have aj:J?<|y1.1=g.1/\y1.4=g.4:=⟨ai,af.trans HY.2⟩;clear aA af ai;unfold lO;go_simp;simp only[iR];let ⟨hs,hA,hK,h5,U,J,hV,W,hb,ab,Y,hX,fin,hT⟩:=HA.o;rw[<-aj.1]at hs J W hb;clear e0;refine dv.su #[n? i? (k:Int),s? x0,.agg #[n? i? P.m,s? P.q,n? i? P.t],B3,B3,B3,B3,B3,B3,B3,B3] (i:=4) (iI:=f79) (c:=eG f79) q? q? func79 k! Ub q? (by simp[eI]) k! ?_;refine Aw k P s hs q? hA hK h5 U J Y hX hV λw2 z2 o2 O p2=>?_;have ac:b<s:=by rw[hs];exact(AI.1 hb).1
 have ak:=(o2 b ac).trans hb;have H2:=h!<|A? z2<|A? (λr hr=>(o2 r hr).trans<|by rw[aj.1])<|A? (p2.trans aj.2)<|A? ak<|A? ac O;clear hs hA hK h5 U J hV W hb ab Y hX fin hT z2 o2 O p2 ak ac;rw[kA];go_simp;have aB:(k:Int)<7:=o!
 (refine fO ?_;go_simp);clear aB;refine qo q? l! k! λy2 al ag=>?_;have gb:y2.1[b]?=y? (c? (yk cl) 125 (0,0)):=by rw[al];exact H2.2.2.2.1
 have e0:C? y2 ⟨b,k,x?⟩=y? (.chan<|cl k):=by rw[dx gb];rcases(o!:k=0\/k=1\/k=2\/k=3\/k=4\/k=5\/k=6)with rfl|rfl|rfl|rfl|rfl|rfl|rfl<;>rfl
 have f0:=dO gb k;have ad:J?<|y2.1=w2.1/\y2.4=w2.4:=⟨al,ag⟩;have HG:=h! gb;clear al ag gb;unfold lO;go_simp;simp only[iR];clear e0 f0;obtain⟨w3,aa⟩:∃w3,w3=y2.setCell ⟨b,k,x?⟩ (.chan<|y?<|s+3):=⟨_,q?⟩;have g3:w3.1[b]?=y? (c? (yk<|oe cl k<|s+3) 125 (0,0)):=by rw[aa,heap_set HG.o k _,<-NU o!];simp only[kd]
 have o3:∀r,r≠b->w3.1[r]?=w2.1[r]?:=λr hr=>by rw[aa,ZH _ _ _ _ hr,ad.1]
 have z3:w3.1.size=s+5:=by rw[aa,xd,ad.1];exact H2.1
 have p3:w3.4=w2.4:=by rw[aa,sS];exact ad.2
 rw[<-aa];clear aa HG ad y2;have H3:=h!<|A? g3<|A? o3<|A? z3 p3;clear g3 o3 z3 p3;apply dv.ie HK;clear HK kk;apply dv.inBlock;refine rM λkk HK=>?_;apply dv.region
 (refine fO ?_;go_simp);have aC:IntKind.i64.wrap ((k:Int)+1)=((k+1:Nat):Int):=by simp only[X?];omega
 rw[aC];clear aC
 (refine fO ?_;go_simp);apply dv.inRegion;rw[HK.o,HB.o];apply dv.inLoop;obtain⟨hs,hA,hK,h5,U,J,hV,W,hb,ab,Y,hX,fin,hT⟩:=HA.o;obtain⟨g3,o3,z3,p3⟩:=H3.o;obtain⟨z2,o2,p2,ak,ac,O⟩:=H2.o;have ek:(k:Int)+1=((k+1:Nat):Int):=o!;rw[ek,<-Z4];refine fin w3 _ _ _ _ _ _ _ _ _ _ _ _ _ z3 (λr hr hn=>(o3 r hn).trans<|o2 r hr) g3 (λr a c h=>?_)<|p3.trans p2;by_cases hr:r=b;rw[hr,g3]at h;cases h;rw[o3 r hr]at h;exact O r a c h
end
section
variable {f:Ask}{g C:w?}{i l o p I:Nat}
def lC(A:Ask)(P:Nat->List (Nat×eE)):Nat->List rj
 |0=>[]
 |k+1=>(P k).map (sw A k)++lC A P k
def allM(A:Ask)(P:Nat->List (Nat×eE))(es:E?)(n:Nat):List rj:=(iO es).map (sw A n)++lC A P n
def lJ(ps:List<|Nat×eE):List Wd:=ps.map λp=>p.2.1
def BL{P Q}:∀n,(∀j,j<n->P j=Q j)->lC f P n=lC f Q n
 |0,_=>rfl|n+1,h=>by simp only[lC];rw[h n o!,BL n λj B=>h j o!]
def xD{P}:∀n,∀m∈lC f P n,m.1<n
 |0,m,h=>by simp[lC]at h
 |n+1,m,h=>by
  obtain h|h:=Z3.1 h
  obtain⟨p,_,rfl⟩:=Zv.1 h;rw[(js n p).1];omega;have:=xD n m h;omega
def DM(l r)(x):fR (l++r) x=max (fR l x) (fR r x):=by
 induction l with
 |nil=>simp[fR]|cons a l B=>simp only[B!,fR,B];split<;>omega
def Ge(n)(ps)(x):fR (ps.map<|sw f n) x=if x∈lJ ps then n else 0:=by
 induction ps with
 |nil=>simp[fR,lJ]|cons p ps J=>have e:lJ (p::ps)=p.2.1::lJ ps:=rfl;rw[e,ZK];simp only[fR,(js n p).1,(js n p).2.2.1,J];by_cases h:p.2.1=x;by_cases B:x∈lJ ps<;>simp[h,B];have O:¬x=p.2.1:=λe=>h e.symm;by_cases B:x∈lJ ps<;>simp[h,B,O]
def zp{P}(n)(x):fR (lC f P<|n+1) x=if x∈lJ (P n)then n else fR (lC f P n) x:=by
 show fR (_++_) x=_;rw[DM,Ge];split;have:fR (lC f P n) x<=n:=yj _ _ λm hm=>by have:=xD n m hm;omega
 omega;omega
def Lh{P}:∀n,∀m∈lC f P n,m.4=t?->m.Og.1=m.3
 |0,m,h=>by simp[lC]at h
 |n+1,m,h=>by
  intro B
  obtain h|h:=Z3.1 h
  obtain⟨p,_,rfl⟩:=Zv.1 h;rw[(js n p).2.2.2]at B;rw[Hr B,(js n p).2.2.1];exact Lh n m h B
def KN(P:Nat->List (Nat×eE)):Nat->List eE
 |0=>[]
 |n+1=>sn (P n)++(KN P n).filter λe=>!decide (e.1∈lJ (P n))
def B9{A P}:∀n,gw (lC A P n) (lC A P n)=(KN P n).filter A.has
 |0=>rfl
 |n+1=>by
  have ih:=@B9 A P n
  show gw _ ((P n).map _++lC A P n)=(sn _++_).filter _;unfold gw;rw[Zj,Z4,Zj];congr 1;rw[ev,cH]
  have e:(P n).filter ((λm=>m.4&&m.1==fR (lC A P<|n+1) m.3) ∘ sw A n)=(P n).filter (A.has ∘ xt):=by apply d?;intro p B;have O:p.2.1∈lJ _:=Zv.2 ⟨p,B,q?⟩;simp only[Function.comp_apply,(js n p).1,(js n p).2.2.1,(js n p).2.2.2,zp,if_pos O,beq_self_eq_true,Bool.and_true]
  rw[e];rw[ev];apply ZM;intro p B;exact Hr (Zb.1 B).2
  have e:(lC A P n).filter (λm=>m.4&&m.1==fR (lC A P<|n+1) m.3)=((lC A P n).filter λm=>m.4&&m.1==fR (lC A P n) m.3).filter λm=>!decide (m.Og.1∈lJ (P n)):=by
   rw[ZV];apply d?;intro m hm;have V:=xD n m hm;rw[zp]
   cases U:m.4 with
   |false=>simp|true=>rw[Lh n m hm U];by_cases J:m.3∈lJ (P n);have:(m.1==n)=f?:=j!;simp[J,this];simp[J]
  rw[e];have f:=ev (f:=rj.Og) (p:=λe=>!decide (e.1∈lJ (P n))) (l:=(lC A P n).filter λm=>m.4&&m.1==fR (lC A P n) m.3);unfold gw at ih;rw[ih]at f;apply f.symm.trans;rw[ZV,ZV];congr 1;funext x;exact Bool.and_comm ..
def MQ(b:E?)(e):ix b e = !decide (e.1∈b.map eE.name):=by unfold ix jC;rw[Bool.eq_iff_iff];simp[List.findIdx?_eq_none_iff]
def KD{P}{ss:List<|E?}(B:∀j(h:j<l? ss),(sn<|P j).Perm ss[j]):∀n,n<=l? ss->(KN P n).Perm (gP<|ss.take n)
 |0,_=>by simp[KN,gP]
 |n+1,h=>by
  have J:=B n o!
  rw[IS _,fE];refine(List.Perm.append J ?_).trans List.perm_append_comm
  have e:(λe=>!decide (e.1∈lJ (P n)))=ix ss[n]:=by
   funext e;rw[MQ]
   have O:e.1∈lJ (P n)↔e.1∈ss[n].map eE.name:=by have:=(J.map eE.name).mem_iff (a:=e.1);rwa[cH]at this
   rw[decide_eq_decide.2 O]
  rw[e];exact(KD B n o!).filter _
def BI{P:Nat->List (Nat×eE)}(J:∀j,(lJ<|P j).Nodup):∀n,((KN P n).map eE.name).Nodup
 |0=>List.Pairwise.nil
 |n+1=>by
  show((sn _++_).map _).Nodup
  rw[Z4,Zn]
  refine⟨by rw[cH];exact J n,(BI J n).sublist<|(ZN).map _,?_⟩
  intro x O y U rfl
  obtain⟨e,V,rfl⟩:=Zv.1 U
  have B:=by simpa using(Zb.1 V).2
  rw[cH]at O;exact B O
open Conc RowKit Maps
def Vw{Z:oJ prog}{T:List Frame}{es:E?}{ex}{Ss:Nat->b?}{P:Nat->List (Nat×eE)}{sa:Option Addr}{n sc bx b}{ms:List rj}(hT:∀ps,T=[ps]->ps.5≠.panicking [lw])
  (hA:f.Ok) (aI:5<=I) (hq:I<g.1.size) (aJ:g.1[I]?=y? ex) (hM:uF ex es) (hl:l? es<=100000) (aK:∀e∈es,l? e.1<=la/\l? e.3<=1048576/\(e.2=f?->0<=e.5/\e.5<=255)) (hn:n<=6)
  (hS:∀j,j<n->(Ss j).size<=1099511627775/\∃ps qs,jd (Ss j).size (Ss j).1.1=y? (ps,qs)/\P j=ps++qs) (aL:∀a,sa=y? a->a.1≠b) (aM:bx≠b)
  (aN:ms=(iO es).map (sw f n)++lC f P n) (aO:JQ ms)
  (fin:∀(B:Env prog)aD ad aE,B.Z=Z->B.T=T->B.3=g->(ad=[]\/∃k2,ad=.code .ret::k2)->El prog B Tryz.f49 aD aE (Fp ms) (EF ms)->dv B [⟨49,aD,ad⟩] aE []) :
  ∀(d k K s)(wl:w?)(V:Vs)(cl:Nat->Option Nat)(a2 a3 a4 a6 a8 a9 ae af ag ah ai aj ak al am an ao ap aq ar au av aw ax ay az a0 a1 a5 a7 a' aA aB aC:v?),n=k+d->s=wl.1.size->K<=s->5<=s->l<s->(∀(r:Nat)a c,wl.1[r]?≠y? (.map a c))->(∀x∈V,x.1<s)->
   wl.1[bx]?=y? (c? #[n? i? f.m,s? f.q,n? i? f.t] 94 (0,0))->wl.1[b]?=y? (c? (yk cl) 125 (0,0))->(∀a,sa=y? a->a.1<s)->(∀j,j<n->∃sb so,sa=y? ⟨sb,so,x?⟩/\C? wl ⟨sb,so+j,x?⟩=y? (s?<|Ss j))->
   (∀j,k<=j->cl j=x?)->(∀j r,j<7->cl j=y? r->∃vs,(r,y? vs)∈V)->(∀x∈V,∃j vs,j<7/\cl j=y? x.1/\x.2=y? vs)->(∀j j' r,j<7->j'<7->cl j=y? r->cl j'=y? r->j=j')->(V.map xb).Nodup->l? V=k->vk V=(lC f P k).map rj.val->
   dv (qw prog Z g T l I K f?) [⟨49,#[.slice sa n sc,.map<|y? l,a2,a3,a4,p?<|y? ⟨bx,0,x?⟩,a6,p?<|y? ⟨b,0,x?⟩,a8,a9,ae,.slice sa n sc,n? i? (n:Int),n? i? (k:Int),af,ag,ah,ai,aj,ak,al,am,an,ao,ap,aq,ar,au,av,aw,ax,ay,az,a0,a1,a5,a7,a',aA,aB,aC],.code (De<|eG Tryz.f49)::.inLoop (De<|eG Tryz.f49)::.inBlock 0::[.code<|NW<|eG Tryz.f49]⟩] wl V:=by
 intro d;induction d with
 |zero=>
  intro k K s wl V cl a2 a3 a4 a6 a8 a9 ae af ag ah ai aj ak al am an ao ap aq ar au av aw ax ay az a0 a1 a5 a7 a' aA aB aC aF hs hK h5 U W hV J hb aa ac O kO fu wK iS Y ab;obtain rfl:n=k:=aF;have HC:=h!<|A? hs<|A? hK<|A? h5<|A? U<|A? W<|A? hV<|A? J<|A? hb<|A? O<|A? kO<|A? fu<|A? wK<|A? iS<|A? Y ab;clear hs hK h5 U W hV J hb aa ac O kO fu wK iS Y ab;show dv _ [⟨_,_,.code (.seq (.region 3 _ f?)<|.seq (.cond _ .skip<|.exit 0) _)::_⟩] _ _;refine dv.sr λkk HK=>?_
  (refine fO ?_;go_simp);apply dv.ie HK;clear HK kk;refine dv.seq<|dv.ni trivial (by first|rfl|simp[mE]) ?_;apply dv.exit (k':=[.code<|NW<|eG Tryz.f49]) rfl;obtain⟨hs,hK,h5,U,W,hV,J,hb,O,kO,fu,wK,iS,Y,ab⟩:=HC.o;exact F8 hT hs hA o! h5 U aI hq aJ hM W hl aK hn hV J hb O kO fu wK iS Y ab aN aO fin
 |succ d ih=>
  intro k K s wl V cl a2 a3 a4 a6 a8 a9 ae af ag ah ai aj ak al am an ao ap aq ar au av aw ax ay az a0 a1 a5 a7 a' aA aB aC aF hs hK h5 U W hV J hb aa ac O kO fu wK iS Y ab;obtain⟨hz,ps,qs,hX,hP⟩:=hS k o!;obtain⟨sb,so,rfl,aP⟩:=ac k o!;have aa:sb<s:=aa _ rfl;refine Ql hT hs hA o! h5 U W hn o! hV J hb aP hz hX λw2 c8 c9 aS aT aU aV aW aX aY aZ ba bc bd z2 o2 g2 aG p2=>?_;refine ih _ _ _ w2 _ _ _ _ _ _ _ _ _ _ _ _ _ _ _ _ _ _ _ _ _ _ _ _ _ _ _ _ _ _ _ _ _ _ _ _ o! z2.symm (Zu _) o! o! aG (λx hx=>?_) ((o2 bx (by rw[hs];exact(AI.1 J).1) aM).trans J) g2 (λa e=>by cases e;show sb<s+5;omega) (λj hj=>?_) (λj hj=>?_) (λj r hj hr=>?_) (λx hx=>?_) (λj j' r hj aH hr hr'=>?_) ?_ (by simp[Y]) ?_;obtain rfl|hx:=Zm.1 hx
  show s+3<s+5;omega;have:=hV x hx;omega;obtain⟨aQ,aR,e,this⟩:=ac j hj;refine⟨aQ,aR,e,?_⟩;cases e;unfold m5 at this⊢;rwa[o2 sb aa<|aL _ q?];unfold oe;rw[if_neg o!];exact O j o!;unfold oe at hr;split at hr
  cases hr;exact⟨_,ZT⟩;obtain⟨vs,h⟩:=kO j r hj hr;exact⟨vs,ZG _ h⟩;obtain rfl|hx:=Zm.1 hx
  exact⟨k,_,o!,by simp[oe],q?⟩;obtain⟨j,vs,h1,h2,h3⟩:=fu x hx;refine⟨j,vs,h1,?_,h3⟩;unfold oe;rwa[if_neg (λe=>by rw[e,O k<|Zu _]at h2;cases h2)];unfold oe at hr hr'
  have hold:∀i r,i<7->cl i=y? r->r≠s+3:=λi r hi h e=>by obtain⟨vs,h⟩:=kO i r hi h;have:=hV _ h;omega
  split at hr<;>split at hr';omega
  cases hr;exact absurd q?<|hold j' _ aH hr'
  cases hr';exact absurd q?<|hold j _ hj hr;exact wK j j' r hj aH hr hr';rw[ZK,Z2];refine⟨λh=>?_,iS⟩;obtain⟨x,hx,e⟩:=Zv.1 h;have:=hV x hx;omega;show(ps++qs).map _++vk V=((P k).map _++lC f P k).map _;rw[Z4 (l₁:=(P k).map _),cH,hP];congr 1;exact ZM λp _=>(JK f k p).symm
def U9{Z:oJ prog}{T:List Frame}{K}{es:E?}{ex}{Ss:Nat->b?}{P:Nat->List (Nat×eE)}{sa:Option Addr}{s}{ms:List rj}(hT:∀ps,T=[ps]->ps.5≠.panicking [lw])
  (hs:s=C.1.size) (hA:f.Ok) (hK:K<=s) (h5:5<=s) (ah:i<s) (aa:5<=l) (hq:l<g.1.size) (ab:g.1[l]?=y? ex) (hM:uF ex es) (ac:∀(r:Nat)a c,C.1[r]?≠y? (.map a c))
  (hl:l? es<=100000) (ad:∀e∈es,l? e.1<=la/\l? e.3<=1048576/\(e.2=f?->0<=e.5/\e.5<=255))
  (hn:p<=6) (hS:∀j,j<p->(Ss j).size<=1099511627775/\∃ps qs,jd (Ss j).size (Ss j).1.1=y? (ps,qs)/\P j=ps++qs) (U:∀a,sa=y? a->a.1<s) (ae:∀j,j<p->∃sb so,sa=y? ⟨sb,so,x?⟩/\C? C ⟨sb,so+j,x?⟩=y? (s?<|Ss j))
  (af:ms=(iO es).map (sw f p)++lC f P p) (ag:JQ ms)
  (fin:∀(J:Env prog)aj ai ak,J.Z=Z->J.T=T->J.3=g->(ai=[]\/∃k2,ai=.code .ret::k2)->El prog J Tryz.f49 aj ak (Fp ms) (EF ms)->dv J [⟨49,aj,ai⟩] ak []) :
  dv (qw prog Z g T i l K f?) [⟨49,#[.slice sa p I,.map<|y? i,.agg #[n? i? f.m,s? f.q,n? i? f.t],B3,B3,B3,B3,B3,B3,B3,B3,B3,B3,B3,B3,B3,B3,B3,B3,B3,B3,B3,B3,B3,B3,B3,B3,B3,B3,B3,B3,B3,B3,B3,B3,B3,B3,B3,B3,B3,B3],[.code<|eG Tryz.f49]⟩] C []:=by
 have HN:=h!<|A? hn<|A? hS<|A? U ae;clear hn hS U ae;have HC:=h!<|A? hs<|A? hA<|A? hK<|A? h5<|A? ah<|A? aa<|A? hq<|A? ab<|A? hM<|A? ac<|A? hl<|A? ad<|A? af<|A? ag<|A? fin hT;clear hs hA hK h5 ah aa hq ab hM ac hl ad af ag fin hT;show dv _ [⟨_,_,[.code<|.seq (.region 0 _ f?)<|.seq (.region 1 _ f?)<|.seq (.seq (.region 2 _ f?)<|.block 0<|.loop<|.seq (.region 3 _ f?)<|.seq (.cond _ .skip<|.exit 0) _)<|NW<|eG Tryz.f49]⟩] _ _;refine dv.sc λkk HK=>?_;refine li k! (by rw[HK.o];rfl) (.inr HC.2.2.2.2.2.2.2.2.2.2.2.2.2.2.2) λy0 W O=>?_;have HY:J?<|y0.1=C.1/\y0.4=C.4:=⟨W,O⟩;clear W O;go_wp2;apply ja;rw[HK.o];clear HK kk;obtain⟨w3,V⟩:∃w3,w3=y0.alloc (c? #[n? i? f.m,s? f.q,n? i? f.t] 94):=⟨_,q?⟩;have B:y0.1.size=s:=by rw[HY.1];exact HC.1.symm
 have z3:w3.1.size=s+1:=by rw[V];simp[B]
 have o3:∀r,r<s->w3.1[r]?=C.1[r]?:=λr hr=>by rw[V,jO _ _ (by rw[B];omega),HY.1]
 have g3:w3.1[s]?=y? (c? #[n? i? f.m,s? f.q,n? i? f.t] 94 (0,0)):=by rw[V,lX _ _ B.symm]
 have p3:w3.4=C.4:=by rw[V];exact HY.2
 rw[<-V,B];clear V HY B y0;have H3:=h!<|A? z3<|A? o3<|A? g3 p3;clear z3 o3 g3 p3;refine dv.sc λkk HK=>?_;refine li k! (by rw[HK.o];rfl) (.inr HC.2.2.2.2.2.2.2.2.2.2.2.2.2.2.2) λy0 W O=>?_;have HY:J?<|y0.1=w3.1/\y0.4=w3.4:=⟨W,O⟩;clear W O;go_wp2;apply ja;rw[HK.o];clear HK kk;obtain⟨w4,Y⟩:∃w4,w4=y0.alloc (c? (yk λ_=>x?) 125):=⟨_,q?⟩;have B:y0.1.size=s+1:=by rw[HY.1];exact H3.1
 have z4:w4.1.size=s+2:=by rw[Y];simp[B]
 have o4:∀r,r<s+1->w4.1[r]?=w3.1[r]?:=λr hr=>by rw[Y,jO _ _ (by rw[B];omega),HY.1]
 have g4:w4.1[s+1]?=y? (c? (yk λ_=>x?) 125 (0,0)):=by rw[Y,lX _ _ B.symm]
 rw[show y0.alloc (c? #[.chan x?,.chan x?,.chan x?,.chan x?,.chan x?,.chan x?,.chan x?] 125)=w4 from Y.symm,B];clear Y HY B y0;have H4:=h!<|A? z4<|A? o4 g4;clear z4 o4 g4;apply dv.seq;refine dv.sr λkk HK=>?_
 (iterate 3 (refine fO ?_;go_simp));apply dv.ie HK;clear HK kk;refine dv.block<|dv.loop ?_;obtain⟨hs,hA,hK,h5,ah,aa,hq,ab,hM,ac,hl,ad,af,ag,fin,hT⟩:=HC.o;obtain⟨z3,o3,g3,p3⟩:=H3.o;obtain⟨z4,o4,g4⟩:=H4.o;obtain⟨hn,hS,U,ae⟩:=HN.o;refine Vw hT hA aa hq ab hM hl ad hn hS (λa e=>by have:=U a e;omega) o! af ag fin p 0 K _ w4 [] _ _ _ _ _ _ _ _ _ _ _ _ _ _ _ _ _ _ _ _ _ _ _ _ _ _ _ _ _ _ _ _ _ _ _ o! z4.symm o! o! o! (λr a c=>?_) (λx hx=>by cases hx) ((o4 s o!).trans g3) g4 (λa e=>by have:=U a e;omega) (λj hj=>?_) (λ_ _=>rfl) (λ_ _ _ h=>by cases h) (λx hx=>by cases hx) (λ_ _ _ _ _ h=>by cases h) List.nodup_nil q? rfl;by_cases h1:r<s;rw[o4 r o!,o3 r h1];exact ac r a c;by_cases h2:r=s;rw[h2,o4 s o!,g3];simp;by_cases h3:r=s+1;rw[h3,g4];simp;rw[ZB o!];simp;obtain⟨sb,so,e,this⟩:=ae j hj;have al:sb<s:=U _ e;refine⟨sb,so,e,?_⟩;unfold m5 at this⊢;rwa[o4 sb o!,o3 sb al]
def dv.VH{E:Env prog}{fn}{tm:V?}{os k ops rest o xs ts A}{es:E?}{Ss:Nat->b?}{P:Nat->List (Nat×eE)}{ms sa n sc lb}(Y:∀b,b<E.3.1.size->E.2 b\/E.3.1[b]?=y? rX)(a8:E.6=t?)(hi:ops[i]?=y? o)(ap:sA o (lo ops tm)=t?)(ho:o.2=.call {callee:=.value<|.func 49,args:=xs,argTypes:=ts})(aq:∀x∈xs.1,eI E.7 E.5 x)
  (ar:xs.size=3) (aa:xs.map (mE tm)=#[.slice sa n sc,.map<|y? lb,.agg #[n? i? A.m,s? A.q,n? i? A.t]]) (hA:A.Ok) (hs:fN g lb es) (a9:5<=lb) (au:(sa=x?/\n=0)\/∃sb O c f,sa=y? ⟨sb,O,x?⟩/\5<=sb/\g.1[sb]?=y? (c? c 9 f)/\∀j,j<n->c[O+j]?=y? (s?<|Ss j)) (hn:n<=6) (av:∀j,j<n->(Ss j).size<=1099511627775/\∃ps qs,jd (Ss j).size (Ss j).1.1=y? (ps,qs)/\P j=ps++qs) (ad:ms=(iO es).map (sw A n)++lC A P n) (aw:JQ ms)
  (hl:l? es<=100000) (ax:∀e∈es,l? e.1<=la/\l? e.3<=1048576/\(e.2=f?->0<=e.5/\e.5<=255))
  (ay:∀l cp,Fp ms l cp->dv E (⟨fn,fV o.1 tm<|.slice x? l cp,r? ops rest::k⟩::os) g [])
  (ab:∀off spot l cp cs e f,EF ms off spot l cp cs e f->(∀v∈cs.1,Flat v)->dv E (⟨fn,fV o.1 tm<|.slice (y? ⟨g.1.size,off,spot⟩) l cp,r? ops rest::k⟩::os) {g with heap:=g.1.push<|c? cs e f} []) :
  dv E (⟨fn,tm,r? ops (i::rest)::k⟩::os) g []:=by
 refine dv.phase (R0:=Fp ms) (R1:=EF ms) (iI:=Tryz.f49) (c:=eG Tryz.f49) Y hi ap func49 k! S6 ho aq ?_ ay ab;intro m w ys T az hw U hT;rw[aa]at U;have hG:=az.1.1.G.trans Cu;let ⟨ex,ae,hM⟩:=K5 hs;have h0:=U.idx 0 i! (by rw[<-U.size];simp);have h1:=U.idx 1 i! (by rw[<-U.size];simp);have h2:=U.idx 2 i! (by rw[<-U.size];simp);have a0:ys.size=3:=by rw[<-U.size];rfl
 obtain⟨y0,y1,y2,rfl⟩:∃y0 y1 y2,ys=#[y0,y1,y2]:=⟨ys[0],ys[1],ys[2],by
  refine kx (by simp[a0]) λj h1 h2=>?_;have:j<3:=o!
  rcases(o!:j=0\/j=1\/j=2)with rfl|rfl|rfl<;>rfl⟩
 have h0:VR m (.slice sa n sc) y0:=h0;have h1:VR m (.map _) y1:=h1;have h2:VR m (.agg _) y2:=h2
 have V:Flat<|.agg #[n? i? A.m,s? A.q,n? i? A.t]:=.agg λi hi=>by
  have:i<3:=hi;match i,this with
  |0,_|2,_=>exact .int _ _|1,_=>exact .string _
 have e2:=V.eq m _ h2;subst e2
 obtain⟨q,rfl,hq⟩:∃q,y1=.map (y? q)/\m.1 lb=y? q:=by
  cases h1 with
  |map hb=>exact⟨_,q?,hb⟩|gone hd=>obtain⟨_,c,f,hc⟩:=hw.10 lb hd;obtain⟨a,c2,hx⟩:=hM.1;rw[ae,hx]at hc;cases hc
 let ⟨o1,o2,g1,g2,g3⟩:=hw.1 lb q hq;rw[ae]at g1;cases g1;have a1:=hM.3 m _ g3;subst a1
 have fin:∀(b5:Option Nat)(h5:∀b,b5=y? b->5<=b)(c1:V?)(e5:ln)(hb:∀b,b5=y? b->∃c' f',w.1[b]?=y? (c? c' e5 f')/\∀m1,fh m1 c1 c')(s5:Option Addr)(af:∀a,s5=y? a->a.1<7)(ag:∀j,j<n->∃O,s5=y? ⟨5,O,x?⟩/\c1[O+j]?=y? (s?<|Ss j)),VR (phR b5 q h5) (.slice s5 n sc) y0->
   ∃(B:Env prog)(ah:V?)(m1:Ren)(ai:w?),B.Z=E.Z/\B.T=T/\B.3=w/\(∀b,B.2 b↔b<w.1.size)/\Rg B m1/\WR m1 ai w/\(∀r b,m1.1 r=y? b->m1.3 r)/\fh m1 ah (#[y0,.map<|y? q,.agg #[n? i? A.m,s? A.q,n? i? A.t]]++j2 (Tryz.f49.7-xs.size) B3)/\
   ((∀(J:Env prog)aj ac ak,J.Z=E.Z->J.T=T->J.3=w->(ac=[]\/∃k2,ac=.code .ret::k2)->El prog J Tryz.f49 aj ak (Fp ms) (EF ms)->dv J [⟨49,aj,ac⟩] ak [])->dv B [⟨49,ah,[.code<|eG Tryz.f49]⟩] ai []):=by
  intro b5 h5 c1 e5 hb s5 af ag a2;refine⟨qw prog E.Z w T 6 q 6 f?,#[.slice s5 n sc,.map<|y? 6,.agg #[n? i? A.m,s? A.q,n? i? A.t]]++j2 38 B3,phR b5 q h5,ph0 (c? c1 e5 (0,c1.size)) w,q?,q?,q?,λb=>⟨λh=>h.1,λh=>⟨h,λh=>by cases h⟩⟩,Zan h5,Y7 h5 (v! hw.6) hb,λr b hr=>?_,?_,λal=>?_⟩;have hr:(if r=5 then b5 else x?)=y? b:=hr;split at hr;assumption
  cases hr;rw[ar];have hn:Tryz.f49.7-3=38:=k!;rw[hn];refine fh.append (fh.jb q? λi h1 h2=>?_)<|.replicate _<|.undef _;have:i<3:=h1;match i,this with
  |0,_=>exact a2|1,_=>exact .gone rfl|2,_=>exact V.refl _
  have am:(#[.slice s5 n sc,.map<|y? 6,.agg #[n? i? A.m,s? A.q,n? i? A.t]]++j2 38 B3:V?)=#[.slice s5 n sc,.map<|y? 6,.agg #[n? i? A.m,s? A.q,n? i? A.t],B3,B3,B3,B3,B3,B3,B3,B3,B3,B3,B3,B3,B3,B3,B3,B3,B3,B3,B3,B3,B3,B3,B3,B3,B3,B3,B3,B3,B3,B3,B3,B3,B3,B3,B3,B3,B3,B3]:=k!;rw[am];refine U9 (s:=7) hT q? hA o! o! o! (v!<|m.12 lb q hq) ((AI.1 g2).1) g2 hM (λr a c h=>?_) hl ax hn av af (λj hj=>?_) ad aw al;rotate_left
  .obtain⟨O,e,h⟩:=ag j hj;refine⟨5,O,e,?_⟩;rwa[dx<|rfl]
  have h:(#[A5,A5,A5,A5,A5,Obj.cells c1 e5 (0,c1.size),A5])[r]?=y? _:=h;match r,h with
  |0,h|1,h|2,h|3,h|4,h|5,h|6,h=>cases h
  |r+7,h=>simp at h
 obtain⟨rfl,rfl⟩|⟨sb,O,c,f,rfl,a7,hc,an⟩:=au
 .cases h0 with
  |gC l c=>exact fin x? (λb h=>by cases h) #[] 0 (λb h=>by cases h) x? (λa h=>by cases h) (λj hj=>absurd hj o!)<|.gC _ _
 cases h0 with
 |zero _ hd=>let ⟨_,c0,f0,g0⟩:=hw.10 sb hd;rw[hc]at g0;cases g0
 |@slice a a' _ _ a3=>
  cases a3 with
  |@mk b b' off spot ao=>
   let ⟨o1,o2,k1,k2,k3⟩:=hw.1 sb b' ao;rw[hc]at k1;cases k1
   cases k3 with
   |@cells _ c' _ _ f' a4=>let ⟨c1,ab,aA,a5⟩:=a4.flatten;refine fin _ (λx hx=>by cases hx;exact(v!<|m.12 sb b' ao)) c1 9 (λx hx=>by cases hx;exact⟨c',f',k2,ab⟩) _ (λa h=>by cases h;show 5<7;omega) (λj hj=>⟨O,q?,?_⟩)<|.slice _ _<|.mk q?;obtain⟨a6,hv⟩:=AI.1<|an j hj;have W:O+j<c1.size:=o!;rw[Z1 W,a5 _ W a6 (by rw[hv];exact .string _),hv]
def Qc{Z:oJ prog}{Mp:F?}{fn}{tm:V?}{os:List OF}{k:List Item}{ops:Array Oper}{rest:List Nat}{o b}{vS vM vK:v?}{sa:Option Addr}{sc mode dY most}{Ss:Nat->b?}{P:Nat->List (Nat×eE)}{R:E?}{qb:b?}{es:E?}(hi:ops[i]?=y? o)(ah:vS=.slice sa I sc)
  (hb:C.1[b]?=y? (c? #[.map<|y? p,vS,vM,vK] 90 (0,0))) (hs:fN C p es) (ad:5<=p) (ai:((sa=x?/\I=0)\/∃sb so c f,sa=y? ⟨sb,so,x?⟩/\5<=sb/\C.1[sb]?=y? (c? c 9 f)/\∀j,j<I->c[so+j]?=y? (s?<|Ss j))/\I<=6/\(∀j,j<I->(Ss j).size<=1099511627775/\∃ps qs,jd (Ss j).size (Ss j).1.1=y? (ps,qs)/\P j=ps++qs)/\∀A:Ask,A.Ok->JQ (allM A P es I)/\(gw (allM A P es I)<|allM A P es I).Perm (R.filter A.has))
  (hl:l? es<=100000) (aa:∀e∈es,l? e.1<=65536/\l? e.3<=1048576/\(e.2=f?->0<=e.5/\e.5<=255))
  (hm:mode<=3) (ht:dY<=255) (ax:1<=most) (ay:most<=20) (hq:eh qb.1.1=t?) (az:qb.size<=1000)
  (B:∀e∈R,e.2=f?->∀y:w?,(∀r,r<5->y.1[r]?=C.1[r]?)->ld prog 51 #[.agg #[s? ⟨a? e.1⟩,s? ⟨a? e.3⟩,n? i? e.4,n? i? e.5]] y λen w'=>en=e? (s? ⟨(jV e).toArray⟩)/\gR y w') (h5:5<=C.1.size)
  (hn:∀(w2:w?)(v),(∀r,r<C.1.size->w2.1[r]?=C.1[r]?)->C.1.size<=w2.1.size->w2.4=C.4->Wl w2 C.1.size R ⟨mode,⟨(dP qb.1.1).toArray⟩,dY⟩ most v->dv (jj Z g Mp) (⟨fn,fV o.1 tm v,r? ops rest::k⟩::os) w2 []) :
  dv (jj Z g Mp) (⟨17,#[p?<|y? ⟨b,0,x?⟩,n? i? mode,s? qb,n? i? dY,n? i? most,B3,B3,B3,B3,B3,B3,B3,B3,B3,B3,B3,B3,B3,B3,B3,B3,B3,B3,B3,B3,B3,B3,B3,B3,B3,B3,B3,B3,B3,B3,B3,B3,B3,B3,B3,B3,B3,B3,B3,B3,B3,B3,B3,B3,B3,B3,B3,B3,B3,B3,B3,B3,B3,B3,B3,B3,B3,B3,B3,B3,B3,B3],[.code<|eG f17]⟩::⟨fn,tm,r? ops (i::rest)::k⟩::os) C []:=by
 have HA:=h!<|A? hb<|A? hs<|A? ad<|A? ai<|A? hl<|A? aa<|A? B<|A? h5<|A? hn ah;have HM:=h!<|A? hm<|A? ht<|A? ax<|A? ay<|A? hq az;clear hb hs ad ai hl aa B h5 hn ah;show dv _ (⟨_,_,[.code<|.seq (.region 0 _ f?)<|.seq (.seq (.region 1 _ f?)<|.cond _ _ .skip)<|.seq (.seq (.region 3 _ f?)<|.cond _ _ .skip)<|.seq (.region 5 _ t?)<|.seq (.region 6 _ f?)<|.seq (.seq (.region 7 _ f?)<|.block 0 _)<|.seq (.region 12 _ f?) .ret]⟩::_) _ _;refine dv.sr λkk HK=>?_
 (iterate 2 (refine fH ?_;go_simp));apply dv.ie HK;clear HK kk;refine dv.seq<|dv.sc λkk HK=>?_;refine KL k! (by rw[HK.o];rfl) i! λτ=>?_;have g1:¬((dY:Int)<0):=o!;have g2:¬((255:Int)<(dY:Int)):=o!;have c1:=MP mode hm<|tp C τ;have c2:=Bf most<|tp C τ;rw[decide_eq_true (o!:(1:Int)<=most/\(most:Int)<=20)]at c2;have c3:=λτ=>qC qb (tp C τ) (by unfold la;omega);rw[hq]at c3;have C3:=h! c3;clear hm ht ax ay hq az c3;go_wp2_with fail;apply g! c1;clear c1;go_wp2_with fail;apply g! c2;clear c2;go_wp2;refine ja<|dv.qg τ ?_;rw[HK.o];simp only[decide_eq_false<|sm.2 g1,decide_eq_false<|sm.2 g2,Bool.or_false];clear HK kk g1 g2;refine dv.ni trivial q? (dv.skip<|dv.seq<|dv.sc λkk HK=>?_);refine KL k! (by rw[HK.o];rfl) i! λτ=>?_;have c3:=C3.o τ;clear C3;go_wp2_with fail;apply g! c3;clear c3;go_wp2;refine ja<|dv.qg τ ?_;rw[HK.o];clear HK kk;refine dv.ni trivial q? (dv.skip<|dv.sc λkk HK=>?_)
 have ak:J? (∀y,lu C y->C? y ⟨b,1,x?⟩=y? vS):=λy hy=>by obtain⟨τ,h⟩:=hy;exact Z0 h (show(tp C τ).cell? _=_ by rw[dx (w:=tp C τ)<|HA.1];rfl)
 have al:J? (∀y,lu C y->C? y ⟨b,0,x?⟩=y? (.map _)):=λy hy=>by obtain⟨τ,h⟩:=hy;exact Z0 h (show(tp C τ).cell? _=_ by rw[dx (w:=tp C τ)<|HA.1];rfl)
 obtain⟨fb,am⟩:∃fb:b?,fb=⟨(dP qb.1.1).toArray⟩:=⟨_,q?⟩;have an:J? (∀y:w?,ld _ 50 _ y λe w'=>e=e? (s? fb)/\gR y w'):=λy=>by rw[am];exact rJ qb y<|v! HM.o
 have ao:=h! am;clear am;refine dv.NG (Sd:=λa y=>lu C y/\a.2=[]/\dv _ (⟨_,a.1,r? _ [13,14]::_⟩::_) y _) (last:=13) (tl:=[14]) k! (YW k!) ?_<|λa y h=>h.2;refine ew 0 ?_ ?_<|ew 1 ?_ ?_<|ew 2 ?_ ?_<|ew 3 ?_ ?_<|ew 4 ?_ ?_<|ew 5 ?_ ?_<|ew 6 ?_ ?_<|ew 7 ?_ ?_<|ew 8 ?_ ?_<|ew 9 ?_ ?_ ?_
 any_goals(intro y hy;have q:=ak.o y hy;have q1:=al.o y hy;exact x!)
 go_simp;refine ew 10 ?_ ?_ ?_;rotate_left
 .intro y hy;exact z!<|an y
 go_simp;refine ew 11 ?_ ?_<|ew 12 ?_ ?_ ?_
 any_goals(intro y hy;exact x!)
 go_simp;refine sJ k! (λt=>Gd k! k! _ _) ?_;intro y hy;refine⟨hy,q?,?_⟩;obtain⟨τ,hx⟩:=hy;obtain⟨hb,hs,ad,ai,hl,aa,B,h5,hn,ah⟩:=HA.o;have ab:C.1.size<=y.1.size:=hx.4;have hold:∀r,r<C.1.size->y.1[r]?=C.1[r]?:=λr hr=>hx.5 r hr;have U:y.4=C.4:=hx.1;have ap:fN y p es:=ed.stay hs<|hold p<|ed.lt hs;subst ah;have ac:Ask.Ok ⟨mode,fb,dY⟩:=⟨HM.1,by show dY<256;have:=HM.o;omega,by rw[ao.o];show(dP qb.1.1).toArray.size<=_;rw[eg,eB];have:=HM.o;simp;omega⟩;obtain⟨aq,ar,au,av⟩:=ai;have ae:=av _ ac;refine dv.VH (A:=⟨mode,fb,dY⟩) (es:=es) (Ss:=Ss) (P:=P) (ms:=allM ⟨mode,fb,dY⟩ P es I) (sa:=sa) (n:=I) (sc:=sc) (lb:=p) (xs:=#[.tmp 38,.tmp 42,.tmp 47]) (I2 _ _ _) q? q? q? q? (by simp[eI]) q? k! ac ap ad (aq.imp id λ⟨sb,so,c,f,h1,h2,h3,h4⟩=>⟨sb,so,c,f,h1,h2,by rwa[hold _ (AI.1 h3).1],h4⟩) ar au q? ae.1 hl (λe he=>⟨by have:=(aa e he).1;unfold la;omega,(aa e he).2⟩) ?_ ?_
 .intro l cp hr;obtain⟨rfl,rfl,_⟩:=id hr;have W:jB y 4 _ 0<|l6 []:=jB.nil y 4;have J:=hr.2.2;have Y:=J.1.trans ae.2;have HH:=h!<|A? Y<|A? J.2<|A? hold<|A? ab<|A? U<|A? h5<|A? B<|A? hn W;clear hb hs ad aq ar au av ae hl aa B h5 hn ab hold U ap ac J Y W HA al ak an hx;rw[kA];go_simp
  (refine fH ?_;go_simp);apply dv.ie HK;show dv _ (⟨_,_,[.code<|S7<|eG f17]⟩::_) _ _;obtain⟨Y,aw,hold,ab,U,h5,B,hn,W⟩:=HH.o;refine xM hi W q? HM.2.2.1 HM.2.2.2.1 o! (λe he y2 V=>?_)<|λw2 u h1 h2 h3 h4=>?_;have O:=(Y.mem_iff.1 he);rw[Zb]at O;exact B e O.1 (wV O.2) y2<|λr hr=>(V r hr).trans<|hold r o!;refine hn w2 _ (λr hr=>(h1 r o!).trans<|hold r hr) o! (h3.trans U) ⟨[],?_,aw,u,q?,eH h4 o!⟩;rwa[<-ao.o]
 intro off spot l cp cs e f hr a5;obtain⟨rfl,rfl,rfl,rfl,L,a0,rfl,a1,a2,aj,af⟩:=hr;obtain⟨y2,V⟩:∃y2:w?,y2={y with heap:=y.1.push<|c? cs 96 (0,0)}:=⟨_,q?⟩;have ag:∀r,r<y.1.size->y2.1[r]?=y.1[r]?:=λr hr=>by rw[V];show(y.1.push _)[r]?=_;rw[kr,if_neg o!]
 have a6:y2.1.size=y.1.size+1:=by rw[V];simp
 have a3:y2.4=y.4:=by rw[V]
 have a4:y2.1[y.1.size]?=y? (c? cs 96 (0,0)):=by rw[V];simp
 have W:=jB.eo ⟨by rw[zf],.inr ⟨y.1.size,cp,cs,q?,ZP _,a4,a1,a2,aj,af⟩⟩;rw[<-V];have hold:∀r,r<C.1.size->y2.1[r]?=C.1[r]?:=λr hr=>(ag r o!).trans<|hold r hr;have ab:C.1.size<=y2.1.size:=o!;have U:=a3.trans U;clear ag a6 a3 a4 a1 a2 aj af a5 V;have J:=a0;have Y:=J.1.trans ae.2;have HH:=h!<|A? Y<|A? J.2<|A? hold<|A? ab<|A? U<|A? h5<|A? B<|A? hn W;clear hb hs ad aq ar au av ae hl aa B h5 hn ab hold U ap ac J a0 Y W HA al ak an hx;rw[kA];go_simp
 (refine fH ?_;go_simp);apply dv.ie HK;show dv _ (⟨_,_,[.code<|S7<|eG f17]⟩::_) _ _;obtain⟨Y,aw,hold,ab,U,h5,B,hn,W⟩:=HH.o;refine xM hi W q? HM.2.2.1 HM.2.2.2.1 o! (λe he y2 V=>?_)<|λw2 u h1 h2 h3 h4=>?_;have O:=(Y.mem_iff.1 he);rw[Zb]at O;exact B e O.1 (wV O.2) y2<|λr hr=>(V r hr).trans<|hold r o!;refine hn w2 _ (λr hr=>(h1 r o!).trans<|hold r hr) o! (h3.trans U) ⟨L,?_,aw,u,q?,eH h4 o!⟩;rwa[<-ao.o]
end
section
variable {f i:w?}{g:E?}
def KV{A}{P:Nat->List (Nat×eE)}(B:∀j,(P j).length<=130):∀n,(lC A P n).length<=n*130
 |0=>by simp[lC]
 |n+1=>by
  have:=@KV A P B n
  have:=B n;simp only[lC,Zh,Z5];omega
def KY{A P}:∀n,∀m∈lC A P n,∃j,j<n/\∃p∈P j,m=sw A j p
 |0,m,h=>by simp[lC]at h
 |n+1,m,h=>by
  obtain h|h:=Z3.1 h
  obtain⟨p,B,rfl⟩:=Zv.1 h;exact⟨n,o!,p,B,q?⟩;obtain⟨j,J,x⟩:=KY n m h;exact⟨j,o!,x⟩
def zN{A}{P:Nat->List (Nat×eE)}(B:∀j,((P j).map xb).Nodup):∀n,((lC A P n).map λm=>(m.1,m.2)).Nodup
 |0=>List.Pairwise.nil
 |n+1=>by
  show((_++_:List rj).map _).Nodup
  rw[Z4,Zn]
  refine⟨?_,zN B n,?_⟩
  .rw[cH]
   have e:((λm=>(m.1,m.2)) ∘ sw A n)=(λk=>(n,k)) ∘ xb:=by funext p;simp only[Function.comp_apply,(js n p).1,(js n p).2.1]
   rw[e,<-cH];have h:=B n;unfold fs at h⊢;rw[ZY];exact h.imp λh e=>h (Prod.mk.inj e).2
  intro x J y O rfl;rw[cH]at J;obtain⟨p,_,rfl⟩:=Zv.1 J;obtain⟨m,hm,U⟩:=Zv.1 O;have:=xD n m hm;have:=(Prod.mk.inj U).1;simp only[(js n p).1]at this;omega
def JL{P}:∀n,∀e∈KN P n,∃j,j<n/\e∈sn (P j)
 |0,e,h=>by simp[KN]at h
 |n+1,e,h=>by
  obtain h|h:=Z3.1 h
  exact⟨n,o!,h⟩;obtain⟨j,B,x⟩:=JL n e (Zb.1 h).1;exact⟨j,o!,x⟩
def NH(A:Ask)(l:E?):(dE l).filter A.has=l.filter A.has:=by
 unfold dE;rw[ZV];apply d?;intro e _
 cases h:A.has e with
 |false=>rfl|true=>rw[wV h];rfl
def yM{e}(h:Sh e):l? e.1<=la/\l? e.3<=1048576:=by
 have B:=(iq<|tX h).2;refine⟨by unfold la;omega,?_⟩;obtain h|h:=h
 have:=(l9 h.2.2.1);omega;rw[h.1];simp
def UX{ss:List<|E?}(Y:Inv g ss):∃P,
  (∀j(h:j<l? ss),∃ps O,jd (fc ss[j]).length (fc ss[j])=y? (ps,O)/\P j=ps++O)/\
  ∀A,JQ (allM A P g ss.length)/\(gw (allM A P g ss.length)<|allM A P g ss.length).Perm ((dV ss g).filter A.has):=by
 have ab:∀j,∃p:List<|Nat×eE,∀h:j<l? ss,∃ps O,jd (fc ss[j]).length (fc ss[j])=y? (ps,O)/\p=ps++O/\(sn p).Perm ss[j]/\tn 0 (fc ss[j]).length p:=by intro j;by_cases h:j<l? ss;obtain⟨gs,es,U,h2⟩:=wk<|Y.4 _<|Zw h;obtain⟨ps,O,h3,h4,h5,h6⟩:=P6 U;exact⟨ps++O,λ_=>⟨ps,O,h3,q?,by rwa[show sn _=sn ps++sn O from Z4,h4,h5],h6⟩⟩;exact⟨[],λh'=>absurd h' h⟩
 let ⟨P0,aa⟩:=ol ab;refine⟨P0,λj h=>?_,λA=>?_⟩
 .obtain⟨ps,O,U,h2,_⟩:=aa j h;exact⟨ps,O,U,h2⟩
 obtain⟨P,hP⟩:∃P:Nat->List _,P=λj=>if j<ss.length then P0 j else if j=ss.length then iO g else []:=⟨_,q?⟩
 have W:P ss.length=iO g:=by rw[hP];simp
 have fu:allM A P0 g ss.length=lC A P (l? ss+1):=by show _++_=_++_;rw[W,BL (Q:=P) _ λj hj=>by rw[hP];simp[hj]]
 have ad:=ZE (nh _ _) Y.7
 have ac:l? g<=130:=by have U:=lz g;have h2:=Y.3;have:=r9 g;omega
 have J:∀j,∃l:E?,(sn<|P j).Perm l/\(l.map eE.name).Nodup/\l? l<=130/\(∀e∈l,Sh e)/\((P j).map xb).Nodup/\(∀p∈P j,p.1<4611686018427387904)/\(∀h:j<(ss++[g]).length,l=(ss++[g])[j]):=by
  intro j;obtain h|h|h:=Nat.lt_trichotomy j ss.length
  obtain⟨ps,O,_,_,h2,h3⟩:=aa j h;have e:P j=P0 j:=by rw[hP];simp[h]
  have hs:=Y.4 _<|Zw h;refine⟨ss[j],by rwa[e],hs.2,(λj h=>kF<|Y.4 _<|Zw h) j h,hs.1,?_,λp V=>?_,λ_=>by rw[Zx h]⟩;rw[e];unfold fs;rw[ZY];exact h3.2.2.imp λh=>Nat.ne_of_lt h;rw[e]at V;have:=(h3.2.1 p V).2;have:=r7 hs;omega;subst h;refine⟨g,by rw[W];show(gt _ _).Perm _;rw[Ig];exact qm g,Y.2,ac,Y.1,?_,λp V=>?_,λ_=>i!⟩;rw[W,Be,cH];exact(List.nodup_range).map _<|λ_ _ h e=>h e;rw[W,Be]at V;obtain⟨k,hk,rfl⟩:=Zv.1 V;have:=G!.1 hk;omega;have e:P j=[]:=by rw[hP];simp[(o!:¬j<l? ss),(o!:¬j=l? ss)]
  exact⟨[],by rw[e];exact .refl _,List.Pairwise.nil,i!,i!,by rw[e];exact List.Pairwise.nil,by rw[e];simp,λh'=>by simp at h';omega⟩
 have hL:∀j,(P j).length<=130:=λj=>by obtain⟨l,U,_,h3,_⟩:=J j;have:=U.length_eq;rw[Z5]at this;omega
 have hN:∀j,(lJ _).Nodup:=λj=>by obtain⟨l,U,h2,_⟩:=J j;have:=(U.map _).nodup_iff.2 h2;rwa[cH]at this
 have hG:∀j,∀p∈P j,Sh _:=λj p V=>by obtain⟨l,U,_,_,h4,_⟩:=J j;exact h4 _<|U.mem_iff.1<|Zv.2 ⟨p,V,q?⟩
 have ae:=Y.5;have B:gw (allM A P0 g ss.length) (allM A P0 g ss.length)=(KN P<|l? ss+1).filter A.has:=by rw[fu,B9]
 constructor;refine⟨?_,λm hm=>?_,?_,?_,?_⟩;rw[fu];have:=KV (A:=A) hL<|l? ss+1;omega;rw[fu]at hm;obtain⟨j,hj,p,V,rfl⟩:=KY _ m hm;rw[(js j p).1,(js j p).2.1,(js j p).2.2.1];obtain⟨l,_,_,_,_,_,h6,_⟩:=J j;exact⟨o!,h6 p V,(yM<|hG j p V).1⟩;rw[fu];exact zN (λj=>(J j).elim λl h=>h.2.2.2.2.1) _;rw[B];exact(BI hN _).sublist<|(ZN).map _;rw[B];intro e he;obtain⟨j,_,h⟩:=JL _ e (Zb.1 he).1;obtain⟨p,V,rfl⟩:=Zv.1 h;exact(yM<|hG j p V).2;rw[B,iL,NH]
 have:=KD (λj h=>by
  obtain⟨l,U,_,_,_,_,_,h7⟩:=J j;rw[<-h7 h]
  exact U) (l? ss+1) i!
 rw[If i!]at this;exact this.filter _
open Conc RowKit Maps
def CH:∀(ss:List<|E?)(a:E?),(a.map eE.name).Nodup->(∀s∈ss,(s.map eE.name).Nodup)->((ss.foldl dT a).map eE.name).Nodup
 |[],_,h,_=>h|s::ss,a,h,B=>CH ss _ (wA h<|B s i!) λx J=>B x (by simp[J])
def zu{ss:List<|E?}(h:Inv g ss):((dV ss g).map eE.name).Nodup:=by
 rw[iL];refine sG<|CH _ [] List.Pairwise.nil λs J=>?_;obtain B|B:=Z3.1 J
 exact(h.4 s B).2;simp only[Zg]at B;rw[B];exact h.2
def IF{L:E?}{mode dY most}{B:b?}(J:(g.map eE.name).Nodup)(U:∀e∈g,e.2=f?)(hm:mode<=3)(ht:dY<=255)(V:1<=most)(W:most<=20)(Y:eh B.1.1=t?)
  (O:L.Perm<|g.filter<|Ask.has ⟨mode,⟨(dP B.1.1).toArray⟩,dY⟩) (hs:L.Pairwise λx y=>fw x y=t?):(L.take most).map jV=(kW g mode B.1.1 dY most).1:=by
 have e1:g.filter (Ask.has ⟨mode,⟨(dP B.1.1).toArray⟩,dY⟩)=g.filter λe=>pT mode dY B.1.1 e:=by refine d? λe he=>?_;unfold Ask.has pT dF;rw[U e he];simp
 rw[e1]at O;unfold kW;rw[if_neg o!,if_pos Y];rw[FX (mode:=mode) (dY:=dY) (most:=most) J hs<|u! O];simp
abbrev qv(w:w?):Prop:=yd prog w "internal/strconv.uint64pow10" .u64 yg
def MB(h:qv f)(hb:∀r,r<5->i.1[r]?=f.1[r]?):qv i:=by unfold qv yd nc at h⊢;have J:∃g,g<5/\prog.globalNamed "internal/strconv.uint64pow10" = y? g:=⟨2,o!,k!⟩;let ⟨g,B,e⟩:=J;rw[e]at h⊢;simp only[Zf]at h⊢;rwa[hb g B]
def SH{e}(h:Es e)(y)(J:qv y)(h5:5<=y.1.size):ld prog 51 #[.agg #[s? ⟨a? e.1⟩,s? ⟨a? e.3⟩,n? i? e.4,n? i? e.5]] y λO w'=>O=e? (s? ⟨(jV e).toArray⟩)/\gR y w':=by obtain⟨_,U,V,_,W,h4,_⟩:=h;have hn:=(iq U).2;have Y:=l9 V;refine Uq e y W (λy2 B=>?_) o! o! ?_;have:=UL e.4.toNat o! y2<|MB J λr hr=>B.5 r o!;rwa[(o!:e.4.toNat=e.4)]at this;have:=JG 7 e.4.toNat o! o!;omega
def OK:∀(L:List<|E?)(a:E?){e},e∈L.foldl dT a->e∈a\/∃l∈L,e∈l
 |[],_,_,h=>.inl h
 |l::L,a,e,h=>by
  obtain h|⟨m,hm,h⟩:=OK L _ h
  obtain h|h:=nR.1 h
  exact .inl h.1;exact .inr ⟨l,i!,h⟩;exact .inr ⟨m,by simp[hm],h⟩
def yq{ss:List<|E?}(h:Inv g ss){e}(U:e∈dV ss g):Es e:=by
 rw[iL]at U;obtain⟨W,V⟩:=Zb.1 U
 have B:Sh e:=by
  obtain J|⟨l,Y,J⟩:=OK _ _ W
  simp at J;obtain O|O:=Z3.1 Y
  exact(h.4 l O).1 e J;simp only[Zg]at O;subst O;exact h.1 e J
 obtain B|B:=B
 exact B;rw[B.1]at V;simp at V
def QB:f17.1≠ "runtime.NumGoroutine":=by decide
def WT(w:w?):Prop:=Qg w/\qv w
def Hi(h:qv f/\5<=f.1.size)(B:pP f i):qv i:=MB h.1 λr J=>B.3 r o!
def gD{Z}{Mp:F?}{fn}{tm:V?}{os}{k:List Item}{V:List<|Nat×Option (L?)}{c d:Code}(h:∀J,J? (J=.code d::k)->∀y,pP i y->c.wp prog (Lw (jj Z f Mp) fn J os V) ⟨tm,[]⟩ y)(B:lD (λo=>KQ prog xm vi t? o.2) c=t?:=by kernel_rfl)(O:(Item.code d::k).all mh=t?:=by rfl):dv (jj Z f Mp) (⟨fn,tm,.code (.seq c d)::k⟩::os) i V:=
 dv.seq (dv.OC (rE B) O (.inr nofun) λτ _=>h _ q? _ ⟨q?,Zu _,λ_ _=>rfl⟩)
def eV{fn os k}{V:List<|Nat×Option (L?)}{P}{E:Env P}{tmps:V?}{kk}(B:J?<|kk=k)(h:dv E (⟨fn,tmps,k⟩::os) f V):Lw E fn kk os V .normal ⟨tmps,[]⟩ f:=by rw[B.o];exact ja h
def PJ.stay{w':w?}{O U:F?}{b}{ss:List<|E?}{V:List<|W?}(h:PJ f O U b g ss V)(W:f.1.size<=w'.1.size)(hb:∀k,O k\/U k->w'.1[k]?=f.1[k]?):PJ w' O U b g ss V:=by obtain⟨Y,h2,h3,Bb,vS,B,n,vK,kn,h4,h5⟩:=h;exact⟨λk J=>AT (Y k J) W,λk J=>AT (h2 k J) W,h3,Bb,vS,B,n,vK,kn,h4.stay λk J=>hb k<|.inl J,h5.stay λk J=>hb k<|.inr J⟩
end
section
open RowKit
variable {f g x0:Nat}{l P U:w?}{o p C:v?}{I:W?}{J x2:L?}
structure Sg where
 b:List eE
 s:List (E?)
 t:List (W?)
structure DJ where
 bx:Nat
 yb:Nat
 x:Sg
 y:Sg
def oP(es:List DJ):List v?:=es.flatMap λe=>[p?<|y? ⟨e.1,0,x?⟩,p?<|y? ⟨e.2,0,x?⟩]
def yp:∀(es)(i)(e)(h),e.1=es[i].1->e.2=es[i].2->oP (es.set i e)=oP es
 |a::es,0,e,h,B,J=>by simp at B J;simp[oP,B,J]
 |a::es,i+1,e,h,B,J=>by
  have:=yp es i e _ (u! B)<|u! J
  simp only[oP,List.set_cons_succ,c!]at this⊢;rw[this]
def Fg:∀(es)(i)(h),(oP es)[i*2]?=y? (p?<|y? ⟨es[i].1,0,x?⟩)/\(oP es)[i*2+1]?=y? (p?<|y? ⟨es[i].2,0,x?⟩)
 |a::es,0,h=>by simp[oP]
 |a::es,i+1,h=>by
  have:=Fg es i<|u! h
  have e:oP (a::es)=p? (y? ⟨a.1,0,x?⟩)::p? (y? ⟨a.2,0,x?⟩)::oP es:=by simp[oP]
  rw[e,(o!:(i+1)*2=i*2+1+1)];simpa using this
structure D9(c c':Nat->Nat)(m:Nat)(w w':w?):Prop where
 col:∀k,k<w.1.size->c' k=c k
 os:w'.4=w.4
 size:w.1.size<=w'.1.size
 block:∀k,k<w.1.size->c k≠m->w'.1[k]?=w.1[k]?
def vF(c:Nat->Nat)(N m:Nat)(k:Nat):Nat:=if k<N then c k else m
def jm{c m}(h:g<f):vF c f m g=c g:=if_pos h
def nC{c}(h:f<=x0):vF c f g x0=g:=if_neg o!
def OA(w0 w:w?)(c:Nat->Nat)(n b:Nat)(s:Sg):Prop:=∃B J,AW w0 w B J b s.b s.s s.t/\∀k,B k\/J k->c k=n
def OY(w:w?)(c:Nat->Nat)(n b:Nat)(s:Sg):Prop:=∃F,lc w F b s.b s.s s.t/\(∀k,F k->k<w.1.size/\c k=n)/\Inv s.b s.s
structure N7(w:w?)(c:Nat->Nat)(B:Nat)(va vl vm:v?)(last:Nat)(us:L?)(ms:W?)(n:Nat)(ps:L?):Prop where
 heap:w.1[B]?=some (.cells #[va,vl,vm,.int .i64 last] 74 (0,0))
 lists:∃D,nk w D B vl vm us ms/\(∀k,D k->c k=1)/\∀k,O? va=some k->¬D k
 len:l? us=l? ms
 row:R? w 0 122 2 va n ps
 cB:c B=1
 ca:∀k,O? va=some k->c k=1
 cl:∀k,O? vl=some k->c k=1
 cm:∀k,O? vm=some k->c k=1
structure PS(w0 w:w?)(c:Nat->Nat)(B:Nat)(va vl vm:v?)(last:Nat)(us:L?)(ms:W?)(es:List DJ):Prop where
 law:N7 w c B va vl vm last us ms es.length (oP es)
 zero:∀k,k<w0.1.size->c k=0
 low:pP w0 w
 x:∀i(h:i<l? es),OA w0 w c (2*i+2) es[i].1 es[i].x
 y:∀i(h:i<l? es),OY w c (2*i+3) es[i].2 es[i].y
variable {x1:Sg}
def OA.stay{w' c c' b}(h:OA l P c g b x1)(O:D9 c c' f P w')(hn:g≠f)(Y:pP l w'):OA l w' c' g b x1:=by obtain⟨U,V,h,W⟩:=h;have J:∀k,U k\/V k->k<P.1.size:=λk B=>B.elim (h.j.1 k)<|h.j.2 k;exact⟨U,V,⟨h.j.stay O.3 λk B=>O.4 k (J k B)<|by rwa[W k B],h.2,h.3,Y⟩,λk B=>by rw[O.1 k<|J k B];exact W k B⟩
def OY.stay{w' c c' b}(h:OY l c g b x1)(O:D9 c c' f l w')(V:g≠f):OY w' c' g b x1:=by obtain⟨F,h,J,U⟩:=h;exact⟨F,h.stay λk B=>O.4 k (J k B).1<|by rwa[(J k B).2],λk B=>⟨AT (J k B).1 O.3,by rw[O.1 k (J k B).1];exact(J k B).2⟩,U⟩
def N7.bz{c}(h:N7 l c g o p C x0 J I f x2):g<l.1.size:=(AI.1 h.1).1
def N7.stay{w' c c' last}(h:N7 l c x0 o p C last J I g x2)(O:D9 c c' f l w')(hm:f≠1):N7 w' c' x0 o p C last J I g x2:=by
 obtain⟨D,U,W,V⟩:=h.2;have hb:∀k,k<l.1.size->c k=1->w'.1[k]?=l.1[k]?:=λk B hc=>O.4 k B (by rw[hc];exact λe=>hm e.symm);have Y:=λk B=>(h.4.lt k B).2;have l1:=λk B=>(U.1.lt k B).2;have m1:=λk B=>(U.2.lt k B).2
 exact⟨by rw[hb x0 h.bz h.5];exact h.1,⟨D,U.stay O.3 (λk B=>hb k (U.6 k B)<|W k B) (λk B=>hb k (l1 k B)<|h.7 k B)<|λk B=>hb k (m1 k B)<|h.8 k B,λk B=>by rw[O.1 k<|U.6 k B];exact W k B,V⟩,h.3,
  dJ h.4 λk B=>hb k (Y k B)<|h.6 k B,by rw[O.1 x0 h.bz];exact h.5,λk B=>by rw[O.1 k<|Y k B];exact h.6 k B,λk B=>by rw[O.1 k<|l1 k B];exact h.7 k B,λk B=>by rw[O.1 k<|m1 k B];exact h.8 k B⟩
def PS.Sk{c c' es}(h:PS l P c g o p C x0 J I es)(B:D9 c c' f P U)(hm:f≠0):pP l U:=
 ⟨B.2.trans h.3.1,ZE h.3.2 B.3,λk O=>(B.4 k (AT O h.3.2) (by rw[h.2 k O];exact λe=>hm e.symm)).trans<|h.3.3 k O⟩
def PS.J5{c B:Nat->Nat}{es}(h:PS l P c f o p C g J I es)(U:∀k,k<P.1.size->B k=c k):∀k,k<l.1.size->B k=0:=λk O=>by rw[U k<|AT O h.3.2];exact h.2 k O
def nE{c}:∀k,k<g->vF c g f k=c k:=λ_ h=>jm h
def PS.same{c es}(h:PS l P c f o p C g J I es)(B:pP P U)(m):PS l U (vF c P.1.size m) f o p C g J I es:=
 have O:D9 c (vF c P.1.size m) 0 P U:=⟨nE,B.1,B.2,λk W _=>B.3 k W⟩;have B:=h.3.trans B;⟨h.1.stay O o!,h.J5 nE,B,λi V=>(h.x i V).stay O o! B,λi V=>(h.y i V).stay O o!⟩
structure Zc(c:Nat->Nat)(w:w?)(c':Nat->Nat)(w':w?):Prop where
 size:w.1.size<=w'.1.size
 block:∀k,k<w.1.size->c k=0->w'.1[k]?=w.1[k]?/\c' k=0
def PS.Zb5{c es}(h:PS l P c f o p C g J I es){i}(hi){F1 F2 O V:F?}(h1:AW l P F1 F2 es[i].1 es[i].x.b es[i].x.s es[i].x.t)(hc:∀k,F1 k\/F2 k->c k=2*i+2)(h2:AW l U O V es[i].1 x1.b x1.s x1.t)(hs:St P U F1 F2 O V) :
  ∃c',PS l U c' f o p C g J I (es.set i ⟨es[i].1,es[i].2,x1,es[i].y⟩)/\Zc c P c' U:=by
 have W:D9 c (vF c _<|2*i+2) _ P U:=⟨nE,h2.4.1.trans h1.4.1.symm,hs.1,λk B hn=>hs.2 k B (λh=>hn<|hc k<|.inl h) λh=>hn<|hc k<|.inr h⟩;have hl:=h.Sk W o!;refine⟨_,⟨by rw[cK,yp es i ⟨es[i].1,es[i].2,x1,es[i].y⟩ hi q? rfl];exact h.1.stay W o!,h.J5 nE,hl,λj Y=>?_,λj Y=>?_⟩,⟨W.3,λk B h0=>⟨W.4 k B o!,(jm B).trans h0⟩⟩⟩;rw[cK]at Y;rw[dl];split
 rename_i e;subst e;refine⟨O,V,h2,λk B=>?_⟩;have:(F1 k\/F2 k)\/P.1.size<=k:=B.elim (λB=>(hs.3 k B).imp_left .inl) λB=>(hs.4 k B).imp_left .inr;obtain B|B:=this
 rw[jm<|B.elim (h1.j.1 k)<|h1.j.2 k];exact hc k B;exact nC B;exact(h.x j Y).stay W o! hl;rw[cK]at Y;rw[dl];split;rename_i e;subst e;exact(h.y i hi).stay W o!;exact(h.y j Y).stay W o!
def PS.Zb1{c es}(h:PS l P c f o p C g J I es){i}(hi){F:F?}(W:∀k,F k->k<P.1.size/\c k=2*i+3)(h2:lc U (iJ F P U) es[i].2 x1.b x1.s x1.t)(Y:dy F P U)(aa:Inv x1.b x1.s) :
  ∃c',PS l U c' f o p C g J I (es.set i ⟨es[i].1,es[i].2,es[i].x,x1⟩)/\Zc c P c' U:=by
 have O:D9 c (vF c _<|2*i+3) _ P U:=⟨nE,Y.1,Y.4,λk B hn=>Y.5 k B λh=>hn (W k h).2⟩;have hl:=h.Sk O o!;refine⟨_,⟨by rw[cK,yp es i ⟨es[i].1,es[i].2,es[i].x,x1⟩ hi q? rfl];exact h.1.stay O o!,h.J5 nE,hl,λj V=>?_,λj V=>?_⟩,⟨O.3,λk B h0=>⟨O.4 k B o!,(jm B).trans h0⟩⟩⟩;rw[cK]at V;rw[dl];split;rename_i e;subst e;exact(h.x i hi).stay O o! hl;exact(h.x j V).stay O o! hl;rw[cK]at V;rw[dl];split
 rename_i e;subst e;refine⟨_,h2,λk B=>?_,aa⟩;obtain B|B:=B
 exact⟨AT (W k B).1 Y.4,by rw[jm (W k B).1];exact(W k B).2⟩;exact⟨B.2,nC B.1⟩;exact(h.y j V).stay O o!
def PS.ZbN{c c' es}(h:PS l P c f o p C g J I es){va' vl' vm'}{B:W?}(V:D9 c c' 1 P U)(Y:N7 U c' f va' vl' vm' x0 x2 B es.length<|oP es):PS l U c' f va' vl' vm' x0 x2 B es:=
 have O:=h.Sk V o!;⟨Y,h.J5 V.1,O,λi W=>(h.x i W).stay V o! O,λi W=>(h.y i W).stay V o!⟩
def AN{e}(h:Es e):l? e.1<=8/\l? e.3<=24:=by refine⟨(iq h.2.1).2,?_⟩;have:=(sO h).1;unfold dF at this;rwa[eB]at this
end
section
variable {f g:w?}
def XF(a b:Wd):(⟨a? a⟩:b?)++⟨a? b⟩=⟨(a++b).toArray⟩:=by apply o7;simp
def sK(w:w?)(o):(w.alloc o).1[w.1.size]?=y? o:=by simp[World.alloc,-World.alloc_eq]
open RowKit
def uX{P ops Q a}(h:Q .normal a f):qP P ops Q [] a f:=λ_ _ _=>⟨.normal,a,f,h,.one step_region_end⟩
def eT{a v}(h:lu f g)(B:C? f a=y? v):C? g a=y? v:=by obtain⟨τ,J⟩:=h;exact eL a v _ _ (show(tp f τ).cell? a=y? v from B) J
def xS(h:lu f g)(B:g.2=f.2):gR f g:=by obtain⟨τ,J,W,O,U,V⟩:=h;exact⟨J,B,O,U,V⟩
open Conc Maps
def gS{a v}(B:pP f g)(h:C? f a=y? v):C? g a=y? v:=by rw[<-h];exact World.cell?_of_block<|B.3 _<|m9 f a h
def jB.low{s n v}{xs:L?}(h:jB f s v n xs)(O:pP f g):jB g s v n xs:=h.later λa u J=>by have B:=m9 f a J;simp only[m5]at J⊢;rwa[O.3 _ B]
def Pn{q:Wd}(h:eh q=t?):l? q<=24/\∀c∈q,nA c=t?:=by unfold eh at h;simp only[IT,decide_eq_true_eq,Zy]at h;exact h
def AW.load{U O:F?}{b}{B:E?}{ss:List<|E?}{V:List<|W?}(h:AW f g U O b B ss V)(s:b?)(W:s.size<=la):ld prog 25 #[p?<|y? ⟨b,0,x?⟩,s? s] g λe w'=>e=e? (n? i? (iT B ss s.1.1).1)/\∃J,AW f w' J O b B (iT B ss s.1.1).2 V/\St g w' U O J O:=
 h.Og λvM vK Y=>(Zbm g U b B ss s Y W).mono λ_ _ h=>h
def AW.Zb4{J O:F?}{b}{B:E?}{ss:List<|E?}{U:List<|W?}(h:AW f g J O b B ss U)(n):ld prog 26 #[p?<|y? ⟨b,0,x?⟩,n? i? n] g λe w'=>e=e? (.tuple #[s? ⟨(jW ss n).1.toArray⟩,n? i? (jW ss n).2])/\g=w':=by obtain⟨W,Y,V⟩:=h.pe3;exact Zay g J b B ss n V
end
section
open RowKit
variable {f J y2 y5 i:Nat}{o p x4:w?}{C:E?}{I P x0 x5 y8:v?}{U:L?}{x1:W?}{x2 y3 y9 z0:b?}{x3:List DJ}{x7:Oper}{x8:List (E?)}{x9 y7:F?}{y0 z1 z2:Sg}{y1:P?}{y4:Wd}{y6 z3 z4 z5:Int}
def Jb{b}{ts:List<|W?}(hF:∀k,x9 k->k<o.1.size)
  (hh:o.1[b]?=y? (c? #[I,P,x5] 120 (0,0))) (aa:x9 b) (V:kX o x9 I C) (hT:nM o x9 x5 ts) (J:B? o p)
  (ho:R? p o.1.size 75 1 x0 x8.length U) (ab:l? U=l? x8)
  (ac:∀i(h:i<l? x8),∃u,U[i]?=y? u/\kX p (iJ x9 o p) u x8[i]) :
  p.1[b]?=y? (c? #[I,P,x5] 120 (0,0))/\lc (p.setCell ⟨b,1,x?⟩ x0) (iJ x9 o<|p.setCell ⟨b,1,x?⟩ x0) b C x8 ts/\dy x9 o (p.setCell ⟨b,1,x?⟩ x0):=by
 have ad:=hF b aa;have W:(p.setCell ⟨b,1,x?⟩ x0).1.size=p.1.size:=by simp[m4]
 have Y:p.1[b]?=y? (c? #[I,P,x5] 120 (0,0)):=by rwa[J.5 b ad]
 have O:∀k,k≠b->(p.setCell ⟨b,1,x?⟩ x0).1[k]?=p.1[k]?:=λk B=>ZH _ _ _ _ B;have hold:∀k,x9 k->k≠b->(p.setCell _ x0).1[k]?=o.1[k]?:=λk B ae=>by rw[O k ae,J.5 k<|hF k B]
 have af:∀k,iJ x9 o p k->iJ x9 o _ k:=λk B=>by
  obtain h|h:=B
  exact .inl h;exact .inr ⟨h.1,by rw[W];exact h.2⟩
 refine⟨Y,⟨I,x0,x5,?_,.inl aa,⟨?_,λk B=>Or.inl<|V.2 k B⟩,⟨U,ab,?_,?_,?_⟩,?_⟩,?_⟩;rw[heap_set Y];rfl;exact dJ V.1<|λk B=>hold k (V.2 k B) (λe=>by subst e;exact fC hh V.1 d! B);refine dH (eH ho<|ZP _)<|λk B=>O k<|λe=>?_;have:=(ho.lt k B).1;omega;intro k B;have:=ho.lt k B;exact .inr ⟨this.1,by rw[W];exact this.2⟩;intro i hi;obtain⟨u,hu,hE⟩:=ac i hi;exact⟨u,hu,dJ hE.1<|λk B=>O k (λe=>by subst e;exact fC Y hE.1 d! B),λk B=>af k<|hE.2 k B⟩;obtain⟨vs,h1,h2,h3,h4⟩:=hT;refine⟨vs,h1,dH h2<|λk B=>hold k (h3 k B) (λe=>by subst e;exact fD hh h2 d! B),λk B=>Or.inl<|h3 k B,λi hi=>?_⟩;obtain⟨v,hv,hE,hf⟩:=h4 i hi;exact⟨v,hv,dH hE<|λk B=>hold k (hf k B) (λe=>by subst e;exact fD hh hE d! B),λk B=>Or.inl<|hf k B⟩;refine⟨J.1,J.2,J.3,by rw[W];exact J.4,λk B hn=>?_⟩;rw[O k<|λe=>hn<|by rwa[e],J.5 k B]
def Vv(F:F?)(b)(a7:E?)(ss:List<|E?)(ts:List<|W?)(n)(w:w?)(hF:∀k,F k->k<w.1.size)(hR:lc w F b a7 ss ts)
  (bp : -9223372036854775808<=n) (bq:n<=9223372036854775807) (h1:gO ss<=536870912) :
  ld prog 107 #[p?<|y? ⟨b,0,x?⟩,n? i? n] w λe w'=>e=e? (n? i? (gI ss n).1)/\
   lc w' (iJ F w w') b a7 (gI ss n).2 ts/\dy F w w':=by
 have HR:=h! hR;let ⟨vB,vS,vT,hh,a8,a9,a',aA⟩:=hR;let ⟨vs,aV,ak,br,ac⟩:=id a';obtain⟨aS,cS,rfl,bs⟩:=dC ak;have bt:=hF b a8;have ad:=dx hh 1;have HH:=h! hh;have aW:=h! a9;have aX:=h! aA;have HOS:=h! ak;have aB:=h! ac;have HZ:J?<|Zip _ vs ss:=⟨aV,ac⟩
 have aj:J? (∀u∈vs,u.oneCell'=t?):=λu hu=>by obtain⟨i,hi,rfl⟩:=ZF.1 hu;obtain⟨u',al,hE⟩:=ac i o!;rw[BY hi]at al;simp only[m?]at al;obtain⟨a,c,e,_⟩:=dK hE.1;rw[al,e];rfl
 let ⟨i8,am,an,ao,ap⟩:=Zz My;have bi:=za ss;clear hR hh a9 aA a' ak ac;by_cases aC:n<0
 .have HU:J?<|gI ss n=(6,ss):=h!<|by unfold gI;rw[if_pos<|.inl aC]
  go_enter rr,p';go_wp2;go_ret;refine⟨dQ (by rw[HU.o];rfl),?_,dy.refl _ _⟩;rw[HU.o];exact iJ.pa HR
 by_cases aD:(l? ss:Int)-1<=n
 .have HU:J?<|gI ss n=(6,ss):=h!<|by unfold gI;rw[if_pos<|.inr aD]
  go_enter rr,p';go_wp2;go_ret;refine⟨dQ (by rw[HU.o];rfl),?_,dy.refl _ _⟩;rw[HU.o];exact iJ.pa HR
 obtain⟨m,rfl⟩:=N? (o!:0<=n);have aq:m+1<l? ss:=o!;let ⟨u0,aY,aZ⟩:=aB.o m o!;let ⟨u1,ba,bc⟩:=aB.o _ aq;have aE:J?<|ss.getD m []=ss[m]:=h!<|by rw[AS,BY o!];rfl
 have aF:J?<|ss.getD (m+1) []=ss[m+1]:=h!<|by rw[AS,BY aq];rfl
 have bu:ss[m].length<=536870912:=by have a1:=qh ss m o!;have a2:=rS ss<|m+1;omega
 have bj:ss[m+1].length<=536870912:=by have a1:=qh ss _ aq;have a2:=rS ss<|m+1+1;omega
 generalize ss[m]=s0 at *;generalize ss[m+1]=s1 at *;obtain⟨bS,oS,rfl,aG⟩:=eM HOS m _ aY;let ⟨bv,bw,aH,aI⟩:=eM HOS _ _ ba;simp only[m?,O!]at aH;obtain⟨rfl,rfl,_⟩:=aH;go_enter rr,p';have aJ:=jB.eo aZ.1;have aK:=jB.eo bc.1;have bk:(m:Int)<(l? ss:Int):=o!;have bl:(m:Int)+1<(l? ss:Int):=o!;have b0:IntKind.i64.wrap _=m+1:=xR _ _ q? o! o!;have ar:J? _:=λW hW=>rV _ _ s0 s1 W (aJ.below hW) (aK.below hW) o! o!;clear aJ aK;go_wp2
 go_region_held (λw'=>C? w' ⟨b,1,x?⟩=y? (.slice (y? ⟨bS,oS,x?⟩) ss.length cS)/\C? w' ⟨bS,oS+m,x?⟩=y? u0/\C? w' ⟨bS,oS+(m+1),x?⟩=y? u1) (go_keep) (first
  |(go_at_call 145;refine(ar _ ?hB).mono ?_;(case hB=>exact(nr _ _).drew);rintro e w1 ⟨u,rfl,av,J⟩;have t1:=Z0 J ad;have t2:=Z0 J aG;have t3:=Z0 J aI))
 obtain⟨au,cu,rfl,b1⟩:=dK av;have ae:B? w w1:=⟨J.1,J.2,J.3,J.4,J.5⟩;have how:R? w1 w.1.size 202 5 _ _ _:=av;have aM:=uS s0 s1;clear av J t2 t3;by_cases af:m=0
 case' pos=>
  have bd:((m:Int)==0)=t?:=beq_iff_eq.2 o!;have aw:J?<|kL ss m=dE (dT s0 s1):=h!<|by unfold kL;rw[if_pos af,aE.o,aF.o]
  go_wp2_with fail;apply (pW _ (dT s0 s1) w1 (jB.eo how) o!).mono;rintro e W2 ⟨uL,rfl,ax,aN⟩;obtain⟨aL,cL,rfl,b2⟩:=dK ax;have U:=ae.trans<|aN.mono ae.4;have aO:(dE<|dT s0 s1).length<=1073741824:=ZE (No _ _) o!;have V:=eH ax ae.4;clear ax aN how af ar aM;generalize dE (dT s0 s1)=M at *
 case' neg=>
  have bd:((m:Int)==0)=f?:=beq_eq_false_iff_ne.2 o!;have aw:J?<|kL ss m=dT s0 s1:=h!<|by unfold kL;rw[if_neg af,aE.o,aF.o]
  have aO:(dT s0 s1).length<=1073741824:=o!;have V:=how;have U:=ae;clear how af ar aM;generalize w1=W2 at *;generalize dT s0 s1=M at *;have aL:=au;generalize be:au=aL at *;generalize aP:cu=cL at *;clear be aP
 all_goals
  go_wp2_with fail;apply (I3 _ M W2 (jB.eo V) aO).mono;rintro e w3 ⟨rfl,hb3⟩;have aa:=U.4;have hb4:=U.trans<|hb3.mono aa;by_cases hg:100<l? M-(dE M).length
  .have HU:J?<|gI ss (m:Int)=(4,ss):=by
    show gI _ _=_;unfold gI;rw[if_neg o!,sd,aw.o,if_pos hg]
   go_wp2;go_ret;refine⟨dQ (by rw[HU.o];rfl),?_,dy.eF hb4⟩;rw[HU.o];exact kH HR hF hb4
  have q1:=Z0 hb4 ad;go_wp2_with (at_builtin;go_must (refine gM _ q? _ _ 118 q? W2.1.size 75 i8 _ 24 oN am an ao ap q? _ _ _ q? (Z9 _ _ _ _) _ (vs.take m) q? ?xa0 ?xa9 ?xa1 ?xa2 ?xa3 ?_))
  case xa0=>exact((Rd.eo HOS).below hb4).take m o!
  case xa9=>intro u hu;exact aj u<|Za hu
  case xa1=>rw[cX];omega
  case xa2=>rw[cX];simp only[la];omega
  case xa3=>exact hb3.4
  intro v1 w4 O bf;have aQ:min m ss.length=m:=Nat.min_eq_left o!;simp only[aQ]at O;have ag:=hb3.grown bf hb3.4 (by simp[wd]);have bg:=ag.4;obtain⟨a4,c4,rfl,b3⟩:=dC O;have q2:=Z0 (U.trans<|ag.mono aa) ad;clear aQ;by_cases hM:0<l? M
  case' pos=>
   go_wp2_with (at_builtin;go_must (refine eu _ q? _ _ 118 q? _ 75 i8 _ 24 oN am an ao ap q? _ _ _ q? (O.alloc _) _ _ q? fF q? ?xb1 ?xb2 ?xb3 ?_))
   case xb1=>omega
   case xb2=>unfold la;omega
   case xb3=>first|omega|(simp;omega)
   intro v2 w5 B bh _;have hB5:=(ag.alloc bg _).grown bh j!<|λb hb=>(O.lt b hb).1;obtain⟨a5,c5,rfl,b4⟩:=dC B;obtain⟨X,hX⟩:∃X,X=[Value.slice aL M.length cL]:=⟨_,q?⟩;obtain⟨Y,hY⟩:∃Y,Y=[M]:=⟨_,q?⟩
   have HX:J? (∀W',B? W2 W'->Zip (kX W'<|iJ F w W') X Y):=by rw[hX,hY];exact λW' h=>Zip.one ⟨dJ (eH V<|ZP _)<|λk hk=>h.5 k (V.lt k hk).2,λk hk=>Or.inr ⟨(V.lt k hk).1,AT (V.lt k hk).2 h.4⟩⟩
   have HY:J?<|(if 0<M.length then [M]else [])=Y:=by rw[hY];exact if_pos hM
   rw[<-hX]at B;clear hX hY;obtain⟨N,hN⟩:∃N,N=m+1:=⟨_,q?⟩;have b5:N<=l? ss:=o!;rw[<-hN]at B⊢;clear hN
  case' neg=>
   have hB5:=ag;obtain⟨X,hX⟩:∃X:L?,X=[]:=⟨_,q?⟩;obtain⟨Y,hY⟩:∃Y:List<|E?,Y=[]:=⟨_,q?⟩;have HX:J? (∀W',B? W2 W'->Zip (kX W'<|iJ F w W') X Y):=by rw[hX,hY];exact λW' _=>Zip.nil _
   have HY:J?<|(if 0<M.length then [M]else [])=Y:=by rw[hY];exact if_neg hM
   have B:R? w4 W2.1.size 75 1 (.slice a4 m c4) m<|vs.take m++X:=by rwa[hX,Z6]
   clear hX hY;generalize w4=w5 at *
  all_goals
   have q3:=Z0 (U.trans<|hB5.mono aa) ad;by_cases ay:cS=m+2
   case' pos=>subst ay
   case' neg=>have bm:¬m+2=cS:=λh=>ay h.symm
   all_goals
    go_wp2_with (at_builtin;go_must (refine gM _ q? _ _ 118 q? _ 75 i8 _ 24 oN am an ao ap q? _ _ _ q? B _ (vs.drop<|m+2) q? ?xc0 ?xc9 ?xc1 ?xc2 ?xc3 ?_))
    case xc0=>go_light;simp only[Act.eval,Array.getD_eq_getD_getElem?];have:=((Rd.eo HOS).below<|U.trans<|hB5.mono aa).drop (m+2) o!;(first|rw[if_pos rfl]at this|rw[if_neg ay]at this);first|simpa[wn]using this|(rw[(o!:l? ss-(m+2)=0)]at this;simpa[wn]using this)
    case xc9=>intro u hu;exact aj u<|List.mem_of_mem_drop hu
    case xc1=>rw[u?];omega
    case xc2=>rw[u?];simp only[la];omega
    case xc3=>exact hB5.4
    intro v3 w6 ab aR;have az:=hB5.grown aR hB5.4<|λb hb=>(B.lt b hb).1;have a0:=U.trans<|az.mono aa;have hold:∀u l,kX w F u l->kX w6 (iJ F w w6) u l:=λu l h=>h.stay (λk hk=>a0.5 k<|hF k hk)<|λ_ hk=>Or.inl hk;have ah:=((HZ.take m).mono hold).append<|(HX w6 az).append<|(HZ.drop<|m+2).mono hold;obtain⟨K,a3⟩:∃K,R? w6 _ 75 1 v3 K _:=⟨_,ab⟩;obtain⟨a6,c6,rfl,_⟩:=dC a3
    have aT:R? w6 w.1.size 75 1 (.slice a6 K c6) (ss.take m++(Y++ss.drop (m+2))).length<|vs.take m++(X++vs.drop (m+2)):=by rw[<-ah.1,show(vs.take m++(X++vs.drop _)).length=K by have:=a3.1;omega];exact eH a3 aa
    have ai:=Jb hF HH a8 aW aX a0 aT ah.1 ah.2;have bn:=dx ai.1 1;have bo:=dO ai.1 1;have aU:=h! ai.2
    have HU:J?<|gI ss (m:Int)=(0,ss.take m++(Y++ss.drop (m+2))):=by show gI _ _=_;unfold gI;rw[if_neg o!,sd,aw.o,if_neg hg,HY.o]
    clear ai aT ah hold ab aR az a0;go_wp2;go_ret;refine⟨dQ (by rw[HU.o];rfl),?_⟩;rw[HU.o];exact aU
def Ye(f:mm)(V:v?->V?)(s:Sg)(v:v?)(s':Sg):Prop:=∀(w0 w:w?)(O U:F?)(b:Nat),AW w0 w O U b s.b s.s s.t->
 ld prog f (V<|p?<|y? ⟨b,0,x?⟩) w λe w'=>e=e? v/\∃B J,AW w0 w' B J b s'.b s'.s s'.t/\St w w' O U B J
def XX(f:mm)(B:v?->V?)(s:Sg)(v:v?)(s':Sg):Prop:=∀(w:w?)(F:F?)(b:Nat),lc w F b s.b s.s s.t->(∀k,F k->k<w.1.size)->Inv s.b s.s->
 ld prog f (B<|p?<|y? ⟨b,0,x?⟩) w λe w'=>e=e? v/\lc w' (iJ F w w') b s'.b s'.s s'.t/\dy F w w'/\Inv s'.b s'.s
def tq{B:Type}{l:List B}{a}(h):(l.set i a)[i]=a:=List.getElem_set_self h
def PS.opX{c O f}{V:v?->V?}(h:PS o p c J I P x0 y2 U x1<|x3.set i ⟨y5,O,y0,z2⟩)(hi:i<l? x3)(hX:Ye f V y0 x5 z1) :
  ld prog f (V<|p?<|y? ⟨y5,0,x?⟩) p λe w'=>e=e? x5/\∃W,PS o w' W J I P x0 y2 U x1 (x3.set i ⟨y5,O,z1,z2⟩)/\Zc c p W w':=by
 have B:i<(x3.set i ⟨y5,O,y0,z2⟩).length:=by rwa[cK]
 let ⟨F1,F2,Y,hc⟩:=h.x i B;rw[tq]at Y;apply (hX _ _ _ _ _ Y).mono;rintro e w' ⟨rfl,aa,ab,h2,hs⟩;refine⟨q?,?_⟩;have h3:=h.Zb5 B (by rwa[tq]) hc (by rwa[tq]) hs;simp only[tq,gv]at h3;exact h3
def PS.opY{c O f}{W:v?->V?}(h:PS o p c J I P x0 y2 U x1<|x3.set i ⟨y5,O,z2,y0⟩)(hi:i<l? x3)(hY:XX f W y0 x5 z1) :
  ld prog f (W<|p?<|y? ⟨O,0,x?⟩) p λe w'=>e=e? x5/\∃Y,PS o w' Y J I P x0 y2 U x1 (x3.set i ⟨y5,O,z2,z1⟩)/\Zc c p Y w':=by
 have B:i<(x3.set i ⟨y5,O,z2,y0⟩).length:=by rwa[cK]
 let ⟨F,h1,hc,hI⟩:=h.y i B;rw[tq]at h1 hI;apply (hY _ _ _ h1 (λk hk=>(hc k hk).1) hI).mono;rintro e w' ⟨rfl,h2,hs,V⟩;refine⟨q?,?_⟩;have h3:=h.Zb1 B hc (by rwa[tq]) hs V;simp only[tq,gv]at h3;exact h3
def ZbA{s}(n t:b?)(x y)(J:n.size<=la)(O:t.size<=la):Ye 38 (λp=>#[p,s? n,s? t,n? i? x,n? i? y]) s (n? i? (kM s.b s.s n.1.1 t.1.1 x y).1) ⟨(kM s.b s.s n.1.1 t.1.1 x y).2,s.s,s.t⟩:=
 λ_ _ _ U _ h=>(h.ups n t x y J O).mono λ_ _ ⟨V,B,W,Y⟩=>⟨V,B,U,W,Y⟩
def ZbM{s}(n:b?)(J:n.size<=la):Ye 37 (λp=>#[p,s? n]) s (n? i? (mn s.b s.s n.1.1).1) ⟨(mn s.b s.s n.1.1).2,s.s,s.t⟩:=
 λ_ _ _ O _ h=>(h.del n J).mono λ_ _ ⟨U,B,V,W⟩=>⟨U,B,O,V,W⟩
def YR{s}:Ye 29 (λp=>#[p]) s (n? i? (fZ s.b s.s).1) ⟨(fZ s.b s.s).2.1,(fZ s.b s.s).2.2,s.t⟩:=
 λ_ _ _ J _ h=>h.flush.mono λ_ _ ⟨O,B,U,V⟩=>⟨O,B,J,U,V⟩
def Y0{s}(n):Ye 39 (λp=>#[p,n? i? n]) s (n? i? (gI s.s n).1) ⟨s.b,(gI s.s n).2,s.t⟩:=
 λ_ _ _ J _ h=>(h.merge n).mono λ_ _ ⟨O,B,U,V⟩=>⟨O,B,J,U,V⟩
def Yc{s}(n:b?)(J:n.size<=la):Ye 25 (λp=>#[p,s? n]) s (n? i? (iT s.b s.s n.1.1).1) ⟨s.b,(iT s.b s.s n.1.1).2,s.t⟩:=
 λ_ _ _ O _ h=>(h.load n J).mono λ_ _ ⟨U,B,V,W⟩=>⟨U,B,O,V,W⟩
def Za0{s}(n):Ye 26 (λp=>#[p,n? i? n]) s (.tuple #[s? ⟨(jW s.s n).1.toArray⟩,n? i? (jW s.s n).2]) s:=
 λ_ _ J O _ h=>(h.Zb4 n).mono λ_ _ ⟨U,B⟩=>⟨U,J,O,B▸h,B▸.same (.refl _)⟩
def rB(h:Inv y0.b y0.s):gO y0.s<=536870912/\l? y0.b<=536870912:=by have B:=xg h;have J:=pf h;simp[gO]at B⊢;omega
def ZbL{s}(n t:b?)(x y)(J:n.size<=la)(O:t.size<=la):XX 103 (λp=>#[p,s? n,s? t,n? i? x,n? i? y]) s (n? i? (kM s.b s.s n.1.1 t.1.1 x y).1) ⟨(kM s.b s.s n.1.1 t.1.1 x y).2,s.s,s.t⟩:=
 λ_ _ _ h hF B=>(QS _ _ _ _ _ n t x y _ hF h J O (rB B).1 (rB B).2).mono λ_ _ ⟨U,V,W⟩=>⟨U,V,W,O9 B _ _ _ _⟩
def ZbI{s}(n:b?)(J:n.size<=la):XX 105 (λp=>#[p,s? n]) s (n? i? (mn s.b s.s n.1.1).1) ⟨(mn s.b s.s n.1.1).2,s.s,s.t⟩:=
 λ_ _ _ h hF B=>(Ph _ _ _ _ _ n _ hF h J (rB B).1 (rB B).2).mono λ_ _ ⟨O,U,V⟩=>⟨O,U,V,Ou B _⟩
def Yy{s}:XX 106 (λp=>#[p]) s (n? i? (fZ s.b s.s).1) ⟨(fZ s.b s.s).2.1,(fZ s.b s.s).2.2,s.t⟩:=
 λ_ _ _ h hF B=>(UT _ _ _ _ _ _ hF h (rB B).2).mono λ_ _ ⟨J,O,U⟩=>⟨J,O,U,Ej B⟩
def Yl{s}(n)(O : -9223372036854775808<=n)(B:n<=9223372036854775807):XX 107 (λp=>#[p,n? i? n]) s (n? i? (gI s.s n).1) ⟨s.b,(gI s.s n).2,s.t⟩:=
 λ_ _ _ h hF J=>(Vv _ _ _ _ _ n _ hF h O B (rB J).1).mono λ_ _ ⟨B,U,V⟩=>⟨B,U,V,EG J _⟩
def V5:Sg:=⟨[],[],[]⟩
def PS.made{w1 w2 c b o}(h:PS p x4 c f I x0 x5 J U x1 x3)(ag:B? x4 w1)(hx:AW x4 w1 x9 y7 b [] [] [])
  (ho:R? w2 0 122 2 P (l? x3+1)<|oP x3++[p?<|y? ⟨b,0,x?⟩,p?<|y? ⟨w1.1.size,0,x?⟩])
  (hg:((w1.alloc<|c? #[tD,tD,tD] 120).alloc o).grownBy w2<|O? I) (B:O? P=O? I\/O? P=y? (w1.1.size+2)) :
  w2.1[f]?=y? (c? #[I,x0,x5,n? i? J] 74 (0,0))/\
  ∃c',PS p (w2.setCell ⟨f,0,x?⟩ P) c' f P x0 x5 J U x1<|x3++[⟨b,w1.1.size,V5,V5⟩]:=by
 have ao:=ag.4;have ap:w1.1.size+2<=w2.1.size:=by have:=hg.4;simpa using this
 have O:=h.1;have aj:=O.bz;have Y:=λk B=>(O.4.lt k B).2;let ⟨D,hD,an,ak⟩:=O.2
 have ad:∀k,k<w1.1.size->O? I≠y? k->w2.1[k]?=w1.1[k]?:=λk B ah=>by rw[hg.5 k j!<|λe=>ah e.symm,e! _ _ _ j!,e! _ _ _ B]
 have hold:∀k,k<x4.1.size->O? I≠y? k->w2.1[k]?=x4.1[k]?:=λk B ah=>by rw[ad k o! ah,ag.5 k B]
 have ai:=(hold f aj<|fC O.1 O.4 d!).trans O.1;have V:∀k,k≠f->(w2.setCell ⟨f,0,x?⟩ P).1[k]?=w2.1[k]?:=λk B=>ZH _ _ _ _ B;have aq:(w2.setCell ⟨f,0,x?⟩ P).1.size=w2.1.size:=by simp[m4]
 obtain⟨c',ac⟩:∃c':Nat->Nat,c'=λk=>if k<x4.1.size then c k else if k<w1.1.size then 2*l? x3+2 else if k=w1.1.size then 2*l? x3+3 else 1:=⟨_,q?⟩
 have c0:∀k,k<x4.1.size->c' k=c k:=λk B=>by rw[ac];exact if_pos B
 have hf:D9 c c' 1 x4<|w2.setCell ⟨f,0,x?⟩ P:=⟨c0,hg.1.trans ag.1,o!,λk B hn=>by rw[V k<|λe=>hn<|e▸O.5,hold k B λe=>hn<|O.6 k e]⟩;have hl:=h.Sk hf o!;have ae:∀k,O? P=y? k->O? I=y? k\/k=w1.1.size+2:=λk aa=>B.elim (λh=>.inl<|h▸aa) λh=>.inr (by rw[h]at aa;exact(sz aa).symm);have e1:(x3++[(⟨b,w1.1.size,V5,V5⟩:DJ)]).length=l? x3+1:=i!;refine⟨ai,c',⟨?_,h.J5 c0,hl,λi hi=>?_,λi hi=>?_⟩⟩;have al:=λk B=>(hD.1.lt k B).2;have am:=λk B=>(hD.2.lt k B).2;have W:∀k,k<x4.1.size->O? I≠y? k->k≠f->(w2.setCell _ P).1[k]?=x4.1[k]?:=λk B h1 h2=>by rw[V k h2,hold k B h1]
 refine⟨by rw[heap_set ai];rfl,⟨D,hD.stay o! (λk hd=>W k (hD.6 k hd) (λe=>ak k e hd)<|λe=>hD.5<|e▸hd) (λk hv=>W k (al k hv) (λe=>fX O.4 hD.1 d! k e hv)<|λe=>fD O.1 hD.1 d!<|e▸hv)<|λk hv=>W k (am k hv) (λe=>fX O.4 hD.2 d! k e hv)<|λe=>fD O.1 hD.2 d!<|e▸hv,λk B=>(c0 k<|hD.6 k B).trans<|an k B,λk B hd=>?_⟩,O.3,?_,(c0 f aj).trans O.5,λk B=>?_,λk B=>(c0 k<|al k B).trans<|O.7 k B,λk B=>(c0 k<|am k B).trans<|O.8 k B⟩;obtain h1|h1:=ae k B
 exact ak k h1 hd;have:=hD.6 k hd;omega;rw[e1,show oP _=oP x3++[p?<|y? ⟨b,0,x?⟩,p?<|y? ⟨w1.1.size,0,x?⟩] by simp[oP]];exact dJ ho λk aa=>V k λe=>fC ai ho d!<|e▸aa;obtain h1|h1:=ae k B
 exact(c0 k<|Y k h1).trans<|O.6 k h1;subst h1;rw[ac];simp only;rw[if_neg o!,if_neg o!,if_neg o!];by_cases ab:i<l? x3;rw[Zx ab];exact(h.x i ab).stay hf o! hl;obtain rfl:i=l? x3:=o!;rw[K!<|Zu _];simp only[i1,Q!];have hb:=λk (B:x9 k\/y7 k)=>B.elim (hx.2 k)<|hx.3 k;have af:=λk (B:x9 k\/y7 k)=>B.elim (hx.j.1 k)<|hx.j.2 k;refine⟨x9,y7,⟨hx.j.stay o! λk B=>?_,λk B=>ZE h.3.2<|hx.2 k B,λk B=>ZE h.3.2<|hx.3 k B,hl⟩,λk B=>?_⟩;have:=hb k B;rw[V k o!,ad k (af k B) λe=>by have:=Y k e;omega];have:=hb k B;rw[ac];simp only;rw[if_neg o!,if_pos<|af k B];by_cases ab:i<l? x3;rw[Zx ab];exact(h.y i ab).stay hf o!;obtain rfl:i=l? x3:=o!;rw[K!<|Zu _];simp only[i1,Q!];refine⟨λk=>k=w1.1.size,⟨tD,tD,tD,by rw[V _ o!];exact(by rw[hg.5 _ j! (λe=>by have:=Y _ e.symm;omega),e! _ _ _ i!];show(w1.1.push _)[w1.1.size]?=_;rw[kr,if_pos rfl]),q?,⟨Z9 _ _ _ _,λk B=>by simp[tD,wd]at B⟩,⟨[],q?,Z9 _ _ _ _,λk B=>by simp[tD,wd]at B,λi hi=>by simp[V5]at hi⟩,⟨[],q?,Z9 _ _ _ _,λk B=>by simp[tD,wd]at B,λi hi=>by simp[V5]at hi⟩⟩,λk B=>?_,OU⟩;have e:k=w1.1.size:=B;subst e;refine⟨o!,?_⟩;rw[ac];simp only;rw[if_neg o!,if_neg o!];simp
def SJ{c}(h:PS o p c f I P x0 J U x1 x3)(an:l? x3<=10) :
  ld prog 40 #[p?<|y? ⟨f,0,x?⟩] p λe w'=>e=e? (.bool t?)/\∃(c':Nat->Nat)(Y:v?)(bx yb:Nat),PS o w' c' f Y P x0 J U x1<|x3++[⟨bx,yb,V5,V5⟩]:=by
 obtain⟨i3,ag,ah,ai,aj⟩:=Zz S3;have HG:=h! h;have ak:=h.1.bz;clear h;go_enter func40,ntmps40;go_wp2_with fail;apply (ZbF p).mono;rintro e w1 ⟨bx,F1,F2,rfl,aa,O⟩;have ab:=(O.5 f ak).trans HG.1.1;have B:=dJ HG.1.4<|λk hk=>O.5 k (HG.1.4.lt k hk).2;have ao:=dx ab 0;have ac:=h! aa;clear aa ab;go_wp2_with (at_builtin;go_must (refine wH _ q? _ _ 71 q? 0 122 i3 _ 2 16 underlying71 ag ah ai aj q? d! _ _ _ q? ((B.alloc _).alloc _) _ 1 1 [p?<|y? ⟨bx,0,x?⟩,p?<|y? ⟨w1.1.size,0,x?⟩] q? q? d! ?c0 ?c1 ?c2 ?c3 ?c4 ?_))
 case c0=>exact MK i!
 case c1=>intro u hu;simp only[Zm,q!,or_false]at hu;obtain rfl|rfl:=hu<;>rfl
 case c2=>unfold la;omega
 case c3=>omega
 case c4=>exact ZP _
 intro Y w2 V ad ae;obtain⟨a2,c2,rfl,ap⟩:=dK V;obtain⟨W,c',af⟩:=HG.made O ac V ad ae;have al:=dx W 0;have am:=dO W 0;have HM:=h! af;clear W af V ad ae O B ac HG;go_wp2;go_ret;exact⟨q?,_,_,_,_,HM⟩
def T6{c}{xs:L?}(h:PS o p c f I P x0 J U x1 x3)(hl:pP p x4)(hu:R? x4 p.1.size 9 1 x5 y2 xs)(af:J<=1073741824)(ag:l? U<=17179869184)(hn:y2<=1000) :
  ld prog 113 #[p?<|y? ⟨f,0,x?⟩,x5] x4 λe w'=>e=e? (.tuple #[])/\pP o w'/\∃c' aa ab V ac,PS o w' c' f I aa ab (J+1) V ac x3/\l? V=l? U+9:=by
 obtain⟨D,hD,ah,ai⟩:=h.1.2;have hb:=hl.3;have ae:=λk B=>(hD.1.lt k B).2;have ad:=λk B=>(hD.2.lt k B).2;refine(SY f D I P x0 x5 U x1 J y2 xs x4 ((hb f h.1.bz).trans h.1.1) (hD.stay hl.2 (λk B=>hb k<|hD.6 k B) (λk B=>hb k<|ae k B) λk B=>hb k<|ad k B) h.1.3 (eH hu<|ZP _) (λk B hd=>?_) (λk B hm=>?_) af ag hn).mono ?_;have:=(hu.lt k B).1;have:=hD.6 k hd;omega
 .have:=(hu.lt k B).1;have:=ad k hm;omega
 rintro e w' ⟨rfl,D',aa,ab,V,ac,q1,q2,q3,q4,q5,q6,q7,q8⟩;have hz:=hl.2;have ak:=q5.4;have W:∀k,O? x5=y? k->p.1.size<=k:=λk B=>(hu.lt k B).1;have Y:∀k,p.1.size<=k->vF c _ 1 k=1:=λk B=>nC B
 have hf:D9 c (vF c _ 1) 1 p w':=⟨nE,q5.1.trans hl.1,o!,λk B hn=>by
  rw[q5.5 k o! ?_,hb k B];rintro(e|e|e|e);exact hn<|e▸h.1.5;exact hn<|h.1.7 k e;exact hn<|h.1.8 k e
  have:=W k e;omega⟩
 refine⟨q?,h.Sk hf o!,_,aa,ab,V,ac,h.ZbN hf ⟨q1,⟨D',q2,λk B=>?_,λk B hd=>?_⟩,q3,?_,(jm h.1.bz).trans h.1.5,λk B=>(jm (h.1.4.lt k B).2).trans<|h.1.6 k B,λk B=>?_,λk B=>?_⟩,q4⟩;obtain O|O|O:=q6 k B
 rw[jm<|hD.6 k O];exact ah k O;exact Y k<|W k O;exact Y k o!;have:=(h.1.4.lt k B).2;obtain O|O|O:=q6 k hd
 exact ai k B O;have:=W k O;omega;omega;refine dJ h.1.4 λk B=>?_;have aj:=(h.1.4.lt k B).2;rw[q5.5 k o! ?_,hb k aj];rintro(e|e|e|e);exact fC h.1.1 h.1.4 d!<|e▸B;exact fX h.1.4 hD.1 d! k B e;exact fX h.1.4 hD.2 d! k B e;have:=W k e;omega;obtain O|O:=q7 k B
 rw[jm<|ae k O];exact h.1.7 k O;exact Y k o!;obtain O|O:=q8 k B
 rw[jm<|ad k O];exact h.1.8 k O;exact Y k o!
structure VG(N M K W:Int)(S T:b?):Prop where
 n0 : -9223372036854775808<=N
 n1:N<=9223372036854775807
 m0 : -9223372036854775808<=M
 m1:M<=9223372036854775807
 k0 : -9223372036854775808<=K
 k1:K<=9223372036854775807
 w0 : -9223372036854775808<=W
 w1:W<=9223372036854775807
 s:S.size<=la
 t:T.size<=la
def PS.two{w c}(h:PS x4 w c f I P x0 J U x1 x3)(o p):∃B,PS x4 ((w.alloc o).alloc p) B f I P x0 J U x1 x3/\B w.1.size=0/\B (w.1.size+1)=0/\((w.alloc o).alloc p).1[w.1.size]?=y? o/\((w.alloc o).alloc p).1[w.1.size+1]?=y? p/\w.1.size+2<=((w.alloc o).alloc p).1.size/\pP w ((w.alloc o).alloc p):=by have O:pP w<|(w.alloc o).alloc p:=.of<|((nr _ _).alloc (Zu _) _).alloc i! _;refine⟨_,h.same O 0,nC<|Zu _,nC o!,?_,?_,i!,O⟩;rw[e! _ _ _ i!];exact sK _ _;have:=sK (w.alloc o) p;simpa using this
def PS.ma{c}(h:PS o p c f I P x0 J U x1 x3)(hi)(B:x3[i].x=y0)(O:x3[i].y=y0):PS o p c f I P x0 J U x1<|x3.set i ⟨x3[i].1,x3[i].2,y0,y0⟩:=by
 have e:(⟨x3[i].1,x3[i].2,y0,y0⟩:DJ)=x3[i]:=by generalize x3[i]=z at *;obtain⟨a,b,x,y⟩:=z;simp only at B O⊢;rw[B,O]
 rwa[e,List.set_getElem_self]
def Xw{c K aL nL cL made}(h:PS o p c f I P x0 J U x1 x3)(hi)(W:x3[i].x=y0)(hy:x3[i].y=y0)(B:VG z4 z5 K z3 x2 y3)(O:2<=y6)(h5:y6<=5) :
  ld prog 76 #[.agg #[p?<|y? ⟨x3[i].1,0,x?⟩,p?<|y? ⟨x3[i].2,0,x?⟩],.agg<|GQ y6 z3 z4 z5 K x2 y3 (.slice aL nL cL) made] p λe w'=>e=e? (.bool t?)/\∃c' s',s'.t=y0.t/\PS o w' c' f I P x0 J U x1 (x3.set i ⟨x3[i].1,x3[i].2,s',s'⟩):=by
 have hk:y6=2\/y6=3\/y6=4\/y6=5:=o!;let ⟨c1,h1,z1,z2,V,p2,aa,_⟩:=(h.ma hi W hy).two (c? #[p?<|y? ⟨x3[i].1,0,x?⟩,p?<|y? ⟨x3[i].2,0,x?⟩] 122)<|c? (GQ y6 z3 z4 z5 K x2 y3 (.slice aL nL cL) made) 77;generalize x3[i].1=b1 at *;generalize x3[i].2=b2 at *;have H1:=h! h1;clear h h1 W hy O h5;have d1:=dx V;have d2:=dx p2;unfold GQ at *;obtain rfl|rfl|rfl|rfl:=hk
 case' inl=>have X:=ZbA (s:=y0) x2 y3 z4 z5 B.s B.t;have Y:=ZbL (s:=y0) x2 y3 z4 z5 B.s B.t
 case' inr.inl=>have X:=ZbM (s:=y0) x2 B.s;have Y:=ZbI (s:=y0) x2 B.s
 case' inr.inr.inl=>have X:=YR (s:=y0);have Y:=Yy (s:=y0)
 case' inr.inr.inr=>have X:=Y0 (s:=y0) z4;have Y:=Yl (s:=y0) z4 B.1 B.2
 all_goals
  have HX:=h! X;have HY:=h! Y;clear X Y;go_enter func76,ntmps76;go_wp2_with fail;apply (H1.opX hi HX).mono;rintro e w1 ⟨rfl,c2,O,z⟩;have q1:=dx<|(z.2 _ o! z1).1.trans V;have q2:=dx<|(z.2 _ o! z2).1.trans p2;have H2:=h! O;clear O z d1 d2 V p2 H1;go_wp2_with fail;apply (H2.opY hi HY).mono;rintro e w2 ⟨rfl,c3,h3,_⟩;have H3:=h! h3;clear h3 H2 q1 q2;go_wp2_with fail;apply g!<|uR _ _;go_wp2;go_ret;refine⟨dW i!,_,_,?_,H3⟩;rfl
def CB(w:w?)(B:Nat)(S:b?)(st:Option Wd)(J:v?):Prop:=
 ∃p:Nat,w.1[B]?=y? (c? #[s? S,n? i? p,.bool st.isNone,J] 259 (0,0))/\p<=S.size/\∀r,st=y? r->S.1.1.drop p=r
def iy(n:Nat):Option Wd->Wd×Option Wd
 |none=>([],x?)
 |some r=>if n<=r.length then(r.take n,y?<|r.drop n)else([],x?)
def Fo(B)(S:b?)(st:Option Wd)(vA)(n:Nat)(w)(h:CB w B S st vA)(hS:S.size<=1048576)(hn:n<=16777216) :
  ld prog 205 #[p?<|y? ⟨B,0,x?⟩,n? i? n] w λe w'=>e=e? (s? ⟨(iy n st).1.toArray⟩)/\CB w' B S (iy n st).2 vA/\dy (· = B) w w'/\w'.1.size=w.1.size:=by
 obtain⟨p,U,hp,hr⟩:=h;have c0:C? w ⟨B,0,x?⟩=y? (s? S):=by rw[dx U];rfl
 have c1:C? w ⟨B,1,x?⟩=y? (n? i? p):=by rw[dx U];rfl
 have c2:C? w ⟨B,2,x?⟩=y? (.bool st.isNone):=by rw[dx U];rfl
 have f1:=dO U 1;have f2:=dO U 2;have HH:=h! U;have HR:=h! hr;clear U hr
 cases st with
 |none=>
  have af:C? w _=y? (.bool t?):=c2;clear c2;go_enter rc,px;go_wp2_with fail;go_quiet (fail);go_wp2;go_ret
  have V:((w.drewN nq).setCell ⟨B,2,x?⟩<|.bool t?).1[B]?=y? (c? #[s? S,n? i? p,.bool t?,vA] 259 (0,0)):=by rw[heap_set (w:=w.drewN nq) HH.o];simp
  have J:=jq (w:=w.drewN nq) (o:=2) (v:=.bool t?) (F:=(· = B)) rfl;exact⟨q?,⟨p,V,hp,λr h=>by cases h⟩,⟨J.1,J.2,J.3,J.4,J.5⟩,by simp[m4,m7]⟩
 |some r=>
  have e:=HR.o r rfl;have W:l? r=S.size-p:=by rw[<-e];simp
  have HE:=h! e;have ag:C? w _=y? (.bool f?):=c2;have ah:IntKind.i64.wrap ((S.size:Int)-(p:Int))=(S.size:Int)-(p:Int):=by simp only[X?];omega
  clear c2 e HR;by_cases O:n<=l? r
  .have aa:¬(S.size:Int)-(p:Int)<(n:Int):=o!;have ab:IntKind.i64.wrap ((p:Int)+(n:Int))=((p+n:Nat):Int):=by simp only[X?];omega
   have ac:IntKind.i64.wrap ((p:Int)+(n:Int)-(n:Int))=(p:Int):=by simp only[X?];omega
   have ad:(p:Int)<=((p+n:Nat):Int):=o!;have ae:((p+n:Nat):Int)<=(S.size:Int):=o!;have HT:J?<|iy n (y? r)=(r.take n,y?<|r.drop n):=h!<|by simp[iy,O]
   have Y:p+n<=S.size:=o!;clear O W;go_enter rc,px;go_wp2_with fail;go_quiet (fail);revert nq;intro k0;go_wp2_with fail;go_quiet (fail);go_wp2;go_ret
   have V:((w.drewN k0).setCell ⟨B,1,x?⟩<|n? i?<|(p:Int)+(n:Int)).1[B]?=y? (c? #[s? S,n? i? ((p+n:Nat):Int),.bool f?,vA] 259 (0,0)):=by rw[heap_set (w:=w.drewN k0) HH.o];simp
   have J:=jq (w:=w.drewN k0) (o:=1) (v:=n? i?<|p+n) (F:=(· = B)) rfl;rw[HT.o];refine⟨?_,⟨p+n,V,Y,λr' h=>?_⟩,⟨J.1,J.2,J.3,J.4,J.5⟩,by simp[m4,m7]⟩;show Ending.returned (s?<|S.extract p<|p+n)=_;rw[FI,HE.o]
   cases h;rw[<-HE.o,List.drop_drop]
  have aa:(S.size:Int)-(p:Int)<(n:Int):=o!;have HT:J?<|iy n (y? r)=([],x?):=h!<|by simp[iy,O]
  clear O W;go_enter rc,px;go_wp2_with fail;go_quiet (fail);go_wp2;go_ret
  have V:((w.drewN nq).setCell ⟨B,2,x?⟩<|.bool t?).1[B]?=y? (c? #[s? S,n? i? p,.bool t?,vA] 259 (0,0)):=by rw[heap_set (w:=w.drewN nq) HH.o];simp
  have J:=jq (w:=w.drewN nq) (o:=2) (v:=.bool t?) (F:=(· = B)) rfl;rw[HT.o];exact⟨q?,⟨p,V,hp,λr h=>by cases h⟩,⟨J.1,J.2,J.3,J.4,J.5⟩,by simp[m4,m7]⟩
def tB(l:Wd):Nat:=l.foldl (λn c=>256*n+c.toNat) 0
def Ri(l)(c):tB (l++[c])=256*tB l+c.toNat:=by unfold tB;rw[b!];rfl
def Er(l:Wd)(k)(h:k<l? l):tB (l.take<|k+1)=256*tB (l.take k)+(l.getD k 0).toNat:=by rw[IS h,Ri,AS,BY h];rfl
def FD(l:Wd):∀k,k<=l? l->tB (l.take k)<256 ^ k:=by
 intro k;induction k with
 |zero=>intro _;simp[tB]|succ k B=>intro h;have J:=B o!;rw[Er l k o!,i2];have:=(l.getD k 0).toNat_lt;omega
def uZ(n)(st):(iy n st).1.length<=n:=by
 cases st with
 |none=>simp[iy]|some r=>by_cases h:n<=l? r;simp[iy,h];simp[iy,h]
def Hy(B)(S:b?)(st:Option Wd)(vA)(n:Nat)(w)(h:CB w B S st vA)(hS:S.size<=1048576)(hn:n<=3) :
  ld prog 204 #[p?<|y? ⟨B,0,x?⟩,n? i? n] w λe w'=>e=e? (n? i?<|tB (iy n st).1)/\CB w' B S (iy n st).2 vA/\dy (· = B) w w'/\w'.1.size=w.1.size:=by
 have U:=Fo B S st vA n w h hS o!;have Y:=uZ n st;obtain⟨T,hT⟩:∃T,T=iy n st:=⟨_,q?⟩;rw[<-hT]at U Y⊢;obtain⟨J,aa⟩:=T;simp only at U Y⊢;have ab:(⟨a? J⟩:b?).size=l? J:=by show J.toArray.size=_;simp
 have V:J? (∀(k:Nat)(h:k<(⟨a? J⟩:b?).size),(⟨a? J⟩:b?)[k]=J.getD k 0):=λk h=>(ir _ k h).symm;generalize (⟨a? J⟩:b?)=bB at *;clear h hT;go_enter func204,ntmps204;go_wp2_with fail;apply U.mono;rintro e w1 ⟨rfl,hR,hF,hz⟩;have HR:=h! hR;have HF:=h! hF;have HZ:=h! hz;clear U hR hF hz;go_wp2_with fail;go_loopw [6,7] (λu i wr=>∃k:Nat,k<=l? J/\i=n? i? k/\u=n? i? (tB (J.take k))/\wr=w1) (λ_ i _=>l? J-(intOf i).toNat);exact⟨0,ZP _,q?,q?,q?⟩;obtain⟨k,hk,rfl,rfl,rfl⟩:=hrel;by_cases W:k<l? J
 .have O:(k:Int)<(l? J:Int):=o!;have hg:=V.o k o!;have HN:=h!<|Er J k W
  have ac:tB (J.take k)<65536:=by have h1:=FD J k hk;have h2:256 ^ k<=256 ^ 2:=hH d! o!;omega
  have ad:=(J.getD k 0).toNat_lt;generalize tB (J.take k)=N at *;generalize J.getD k 0=c at *;go_wp2;go_roundw
  .exact⟨k+1,o!,by go_num,by rw[HN.o];go_num,t!⟩
  exact M!
 have HE:J?<|J.take k=J:=If o!;have O:¬(k:Int)<(l? J:Int):=o!;go_wp2;go_ret;exact⟨dQ<|by rw[HE.o],HR,HF,HZ⟩
def eU(k:Nat)(st:Option Wd):Nat×Option Wd:=(tB (iy k st).1,(iy k st).2)
def fe(st:Option Wd):Wd×Option Wd:=iy (eU 1 st).1 (eU 1 st).2
def qG(k):eU k x?=(0,x?):=rfl
def KT:fe x?=([],x?):=rfl
def uN(B):eU 1 (y? B)=match rdNum B with
  |some x=>(x.1,y? x.2)
  |none=>(0,x?):=by
 cases B with
 |nil=>rfl|cons b r=>simp[eU,iy,rdNum,tB]
def OT(B):eU 3 (y? B)=match fA B with
  |some x=>(x.1,y? x.2)
  |none=>(0,x?):=by
 match B with
 |[]=>rfl|[a]=>simp[eU,iy,fA,tB]|[a,b]=>simp[eU,iy,fA,tB]|a::b::c::r=>simp[eU,iy,fA,tB];omega
def A9(B):fe (y? B)=match gL B with
  |some x=>(x.1,y? x.2)
  |none=>([],x?):=by
 unfold fe gL;rw[uN]
 cases h:rdNum B with
 |none=>rfl|some x=>simp only[Zf];unfold qV;by_cases J:x.1<=l? x.2;simp[iy,J];simp[iy,J]
def rO(k)(st)(J:k<=3):(eU k st).1<16777216:=by have B:=FD (iy k st).1 _<|Zu _;rw[o?]at B;have O:=uZ k st;have U:256 ^ (iy k st).1.length<=256 ^ 3:=hH d! o!;show tB _<_;omega
def jA(st):(eU 1 st).1<256:=by have B:=FD (iy 1 st).1 _<|Zu _;rw[o?]at B;have J:256 ^ (iy 1 st).1.length<=256 ^ 1:=hH d!<|uZ 1 st;show tB _<_;omega
abbrev jw:=Option Wd×List eE
def D5(s:jw):jw:=
 ((eU 1 (eU 3 (fe (fe s.1).2).2).2).2,s.2++[⟨(fe s.1).1,f?,(fe (fe s.1).2).1,((eU 3 (fe (fe s.1).2).2).1:Int),((eU 1 (eU 3 (fe (fe s.1).2).2).2).1:Int)⟩])
def mP:Nat->jw->jw
 |0,s=>s|n+1,s=>if s.1=x? then s else mP n (D5 s)
def nt(node:jw->jw):Nat->jw->jw
 |0,s=>s|n+1,s=>if s.1=x? then s else nt node n (node s)
def jX:Nat->Nat->jw->jw
 |0,_,s=>(x?,s.2)
 |f+1,B,s=>
  let a:=(eU 3 (fe s.1).2).2
  let n:=eU 1 a
  let d:=mP n.1 (n.2,s.2)
  let e:=eU 1 d.1
  if 0<e.1/\30<B then(x?,d.2)else nt (jX f<|B+1) e.1 (e.2,d.2)
def mF(n)(A:E?):mP n (x?,A)=(x?,A):=by cases n<;>simp[mP]
def oc(node)(n)(A:E?):nt node n (x?,A)=(x?,A):=by cases n<;>simp[nt]
def W7:∀(n)(B)(A:E?),match pR n B with
  |some x=>mP n (y? B,A)=(y? x.2,A++x.1)
  |none=>(mP n (y? B,A)).1=x?:=by
 intro n;induction n with
 |zero=>intro B A;simp[pR,mP]|succ n U=>
  intro B A;have V:mP (n+1) (y? B,A)=mP n (D5 (y? B,A)):=by simp[mP]
  rw[V];unfold pR D5;rw[A9]
  cases W:gL B with
  |none=>simp[KT,qG,mF]|some x=>
   simp only[Zf];rw[A9]
   cases Y:gL x.2 with
   |none=>simp[qG,mF]|some y=>
    simp only[Zf];rw[OT]
    cases h3:fA y.2 with
    |none=>simp[qG,mF]|some z=>
     simp only[Zf];rw[uN]
     cases h4:rdNum z.2 with
     |none=>simp[mF]|some u=>
      simp only[Zf];have J:=U u.2<|A++[⟨x.1,f?,y.1,z.1,u.1⟩]
      cases O:pR n u.2 with
      |none=>rw[O]at J;simpa using J|some v=>rw[O]at J;simpa using J
def Ta(node:jw->jw)(O:Wd->Option (E?×Wd))(Y:∀(B)(A:E?),match O B with
  |some x=>node (y? B,A)=(y? x.2,A++x.1)
  |none=>(node (y? B,A)).1=x?):∀(n)(B)(A:E?),match qq O n B with
  |some x=>nt node n (y? B,A)=(y? x.2,A++x.1)
  |none=>(nt node n (y? B,A)).1=x?:=by
 intro n;induction n with
 |zero=>intro B A;simp[qq,nt]|succ n ih=>
  intro B A;have h0:nt node (n+1) (y? B,A)=nt node n (node (y? B,A)):=by simp[nt]
  rw[h0];unfold qq;have J:=Y B A
  cases V:O B with
  |none=>rw[V]at J;simp only[ot];rw[show node _=(x?,(node _).2)from x' J q?,oc]
  |some x=>
   rw[V]at J;simp only[Zf];simp only at J;rw[J];have U:=ih x.2<|A++x.1
   cases W:qq O n x.2 with
   |none=>rw[W]at U;simpa using U|some v=>rw[W]at U;simpa using U
def WQ:∀(f B)(J)(A:E?),match o9 f B J with
  |some x=>jX f B (y? J,A)=(y? x.2,A++x.1)
  |none=>(jX f B (y? J,A)).1=x?:=by
 intro f;induction f with
 |zero=>intro B J A;simp[o9,jX]|succ f Y=>
  intro B J A;unfold o9 jX;simp only;rw[A9]
  cases h1:gL J with
  |none=>simp[qG,mF,oc]|some a=>
   simp only[Zf];rw[OT]
   cases h2:fA a.2 with
   |none=>simp[qG,mF,oc]|some b=>
    simp only[Zf];rw[uN]
    cases h3:rdNum b.2 with
    |none=>simp[qG,mF,oc]|some c=>
     simp only[Zf];have O:=W7 c.1 c.2 A
     cases V:pR c.1 c.2 with
     |none=>rw[V]at O;simp only[ot];simp only at O;rw[O,qG];simp[oc]
     |some d=>
      rw[V]at O;simp only at O;simp only[Zf];rw[O];simp only;rw[uN]
      cases h6:rdNum d.2 with
      |none=>simp[oc]|some e=>
       simp only[Zf];by_cases U:0<e.1/\30<B;rw[if_pos U,if_pos U];rw[if_neg U,if_neg U];have h8:=Ta _ _ (Y<|B+1) e.1 e.2<|A++d.1
       cases W:qq (o9 f<|B+1) e.1 e.2 with
       |none=>rw[W]at h8;simpa using h8|some g=>rw[W]at h8;simpa using h8
def na(base:Nat)(w:w?)(B:Nat)(S:b?)(s:jw):Prop:=base<=B/\base<=w.1.size/\∃J,CB w B S s.1 J/\R? w base 202 5 J s.2.length (dG s.2)
def mK:Option Wd->Nat
 |none=>0|some r=>l? r+1
def yW(n)(st):mK (iy n st).2<=mK st:=by
 cases st with
 |none=>exact Zu _|some r=>by_cases h:n<=l? r;simp[iy,h,mK];simp[iy,h,mK]
def lS(k)(st):mK (eU k st).2<=mK st:=yW k st
def Rk{st}(h:st≠x?):mK (eU 1 st).2+1<=mK st:=by
 cases st with
 |none=>exact absurd q? h|some r=>
  rw[uN]
  cases r with
  |nil=>simp[rdNum,mK]|cons b r=>simp[rdNum,mK]
def yD(st):mK (fe st).2<=mK st:=ZE (yW _ _)<|lS 1 st
def Dd{st}(h:st≠x?):mK (fe st).2+1<=mK st:=by have B:=Rk h;have J:=yW (eU 1 st).1 (eU 1 st).2;unfold fe;omega
def gZ(s:jw):Nat:=l? s.2+mK s.1
variable {x6:jw}
def K1(h:x6.1≠x?):gZ (D5 x6)<=gZ x6:=by have B:=Dd h;have J:=yD (fe x6.1).2;have O:=lS 3 (fe (fe x6.1).2).2;have U:=lS 1 (eU 3 (fe (fe x6.1).2).2).2;unfold gZ D5;simp only[Zh,w!,F!];omega
def na.turn{O:Option Wd}(hb:f<=J)(W:f<=o.1.size)(Y:CB o J x2 x6.1 I)(V:R? o f 202 5 I x6.2.length<|dG x6.2)(B:dy (· = J) o x4)(h3:CB x4 J x2 O I) :
  na f x4 J x2 (O,x6.2)/\Below f o x4:=by
 obtain⟨p,hh,_⟩:=Y;exact⟨⟨hb,ZE W B.4,I,h3,dJ V<|λk U=>B.5 k (V.lt k U).2<|(λk U e=>fC hh V d!<|by rw[U,e]) k U⟩,⟨B.1,B.2,B.3,B.4,λk U=>B.5 k o! o!⟩⟩
def s9(base B)(S:b?)(s)(n:Nat)(w)(h:na base w B S s)(O:S.size<=1048576)(U:n<=16777216) :
  ld prog 205 #[p?<|y? ⟨B,0,x?⟩,n? i? n] w λe w'=>e=e? (s? ⟨(iy n s.1).1.toArray⟩)/\na base w' B S ((iy n s.1).2,s.2)/\Below base w w':=by
 obtain⟨hb,V,W,J,Y⟩:=h;apply (Fo B S s.1 W n w J O U).mono;rintro e w' ⟨rfl,h3,hf,_⟩;exact⟨q?,na.turn hb V J Y hf h3⟩
def kD(base B)(S:b?)(s)(n:Nat)(w)(h:na base w B S s)(O:S.size<=1048576)(U:n<=3) :
  ld prog 204 #[p?<|y? ⟨B,0,x?⟩,n? i? n] w λe w'=>e=e? (n? i? (eU n s.1).1)/\na base w' B S ((eU n s.1).2,s.2)/\Below base w w':=by
 obtain⟨hb,V,W,J,Y⟩:=h;apply (Hy B S s.1 W n w J O U).mono;rintro e w' ⟨rfl,h3,hf,_⟩;exact⟨q?,na.turn hb V J Y hf h3⟩
def py{st}(h:mK st<=mK x6.1):gZ (st,x6.2)<=gZ x6:=by unfold gZ;simp only;omega
def RN:∀(n)(s),gZ (mP n s)<=gZ s:=by
 intro n;induction n with
 |zero=>intro s;exact Zu _|succ n B=>
  intro s;unfold mP;split;exact Zu _
  next h=>exact ZE (B _)<|K1 h
def Q2{node:jw->jw}(B:∀s,gZ (node s)<=gZ s):∀(n)(s),gZ (nt node n s)<=gZ s:=by
 intro n;induction n with
 |zero=>intro s;exact Zu _|succ n J=>intro s;unfold nt;split;exact Zu _;exact ZE (J _)<|B _
def EM:∀(f B)(s),gZ (jX f B s)<=gZ s:=by
 intro f;induction f with
 |zero=>intro B s;exact py<|ZP _|succ f J=>intro B s;unfold jX;simp only;have O:=yD s.1;have U:=lS 3 (fe s.1).2;have V:=lS 1 (eU 3 (fe s.1).2).2;have W:=RN (eU 1 (eU 3 (fe s.1).2).2).1 ((eU 1 (eU 3 (fe s.1).2).2).2,s.2);have Y:gZ ((eU 1 (eU 3 (fe s.1).2).2).2,s.2)<=gZ s:=py o!;generalize mP (eU 1 (eU 3 (fe s.1).2).2).1 ((eU 1 (eU 3 (fe s.1).2).2).2,s.2)=d at *;split;have:gZ (x?,d.2)<=gZ d:=py<|ZP _;omega;have h6:=Q2 (J<|B+1) (eU 1 d.1).1 ((eU 1 d.1).2,d.2);have h7:=py<|lS 1 d.1;omega
def oneG(s:jw):jw:=((fe s.1).2,s.2++[⟨(fe s.1).1,t?,[],0,0⟩])
def nS:Nat->jw->jw
 |0,s=>s|n+1,s=>if s.1=x? then s else nS n (oneG s)
def nT(B:Wd):Nat×jw:=((eU 1<|y? B).1,jX 32 0<|nS (eU 1<|y? B).1 ((eU 1<|y? B).2,[]))
def Ce(n)(A:E?):nS n (x?,A)=(x?,A):=by cases n<;>simp[nS]
def XA:∀(n)(B)(A:E?),match pV n B with
  |some x=>nS n (y? B,A)=(y? x.2,A++x.1)
  |none=>(nS n (y? B,A)).1=x?:=by
 intro n;induction n with
 |zero=>intro B A;simp[pV,nS]|succ n U=>
  intro B A;have V:nS (n+1) (y? B,A)=nS n (oneG (y? B,A)):=by simp[nS]
  rw[V];unfold pV oneG;rw[A9]
  cases W:gL B with
  |none=>simp[Ce]|some x=>
   simp only[Zf];have J:=U x.2<|A++[⟨x.1,t?,[],0,0⟩]
   cases O:pV n x.2 with
   |none=>rw[O]at J;simpa using J|some v=>rw[O]at J;simpa using J
def D4(f deep)(A:E?):(jX f deep (x?,A)).1=x?:=by
 cases f with
 |zero=>rfl|succ f=>unfold jX;simp only[KT,qG,mF];split;rfl;rw[oc]
def Yx(O):match zi O with
  |some x=>nT O=(x.1,y? x.2.2,x.2.1)
  |none=>(nT O).2.1=x?:=by
 unfold zi nT;rw[uN]
 cases W:rdNum O with
 |none=>simp only[ot];rw[Ce];exact D4 _ _ _
 |some a=>
  simp only[Zf];have B:=XA a.1 a.2 []
  cases U:pV a.1 a.2 with
  |none=>rw[U]at B;simp only[ot];simp only at B;rw[show nS a.1 _=(x?,(nS a.1 _).2)from x' B rfl];exact D4 _ _ _
  |some b=>
   rw[U]at B;simp only[E!]at B;simp only[Zf];rw[B];have J:=WQ 32 0 b.2 b.1
   cases V:o9 32 0 b.2 with
   |none=>rw[V]at J;simpa using J|some c=>rw[V]at J;simp only at J;simp only[Zf];rw[J]
def QY(h:x6.1≠x?):gZ (oneG x6)<=gZ x6:=by have B:=Dd h;unfold gZ oneG;simp only[Zh,w!,F!];omega
def JP(B):gG B=if 4000<B.length then x?
  else match (nT B).2.1 with
   |none=>x?
   |some r=>if r≠[]\/(nT B).2.2.length=0\/100<(nT B).1\/30<((nT B).2.2.length:Int)-(nT B).1 then x?
    else if ∀i,(h:i<(nT B).2.2.length)->oL (nT B).2.2 i (nT B).2.2[i]=t? then(if oq (nT B).2.2=B then y? (nT B).2.2 else x?)else x?:=by
 rw[<-LZ];unfold Gt;split;rfl;have h:=Yx B
 cases J:zi B with
 |none=>rw[J]at h;simp only at h;rw[h]|some x=>rw[J]at h;simp only at h;let ⟨n,l,r⟩:=x;simp only at h;rw[h]
def okT(e:eE):Prop:=l? e.1<=255/\l? e.3<=255/\(0<=e.4/\e.4<=16777215)/\0<=e.5/\e.5<=255
def vj(s:jw):Prop:=∀e∈s.2,okT e
def vZ(st):(fe st).1.length<=255:=by have B:=jA st;have J:=uZ (eU 1 st).1 (eU 1 st).2;unfold fe;omega
def ok_one(h:vj x6):vj<|D5 x6:=by
 intro e he;unfold D5 at he;obtain B|B:=Z3.1 he
 exact h e B;simp only[Zm,q!,or_false]at B;subst B;have J:=rO 3 (fe (fe x6.1).2).2 o!;have O:=jA (eU 3 (fe (fe x6.1).2).2).2;exact⟨vZ _,vZ _,⟨by simp only;omega,by simp only;omega⟩,by simp only;omega,by simp only;omega⟩
def W5(h:vj x6):vj<|oneG x6:=by
 intro e he;unfold oneG at he;obtain B|B:=Z3.1 he
 exact h e B;simp only[Zm,q!,or_false]at B;subst B;exact⟨vZ _,i!,⟨i!,i!⟩,i!,i!⟩
def Xc:∀(n)(s),vj s->vj (mP n s):=by
 intro n;induction n with
 |zero=>intro s h;exact h|succ n B=>intro s h;unfold mP;split;exact h;exact B _<|ok_one h
def WB:∀(n)(s),vj s->vj (nS n s):=by
 intro n;induction n with
 |zero=>intro s h;exact h|succ n B=>intro s h;unfold nS;split;exact h;exact B _<|W5 h
def WV{node:jw->jw}(B:∀s,vj s->vj (node s)):∀(n)(s),vj s->vj (nt node n s):=by
 intro n;induction n with
 |zero=>intro s h;exact h|succ n J=>intro s h;unfold nt;split;exact h;exact J _<|B _ h
def VL:∀(f B)(s),vj s->vj (jX f B s):=by
 intro f;induction f with
 |zero=>intro B s h;exact h|succ f O=>intro B s h;unfold jX;have J:vj<|mP (eU 1 (eU 3 (fe s.1).2).2).1 ((eU 1 (eU 3 (fe s.1).2).2).2,s.2):=Xc _ _ h;simp only;split;exact J;exact WV (O _) _ _ J
def YU(bs):vj (nT bs).2:=VL _ _ _ (WB _ _<|λe B=>by simp at B)
def jB.Za6{w a A}(h:jB w 5 (.slice a f J) f<|dG A)(k)(hk:k<=A.length)(hn:f=A.length):jB w 5 (.slice a k J) k<|dG<|A.take k:=by
 obtain⟨a',O,U,h1,h2,V,W⟩:=h;simp only[wi]at U;obtain⟨rfl,_,rfl⟩:=U
 have Y:dG (A.take k)=(dG A).take (k*5):=by
  clear V W hn;induction A generalizing k with
  |nil=>simp[dG]|cons e A ih=>
   cases k with
   |zero=>simp[dG]|succ k=>have:=ih k (by simpa using hk);simp only[dG,List.take_succ_cons,c!]at this⊢;rw[this,show(k+1)*5=k*5+5 by omega];simp[e9]
 refine⟨a,J,rfl,by omega,h2,?_,λj u B=>?_⟩;rw[Y,cX,V];omega;rw[Y,Zi]at B;split at B;exact W j u B
 cases B
def ZaG(base B:Nat)(S:b?)(f:Nat):Prop:=∀(J:Nat)(s:jw)(w:w?),na base w B S s->J+f=32->0<f->gZ s<=100000->
  ld prog 206 #[p?<|y? ⟨B,0,x?⟩,n? i? J] w λe w'=>e=e? (.tuple #[])/\na base w' B S (jX f J s)/\Below base w w'
def Za5{t}(J:f=o.1.size):jB (o.alloc<|c? #[I,P,x0,x5,y8] t) 5 (.slice (y? ⟨f,0,x?⟩) 1 1) 1 [I,P,x0,x5,y8]:=by
 subst J;refine⟨y? _,1,q?,Zu _,by unfold la;omega,q?,λj x5 B=>⟨o.1.size,0,q?,?_⟩⟩;rw[Zl _ _ _ _ rfl];match j,B with
 |0,B=>simpa using B|1,B=>simpa using B|2,B=>simpa using B|3,B=>simpa using B|4,B=>simpa using B|j+5,B=>simp at B
def na.bad(h:na f o J x2 x6):C? o ⟨J,2,x?⟩=y? (.bool x6.1.isNone):=by obtain⟨_,_,O,⟨p,B,_⟩,_⟩:=h;rw[dx B];rfl
def J4(base B)(S:b?)(hS:S.size<=1048576):∀f,ZaG base B S f:=by
 intro f;induction f with
 |zero=>intro J s w _ _ h;omega|succ f ih=>
  intro J s w hA cb _ b7;have b8:=h! ih;let ⟨i5,b9,b',bA,bB⟩:=Zz xe;have aj:=kD base B S s 1 w hA hS o!;have aX:=jA s.1;rcases hx1:eU 1 s.1 with⟨n1,t1⟩;rw[hx1]at aj aX;simp only at aj aX;clear ih hA;go_enter func206,ntmps206;go_wp2_with fail;apply aj.mono;rintro e w1 ⟨rfl,h1,aY⟩;have ak:=s9 base B S _ n1 w1 h1 hS o!;rcases hx2:iy n1 t1 with⟨b2,t2⟩;rw[hx2]at ak;simp only at ak;have bC:=h! aY;clear aj h1 aY;go_wp2_with fail;apply ak.mono;rintro e w2 ⟨rfl,h2,aZ⟩;have al:=kD base B S _ 3 w2 h2 hS o!;rcases hx3:eU 3 t2 with⟨n3,t3⟩;rw[hx3]at al;simp only at al;have bD:=h!<|bC.trans aZ;clear ak h2 aZ;go_wp2_with fail;apply al.mono;rintro e w3 ⟨rfl,h3,aa⟩;have am:=kD base B S _ 1 w3 h3 hS o!;have ba:=jA t3;rcases hx4:eU 1 t3 with⟨n,t4⟩;rw[hx4]at am ba;simp only at am ba;have bE:=h!<|bD.trans aa;clear al h3 aa;go_wp2_with fail;apply am.mono;rintro e w4 ⟨rfl,h4,bc⟩;have bF:=h! h4;have bG:=h!<|bE.trans bc
  have HX:J?<|eU 1 (eU 3 (fe s.1).2).2=(n,t4):=by show _=_;unfold fe;rw[hx1];simp only;rw[hx2];simp only;rwa[hx3]
  clear am h4 bc hx1 hx2 hx3 hx4;obtain⟨D,hD⟩:∃D,D=mP n (t4,s.2):=⟨_,q?⟩;have HD:=h! hD
  have bH:gZ (t4,s.2)<=100000:=by have h1:=yD s.1;have h2:=lS 3 (fe s.1).2;have h3:=lS 1 (eU 3 (fe s.1).2).2;rw[HX.o]at h3;have h4:gZ (t4,s.2)<=gZ s:=py (by simp only at h3;omega);omega
  clear hD;go_wp2_with fail;go_loopw [5] (λi wr=>∃(k:Nat)(s':jw),k<=n/\i=n? i? k/\mP (n-k) s'=D/\na base wr B S s'/\Below base w wr/\gZ s'<=100000) (λi _=>n-(intOf i).toNat);exact⟨0,_,ZP _,q?,HD.symm,bF,bG,bH⟩;obtain⟨k,s',hk,rfl,az,an,bd,hrS⟩:=hrel;have a0:=an.bad;have aJ:=h! az;have ab:=h! bd;clear az bd;by_cases cd:k<n
  case' neg=>have be:¬(k:Int)<(n:Int):=o!;have ao:D=s':=by rw[<-aJ.o,(o!:n-k=0)];rfl
  case' pos=>
   have be:(k:Int)<(n:Int):=o!;obtain⟨u0,A⟩:=s';cases u0
   case some r=>
    simp only[oo]at a0;have ap:=kD base B S _ 1 wr an hS o!;have bf:=rO 1 (y? r) o!;have bg:=jA<|y? r;rcases hy0:eU 1 (y? r)with⟨a1,u1⟩;rw[hy0]at ap bf bg;simp only at ap bf bg;clear an;go_wp2_with fail;apply ap.mono;rintro e v1 ⟨rfl,ac,a2⟩;have a4:=h!<|ab.trans a2;clear ap a2 ab;have aq:=s9 base B S _ a1 v1 ac hS o!;rcases hy1:iy a1 u1 with⟨c2,u2⟩;rw[hy1]at aq;simp only at aq;clear ac;go_wp2_with fail;apply aq.mono;rintro e v2 ⟨rfl,bh,a8⟩;have a9:=h!<|a4.trans a8;clear aq a8 a4;have ar:=kD base B S _ 1 v2 bh hS o!;have bi:=rO 1 u2 o!;have bj:=jA u2;rcases hy2:eU 1 u2 with⟨a3,u3⟩;rw[hy2]at ar bi bj;simp only at ar bi bj;clear bh;go_wp2_with fail;apply ar.mono;rintro e v3 ⟨rfl,ad,a'⟩;have aB:=h!<|a9.trans a';clear ar a' a9;have au:=s9 base B S _ a3 v3 ad hS o!;rcases hy3:iy a3 u3 with⟨c4,u4⟩;rw[hy3]at au;simp only at au;clear ad;go_wp2_with fail;apply au.mono;rintro e v4 ⟨rfl,bk,aC⟩;have aD:=h!<|aB.trans aC;clear au aC aB;have av:=kD base B S _ 3 v4 bk hS o!;have bl:=rO 3 u4 o!;rcases hy4:eU 3 u4 with⟨a5,u5⟩;rw[hy4]at av bl;simp only at av bl;clear bk;go_wp2_with fail;apply av.mono;rintro e v5 ⟨rfl,bm,aE⟩;have aF:=h!<|aD.trans aE;clear av aE aD;have aw:=kD base B S _ 1 v5 bm hS o!;have bn:=rO 1 u5 o!;have bo:=jA u5;rcases hy5:eU 1 u5 with⟨a6,u6⟩;rw[hy5]at aw bn bo;simp only at aw bn bo;clear bm;go_wp2_with fail;apply aw.mono;rintro e v6 ⟨rfl,aK,aG⟩;have bp:=h!<|aF.trans aG;clear aw aG aF
    have HY:J?<|D5 (y? r,A)=(u6,A++[⟨c2,f?,c4,(a5:Int),(a6:Int)⟩]):=by show D5 _=_;unfold D5 fe;simp only[hy0,hy1,hy2,hy3,hy4,hy5]
    have ce:=h! aK;obtain⟨q1,q2,vA,⟨pp,hh,bI,bq⟩,ae⟩:=id aK;obtain⟨aA,cA,rfl,cf⟩:=dK ae;have bJ:C? v6 ⟨B,3,x?⟩=y? (.slice aA A.length cA):=by rw[dx hh];rfl
    have cg:l? A<=100000:=by unfold gZ at hrS;simp only at hrS;omega
    have aL:J?<|R? v6 base 202 5 (.slice aA A.length cA) A.length<|dG A:=ae;have aM:J?<|v6.1[B]?=y? (c? #[s? S,n? _ pp,.bool u6.isNone,.slice aA A.length cA] 259 _):=hh;have bK:J? (∀r',u6=y? r'->S.1.1.drop pp=r'):=bq;clear aK hh ae hy0 hy1 hy2 hy3 hy4 hy5 bq;go_wp2_with (at_builtin;go_must (refine gE _ q? _ _ 75 q? base 202 i5 _ 5 56 oT b9 b' bA bB q? d! _ _ _ q? (aL.alloc _) _ 1 (e9 ⟨c2,f?,c4,a5,a6⟩) q? ?cr ?c0 ?c1 ?c2 ?c3 ?_))
    case cr=>exact Za5 rfl
    case c0=>intro u hu;simp[e9]at hu;obtain rfl|rfl|rfl|rfl|rfl:=hu<;>rfl
    case c1=>omega
    case c2=>unfold la;omega
    case c3=>simp;omega
    intro v7 w7 aN U _;obtain⟨a7,c7,rfl,ci⟩:=dK aN;have bL:=(AI.1 aM).1
    have ax:w7.1[B]?=y? (c? #[s? S,n? i? pp,.bool u6.isNone,.slice aA A.length cA] 259 (0,0)):=by rw[U.5 B j!<|λe=>fC aM.o aL.o d! e.symm,e! _ _ _ bL];exact aM
    have bU:C? w7 ⟨B,3,x?⟩=y? (.slice aA A.length cA):=by rw[dx ax];rfl
    have bV:=dO ax 3;have bM:=h!<|((bp.trans<|(nr base v6).alloc q2 _)).trans ⟨U.1,U.2,U.3,U.4,λj hj=>U.5 j j! (λe=>by have:=(aL.lt j e.symm).1;omega)⟩;have br:=h! ax;have bs:=h! aN;have cj:base<=w7.1.size:=by have:=U.4;simp at this;omega
    clear aN U ax bJ;go_wp2;go_roundw
    .refine⟨k+1,D5 (y? r,A),o!,by go_num,?_,?_,?_,ZE (K1 i!) hrS⟩;have:=aJ.o;rw[(o!:n-k=(n-(k+1))+1)]at this;simpa[mP]using this;rw[HY.o];refine⟨q1,by simp[m4];omega,.slice a7 _ c7,⟨pp,by rw[heap_set br.o];rfl,bI,bK⟩,?_⟩;have e1:dG (A++[⟨c2,f?,c4,(a5:Int),(a6:Int)⟩])=dG A++e9 ⟨c2,f?,c4,(a5:Int),(a6:Int)⟩:=by simp[dG]
     simp only[e1,Zh,w!,F!];exact dJ bs (λj hj=>ZH _ _ _ _<|λe=>fC br bs d!<|by rw[hj,e]);exact n6 bM q1 _
    exact M!
   simp only[op]at a0;have ao:D=(x?,A):=by rw[<-aJ.o,mF]
  all_goals
   have bt:gZ D<=100000:=by rwa[ao]
   have aO:na base wr B S D:=by rwa[ao]
   clear ao an;have ck:=h! aO;have ay:=kD base B S D 1 wr aO hS o!;have bu:=jA D.1;rcases hx5:eU 1 D.1 with⟨V,t5⟩;rw[hx5]at ay bu;simp only at ay bu;have bv:=h! hx5;clear hx5 aO;go_wp2_with fail;apply ay.mono;rintro e x1 ⟨rfl,ac,aH⟩;have af:=h!<|ab.trans aH;have aP:=h! ac
   have aQ:J? (jX (f+1) J s=if 0<V/\30<J then(x?,D.2)else nt (jX f<|J+1) V (t5,D.2)):=by show jX _ _ _=_;unfold jX;simp only[HX.o,<-HD.o,bv.o]
   have bN:gZ (t5,D.2)<=100000:=by have h1:=lS 1 D.1;rw[bv.o]at h1;have h2:gZ (t5,D.2)<=gZ D:=py h1;have h3:=bt;omega
   clear ay aH ac;by_cases aR:0<V
   .have bW:(0:Int)<(V:Int):=o!;by_cases bw:30<J
    .have bO:(30:Int)<(J:Int):=o!;obtain⟨b0,cn,bP,⟨bQ,ag,b1,b3⟩,W⟩:=aP.o;have bX:C? x1 ⟨B,2,x?⟩=y? (.bool t5.isNone):=by rw[dx ag];rfl
     have bY:=dO ag 2
     have HF:J?<|na base (x1.setCell ⟨B,2,x?⟩<|.bool t?) B S (x?,D.2):=by refine⟨b0,by simp[m4];omega,bP,⟨bQ,by rw[heap_set ag];rfl,b1,λr h=>by cases h⟩,?_⟩;exact dJ W (λj hj=>ZH _ _ _ _<|λe=>fC ag W d!<|by rw[hj,e])
     have bR:J?<|Below base w<|x1.setCell ⟨B,2,x?⟩<|.bool t?:=n6 af b0 _;have O:J?<|jX (f+1) J s=(x?,D.2):=h!<|by rw[aQ.o,if_pos ⟨aR,bw⟩]
     clear ag b3 W;go_wp2_with fail;apply ZI 1;rw[h?];go_wp2;go_end0;refine⟨q?,?_,bR⟩;rw[O.o];exact HF
    have bO:¬(30:Int)<(J:Int):=o!;obtain⟨G,hG⟩:∃G,G=nt (jX f<|J+1) V (t5,D.2):=⟨_,q?⟩;have HG:=h! hG;have O:J?<|jX (f+1) J s=G:=h!<|by rw[aQ.o,if_neg<|λh=>bw h.2,hG]
    have bS:0<f:=o!;clear hG;go_wp2_with fail;go_loopw [10] (λi wr=>∃(k:Nat)(s':jw),k<=V/\i=n? i? k/\nt (jX f (J+1)) (V-k) s'=G/\na base wr B S s'/\Below base w wr/\gZ s'<=100000) (λi _=>V-(intOf i).toNat);exact⟨0,_,ZP _,q?,HG.symm,aP,af,bN⟩;obtain⟨k,s',hk,rfl,aI,Y,b4,b5⟩:=hrel;have ah:=Y.bad;have aS:=h! aI;have aT:=h! b4;clear aI b4;by_cases bZ:k<V
    .have aU:(k:Int)<(V:Int):=o!;obtain⟨u0,A⟩:=s'
     cases u0 with
     |none=>
      simp only[op]at ah;have aV:J?<|G=(x?,A):=by show G=_;rw[<-aS.o,oc]
      have aW:=h! Y;clear Y;go_wp2;go_end0;refine⟨q?,?_,aT⟩;rw[O.o,aV.o];exact aW
     |some r=>
      simp only[oo]at ah;have ai:=b8.o (J+1) _ wr Y o! bS b5;have cq:IntKind.i64.wrap ((J:Int)+1)=((J+1:Nat):Int):=by simp only[X?];omega
      clear Y;go_wp2_with fail;apply ai.mono;rintro e x3 ⟨rfl,ad,aa⟩;have bT:=h! ad;have b6:=h!<|aT.trans aa;clear ai ad aa;go_wp2;go_roundw
      .refine⟨k+1,jX f (J+1) (y? r,A),o!,by go_num,?_,bT,b6,ZE (EM _ _ _) b5⟩;have:=aS.o;rw[(o!:V-k=(V-(k+1))+1)]at this;simpa[nt]using this
      exact M!
    have aU:¬(k:Int)<(V:Int):=o!;have aV:J?<|G=s':=by show G=_;rw[<-aS.o,(o!:V-k=0)];rfl
    have aW:=h! Y;clear Y;go_wp2;go_end0;refine⟨q?,?_,aT⟩;rw[O.o,aV.o];exact aW
   obtain rfl:V=0:=o!;have O:J?<|jX (f+1) J s=(t5,D.2):=h!<|by rw[aQ.o,if_neg<|λh=>aR h.1];rfl
   clear aR;go_wp2_with fail;apply ZI 1;rw[h?];go_wp2;go_end0;refine⟨q?,?_,af⟩;rw[O.o];exact aP
def ym(x:Wd)(h:l? x<=1048576):∃P:b?,(P.1.1=dM x/\P.size<=1048577)/\∀w,ld prog 149 #[s? ⟨a? x⟩] w λe w'=>e=e? (s? P)/\gR w w':=by refine⟨⟨(dM x).toArray⟩,⟨q?,?_⟩,λw=>Ex _ w ?_⟩;show(dM x).toArray.size<=_;simp[dM];omega;show x.toArray.size<=_;simp;omega
def EE(n)(B : -9223372036854775808<=n)(J:n<=9223372036854775807):∃P:b?,(P.1.1=gK n/\P.size=3)/\∀w,ld prog 202 #[n? i? n] w λe w'=>e=e? (s? P)/\gR w w':=
 ⟨⟨(gK n).toArray⟩,⟨q?,q?⟩,λw=>Pu n w B J⟩
def wrap_u8(n):IntKind.u8.wrap n=n % 256:=by simp[vt,vx,v9]
def rn(h:C? o ⟨f,0,x?⟩=y? (n? .u8<|IntKind.u8.wrap y6)):(convert 60 9<|.slice (y? ⟨f,0,x?⟩) 1 1).run prog o=.ok (s? ⟨#[u8 y6]⟩) o:=by
 rw[wrap_u8]at h;rw[run_convert_bytes_string o _ _ _ _ _ _ underlying60 underlying5 oC]
 have O:=run_loadCells_list (P:=prog) o _ (eX [u8 y6]) (λj u B=>by
  rw[l5]at B;match j,B with
  |0,B=>simp at B;rwa[<-B]|j+1,B=>simp at B)
 have J:(loadCells ⟨f,0,x?⟩ 1).run prog o=.ok ((([u8 y6].map λc=>(c.toNat:Int)).map<|Value.int .u8).toArray) o:=by
  have e:eX [u8 y6]=([u8 y6].map λc=>(c.toNat:Int)).map (Value.int .u8):=by simp[eX]
  rwa[<-e]
 rw[run_bytesToString o _ _ _ _ J,Ct];simp
def AL(ch:W?):Array v?:=(du ch).toArray
def WJ:AL (List.replicate 256 [])=zeroCells255:=by kernel_rfl
def lN(w wr:w?)(ch:W?):Prop:=wr.1[w.1.size]?=y? (c? (AL ch) 255 (0,0))
def zF(h)(hb:ji (dF C[f]) y4=f?):ma (C.take<|f+1) y4=ma (C.take f) y4/\gF (C.take<|f+1) y4=gF (C.take f) y4/\eZ C y4 (f+1)=eZ C y4 f:=by
 have B:(dF C[f]==y4)=f?:=by rw[beq_eq_false_iff_ne];intro e;have:ji (dF _) y4=t?:=(fy _ _).2 (by rw[e];exact gc _);rw[hb]at this;cases this
 unfold ma gF eZ;rw[IS h,Zj,Zj,b!];refine⟨?_,?_,?_⟩;simp[hb];simp[B];show tr C y4 _ C[f]=_;unfold tr;rw[if_neg (by rw[hb];simp)]
def sW{p}(h)(hb:dF C[f]=p):ma (C.take<|f+1) p=ma (C.take f) p++[C[f]]/\gF (C.take<|f+1) p=gF (C.take f) p++[C[f]]/\eZ C p (f+1)=eZ C p f:=by have B:ji (dF _) p=t?:=(fy _ _).2 (by rw[hb];exact gc _);unfold ma gF eZ;rw[IS h,Zj,Zj,b!];refine⟨?_,?_,?_⟩;simp[B];simp[beq_iff_eq.2 hb];show tr C p _ C[f]=_;unfold tr;rw[if_neg (by rw[hb];simp)]
def qD(h)(hb:ji (dF C[f]) y4=t?)(J:dF C[f]≠y4):ma (C.take<|f+1) y4=ma (C.take f) y4++[C[f]]/\gF (C.take<|f+1) y4=gF (C.take f) y4/\
  eZ C y4 (f+1)=(eZ C y4 f).set ((dF C[f]).getD y4.length 0).toNat ((dF C[f]).take<|zv C (dF C[f])<|l? y4+1):=by
 have B:(dF C[f]==y4)=f?:=by rwa[beq_eq_false_iff_ne]
 unfold ma gF eZ;rw[IS h,Zj,Zj,b!];refine⟨?_,?_,?_⟩;simp[hb];simp[B];show tr C y4 _ C[f]=_;unfold tr;rw[if_pos ⟨hb,J⟩]
def Uo(h:∀e∈C,oX e)(B:x2.1.1=(gF (C.take f) y4).flatMap lH):x2.size<=f*2097160:=by
 have U:=Kh (gF (C.take f) y4)<|λe J=>h e<|Za (Zb.1 J).1
 have O:(gF (C.take f) y4).length<=f:=by have:=No (λe=>dF e==y4)<|C.take f;unfold gF;simp at this⊢;omega
 have V:=congrArg et B;have W:l? x2.1.1=x2.size:=i!;have:=IN 2097160 O;omega
def QC(l:E?)(e:eE):gJ (l++[e])=if gJ l<e.4 then e.4 else gJ l:=by unfold gJ;rw[b!];rfl
def lN.ext(h:lN o p x1)(B:gR p x4):lN o x4 x1:=by unfold lN at *;rwa[Below.block B _ (AI.1 h).1]
def Uz{e}(h:x2.1.1=C.flatMap lH)(B:y3.1.1=dM e.1/\y9.1.1=dM e.3/\z0.1.1=gK e.4) :
  (x2++y3++y9++z0++⟨#[u8 e.5]⟩).1.1=(C++[e]).flatMap lH:=by
 simp only[o0,j1,h,B.1,B.2.1,B.2.2,Z!,c!,List.flatMap_nil,Z6,lH,Zq]
def Tq(l:E?)(s)(n):n<=zv l s n:=by unfold zv;omega
def YO(l:E?)(p):∀k,k<=l? l->∀q∈eZ l p k,q≠[]->∃e∈l,q <+: dF e/\l? p<l? q:=by
 intro k;induction k with
 |zero=>intro _ q J B;simp only[eZ,List.take_zero,List.foldl_nil,List.mem_replicate]at J;exact absurd J.2 B|succ k U=>
  intro W q J B;have O:k<l? l:=o!;by_cases hb:ji (dF l[k]) p=t?;by_cases V:dF l[k]=p;rw[(sW O V).2.2]at J;exact U o! q J B;rw[(qD O hb V).2.2]at J;obtain h|h:=e6 J
  exact U o! q h B;refine⟨l[k],Zw O,by rw[h];exact List.take_prefix _ _,?_⟩;have Y:=oz ((fy _ _).1 hb) V;have h2:=Tq l (dF l[k])<|l? p+1;rw[h,cX];omega;rw[(zF O<|u! hb).2.2]at J;exact U o! q J B
def uK(l:E?)(p)(k):(eZ l p k).length=256:=by
 unfold eZ;generalize l.take k=m
 have:∀(m:E?)(ch:W?),l? ch=256->(m.foldl (tr l p) ch).length=256:=by
  intro m;induction m with
  |nil=>intro ch h;exact h|cons e m B=>intro ch h;rw[G?];apply B _;unfold tr;split;rwa[cK];exact h
 exact this m _ List.length_replicate
def kJ(l:E?)(p:Wd)(k:Nat):List Wd:=((eZ l p l.length).take k).filter λq=>!q.isEmpty
def MO(l:E?)(p):kJ l p 256=pF l p:=by unfold kJ pF;rw[If (by rw[uK];omega)]
def JE(l:E?)(p)(k)(h):kJ l p (k+1)=kJ l p k++(if(eZ l p l.length)[k].isEmpty=t? then []else [(eZ l p l.length)[k]]):=by unfold kJ;rw[IS h,Zj,List.filter_cons,List.filter_nil];congr 1;cases(eZ l p l.length)[k].isEmpty<;>simp
def Md(l:E?)(p)(k)(g:Wd->Wd):((kJ l p k).flatMap g).length<=((pF l p).flatMap g).length:=by
 unfold kJ pF
 have e:(eZ l p l.length).filter (λq=>!q.isEmpty)=((eZ l p l.length).take k).filter (λq=>!q.isEmpty)++((eZ l p l.length).drop k).filter (λq=>!q.isEmpty):=by rw[<-Zj,List.take_append_drop]
 rw[e,Z!,Zh];omega
def NZ(h:lN o p x1)(k)(hk):C? p ⟨o.1.size,k,x?⟩=y? (s? ⟨x1[k].toArray⟩):=by unfold lN at h;rw[dx h];simp[AL,du,hk]
def lN.set(h:lN o p x1)(k)(q:b?):lN o (p.setCell ⟨o.1.size,k,x?⟩<|s? q)<|x1.set k q.1.1:=by unfold lN at *;rw[heap_set h];congr 2;unfold AL;apply kc.1;rw[Array.toList_setIfInBounds];simp[du,List.map_set]
def Wm{a}(B:x2.1.1=dM (y4.drop a.length))(J:y3.1.1=gK (gJ<|ma C y4))(O:y9.1.1=(gF C y4).flatMap lH)(hb:z0.1.1=(pF C y4).flatMap λq=>mu f C q y4) :
  x2++y3++⟨#[u8 (gF C y4).length]⟩++y9++⟨#[u8 (pF C y4).length]⟩++z0=⟨(mu (f+1) C y4 a).toArray⟩:=by
 apply o7;apply kc.1;simp only[o0,j1,B,J,O,hb,mu,Zq,B!,E!]
def R8(l:E?)(h:∀e∈l,e.4<=9223372036854775807):gJ l<=9223372036854775807:=by
 unfold gJ
 have:∀(l:E?)(g:Int),(∀e∈l,e.4<=9223372036854775807)->g<=9223372036854775807->l.foldl (λg e=>if g<e.4 then e.4 else g) g<=9223372036854775807:=by
  intro l;induction l with
  |nil=>intro g _ B;exact B|cons e l J=>intro g h B;rw[G?];apply J _ (λx O=>h x<|by simp[O]);split;exact h e i!;exact B
 exact this l 0 h o!
def LQ(J:∀e∈C,oX e)(B:l? C<=1048576)(O:f<=2097152)(p a:Wd)(U:l? p<=1073741824):(dM<|p.drop a.length).length+3+1+((gF C p).flatMap lH).length+1+((pF C p).flatMap λq=>mu f C q p).length<=7000000000000000000:=by have h:=Cy (f+1) C p a J;rw[mu]at h;simp only[Zh,w!]at h;have V:(gK<|gJ<|ma C p).length=3:=rfl;have W:(f+1)*(l? C*3145743)<=2097153*(1048576*3145743):=hU o!<|IN _ B;omega
def GM{ops}{C:w?->Prop}{a:Act}{K:(w?->Prop)->Act->Prop}(v)
  (h:∀g,K (λy=>C y/\C? y ⟨g,0,x?⟩=y? v)<|a.put x7.1<|.slice (y? ⟨g,0,x?⟩) 1 1) (O:ops[i]?=y? x7:=by rfl) (hC:gp gR C:=by first|exact fK _|exact(fK _).and<|eL _ _)
  (U:sA x7 (lo ops a.1)=t?:=by rfl) (B:∀y,C y->lO y1 x7 a y (λu J=>gR y J/\u=.slice (y? ⟨y.1.size,0,x?⟩) 1 1/\C? J ⟨y.1.size,0,x?⟩=y? v):=by intro y B;unfold lO;go_simp;exact⟨gR.alloc _ _,q?,by rw[Zl _ _ _ _ rfl];rfl⟩):N4 gR y1 ops i C K a:=
 Gu (λg=>.slice (y? ⟨g,0,x?⟩) 1 1) (λg y=>C? y ⟨g,0,x?⟩=y? v) O hC (λ_=>eL _ _) U B h
def Mi{ops B Q listed}{C:w?->Prop}{a:Act}(v)
  (h:∀g,WX gR y1 B ops Q f (S? listed i t?) (λy=>C y/\C? y ⟨g,0,x?⟩=y? v)<|a.put x7.1<|.slice (y? ⟨g,0,x?⟩) 1 1) (U:s8 B ops listed=[i]:=by kernel_rfl) (V:ops[i]?=y? x7:=by rfl)
  (hC:gp gR C:=by first|exact fK _|exact(fK _).and<|eL _ _) (W:sA x7 (lo ops a.1)=t?:=by rfl) (J:∀y,C y->lO y1 x7 a y (λu O=>gR y O/\u=.slice (y? ⟨y.1.size,0,x?⟩) 1 1/\C? O ⟨y.1.size,0,x?⟩=y? v):=by intro y J;unfold lO;go_simp;exact⟨gR.alloc _ _,q?,by rw[Zl _ _ _ _ rfl];rfl⟩):WX gR y1 B ops Q (f+1) listed C a:=
 GR U i! λj Y=>by
  obtain rfl:j=i:=by simpa using Y
  exact GM v h V hC W J
def jr{ops md Q}(i)(v){listed}{C:w?->Prop}{a}(B:∀y,C y->lO y1 x7 a y (λu J=>gR y J/\u=v))
  (h:WX gR y1 md ops Q f (S? listed i t?) C<|a.put x7.1 v) (O:ops[i]?=y? x7:=by rfl)
  (U:sB ops=t?:=by kernel_rfl) (V:te md ops listed i=t?:=by kernel_rfl) (W:(s8 md ops listed).contains i=t?:=by kernel_rfl) (hC:gp gR C:=by first|exact(fK _).and<|eL _ _|exact((fK _).and<|eL _ _).and<|eL _ _)
  (Y:sA x7 (lo ops a.1)=t?:=by rfl):WX gR y1 md ops Q (f+1) listed C a:=dA i v B h O U V W hC Y
def Sv(l:E?)(hr:∀e∈l,oX e)(a9:l? l<=1048576):∀(f)(p a:b?)(v)(w),f<=2097152->jB w 5 v l.length (dG l)->(∀e∈l,(dF e).length<=f+p.size)->a.size<=p.size->p.size<=1073741824->
  ld prog 150 #[v,s? p,s? a] w λe w'=>e=e? (s? ⟨(mu (f+1) l p.1.1 a.1.1).toArray⟩)/\B? w w':=by
 intro f;induction f using ip with
 |ind f ih=>
 intro p ah v w a' hv ad bC bD;have aA:=a9;obtain⟨a,cap,rfl,hc,hm,_,_⟩:=id hv;have HV:=h! hv;have HT:=h! hr;have HD:=h! ad;have HI:=h! ih;clear hv hr ad ih;unfold la at hm;go_enter func150,ntmps150;go_wp2;go_loopw [7,8,9,11] (λg o c i wr=>∃(k:Nat)(ob:b?),k<=l? l/\i=n? i? k/\g=n? i? (gJ (ma (l.take k) p.1.1))/\o=s? ob/\ob.1.1=(gF (l.take k) p.1.1).flatMap lH/\c=n? i? (gF (l.take k) p.1.1).length/\lN w wr (eZ l p.1.1 k)/\B? w wr) (λ_ _ _ i _=>l? l-(intOf i).toNat)
 case atStart=>exact⟨0,⟨#[]⟩,ZP _,q?,q?,q?,q?,q?,by unfold lN;rw[<-WJ];exact U! w _,(nr _ _).alloc (Zu _) _⟩
 case round=>
  obtain⟨k,ob,hk,rfl,rfl,rfl,aB,rfl,W,B⟩:=hrel;have HO:=h! aB;have HN:=h! W;clear aB W;have HS:=B.4;have ao:=Uo HT HO
  have aX:(gF (l.take k) p.1.1).length<=k:=by have:=No (λe=>dF e==p.1.1)<|l.take k;unfold gF;simp at this⊢;omega
  by_cases V:k<l? l
  .obtain⟨b,off,rfl,c0,c1,c2,c3,c4⟩:=jo (HV.below B) k V;let ⟨r1,r2,⟨r3,r4⟩,r5,r6⟩:=HT.o _<|Zw V
   have aY:(⟨l[k].3.toArray⟩:b?).size<=1099511627776:=by show l[k].3.toArray.size<=_;simp;omega
   go_wp2_with fail;apply (pZ _ _ aY).mono;rintro e w1 ⟨rfl,Y⟩;obtain⟨J,ak⟩:∃J:b?,J=⟨(dF l[k]).toArray⟩:=⟨_,q?⟩;have ap:(⟨(dP (⟨l[k].3.toArray⟩:b?).1.1).toArray⟩:b?)=J:=by rw[ak];rfl
   have HK:J?<|J.1.1=dF l[k]:=h!<|by rw[ak]
   have b':J.size<=1048576:=by rw[ak];show(dF l[k]).toArray.size<=_;unfold dF;rw[eg,eB];omega
   rw[ap];clear ak ap;have aw:=B.trans<|Y.mono HS;have HN1:=h!<|HN.ext Y;have d0:=Z0 Y c0;have d2:=Z0 Y c2;have d3:=Z0 Y c3;have d4:=Z0 Y c4;clear c0 c1 c2 c3 c4 HN;go_wp2_with fail;apply g!<|sP J p w1
   cases ax:ji J.1.1 p.1.1 with
   |false=>
    have hB:ji (dF l[k]) p.1.1=f?:=by rwa[<-HK.o]
    let ⟨s1,s2,s3⟩:=zF V hB;have HX:J?<|ma _ _=ma _ _/\gF _ _=gF _ _/\eZ l _ _=eZ l _ k:=⟨s1,s2,s3⟩;clear ax hB s1 s2 s3;go_wp2;go_roundw
    case rel=>exact⟨k+1,ob,o!,by go_num,by rw[HX.1],q?,by rw[HX.2.1];exact HO,by rw[HX.2.1],by rw[HX.2.2];exact HN1,aw⟩
    case measure=>exact M!
   |true=>
    have HB:J?<|ji (dF l[k]) p.1.1=t?:=h!<|by rwa[<-HK.o]
    have aC:=mZ<|ma (l.take k) p.1.1
    have hA:ma (l.take<|k+1) p.1.1=ma (l.take k) p.1.1++[l[k]]:=by by_cases al:J.1.1=p.1.1;exact(sW V<|by rwa[<-HK.o]).1;exact(qD V HB<|by rwa[<-HK.o]).1
    have HMX:J? (gJ (ma (l.take<|k+1) p.1.1)=if gJ (ma (l.take k) p.1.1)<l[k].4 then l[k].4 else gJ (ma (l.take k) p.1.1)):=h!<|by rw[hA,QC]
    clear hA;by_cases al:J.1.1=p.1.1
    .have aZ:(J.toList==p.toList)=t?:=by rw[X!,X!,al];simp
     let ⟨_,s2,s3⟩:=sW V (p:=p.1.1) (by rwa[<-HK.o]);have HX:J?<|gF _ _=gF _ _++[l[k]]/\eZ l _ _=eZ l _ k:=⟨s2,s3⟩;clear ax al s2 s3;let ⟨U,g1,C1⟩:=ym _ r1;let ⟨P2,g2,C2⟩:=ym _ r2;let ⟨P3,g3,C3⟩:=EE _ r3 r4;have ay:=h! C1;have az:=h! C2;have ba:=h! C3;clear C1 C2 C3;have HG:J?<|U.1.1=dM _/\P2.1.1=dM _/\P3.1.1=gK _:=⟨g1.1,g2.1,g3.1⟩;have p1:=g1.2;have p2:=g2.2;have p3:=g3.2;clear g1 g2 g3;have f2:(ob++U).size=ob.size+U.size:=ow;have f3:(ob++U++P2).size=ob.size+U.size+P2.size:=by rw[ow,ow]
     have f4:(ob++U++P2++P3).size=ob.size+U.size+P2.size+P3.size:=by rw[ow,ow,ow]
     have bc:¬(9223372036854775807<ob.size+U.size):=o!;have bd:¬(9223372036854775807<ob.size+U.size+P2.size):=o!;have bf:¬(9223372036854775807<ob.size+U.size+P2.size+3):=o!;have bg:¬(9223372036854775807<ob.size+U.size+P2.size+3+1):=o!;have bE:(k:Int)<(l? l:Int):=o!;have HB2:=h! aw;have bh:=HD;have bi:=HI;clear HD HI Y B;by_cases hw:gJ (ma (l.take k) p.1.1)<l[k].4
     all_goals
      go_wp2_with fail;refine j0 k! ?_;refine dA 0 ?_ ?_<|dA 1 ?_ ?_<|dA 2 ?_ ?_<|dA 3 ?_ ?_<|dA 4 ?_ ?_<|dA 5 ?_ ?_ ?_
      any_goals(intro y O;have q:=Z0 O d0;exact no_implicit_lambda%x!)
      refine dA 6 ?_ ?_ ?_;rotate_left
      .intro y O;exact no_implicit_lambda%(z!<|ay y)
      refine dA 7 ?_ ?_<|dA 8 ?_ ?_<|dA 9 ?_ ?_<|dA 10 ?_ ?_<|dA 11 ?_ ?_<|dA 12 ?_ ?_ ?_
      any_goals(intro y O;have q:=Z0 O d2;exact no_implicit_lambda%x!)
      refine dA 13 ?_ ?_ ?_;rotate_left
      .intro y O;exact no_implicit_lambda%(z!<|az y)
      refine dA 14 ?_ ?_<|dA 15 ?_ ?_<|dA 16 ?_ ?_<|dA 17 ?_ ?_<|dA 18 ?_ ?_<|dA 19 ?_ ?_ ?_
      any_goals(intro y O;have q:=Z0 O d3;exact no_implicit_lambda%x!)
      refine dA 20 ?_ ?_ ?_;rotate_left
      .intro y O;exact no_implicit_lambda%(z!<|ba y)
      refine dA 21 ?_ ?_<|dA 22 ?_ ?_<|dA 23 ?_ ?_<|dA 24 ?_ ?_<|dA 25 ?_ ?_<|dA 26 ?_ ?_<|dA 27 ?_ ?_ ?_
      any_goals(intro y O;have q:=Z0 O d4;exact no_implicit_lambda%x!)
      refine Mi (i:=28) (n? .u8 _) λg=>?_;refine jr 29 ?_ ?_<|jr 30 ?_ ?_<|jr 31 ?_ ?_ ?_
      any_goals(intro y O;have q:=rn O.2;exact no_implicit_lambda%x!)
      refine qF k! ?_ _;intro y O;have a0:=h!<|HB2.trans<|Below.mono O.1 HB2.4;have bj:=h!<|HN1.ext O.1;clear O;have HD:=bh;have HI:=bi;go_wp2;go_roundw
      case rel=>refine⟨k+1,_,o!,by go_num,by rw[HMX.o];first|rw[if_pos hw]|rw[if_neg<|sm.2 hw],q?,?_,?_,by rw[HX.2];exact bj,a0⟩;rw[HX.1];exact Uz HO HG;rw[HX.1,Zh];go_num
      case measure=>exact M!
    have aZ:(J.toList==p.toList)=f?:=by rwa[X!,X!,beq_eq_false_iff_ne]
    clear ax
    have aD:p.size<J.size:=by have h1:=oz ((fy _ _).1 HB) (by rwa[<-HK.o]);rw[<-HK.o]at h1;have e1:l? p.1.1=p.size:=i!;have e2:l? J.1.1=J.size:=i!;omega
    have aE:J?<|dF l[k]≠p.1.1:=h!<|by rwa[<-HK.o]
    clear al;have HB2:=h! aw;have bk:J? (∀y,Below _ w y->jB y 5 _ _ _):=λy O=>HV.below O;clear Y B d0 d2 d4 HS ao;by_cases hw:gJ (ma (l.take k) p.1.1)<l[k].4
    all_goals
     go_wp2;go_loopw [14] (λnv wr=>∃n:Nat,nv=n? i? n/\p.size+1<=n/\n<=J.size/\(∀i,p.size+1<=i->i<n->iP l (J.1.1.take i)=f?)/\lN w wr (eZ l p.1.1 k)/\B? w wr) (λn _=>J.size-(intOf n).toNat)
     case atStart=>exact⟨p.size+1,by go_num,o!,o!,λi hi On=>o!,HN1,HB2⟩
     case round=>
      obtain⟨n,rfl,bF,hn,aF,W,B⟩:=hrel;have HJ:=h! aF;have aG:=h! W;have hz:=B.4;have aH:=MD _ l (J.extract 0 n) wr (bk wr B) (λe he=>by have:=(HT e he).2.1;omega);rw[xT]at aH;have aI:=h! B;have aJ:J?<|ld prog 203 #[.slice (y? ⟨b,off,x?⟩) l.length cap,s?<|J.extract 0 n] wr λe w'=>e=e? (.bool<|iP l<|J.1.1.take n)/\B? wr w':=h!<|by rwa[xT]
      clear aF W B aH;have bG:(n:Int)<=(J.size:Int):=o!;go_wp2_with fail;apply aJ.mono;rintro e w4 ⟨rfl,a1⟩;have a2:=h!<|aI.trans<|a1.mono hz;have ae:=h!<|aG.ext a1;clear a1 aJ aI aG hz
      cases af:iP l (J.1.1.take n)with
      |false=>
       have bA:n<J.size:=by
        obtain h|h:=H! n J.size
        exact h;exfalso;rw[If j!,HK.o,Ij V rfl]at af;cases af
       have bl:=h! af;clear af;go_wp2;go_roundw
       case rel=>exact⟨n+1,by go_num,o!,o!,λi hi On=>by
        obtain h|h:=H! i n
        exact HJ i hi h;have:i=n:=o!
        subst this;exact bl,ae,a2⟩
       case measure=>exact M!
      |true=>
       have bm:J?<|eZ l p.1.1 (k+1)=(eZ l p.1.1 k).set ((dF l[k]).getD p.1.1.length 0).toNat (J.1.1.take n):=by show _=_;rw[(qD V HB.o aE.o).2.2,<-HK.o];congr 2;unfold zv;have bn:l? p.1.1=p.size:=i!;rw[bn,lT _ _ (n-(p.size+1)) j! (λi hi=>?_)<|λhi=>?_];omega;simp only[dB,Bool.not_eq_true'];exact HJ _ o! o!;simp only[dB,Bool.not_eq_false'];rwa[(o!:p.size+1+(n-(p.size+1))=n)]
       have aK:=h!<|(qD V HB aE).2.1;clear af;have bH:(p.size:Int)<(J.size:Int):=o!;have bo:J[p.size].toNat<256:=UInt8.toNat_lt _;have aW:(J[p.size].toNat:Int)<256:=o!;obtain⟨ov,bp⟩:∃ov:b?,C? w4 _=y? _:=⟨_,NZ ae _<|by rwa[uK]⟩;have bq:w4.frozen? ⟨w.1.size,J[p.size].toNat,x?⟩=f?:=dO ae _;go_wp2;refine wp_region_held (S:=λw'=>True) k! ?_;refine gf 0 ?_ trivial ?_<|gf 1 ?_ trivial ?_<|gf 2 ?_ trivial ?_<|gf 3 ?_ trivial ?_<|gf 4 ?_ trivial ?_<|gf 5 ?_ trivial ?_<|gf 6 ?_ trivial ?_<|gf 7 ?_ trivial ?_ ?_
       any_goals(rintro w' _;exact n!)
       refine kY 8 λK' aL=>?_;unfold Oper.wp;go_simp;refine aL _ _ ⟨t!,wpAnyH_done k! ?_ _⟩;clear aL;have br:J?<|B? w<|w4.setCell ⟨w.1.size,J[p.size].toNat,x?⟩<|s?<|J.extract 0 n:=by exact n6 a2 (Zu _) _
       have bs:J?<|lN w (w4.setCell ⟨w.1.size,J[p.size].toNat,x?⟩<|s?<|J.extract 0 n)<|eZ l p.1.1<|k+1:=by
        show lN _ _ _;have h5:=ae.set J[p.size].toNat<|J.extract 0 n;rw[bm.o,<-HK.o];have e1:(J.extract 0 n).1.1=J.1.1.take n:=by rw[xT]
        have e2:J.1.1.getD p.1.1.length 0=J[p.size]:=by rw[AS,(i!:l? p.1.1=p.size)];simp[aD];rfl
        rw[e1]at h5;rwa[e2]
       clear ae a2 bp bq;go_wp2;go_roundw
       case rel=>exact⟨k+1,ob,o!,by go_num,by rw[HMX.o];first|rw[if_pos hw]|rw[if_neg<|sm.2 hw],q?,by rw[aK.o];exact HO,by rw[aK.o],bs,br.drew⟩
       case measure=>exact M!
  have bt:k=l? l:=o!;subst bt;rw[o?]at HO;clear V hk ao aX;rw[o?];have aq:=LQ HT aA a' p.1.1 ah.1.1 j!;have ar:=λc=>Md l p.1.1 c<|λq=>mu f l q p.1.1;have aM:=h! ar;have a3:=h! aq;have HB0:=h! B;clear aq ar B HS;go_wp2;go_loopw [16,17,18] (λbv mv cv wx=>∃(c:Nat)(be:b?),c<=256/\cv=n? i? c/\bv=s? be/\be.1.1=((kJ l p.1.1 c).flatMap λq=>mu f l q p.1.1)/\mv=n? i? (kJ l p.1.1 c).length/\lN w wx (eZ l p.1.1 l.length)/\B? w wx) (λ_ _ c _=>256-(intOf c).toNat)
  case atStart=>exact⟨0,⟨#[]⟩,ZP _,q?,q?,q?,q?,HN,HB0⟩
  case round=>
   obtain⟨c,be,bu,rfl,rfl,a4,rfl,W,B⟩:=hrel;have ag:=h! a4;have am:=h! W;have ab:=h! B
   have bB:be.size<=7000000000000000000:=by have h1:=aM.o c;have h2:=a3.o;have h3:=congrArg et a4;have h4:l? be.1.1=be.size:=i!;omega
   have bI:(kJ l p.1.1 c).length<=256:=by unfold kJ;have:=No (λq:Wd=>!q.isEmpty)<|(eZ l p.1.1 l.length).take c;simp at this;have h2:=uK l p.1.1 l.length;omega
   clear a4 W B;by_cases V:c<256
   .have bJ:(c:Int)<256:=o!;have an:c<(eZ l p.1.1 l.length).length:=by rwa[uK]
    obtain⟨q,hq⟩:∃q,q=(eZ l _ _)[c]:=⟨_,q?⟩;have au:C? wr ⟨w.1.size,c,x?⟩=y? (s? ⟨a? q⟩):=by rw[hq];exact NZ am c an
    have aN:J?<|kJ l p.1.1 (c+1)=kJ l p.1.1 c++(if q.isEmpty=t? then []else [q]):=h!<|by rw[hq];exact JE l _ c an
    have bw:J? _:=λb0=>YO l _ _ (Zu _) q (by rw[hq];exact Zw an) b0;clear hq an;by_cases ac:q=[]
    .have HK2:J?<|kJ l p.1.1 (c+1)=kJ l p.1.1 c:=h!<|by rw[aN.o,ac];simp
     subst ac;go_wp2;go_roundw
     case rel=>exact⟨c+1,be,o!,by go_num,q?,by rw[HK2.o];exact ag,by rw[HK2.o],am,ab⟩
     case measure=>exact M!
    let ⟨e0,aO,ai,a5⟩:=bw.o ac;have b1:=HD.o e0 aO;have hk0:=ai.length_le
    have aP:l? q<=1048576:=by have:=(HT e0 aO).2.1;unfold dF at hk0;rw[eB]at hk0;omega
    have b2:l? p.1.1=p.size:=i!;have b3:(⟨a? q⟩:b?).size=l? q:=rfl;have bK:0<f:=o!;have aj:=HI.o (f-1) o! ⟨a? q⟩ p _ wr o! (HV.below ab) (λe he=>by have:=HD.o e he;omega) o! o!;rw[(o!:f-1+1=f)]at aj;obtain⟨P,a6⟩:∃P:b?,P=⟨(mu f l q p.1.1).toArray⟩:=⟨_,q?⟩;have aa:ld prog 150 #[.slice a l.length cap,s? ⟨a? q⟩,s? p] wr λe w'=>e=e? (s? P)/\B? wr w':=by rwa[a6]
    have a7:=h! aa
    have HK2:J?<|kJ l p.1.1 (c+1)=kJ l p.1.1 c++[q]:=by show _=_;rw[aN.o,if_neg<|u! ac]
    have HB6:J?<|(be++P).1.1=((kJ l p.1.1<|c+1).flatMap λq=>mu f l q p.1.1):=by show _=_;rw[HK2.o,Z!,o0,j1,ag.o,a6];simp
    have bL:¬(9223372036854775807<be.size+P.size):=by have h1:=aM.o<|c+1;have h2:=a3.o;have h3:=congrArg et HB6;have h4:(be++P).1.1.length=be.size+P.size:=i!;omega
    have aQ:(⟨a? q⟩:b?).toList.isEmpty=f?:=by
     rw[X!]
     cases q with
     |nil=>exact absurd q? ac|cons x q=>rfl
    clear aj aa a6 b3 b2 b1 hk0 ai a5 aP;have hz:=ab.4;generalize (⟨a? q⟩:b?)=qb at au a7 aQ;clear ac;go_wp2_with fail;apply a7.mono;rintro e w5 ⟨rfl,a8⟩;have b4:=h!<|ab.trans<|a8.mono hz;have b5:=h!<|am.ext a8;clear a8 a7 au;go_wp2;go_roundw
    case rel=>exact⟨c+1,be++P,o!,by go_num,q?,HB6,by rw[HK2.o,Zh];go_num,b5,b4⟩
    case measure=>exact M!
   have b6:c=256:=o!;subst b6;rw[MO]at ag⊢;have aR:l? p.1.1=p.size:=i!;have av:l? ah.1.1=ah.size:=i!;have aS:=R8 (ma l p.1.1)<|λe he=>(HT e (pq.1 he).1).2.2.1.2;have aC:=mZ<|ma l p.1.1;let ⟨P2,g2,C2⟩:=EE _ o! aS
   obtain⟨U,g1,C1⟩:∃U:b?,U.1.1=dM (p.1.1.drop ah.1.1.length)/\∀w:w?,ld prog 149 #[s?<|p.extract ah.size p.size] w λe w'=>e=e? (s? U)/\gR w w':=by
    refine⟨⟨(dM<|p.1.1.drop ah.1.1.length).toArray⟩,q?,λw=>?_⟩;have h:=Ex (p.extract ah.size p.size) w j!
    have e1:(p.extract ah.size p.size).1.1=p.1.1.drop ah.1.1.length:=by rw[av,oB];simp;rw[If i!]
    rwa[e1]at h
   have ay:=h! C1;have az:=h! C2;have b7:=h!<|Wm g1 g2.1 HO ag;have p2:=g2.2;have b8:U.size=(dM<|p.1.1.drop ah.1.1.length).length:=by rw[<-g1];simp
   have aT:ob.size=((gF l p.1.1).flatMap lH).length:=by rw[<-HO.o];simp
   have aU:be.size=((pF l p.1.1).flatMap λq=>mu f l q p.1.1).length:=by rw[<-ag.o];simp
   have b9:=a3.o;have f2:(U++P2).size=U.size+P2.size:=ow;have f3:(U++P2++⟨#[u8 (gF l p.1.1).length]⟩).size=U.size+P2.size+1:=by rw[ow,ow];rfl
   have f4:(U++P2++⟨#[u8 (gF l p.1.1).length]⟩++ob).size=U.size+P2.size+1+ob.size:=by rw[ow,f3]
   have f5:(U++P2++⟨#[u8 (gF l p.1.1).length]⟩++ob++⟨#[u8 (pF l p.1.1).length]⟩).size=U.size+P2.size+1+ob.size+1:=by rw[ow,f4];rfl
   have bc:¬(9223372036854775807<U.size+3):=o!;have bd:¬(9223372036854775807<U.size+3+1):=o!;have bf:¬(9223372036854775807<U.size+3+1+ob.size):=o!;have bg:¬(9223372036854775807<U.size+3+1+ob.size+1):=o!;have bM:¬(9223372036854775807<U.size+3+1+ob.size+1+be.size):=o!;have bN:(ah.size:Int)<=(p.size:Int):=o!;have aV:=h! ab;clear b8 aT aU b9 C1 C2 g1 g2 aS aC aR av ab am V;clear HI HD;go_wp2;refine j0 k! ?_;refine dA 0 ?_ ?_<|dA 1 ?_ ?_<|dA 2 ?_ ?_<|dA 3 ?_ ?_ ?_
   any_goals(intro y O;exact no_implicit_lambda%x!)
   refine dA 4 ?_ ?_ ?_;rotate_left
   .intro y O;exact no_implicit_lambda%(z!<|ay y)
   refine dA 5 ?_ ?_ ?_;rotate_left
   .intro y O;exact no_implicit_lambda%x!
   refine dA 6 ?_ ?_ ?_;rotate_left
   .intro y O;exact no_implicit_lambda%(z!<|az y)
   refine dA 7 ?_ ?_<|dA 8 ?_ ?_<|dA 9 ?_ ?_<|dA 13 ?_ ?_<|dA 15 ?_ ?_<|dA 16 ?_ ?_<|dA 20 ?_ ?_ ?_
   any_goals(intro y O;exact no_implicit_lambda%x!)
   refine GR (rs:=[10,17]) k! i! ?_;intro i hi;simp only[Zm,List.mem_nil_iff,or_false]at hi;obtain rfl|rfl:=hi
   case' inl=>
    refine GM (n? .u8<|IntKind.u8.wrap ((gF l p.1.1).length:Int)) λg=>jr 11 ?_ ?_<|jr 12 ?_ ?_<|jr 14 ?_ ?_ ?_
    any_goals(intro y O;have q:=rn O.2;exact no_implicit_lambda%x!)
    refine Mi (i:=17) (n? .u8<|IntKind.u8.wrap ((pF l p.1.1).length:Int)) λg=>jr 18 ?_ ?_ ?_
   case' inr=>
    refine GM (n? .u8<|IntKind.u8.wrap ((pF l p.1.1).length:Int)) λg=>jr 18 ?_ ?_ ?_
    any_goals(intro y O;have q:=rn O.2;exact no_implicit_lambda%x!)
    refine Mi (i:=10) (n? .u8<|IntKind.u8.wrap ((gF l p.1.1).length:Int)) λg=>jr 11 ?_ ?_<|jr 12 ?_ ?_<|jr 14 ?_ ?_ ?_
   any_goals(intro y O;have q:=rn O.2;exact no_implicit_lambda%x!)
   all_goals
    refine jr 19 ?_ ?_<|jr 21 ?_ ?_<|jr 22 ?_ ?_ ?_
    any_goals(intro y O;exact no_implicit_lambda%x!)
    refine qF k! ?_ _;intro y O;have a0:=h! O.1.1;clear O;go_simp;go_wp2;go_ret;refine⟨xv ?_,aV.trans<|Below.mono a0 aV.4⟩;exact b7.o
def wU(l:E?)(k:Nat):List eE:=(l.take k).filter λe=>e.2
def Va(h)(B:C[f].2=t?):wU C (f+1)=wU C f++[C[f]]:=by unfold wU;rw[IS h,Zj];simp[B]
def WI(h)(B:C[f].2=f?):wU C (f+1)=wU C f:=by unfold wU;rw[IS h,Zj];simp[B]
def Je(l:E?)(k):(wU l k).length<=k:=by unfold wU;have:=No (λe:eE=>e.2)<|l.take k;simp at this⊢;omega
def Du(m:E?)(h:∀e∈m,oX e):(m.flatMap λe=>dM e.1).length<=l? m*1048577:=by
 induction m with
 |nil=>simp|cons e m B=>
  have O:=(h e i!).1;have U:=B (λx J=>h x<|by simp[J]);rw[c!,Zh,w!];have V:(dM e.1).length=l? e.1+1:=by simp[dM]
  omega
def PN(h:∀e∈C,oX e)(B:x2.1.1=(wU C f).flatMap λe=>dM e.1):x2.size<=f*1048577:=by have O:=Du (wU C f)<|λe J=>h e<|Za (Zb.1 J).1;have U:=congrArg et B;have V:l? x2.1.1=x2.size:=i!;have:=IN 1048577<|Je C f;omega
def VU(l:E?):∀e∈l,l? e.3<=(l.map λe=>l? e.3).sum:=by
 induction l with
 |nil=>intro e B;simp at B|cons x l J=>
  intro e B;rw[ZK,J!];obtain rfl|h:=Zm.1 B
  omega;have:=J e h;omega
def Gr(v)(l:E?)(w)(hv:jB w 5 v l.length<|dG l)(hr:∀e∈l,oX e)(a6:l? l<=1048576)(ag:(l.map λe=>l? e.3).sum<=1048576) :
  ld prog 109 #[v] w λe w'=>e=e? (s? ⟨(oq l).toArray⟩)/\B? w w':=by
 have HT:J? _:=λe Y=>hr e<|jG.1 Y;have aa:(eY l).length<=1048576:=by rwa[uV]
 have ah:J? (∀e∈dE _,(dF e).length<=(oU l-1)+(⟨#[]⟩:b?).size):=λe Y=>by have h1:=VU l e<|jG.1 (Zb.1 Y).1;unfold oU dF;rw[eB];show _<=_+0;omega
 have ai:oU l-1<=2097152/\oU l-1+1=oU l:=by unfold oU;omega
 obtain⟨a,cap,rfl,hc,hm,_,_⟩:=id hv;have aj:=J7 _ l w hv o!;have ab:=h! ai;clear hv hr ai ag;unfold la at hm;go_enter func109,ntmps109;go_wp2_with fail;apply aj.mono;rintro e w1 ⟨u,rfl,V,ac⟩;have aq:=ac.4;obtain⟨sl,ad⟩:∃sl,sl=eY l:=⟨_,q?⟩;rw[<-ad]at V aa HT ah;have ar:=h! ad;clear ad aj;obtain⟨a2,c2,rfl,a9⟩:=dK V;have HV:=h!<|jB.eo V;have au:=h! ac;clear V ac;go_wp2;go_loopw [4,5,6] (λsv nv iv wr=>∃(k:Nat)(O:b?),k<=l? sl/\iv=n? i? k/\sv=s? O/\O.1.1=((wU sl k).flatMap λe=>dM e.1)/\nv=n? i? (wU sl k).length/\B? w1 wr) (λ_ _ i _=>l? sl-(intOf i).toNat);exact⟨0,⟨#[]⟩,ZP _,q?,q?,q?,q?,nr _ _⟩;obtain⟨k,O,hk,rfl,rfl,ae,rfl,B⟩:=hrel;have HO:=h! ae;have a7:=PN HT ae;have av:=Je sl k;have HS:=B.4;clear ae;by_cases U:k<l? sl
 .obtain⟨b,off,rfl,c0,c1,a',c3,c4⟩:=jo (HV.below B) k U;have aA:(k:Int)<(l? sl:Int):=o!
  cases hg:sl[k].2 with
  |false=>
   have HX:=h!<|WI U hg;rw[hg]at c1;clear hg;go_wp2;go_roundw
   .exact⟨k+1,O,o!,by go_num,q?,by rw[HX.o];exact HO,by rw[HX.o],B⟩
   exact M!
  |true=>
   have HX:=h!<|Va U hg;let ⟨P1,g1,C1⟩:=ym _ (HT _<|Zw U).1;have HG:=h! g1.1;have p1:=g1.2;have aw:¬(9223372036854775807<O.size+P1.size):=o!;rw[hg]at c1;clear hg g1;have ax:=h! C1;clear C1;go_wp2_with fail;apply (ax wr).mono;rintro e w3 ⟨rfl,ak⟩;have ay:=h!<|B.trans<|Below.mono ak HS;clear ak B;go_wp2;go_roundw
   .refine⟨k+1,O++P1,o!,by go_num,q?,?_,?_,ay⟩;rw[HX.o,Z!,o0,j1,HO.o,HG.o];simp;rw[HX.o,Zh];go_num
   exact M!
 have az:k=l? sl:=o!;subst az;have al:wU sl sl.length=sl.filter λe=>e.2:=by unfold wU;rw[o?]
 rw[al]at HO av⊢;clear al U hk;have am:=pW _ sl wr (HV.below B) o!;have a0:=h!<|au.trans<|B.mono aq;have hz:=B.4;clear B;go_wp2_with fail;apply am.mono;rintro e w4 ⟨u4,rfl,af,an⟩;have ao:=h!<|a0.trans<|an.mono o!;obtain⟨a4,c4,rfl,aB⟩:=dK af;have aC:(dE sl).length<=l? sl:=No _ _;have ap:=λy (J:gR w4 y)=>Sv (dE sl) (λe Y=>HT.o e (Zb.1 Y).1) o! _ _ _ _ y ab.1 ((jB.eo af).below J) ah (Zu _) (by show 0<=_;omega);obtain⟨P2,W⟩:∃P2:b?,P2=⟨(mu (oU l) (dE sl) [] []).toArray⟩:=⟨_,q?⟩
 have a1:J? (∀y:w?,gR w4 y->ld _ 150 _ y λe w'=>e=e? (s? P2)/\gR y w'):=λy J=>by have h:=ap y J;rw[ab.2]at h;rwa[W]
 have a8:P2.size<=7000000000000000000:=by
  have h:=Cy (oU l) (dE sl) [] []<|λe Y=>HT.o e (Zb.1 Y).1;have h4:oU l*((dE sl).length*3145743)<=2097153*(1048576*3145743):=hU (v! ab.o)<|IN _ o!;have h5:P2.size=(mu (oU l) (dE sl) [] []).length:=by rw[W];rfl
  simp only[F!]at h;omega
 have a3:J?<|⟨#[u8 (sl.filter λe=>e.2).length]⟩++O++P2=(⟨(oq l).toArray⟩:b?):=by show _=_;rw[W];apply o7;apply kc.1;unfold oq;rw[<-ar.o];simp only[o0,j1,HO.o,B!,E!,dE]
 have f2:((⟨#[u8 (sl.filter λe=>e.2).length]⟩:b?)++O).size=1+O.size:=by rw[ow];rfl
 have aw:¬(9223372036854775807<1+O.size):=o!;have aD:¬(9223372036854775807<1+O.size+P2.size):=o!;clear ap W af an am;go_wp2_with fail;refine j0 k! ?_;refine dA 0 ?_ ?_ ?_;rotate_left
 .intro y J;exact x!
 refine dA 1 ?_ ?_ ?_;rotate_left
 .intro y J;exact x!
 refine dA 4 ?_ ?_ ?_;rotate_left
 .intro y J;exact x!
 refine dA 6 ?_ ?_ ?_;rotate_left
 .intro y J;exact x!
 refine dA 7 ?_ ?_ ?_;rotate_left
 .intro y J;exact z!<|a1 y J
 refine GR (rs:=[2]) k! i! ?_;intro i hi;simp only[Zg]at hi;subst hi;refine Gu (λg=>(.slice (y? ⟨g,0,x?⟩) 1 1)) (λg y=>C? y ⟨g,0,x?⟩=y? (n? .u8<|IntKind.u8.wrap<|(sl.filter λe=>e.gone).length)) q? (fK _) (λg=>(eL _ _)) l! ?_ ?_
 .intro y J;unfold lO;go_simp;exact⟨gR.alloc _ _,q?,by rw[Zl _ _ _ _ rfl];rfl⟩
 intro g;refine dA 3 ?_ ?_ ?_ (hC:=((fK _).and<|eL _ _));rotate_left
 .intro y J;have q:=rn J.2;exact x!
 refine dA 5 ?_ ?_ ?_ (hC:=((fK _).and<|eL _ _));rotate_left
 .intro y J;exact no_implicit_lambda%x!
 refine dA 8 ?_ ?_ ?_ (hC:=((fK _).and<|eL _ _));rotate_left
 .intro y J;exact no_implicit_lambda%x!
 refine dA 9 ?_ ?_ ?_ (hC:=((fK _).and<|eL _ _));rotate_left
 .intro y J;exact no_implicit_lambda%x!
 refine qF k! ?_ _;intro y J;have a5:=h! J.1;clear J;go_simp;go_wp2;go_ret;refine⟨xv ?_,ao.trans<|Below.mono a5 ao.4⟩;exact a3.o
