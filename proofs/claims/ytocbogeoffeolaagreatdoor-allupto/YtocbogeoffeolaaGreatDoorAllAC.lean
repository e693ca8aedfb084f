import Derived.DyingOn
import Derived.Conc.Beside
import Derived.Conc.CrowdComm
import Derived.Test.YtocbogeoffeolaaGreatDoorAllAB
set_option linter.all false
set_option maxHeartbeats 8000000
set_option maxRecDepth 1000000
open Array renaming mapM_eq_mapM_toList->bq,filter->br,empty_append->bs,range->bu,toList_map->bv,mem_append->bw,length_toList->bx,forIn_toList->bz,foldl_toList->b4,mem_iff_getElem->b5,isEmpty->b8,append_empty->b9,append_assoc->bA,all_eq_true_iff_forall_mem->bB,map->bC,toList_zipIdx->bE,toList_filter->bF,getElem?_map->bG,mem_flatMap->bH,toList_zip->bI,all_toList->bJ,swapAt!->bK
open Nat renaming le_succ_of_le->lw,exists_eq_add_of_le->lx,lt_of_succ_le->ly,le_of_succ_le->lE,le_of_not_lt->mb,zero_mul->mm,ne_of_lt->mp,le_succ->mr
open List renaming mem_iff_getElem?->m0,getElem?_zip_eq_some->m7,mem_toArray->m8,getElem?_cons_zero->m9,forIn_cons->nw,mapM_cons->ny
open Bool renaming not_eq_true->n8
open Option.some renaming inj->o7
open Classical renaming choose->pp,em->pu,choose_spec->p0
open Option renaming map_eq_some_iff->qb
open Ne renaming symm->qs
open Std.Legacy.Range renaming forIn_eq_forIn_range'->r3
open Array renaming setIfInBounds->S?
open Bool renaming false->f?,true->t?
open List renaming length->l?
open Option renaming none->x?,some->y?
namespace Go.Proofs.YtocbogeoffeolaaGreatDoor
open Go renaming TypeId->bL,stepG->bM,tryRecover->bN,doReturn->bO,communicate->bP,unwind->bQ,zeroValue->bR,ways->bS,seen->bT,underlying->bU,lone->bV,runN->bW,goexitEntry->bX,endThrow->bY,boundsPanic->bZ,step_lone_ended->cd,runtimePanic->ce,callDeferred->cf,Trace->cg,partners->ci,step_lone_go->cj,newRow->ck,yielded->cm,loadCellsFrom->cp,storeCells->cq,sizeOf->cr,findLabel->cu,FuncId->cv,loadBytes->cw,loadCells->cy,dieOf->cz,results->c3,offeredValue->c4,gotoIn->c5,exitTo->c6,execOp->c7,askRoom->c8,typeInfo->c9,runT->cA,sameAddr->cB,newObj->cC,mayBeOne->cD,nilAhead->cE,markStringish->cF,typeStr->cG,resolve->cH,movedPointer->cI,behindNumber->cJ,method->cK,variablesAt->cL,stepT->cM,movedNumber->cN,fieldPlace->cO,elemOf->cP,commResult->cQ,byteOf->cR,Race->cS
open Instr renaming sameBits->cT,sameNow->cU,fill->cV,endRound->cW,findNow->cX,takeDeferred->cY,findAsking->cZ,checkKey->db,findKey->dc,keyThatStays->dg,deferInRound->dh,sliceBounds->di,sliceBound->dk,sliceAt->dl,indexAt->dn,getLoop->dp,extract->dq,yield->dr,slice->dw,makeInterface->dB,next->dN,typeAssert->dS,entryStore->ee,buildSlice->ek,beginRound->en,mapUpdate->ep,makeSlice->ey,enterLoop->eC,sureAddr->fa,mapEntry->fb,makeFunc->fd,makeChan->fi,storeAt->fk,makeMap->fm,fieldAt->ft,endLoop->fv,lookup->fz,loadAt->fB,range->ga,panic->gc,index->gd,field->ge,entry->gj,build->gm,alloc->gn,box->gt
open Conc renaming offersAt_of_not_blocked->gv,mem_ofEvents->gx,served->gy,rcase->gz,crowd->g8,offersAt->g9,touchAt->gA,runT_crowd_go->gB,getElem?_stand->hC,getElem?_append_old->hI,scase->hL,offersAt_ph->hM,ofEvents_eq->hO,noRace_append->hQ,offersAt_parked_send->hR,Knows->hU,lt_size_of_getElem?->hV,crowd_pick->hY,knows_own->hZ,finishPartner_at->ie,runT_crowd_comm->ip,mem_of_getElem?->iv,again_running->i0,woken_quitsD->i1,partners_one->i2,partners_nil->i3,illMade->i4,crowd_waits->i5,woken->i6,awake->i7
open Op renaming operands->i8,maxDepth->i9,equal->jt,eqGuardIn->j1,stringOp->j2,intArith->j3,intBits->j4,equalIn->j',twoPlaces->ka,addrMod->kb,intDiv->ke,intCmp->kf,unary->ko,shift->kv
open stepG renaming apply->kx,exec->ky
open Sem renaming run->k5,runT_fst->k6,runT->k7,run_bind'->k8,bind->k9,bind_assoc'->ld
open GStep renaming after->mv
open ConcN renaming upd_same->n0,upd_ne->n3,upd->n4
open Builtin renaming zeroCells->nL,unsafeAdd_->nU,firstCells->ob,append_->oi,clear_->oj,copy_->ol,min_->om,max_->ou,len_->ov,cap_->ow,unsafeString_->o0,holdsCells->o1,mayShare->o2,lenOf->o3,min2->o4,max2->o5
open MemOp renaming ofEvents->oA
open Frame renaming catches->oB,raise->oC,pos->oK,round->oN,enter->oQ,finish->oS,eval->oT,oper?->pi
open MemAct renaming ofEvent->p1,touch?->p5
open Call renaming operands->qt
open Stepped.next renaming injEq->qz
open Goroutine renaming callers->q0,frame->q3,again->q4,status->q5,finishComm->q6,dyingOn->q7,canRun->q8
open World renaming freeze->ra,frozen?->rb,«at»->rc
open Conv renaming bytesToString->re,stringToBytes->rf,runesToString->ro
open Extern.SlicesOverlaps renaming overlaps->rt
open Extern.Bytes renaming loadBytes->rx,bytesOf->ry
open Question renaming forced->rz
open Trace renaming act?->r4,g?->r5
open GStep.go renaming injEq->r6
open Region renaming wanted->sb,schedule->sc
open Go renaming Program->P?,Value->v?,World->w?
open Item renaming inRegion->r?
open Obj renaming cells->c?
open Value renaming int->n?,pointer->p?,string->s?
open World renaming cell?->C?
section
section
variable {o:P?}{p C U x4 z4 z5:v?}{I x2:Nat}{J y9:Addr}{x0 x3:w?}{x1 x5:V?}{x6:Array bL}{x7 y0:Obj}{x9 y6:Operand->v?}{y1 y2:List MapEntry}{y3 y8:Array MapEntry}{y4 y5 z0 z1 z2 z3:Option v?}{y7:F?}
def lV:Halt->Prop
 |.unsupported (.initOrder _)=>False|.unsupported _=>True|.stuck _=>True|.throw _=>True|_=>False
def eW.run{P:P?}{J:Type}{s:Sem J}(h:eW P s):∀w:w?,∃x w₁,s.run P w=.halt x w₁/\lV x:=by
 induction s with
 |pure a=>exact h.elim|load m a k B=>exact h.elim|store m a v k B=>intro w;cases v<;>first|exact h.elim|exact⟨_,_,q?,t!⟩
 |new o k B=>exact λw=>B _ (h _) _|shape r k B=>exact λw=>B _ (h _) _|freeze a n k B=>exact λw=>B h _|frozen a k B=>exact λw=>B _ (h _) _|getObj r k B=>intro w;simp only[k5];split;exact⟨_,_,q?,t!⟩;exact B _ (h _) _;exact⟨_,_,q?,t!⟩
 |setObj r o k B=>intro w;simp only[k5];split;exact⟨_,_,q?,t!⟩;exact B h _;exact⟨_,_,q?,t!⟩
 |choose q k B=>intro w;simp only[k5];split;exact B _ (h _) _;exact B _ (h _) _
 |sys c k B=>exact λw=>B _ (h _) _|program k B=>exact λw=>B P h _|mark m k B=>exact λw=>B h _|halt x=>intro w;refine⟨x,w,q?,?_⟩;cases x<;>first|exact h.elim|trivial|(rename_i u;cases u<;>first|exact h.elim|trivial)
def Ren.ext(m:Ren)(r r')(_h:m.1 r=x?)(U:∀s,m.1 s≠y? r')(V:r<m.G↔r'<m.G):Ren where
 blk:=λs=>if s=r then y? r' else m.1 s
 ch:=m.2
 loose:=λs=>if s=r then False else m.3 s
 ok:=m.4
 nu:=m.5
 SN:=m.6
 dead:=m.7
 dm:=m.8
 Yd:=m.9
 Li:=m.10
 G:=m.G
 Lp:=λa b B=>by
  by_cases J:a=r
  .simp[J]at B;subst B;rwa[J]
  .simp[J]at B;exact m.12 _ _ B
 inj:=λa b t B hb=>by
  by_cases J:a=r<;>by_cases O:b=r
  .rw[J,O]
  .simp[J,O]at B hb;subst B;exact absurd hb<|U _
  .simp[J,O]at B hb;subst hb;exact absurd B<|U _
  .simp[J,O]at B hb;exact m.13 _ _ _ B hb
 TZ:=m.14
def Ren.wC(m:Ren)(r r')(_h:m.2 r=x?)(U:∀s,m.2 s≠y? r'):Ren where
 blk:=m.1
 ch:=λs=>if s=r then y? r' else m.2 s
 loose:=m.3
 ok:=m.4
 nu:=m.5
 SN:=m.6
 dead:=m.7
 dm:=m.8
 Yd:=m.9
 Li:=m.10
 G:=m.G
 Lp:=m.12
 inj:=m.13
 TZ:=λa b t B hb=>by
  by_cases J:a=r<;>by_cases O:b=r
  .rw[J,O]
  .simp[J,O]at B hb;subst B;exact absurd hb<|U _
  .simp[J,O]at B hb;subst hb;exact absurd B<|U _
  .simp[J,O]at B hb;exact m.14 _ _ _ B hb
variable {g x8:Ren}
def Ren.yT(h:g.1 I=x?)(J:∀s,g.1 s≠y? x2)(O:I<g.G↔x2<g.G):g.Le<|g.ext I x2 h J O:=by
 refine⟨λs s' B=>?_,λ_ _ x=>x,λs s' B=>?_,λs B=>?_,q?,q?,q?,q?,q?,q?,q?⟩;have:s≠I:=λe=>by rw[e,h]at B;cases B
 simp[Ren.ext,this,B];have:s≠I:=λe=>by rw[e,h]at B;cases B
 simp[Ren.ext,this];by_cases e:s=I;simp[Ren.ext,e]at B;simpa[Ren.ext,e]using B
def Ren.AJ(h:g.2 I=x?)(J:∀s,g.2 s≠y? x2):g.Le<|g.wC I x2 h J:=by
 refine⟨λ_ _ x=>x,λs s' B=>?_,λs s' B=>Iff.rfl,λ_ h=>h,q?,q?,q?,q?,q?,q?,q?⟩;have:s≠I:=λe=>by rw[e,h]at B;cases B
 simp[Ren.wC,this,B]
def WR.jc(h:WR g x0 x3):g.1 x0.1.size=x?:=by
 cases hb:g.1 _ with
 |none=>rfl|some r'=>have:=(h.lt hb).1;omega
def WR.nD(h:WR g x0 x3):∀s,g.1 s≠y? x3.1.size:=λs hb=>by have:=(h.lt hb).2;omega
def WR.sV(h:WR g x0 x3):g.2 x0.1.size=x?:=by
 cases hb:g.2 _ with
 |none=>rfl|some r'=>have:=(h.4 _ _ hb).1;omega
def WR.pD(h:WR g x0 x3):∀s,g.2 s≠y? x3.1.size:=λs hb=>by have:=(h.4 _ _ hb).2;omega
def WR.YZ(h:WR g x0 x3):x0.1.size<g.G↔x3.1.size<g.G:=⟨λx=>absurd h.5 o!,λx=>absurd h.6 o!⟩
def fG{h:Array Obj}(B:I<h.size):(h.push x7)[I]?=h[I]?:=by rw[Array.getElem?_push];have:I≠h.size:=o!;simp[this]
def lA{h:Array Obj}(x:h[I]?=y? x7):I<h.size:=(AI.1 x).1
def jL{h:Array Obj}(B:h[I]?=y? y0):(h.push x7)[I]?=y? y0:=by rwa[fG<|lA B]
def WR.push(h:WR g x0 x3)(ho:OR g x7 y0)(hc:∀e c f,x7=c? e c f->∃e',y0=c? e' c f) :
  WR (g.ext x0.1.size x3.1.size h.jc h.nD h.YZ) {x0 with heap:=x0.1.push x7} {x3 with heap:=x3.1.push y0}:=by
 have J:=Ren.yT h.jc h.nD h.YZ
 have key:∀r r',(g.ext x0.1.size x3.1.size h.jc h.nD h.YZ).1 r=y? r'->(r=x0.1.size/\r'=x3.1.size)\/(g.1 r=y? r'/\r<x0.1.size/\r'<x3.1.size):=by intro r r' hb;by_cases e:r=x0.1.size;simp[Ren.ext,e]at hb;exact .inl ⟨e,hb.symm⟩;simp[Ren.ext,e]at hb;exact .inr ⟨hb,h.lt hb⟩
 refine⟨λr r' hb=>?_,λr r' c e f c' e' f' hb O U hn=>?_,λr r' c e f c' e' f' hb O U Y=>?_,λr r' hb=>?_,by simp;have:=h.5;first|exact lw this|exact this,by simp;have:=h.6;first|exact lw this|exact this,h.7,λr x7 hr=>⟨jL (h.8 r x7 hr).1,(h.8 r x7 hr).2⟩,λr r' hb Y=>?_,λr hr=>⟨?_,?_⟩,λr i v hv=>?_⟩;obtain⟨rfl,rfl⟩|⟨B,V,W⟩:=key r r' hb
 exact⟨x7,y0,i!,i!,ho.mono J⟩;obtain⟨x,x',g1,g2,g3⟩:=h.1 r r' B;exact⟨x,x',by rwa[fG V],by rwa[fG W],g3.mono J⟩;obtain⟨rfl,rfl⟩|⟨B,V,W⟩:=key r r' hb
 simp at O U;obtain⟨y,hy⟩:=hc _ _ _ O;rw[hy]at U;cases U;rfl;simp only[fG V,fG W]at O U;refine h.2 r r' _ _ _ _ _ _ B O U λY=>hn<|(J.3 r r' B).2 Y;obtain⟨rfl,rfl⟩|⟨B,V,W⟩:=key r r' hb
 simp[Ren.ext]at Y;simp only[fG V,fG W]at O U;exact h.3 r r' _ _ _ _ _ _ B O U<|(J.3 r r' B).1 Y;have:=h.4 r r' hb;simp;omega;obtain⟨rfl,rfl⟩|⟨B,V,W⟩:=key r r' hb
 simp[Ren.ext]at Y;obtain⟨c,e,f,hx⟩:=h.9 r r' B<|(J.3 r r' B).1 Y;exact⟨c,e,f,jL hx⟩;obtain⟨O,c,f,hx⟩:=h.10 r hr;have:=mp<|lA hx;simp[Ren.ext,this,O];obtain⟨O,c,f,hx⟩:=h.10 r hr;exact⟨c,f,jL hx⟩;obtain⟨r',hb,hp⟩:=h.11 r i v hv;refine⟨r',J.1 _ _ hb,λc e f c' e' f' x g1 g2=>?_⟩;obtain⟨V,W⟩:=h.lt hb;simp only[fG V,fG W]at g1 g2;exact hp c e f c' e' f' x g1 g2
def WR.Vj(h:WR g x0 x3)(o o':Obj):WR (g.wC x0.1.size x3.1.size h.sV h.pD) {x0 with heap:=x0.1.push o} {x3 with heap:=x3.1.push o'}:=by refine⟨λr r' hb=>?_,λr r' c e f W Y f' hb B U hn=>?_,λr r' c e f W Y f' hb B U hl=>?_,λr r' hb=>?_,by simp;have:=h.5;first|exact lw this|exact this,by simp;have:=h.6;first|exact lw this|exact this,h.7,λr o V=>⟨jL (h.8 r o V).1,(h.8 r o V).2⟩,λr r' hb hl=>by obtain⟨c,e,f,hx⟩:=h.9 r r' hb hl;exact⟨c,e,f,jL hx⟩,λr V=>by obtain⟨B,c,f,hx⟩:=h.10 r V;exact⟨B,c,f,jL hx⟩,λr i v hv=>?_⟩;obtain⟨J,O⟩:=h.lt<|hb;obtain⟨x,x',g1,g2,g3⟩:=h.1 r r' hb;exact⟨x,x',by rwa[fG J],by rwa[fG O],g3.mono<|Ren.AJ h.sV h.pD⟩;obtain⟨J,O⟩:=h.lt<|hb;simp only[fG J,fG O]at B U;exact h.2 r r' _ _ _ _ _ _ hb B U hn;obtain⟨J,O⟩:=h.lt<|hb;simp only[fG J,fG O]at B U;exact h.3 r r' _ _ _ _ _ _ hb B U hl;by_cases e:r=x0.1.size;simp[Ren.wC,e]at hb;subst hb;simp[e];simp[Ren.wC,e]at hb;have:=h.4 r r' hb;simp;omega;obtain⟨r',hb,hp⟩:=h.11 r i v hv;refine⟨r',hb,λc e f W Y f' x g1 g2=>?_⟩;obtain⟨J,O⟩:=h.lt hb;simp only[fG J,fG O]at g1 g2;exact hp c e f W Y f' x g1 g2
def WR.turn(h:WR g x0 x3)(hb:g.1 I=y? x2)(ho:OR g x7 y0)
  (hf:∀c e f V O f',x7=c? c e f->y0=c? V O f'->(¬g.3 I->f'=f)/\(g.3 I->∀i,i<c.size->inside f i)) (aa:g.3 I->∃c e f,x7=c? c e f)
  (ab:∀c e f V O f',x7=c? c e f->y0=c? V O f'->∀i x v,g.9 I i=y? v->c[i]?=y? x->qL x->V[i]?=y? v) :
  WR g {x0 with heap:=S? x0.1 I x7} {x3 with heap:=S? x3.1 x2 y0}:=by
 obtain⟨l1,l2⟩:=h.lt hb
 have key:∀s s',g.1 s=y? s'->(s=I/\s'=x2)\/(s≠I/\s'≠x2):=by intro s s' B;by_cases e:s=I;subst e;rw[hb]at B;cases B;exact .inl ⟨q?,q?⟩;exact .inr ⟨e,λO=>e<|g.13 _ _ _ (O▸B) hb⟩
 refine⟨λs s' B=>?_,λs s' c e f V O f' B J U hn=>?_,λs s' c e f V O f' B J U hl=>?_,λs s' B=>by simpa using h.4 s s' B,u! h.5,u! h.6,h.7,λs x B=>?_,λs s' B hl=>?_,λs B=>?_,λs i v hv=>?_⟩;obtain⟨rfl,rfl⟩|⟨n1,n2⟩:=key s s' B
 exact⟨x7,y0,by simp[l1],by simp[l2],ho⟩;obtain⟨x,x',Y,W,g3⟩:=h.1 s s' B;exact⟨x,x',by rwa[Zd<|qs n1],by rwa[Zd<|qs n2],g3⟩;obtain⟨rfl,rfl⟩|⟨n1,n2⟩:=key s s' B
 simp[l1,l2]at J U;exact(hf _ _ _ _ _ _ J U).1 hn;simp only[Zd<|qs n1,Zd<|qs n2]at J U;exact h.2 s s' _ _ _ _ _ _ B J U hn;obtain⟨rfl,rfl⟩|⟨n1,n2⟩:=key s s' B
 simp[l1,l2]at J U;exact(hf _ _ _ _ _ _ J U).2 hl;simp only[Zd<|qs n1,Zd<|qs n2]at J U;exact h.3 s s' _ _ _ _ _ _ B J U hl;obtain⟨Y,W⟩:=h.8 s x B;refine⟨?_,W⟩
 have:I≠s:=by intro rfl;obtain⟨y,y',k1,_,k3⟩:=h.1 I x2 hb;obtain⟨c,b,x',s',z,t,rfl⟩:=W;rw[Y]at k1;cases k1;cases k3
 show(S? x0.1 I x7)[s]?=_;rwa[Zd this];obtain⟨rfl,rfl⟩|⟨n1,n2⟩:=key s s' B
 obtain⟨c,e,f,rfl⟩:=aa hl;exact⟨c,e,f,by simp[l1]⟩;obtain⟨c,e,f,hx⟩:=h.9 s s' B hl;exact⟨c,e,f,by simpa only[Zd<|qs n1]using hx⟩;obtain⟨J,c,f,hx⟩:=h.10 s B;have:I≠s:=by intro rfl;rw[hb]at J;cases J
 exact⟨J,c,f,by simpa only[Zd this]using hx⟩;obtain⟨s',B,hp⟩:=h.11 s i v hv;refine⟨s',B,λc e f V O f' x Y W=>?_⟩;obtain⟨rfl,rfl⟩|⟨n1,n2⟩:=key s s' B
 simp[l1,l2]at Y W;exact λg3 g4=>ab _ _ _ _ _ _ Y W i x v hv g3 g4;simp only[Zd<|qs n1,Zd<|qs n2]at Y W;exact hp c e f V O f' x Y W
def sq(h)(r)(f)(o:Obj)(J:h[r]?=y? o):h.modify r f=S? h r (f o):=by apply Array.ext_getElem?;intro i;obtain⟨B,O⟩:=AI.1 J;by_cases e:r=i;subst e;rw[Ze];simp[B,O];rw[Ze];simp[e]
def WR.setCell(h:WR g x0 x3){a:Addr}(ha:AR g a J)(hv:VR g C U)(ab:¬qL C):WR g (x0.setCell a C)<|x3.setCell J U:=by
 cases ha with
 |@mk b b' o s hb=>
 obtain⟨x,x',V,W,ho⟩:=h.1 b b' hb;unfold World.setCell;simp only[sq _ _ _ _ V,sq _ _ _ _ W]
 cases ho with
 |cells e f f' hc=>
  refine h.turn hb (.cells e f f' ?_) (λc e f c' e' f' e1 e2=>?_) (λ_=>⟨_,_,_,q?⟩) ?_;split;exact hc;exact hc.set _ hv
  cases e1;cases e2;refine⟨λY=>h.2 b b' _ _ _ _ _ _ hb V W Y,λO i hi=>h.3 b b' _ _ _ _ _ _ hb V W O i ?_⟩;revert hi;split<;>simp;intro c1 e1 f1 c2 e2 f2 q1 q2 i x u hu B Y;cases q1;cases q2;obtain⟨b2,aa,hp⟩:=h.11 b i u hu;rw[hb]at aa;cases aa;revert B;split;exact λB=>hp _ _ _ _ _ _ x V W B Y;intro B;by_cases e:o=i;subst e;rw[Array.getElem?_setIfInBounds]at B;simp at B;exact absurd (B.2▸Y) ab;rw[Zd e]at B⊢;exact hp _ _ _ _ _ _ x V W B Y
 |map clock he=>exact h.turn hb (.map clock he) (nofun) (λO=>(by obtain⟨c,e,f,B⟩:=h.9 _ _ hb O;rw[V]at B;cases B))<|nofun|number l B=>exact h.turn hb (.number l B) (nofun) (λO=>(by obtain⟨c,e,f,B⟩:=h.9 _ _ hb O;rw[V]at B;cases B))<|nofun|stringIter s p=>exact h.turn hb (.stringIter s p) (nofun) (λO=>(by obtain⟨c,e,f,B⟩:=h.9 _ _ hb O;rw[V]at B;cases B))<|nofun|ik x y z=>exact h.turn hb (.ik x y z) (nofun) (λO=>(by obtain⟨c,e,f,B⟩:=h.9 _ _ hb O;rw[V]at B;cases B))<|nofun|mapIter x y z hm=>exact h.turn hb (.mapIter x y z hm) (nofun) (λO=>(by obtain⟨c,e,f,B⟩:=h.9 _ _ hb O;rw[V]at B;cases B))<|nofun|loop O=>exact h.turn hb (.loop O) (nofun) (λO=>(by obtain⟨c,e,f,B⟩:=h.9 _ _ hb O;rw[V]at B;cases B))<|nofun|fM=>exact h.turn hb .fM (nofun) (λO=>(by obtain⟨c,e,f,B⟩:=h.9 _ _ hb O;rw[V]at B;cases B))<|nofun|deferred hd=>exact h.turn hb (.deferred hd) (nofun) (λO=>(by obtain⟨c,e,f,B⟩:=h.9 _ _ hb O;rw[V]at B;cases B))<|nofun
def WR.freeze(h:WR g x0 x3){a:Addr}(ha:AR g a J)(hn:¬g.3 a.1)(n:Nat):WR g (x0.freeze a n)<|x3.freeze J n:=by
 cases ha with
 |@mk b b' o s hb=>
 obtain⟨x,x',U,W,ho⟩:=h.1 b b' hb;unfold ra;split
 .exact h
 simp only[sq _ _ _ _ U,sq _ _ _ _ W]
 cases ho with
 |cells e f f' hc=>
  have ef:=h.2 b b' _ _ _ _ _ _ hb U W hn;subst ef;refine h.turn hb (.cells e _ _ hc) (λc e f c' e' f' e1 e2=>?_) (λ_=>⟨_,_,_,q?⟩) ?_
  cases e1;cases e2;exact⟨λ_=>rfl,λO=>absurd O hn⟩;intro c1 e1 f1 c2 e2 f2 q1 q2 i x u hu B Y;cases q1;cases q2;obtain⟨b2,V,hp⟩:=h.11 b i u hu;rw[hb]at V;cases V;exact hp _ _ _ _ _ _ x U W B Y
 |map clock he=>exact h.turn hb (.map clock he) (nofun) (λO=>(by obtain⟨c,e,f,B⟩:=h.9 _ _ hb O;rw[U]at B;cases B))<|nofun|number l B=>exact h.turn hb (.number l B) (nofun) (λO=>(by obtain⟨c,e,f,B⟩:=h.9 _ _ hb O;rw[U]at B;cases B))<|nofun|stringIter s p=>exact h.turn hb (.stringIter s p) (nofun) (λO=>(by obtain⟨c,e,f,B⟩:=h.9 _ _ hb O;rw[U]at B;cases B))<|nofun|ik x y z=>exact h.turn hb (.ik x y z) (nofun) (λO=>(by obtain⟨c,e,f,B⟩:=h.9 _ _ hb O;rw[U]at B;cases B))<|nofun|mapIter x y z hm=>exact h.turn hb (.mapIter x y z hm) (nofun) (λO=>(by obtain⟨c,e,f,B⟩:=h.9 _ _ hb O;rw[U]at B;cases B))<|nofun|loop O=>exact h.turn hb (.loop O) (nofun) (λO=>(by obtain⟨c,e,f,B⟩:=h.9 _ _ hb O;rw[U]at B;cases B))<|nofun|fM=>exact h.turn hb .fM (nofun) (λO=>(by obtain⟨c,e,f,B⟩:=h.9 _ _ hb O;rw[U]at B;cases B))<|nofun|deferred hd=>exact h.turn hb (.deferred hd) (nofun) (λO=>(by obtain⟨c,e,f,B⟩:=h.9 _ _ hb O;rw[U]at B;cases B))<|nofun
def WR.draw(h:WR g x0 x3)(a b:Nat):WR g {x0 with drawn:=a} {x3 with drawn:=b}:=⟨h.1,h.2,h.3,h.4,h.5,h.6,h.7,h.8,h.9,h.10,h.11⟩
def Al.draw(h:Al x0 x3):Al {x0 with drawn:=x0.3+1} {x3 with drawn:=x3.3+1}:=λi q=>by have:=h (i+1) q;have B:x3.3+1+i=x3.3+(i+1):=o!;have J:x0.3+1+i=x0.3+(i+1):=o!;simp only[B,J];exact this
def WR.shape(h:WR g x0 x3)(hb:g.1 I=y? x2):x3.shape? x2=x0.shape? I:=by
 obtain⟨x,V,B,J,O⟩:=h.1 I x2 hb;unfold World.shape?;simp only[B,J];cases O<;>try rfl
 rename_i U;simp[U.size]
def WR.frozen(h:WR g x0 x3){a:Addr}(V:AR g a J)(W:¬g.3 a.1):x3.frozen? J=x0.frozen? a:=by
 cases V with
 |@mk b B o s hb=>
 obtain⟨x,x',O,U,Y⟩:=h.1 b B hb;unfold rb;simp only[O,U];cases Y<;>try rfl
 rw[h.2 b B _ _ _ _ _ _ hb O U W]
def jH{α β}(RA:Ren->α->β->Prop)(O:Prop)(m:Ren)(w':w?)(es:Array Event)(r:Result β×Array Event):Result α->Prop
 |.ok a w₁=>∃J b B es₁,r=(.ok b B,es++es₁)/\m.Le J/\RA J a b/\WR J w₁ B/\(O->Al w₁ B)/\gH m J w' B/\∀e∈es₁,ri J e|.halt (.panic v) w₁=>∃J U B es₁,r=(.halt (.panic U) B,es++es₁)/\m.Le J/\VR J v U/\WR J w₁ B/\(O->Al w₁ B)/\gH m J w' B/\∀e∈es₁,ri J e|.halt x _=>lV x
def jH.ahead{α β RA al al₁ es es₁}{r:Result β×Array Event}{q:Result α}
  (ha:al->al₁) (W:g.Le x8) (hk:gH g x8 x0 x3) (he:∀e∈es₁,ri x8 e) (h:jH RA al₁ x8 x3 (es++es₁) r q):jH RA al g x0 es r q:=by
 unfold jH at h⊢;split;obtain⟨m₂,b,J,B,Y,O,h3,h4,U,h5,h6⟩:=h;refine⟨m₂,b,J,es₁++B,by rw[Y,bA],W.trans O,h3,h4,λx=>U<|ha x,hk.trans W O h5,λe V=>?_⟩;obtain x|x:=bw.1 V
 exact(he e x).mono O;exact h6 e x;obtain⟨m₂,b,J,B,Y,O,h3,h4,U,h5,h6⟩:=h;refine⟨m₂,b,J,es₁++B,by rw[Y,bA],W.trans O,h3,h4,λx=>U<|ha x,hk.trans W O h5,λe V=>?_⟩;obtain x|x:=bw.1 V
 exact(he e x).mono O;exact h6 e x;rename_i x y V;cases x<;>first|exact h|exact absurd q?<|V _
def gH.cell(hb:g.1 I=y? x2)(J:¬g.3 I)(o:Obj):gH g g x0 {x0 with heap:=S? x0.1 x2 o}:=
 ⟨λx _ O=>by
   have B:x2≠x:=λe=>O I<|e▸hb;rw[Zd B],i!,λx2 h U=>absurd U<|u! h,λ_ _ h=>.inl h,λ_ _ h=>.inl h,q?,q?,q?,λ_=>rfl,q?,λs s' V B=>by
   have:x2≠s':=λe=>J<|g.13 _ _ _ (e▸V) hb▸B
   rw[Zd this]⟩
def gH.modify(hb:g.1 I=y? x2)(J:¬g.3 I)(f:Obj->Obj):gH g g x0 {x0 with heap:=x0.1.modify x2 f}:=
 ⟨λx _ O=>by
   have B:¬x2=x:=λe=>O I<|e▸hb;rw[Ze];simp[B],i!,λx2 h U=>absurd U<|u! h,λ_ _ h=>.inl h,λ_ _ h=>.inl h,q?,q?,q?,λ_=>rfl,q?,λs s' V B=>by
   have:x2≠s':=λe=>J<|g.13 _ _ _ (e▸V) hb▸B
   rw[Ze];simp[this]⟩
def lh{α β RA al es}{r:Result β×Array Event}{q:Result α}{e}
  (B:ri g e) (h:jH RA al g x0 (es.push e) r q):jH RA al g x0 es r q:=
 jH.ahead (es₁:=#[e]) id (.refl g) (.refl g x0) (u! B) (u! h)
def dD.run{P:P?}{α β:Type}{RA:Ren->α->β->Prop}{s:Sem α}{s':Sem β}(h:dD P RA g s s') :
  ∀(w w':w?)(es:Array Event),WR g w w'->(Al w w'\/ig s)->jH RA (Al w w') g w' es (s'.runT P w' es) (s.run P w):=by
 induction h with
 |wj hd=>intro w w' es J B;obtain⟨x,w₁,hr,hh⟩:=hd.run w;rw[hr];cases x<;>first|exact hh|exact hh.elim
 |pure hr=>intro w w' es J B;exact⟨_,_,w',#[],by simp[k7],.refl _,hr,J,id,.refl _ _,i!⟩
 |@load g a Y k k' W _ O=>
  intro w w' es J B;simp only[k5,k7]
  cases hc:C? w a with
  |some v=>obtain⟨v',ag,hv⟩:=J.cell W hc;simp only[ag];exact lh (e:=⟨.cell Y,f?,f?⟩) ⟨q?,a,W,i!⟩<|O v v' hv w w' _ J<|B.imp id λx=>x v
  |none=>obtain⟨y,hy⟩:=J.Vz W hc P<|Mode.plain==.atomic;simp only[hy];trivial
 |@store g a Y v v' k k' W hv _ O=>
  intro w w' es J B;by_cases h1:∃c,v=.agg c
  .obtain⟨c,rfl⟩:=h1;simp only[k5];trivial
  by_cases h2:∃c,v=.tuple c
  .obtain⟨c,rfl⟩:=h2;simp only[k5];trivial
  have e1:(Sem.store Mode.plain a v k).run P w=match C? w a with
    |some _=>if w.frozen? a then .halt (.unsupported<|.unsafePointer "a write to bytes that a string shares") w else k.run P (w.setCell a v)|none=>match w.farStore P a v (Mode.plain==.atomic)with
     |.ok (w,_)=>k.run P w|.error h=>.halt h w:=by
   rw[k5];rfl;exact λc e=>h1 ⟨c,e⟩;exact λc e=>h2 ⟨c,e⟩
  have e2:(Sem.store Mode.plain Y v' k').runT P w' es=match C? w' Y with
    |some _=>if w'.frozen? Y then(.halt (.unsupported<|.unsafePointer "a write to bytes that a string shares") w',es)else k'.runT P (w'.setCell Y v') (es.push ⟨.cell Y,t?,Mode.plain==.atomic⟩)|none=>match w'.farStore P Y v' (Mode.plain==.atomic)with
     |.ok (w,aa)=>k'.runT P w (es++aa.toArray.map (⟨.cell ·,t?,Mode.plain==.atomic⟩))|.error h=>(.halt h w',es):=by
   rw[k7];rfl;exact(λc e=>by subst e;cases hv<;>first|exact h1 ⟨_,q?⟩|exact h2 ⟨_,q?⟩);exact(λc e=>by subst e;cases hv<;>first|exact h1 ⟨_,q?⟩|exact h2 ⟨_,q?⟩)
  have af:¬qL v:=by intro ah;cases v<;>first|exact ah.elim|exact h1 ⟨_,q?⟩|exact h2 ⟨_,q?⟩
  rw[e1,e2]
  cases hc:C? w a with
  |none=>let ⟨y,hy⟩:=J.O4 W hc P v<|Mode.plain==.atomic;simp only[hy];trivial
  |some u=>
   let ⟨u',ai,_⟩:=J.cell W hc;simp only[ai];by_cases hf:w.frozen? a=t?
   .simp only[hf,if_true];trivial
   have ac:¬g.3 a.1:=by
    intro hl
    cases W with
    |@mk b b' o s hb=>
    obtain⟨x,x',g1,g2,ho⟩:=J.1 b b' hb;unfold World.cell? at hc;simp only[g1]at hc
    cases ho with
    |cells e f f' an=>
     simp only at hc;split at hc
     cases hc;have:=J.3 b b' _ _ _ _ _ _ hb g1 g2 hl o<|(AI.1 hc).1;apply hf;unfold rb;simp only[g1];simpa[inside]using this
    |_=>cases hc
   have aj:w'.frozen? Y=f?:=by rw[J.frozen W ac];simpa using hf
   simp only[hf,aj,if_false,Zk];have ak:(Mode.plain==Mode.atomic)=f?:=rfl;rw[ak];refine jH.ahead (es₁:=#[⟨.cell Y,t?,f?⟩]) (al₁:=Al (w.setCell a v)<|w'.setCell Y v') (λh=>h) (.refl _) ?_ ?_ (by simpa using O _ _ _ (J.setCell W hv af) B)
   cases W with
   |mk hb=>exact gH.modify hb ac _
   simp only[m8,Zm,q!,or_false,forall_eq];exact⟨q?,a,W,λ_=>ac⟩
 |@new g o o' k k' ho hc _ O=>
  intro w w' es J B;simp only[k5,k7];have ab:=Ren.yT J.jc J.nD J.YZ;have ad:(g.ext w.1.size w'.1.size J.jc J.nD J.YZ).1 w.1.size=y? w'.1.size:=by simp[Ren.ext]
  refine jH.ahead (es₁:=#[]) (al₁:=Al {w with heap:=w.1.push o} {w' with heap:=w'.1.push o'}) (λh=>h) ab ?_ i! (by simpa using O _ _ _ ab ad (by simp[Ren.ext]) _ _ _ (J.push ho hc) (B.imp id λx=>x _));refine⟨λr' hr hn=>fG hr,i!,λr' h h'=>.inl ⟨w.1.size,?_⟩,λr r' hb=>?_,λ_ _ h=>.inl h,q?,q?,q?,λ_=>rfl,q?,λr r' hb _=>fG (J.lt hb).2⟩;have:r'=w'.1.size:=by simp at h';omega
  rwa[this];by_cases e:r=w.1.size;simp[Ren.ext,e]at hb;exact .inr o!;simp[Ren.ext,e]at hb;exact .inl hb
 |@tj g c b x s r t c' b' x' s' r' t' k k' al _ O=>
  intro w w' es J B;simp only[k5,k7];have ab:=Ren.AJ J.sV J.pD;have ad:(g.wC w.1.size w'.1.size J.sV J.pD).2 w.1.size=y? w'.1.size:=by simp[Ren.wC]
  refine jH.ahead (es₁:=#[]) (al₁:=Al {w with heap:=w.1.push _} {w' with heap:=w'.1.push _}) (λh=>h) ab ?_ i! (by simpa using O _ _ _ ab ad _ _ _ (J.Vj _ _) (B.imp id λx=>x _));refine⟨λr' hr hn=>fG hr,i!,λr' h h'=>.inr ⟨w.1.size,?_⟩,λ_ _ h=>.inl h,λr r' hb=>?_,q?,q?,q?,λhn=>absurd al hn,q?,λr r' hb _=>fG (J.lt hb).2⟩;have:r'=w'.1.size:=by simp at h';omega
  rwa[this];by_cases e:r=w.1.size;simp[Ren.wC,e]at hb;exact .inr o!;simp[Ren.wC,e]at hb;exact .inl hb
 |shape hb _ O=>intro w w' es J B;simp only[k5,k7,J.shape hb];exact O _ w w' es J<|B.imp id λx=>x _
 |@freeze g a Y n k k' W hn _ O=>
  intro w w' es J B;simp only[k5,k7];refine jH.ahead (es₁:=#[]) (al₁:=Al (w.freeze a n)<|w'.freeze Y n) (λh=>by unfold ra;split<;>exact h) (.refl _) ?_ i! (by simpa using O _ _ _ (J.freeze W hn _) (B.imp (λh=>by unfold ra;split<;>exact h) λx=>x))
  cases W with
  |mk hb=>unfold ra;split;exact .refl _ _;exact gH.modify hb hn _
 |frozen W hn _ O=>intro w w' es J B;simp only[k5,k7,J.frozen W hn];exact O _ w w' es J<|B.imp id λx=>x _
 |getObj hb _ O=>
  intro w w' es J B;obtain⟨x,x',h1,h2,ho⟩:=J.1 _ _ hb;simp only[k5,k7,h1,h2];obtain U|U:=pu<|Ren.loose _ _
  .obtain⟨c,e,f,hx⟩:=J.9 _ _ hb U;rw[h1]at hx;cases hx;trivial
  have V:ri _ ⟨.obj _,f?,f?⟩:=⟨q?,_,hb,U⟩
  cases ho with
  |cells=>trivial|map clock he=>exact lh V<|O _ _ (.map clock he) w w' _ J<|B.imp id λx=>x _|number l hx=>exact lh V<|O _ _ (.number l hx) w w' _ J<|B.imp id λx=>x _|stringIter s p=>exact lh V<|O _ _ (.stringIter s p) w w' _ J<|B.imp id λx=>x _|ik a b c=>exact lh V<|O _ _ (.ik a b c) w w' _ J<|B.imp id λx=>x _|mapIter a b c hm=>exact lh V<|O _ _ (.mapIter a b c hm) w w' _ J<|B.imp id λx=>x _|loop hl=>exact lh V<|O _ _ (.loop hl) w w' _ J<|B.imp id λx=>x _|fM=>exact lh V<|O _ _ .fM w w' _ J<|B.imp id λx=>x _|deferred hd=>exact lh V<|O _ _ (.deferred hd) w w' _ J<|B.imp id λx=>x _
 |@setObj g r r' o o' k k' hb ho hc _ O=>
  intro w w' es J B;obtain⟨x,x',h1,h2,hx⟩:=J.1 _ _ hb;have am:o'.isChan=f?:=by cases ho<;>rfl
  obtain U|U:=pu<|g.3 r
  .let ⟨c,e,f,hy⟩:=J.9 _ _ hb U;simp only[k5,hy];trivial
  have fin:jH RA (Al w w') g w' es (k'.runT P {w' with heap:=S? w'.1 r' o'} (es.push ⟨.obj r',t?,o'.isChan⟩))<|k.run P {w with heap:=S? w.1 r o}:=by rw[am];exact jH.ahead (es₁:=#[⟨.obj r',t?,f?⟩]) (al₁:=Al {w with heap:=S? w.1 r o} {w' with heap:=S? w'.1 r' o'}) (λh=>h) (.refl _) (gH.cell hb U _) (by simpa using⟨rfl,_,hb,U⟩) (by simpa using O _ _ _ (J.turn hb ho (λc e f c' e' f' e1 _=>absurd e1<|hc c e f) (λh=>absurd h U)<|λc e f c' e' f' e1 _=>absurd e1<|hc c e f) B)
  simp only[k5,k7,h1,h2];cases hx<;>first|trivial|exact fin
 |choose _ O=>
  intro w w' es J B;obtain ae|B:=B
  simp only[k5,k7];split;exact O _ w w' es J<|.inl ae;have:=ae 0;simp only[Nat.add_zero]at this;rw[this];refine jH.ahead (es₁:=#[]) (λh=>h.draw) (.refl _) ?_ i! (by simpa using O _ _ _ _ (J.draw _ _) (.inl ae.draw));exact⟨λ_ _ _=>rfl,Zu _,λr' h h'=>absurd h'<|u! h,λ_ _ h=>.inl h,λ_ _ h=>.inl h,q?,q?,q?,λ_=>rfl,q?,λ_ _ _ _=>rfl⟩;exact B.elim
 |gone hd=>intro w w' es J B;obtain⟨_,c,f,hx⟩:=J.10 _ hd;simp only[k5,hx];trivial
 |env _ O=>intro w w' es J B;have e:∀x:w?,x.sys .env=(.strings x.4.2,x):=λ_=>rfl;simp only[k5,k7,e,J.7];exact lh (e:=⟨.output,t?,f?⟩) trivial (O _ w w' _ J<|B.imp id λx=>x _)
 |program _ O=>exact λw w' es J B=>O w w' es J<|B.imp id λx=>x P|@mark g x k k' hm _ O=>exact λw w' es J B=>lh (e:=⟨.mark x,f?,t?⟩) hm<|O w w' _ J B|panic hv=>intro w w' es J B;exact⟨_,_,w',#[],by simp[k7],.refl _,hv,J,id,.refl _ _,i!⟩
inductive mL(P:P?){α β:Type}(RA:Ren->α->β->Prop):Ren->Sem α->Sem β->Prop
 |base {m s s'}:dD P RA m s s'->mL P RA m s s'|bind {γ δ:Type} {RC:Ren->γ->δ->Prop} {m} {s:Sem γ} {s':Sem δ} {f:γ->Sem α} {f':δ->Sem β}:dD P RC m s s'->(∀m' a b,m.Le m'->RC m' a b->mL P RA m' (f a) (f' b))->mL P RA m (s.bind f) (s'.bind f')|odd {m q k s'}:(∀n,ig (k n))->(∀n,dD P RA m (k n) s')->mL P RA m (.choose q k) s'
def Zbj{α β}(RA:Ren->α->β->Prop)(m:Ren)(w':w?)(es:Array Event)(r:Result β×Array Event)(q:Result α):Prop:=jH RA False m w' es r q
def jH.Ys{α β RA al es}{r:Result β×Array Event}{q:Result α}(h:jH RA al g x0 es r q):Zbj RA g x0 es r q:=
 jH.ahead (es₁:=#[]) (nofun) (.refl g) (.refl g x0) i! (u! h)
def mL.run{α β:Type}{RA:Ren->α->β->Prop}{s:Sem α}{s':Sem β}(h:mL o RA g s s') :
  ∀(w w':w?)(es:Array Event),WR g w w'->Al w w'->Zbj RA g w' es (s'.runT o w' es) (s.run o w):=by
 induction h with
 |base h=>exact λw w' es U J=>(h.run w w' es U<|.inl J).Ys|@bind γ δ RC g s s' f f' h _ ih=>
  intro w w' es U J;have V:=h.run w w' es U<|.inl J;rw[k8,Sem.runT_bind']
  cases hr:s.run o w with
  |ok a w₁=>rw[hr]at V;let ⟨O,b,B,es₁,Y,W,e3,e4,e5,e6,e7⟩:=V;rw[Y];exact jH.ahead (nofun) W e6 e7<|ih O a b W e3 w₁ B _ e4<|e5 J
  |halt x w₁=>
   rw[hr]at V
   cases x with
   |panic v=>let ⟨O,b,B,es₁,Y,W,e3,e4,e5,e6,e7⟩:=V;rw[Y];exact⟨O,b,B,es₁,q?,W,e3,e4,nofun,e6,e7⟩
   |_=>exact V
 |odd hd h=>intro w w' es U J;simp only[k5];split;exact((h _).run w w' es U<|.inl J).Ys;exact((h _).run _ w' es (U.draw ..)<|.inr<|hd _).Ys
structure oy(P:P?):Prop where
 zero:∀t i v,P.info? t=some i->i.8=some v->∀m,VR m v v
 noM:∀t i,P.info? t=some i->i.10.find? (·.1 == "")=none
def FY{B:Type}:Ren->B->B->Prop:=λ_ a b=>a=b
def Dg{B J:Type}:Ren->B->J->Prop:=λ_ _ _=>True
def dL{α β γ δ RA RB s s'}{f:α->Sem γ}{f':β->Sem δ}
  (h:dD o RA g s s') (J:∀B a b,g.Le B->RA B a b->dD o RB B (f a) (f' b)):dD o RB g (s >>= f)<|s' >>= f':=dD.bind h J
def dX{α β}{RA:Ren->α->β->Prop}{c}[Decidable c]{s t s' t'}(h:c->dD o RA g s s')(B:¬c->dD o RA g t t') :
  dD o RA g (if c then s else t) (if c then s' else t'):=by
 split;exact h ‹_›;exact B ‹_›
def iX{γ δ RB}{f:P?->Sem γ}{f':P?->Sem δ}(h:dD o RB g (f o)<|f' o):dD o RB g (program >>= f)<|program >>= f':=.program h
def dI{m γ δ RB t}{f:TypeDesc->Sem γ}{f':TypeDesc->Sem δ}(h:∀d,o.underlying t=y? d->dD o RB m (f d) (f' d)) :
  dD o RB m (bU t >>= f) (bU t >>= f'):=by
 refine .program ?_;show dD o RB m ((match o.underlying t with|some d=>pure d|none=>stuck _) >>= f) ((match o.underlying t with|some d=>pure d|none=>stuck _) >>= f')
 cases B:o.underlying t with
 |none=>exact .dm|some d=>exact h d B
def fx{γ δ RB t}{f:TypeInfo->Sem γ}{f':TypeInfo->Sem δ}(h:∀d,o.info? t=y? d->dD o RB g (f d) (f' d)) :
  dD o RB g (c9 t >>= f) (c9 t >>= f'):=by
 refine .program ?_;show dD o RB g ((match o.info? t with|some d=>pure d|none=>stuck _) >>= f) ((match o.info? t with|some d=>pure d|none=>stuck _) >>= f')
 cases B:o.info? t with
 |none=>exact .dm|some d=>exact h d B
def fj{γ δ RB t}{f:Nat->Sem γ}{f':Nat->Sem δ}(h:∀n,dD o RB g (f n)<|f' n):dD o RB g (cr t >>= f)<|cr t >>= f':=by
 refine .program ?_;show dD o RB g (((match o.info? t with|some d=>pure d|none=>stuck _) >>= λi=>pure _) >>= f) (((match o.info? t with|some d=>pure d|none=>stuck _) >>= λi=>pure _) >>= f')
 cases B:o.info? t with
 |none=>exact .dm|some d=>exact h _
def gW(O:oy o){B J:Type}{RB:Ren->B->J->Prop}{t:bL}{f:v?->Sem B}{f':v?->Sem J}(h:∀v,VR g v v->dD o RB g (f v) (f' v)) :
  dD o RB g (bR t >>= f) (bR t >>= f'):=by
 refine .program ?_;show dD o RB g (((match o.info? t with|some d=>pure d|none=>stuck _) >>= λi=>match i.8 with|some v=>pure v|none=>unsupported _) >>= f) (((match o.info? t with|some d=>pure d|none=>stuck _) >>= λi=>match i.8 with|some v=>pure v|none=>unsupported _) >>= f')
 cases U:o.info? t with
 |none=>exact .dm|some d=>
  show dD o RB g ((match d.8 with|some v=>pure v|none=>unsupported _) >>= f) ((match d.8 with|some v=>pure v|none=>unsupported _) >>= f')
  cases V:d.8 with
  |none=>exact .dm|some v=>exact h v<|O.1 t d v U V g
def K3{γ δ RB t}{f:Bool->Sem γ}{f':Bool->Sem δ}(h:∀b,dD o RB g (f b)<|f' b):dD o RB g (isAgg t >>= f)<|isAgg t >>= f':=by
 refine .program ?_;show dD o RB g (((match o.underlying t with|some d=>pure d|none=>stuck _) >>= λx=>match x with|.struct _|.array .. => pure t?|_=>pure f?) >>= f) (((match o.underlying t with|some d=>pure d|none=>stuck _) >>= λx=>match x with|.struct _|.array .. => pure t?|_=>pure f?) >>= f')
 cases B:o.underlying t with
 |none=>exact .dm|some d=>cases d<;>exact h _
def GB{γ δ RB a}{f:v?->Sem γ}{f':v?->Sem δ}(O:AR g a J)(h:∀v B,VR g v B->dD o RB g (f v) (f' B)) :
  dD o RB g (load a >>= f) (load J >>= f'):=.load O h
def SC{γ δ RB a}{f:Unit->Sem γ}{f':Unit->Sem δ}(B:AR g a J)(O:VR g p C)(h:dD o RB g (f ())<|f' ()) :
  dD o RB g (store a p >>= f) (store J C >>= f'):=.store B O h
def gX{P:P?}{B J:Type}{RB:Ren->B->J->Prop}{f:Obj->Sem B}{f':Obj->Sem J}(hb:g.1 I=y? x2)(h:∀o O,OR g o O->dD P RB g (f o) (f' O)) :
  dD P RB g (getObj I >>= f) (getObj x2 >>= f'):=.getObj hb h
def l8{γ δ RB}{f:Unit->Sem γ}{f':Unit->Sem δ}(hb:g.1 I=y? x2)(B:OR g x7 y0)(J:∀c e f,x7≠c? c e f)(h:dD o RB g (f ())<|f' ()) :
  dD o RB g (setObj I x7 >>= f) (setObj x2 y0 >>= f'):=.setObj hb B J h
def sZ(hb:g.1 I=y? x2)(B:OR g x7 y0)(J:∀c e f,x7≠c? c e f):dD o Dg g (setObj I x7)<|setObj x2 y0:=.setObj hb B J<|.pure t!
def kG{γ δ RB q}{f:Nat->Sem γ}{f':Nat->Sem δ}(h:∀n,dD o RB g (f n)<|f' n):dD o RB g (choose q >>= f)<|choose q >>= f':=.choose h
def lr{γ δ RB}{f:Option (bL×Nat)->Sem γ}{f':Option (bL×Nat)->Sem δ}(hb:g.1 I=y? x2)(h:∀x,dD o RB g (f x)<|f' x) :
  dD o RB g (shape I >>= f) (shape x2 >>= f'):=.shape hb h
def p9{γ δ RB a}{f:Bool->Sem γ}{f':Bool->Sem δ}(B:AR g a J)(O:¬g.3 a.1)(h:∀x,dD o RB g (f x)<|f' x) :
  dD o RB g (frozen a >>= f) (frozen J >>= f'):=.frozen B O h
def Yf:RuntimeError->Prop
 |.bounds ..|.error _|.plain _|.nilDeref=>True|_=>False
def gh{α β}{RA:Ren->α->β->Prop}{e}(h:Yf e):dD o RA g (ce e)<|ce e:=by
 refine .program ?_;cases e<;>first|exact h.elim|skip
 .exact .panic (.iface _ (.PK (.refl λv B=>by
   simp at B
   obtain rfl|rfl|rfl|rfl:=B<;>constructor)))
 all_goals exact .panic (.iface _<|.string _)
def fq{α β γ δ RB e}{f:α->Sem γ}{f':β->Sem δ}(h:Yf e):dD o RB g (ce e >>= f)<|ce e >>= f':=
 dL (RA:=λ_ _ _=>False) (gh h) nofun
def p8{α β}{RA:Ren->α->β->Prop}{k x y c}:dD o RA g (bZ k x y c)<|bZ k x y c:=by refine dX (λ_=>?_) (λ_=>?_);exact dD.choose λn=>gh (e:=.bounds _ y _ c) trivial;exact gh (e:=.bounds _ y _ c) trivial
def Cz{γ δ RB}{f:IntKind×Int->Sem γ}{f':IntKind×Int->Sem δ}(B:VR g p C)(h:∀k n,p=n? k n->dD o RB g (f (k,n)) (f' (k,n))) :
  dD o RB g (asIntOf p >>= f) (asIntOf C >>= f'):=by
 cases B<;>first|exact h _ _ rfl|exact .dm
def lU{γ δ RB}{f:Int->Sem γ}{f':Int->Sem δ}(B:VR g p C)(h:∀n,dD o RB g (f n)<|f' n) :
  dD o RB g (asInt p >>= f) (asInt C >>= f'):=by
 cases B<;>first|exact h _|exact .dm
def Pw{γ δ RB}{f:Bool->Sem γ}{f':Bool->Sem δ}(B:VR g p C)(h:∀b,dD o RB g (f b)<|f' b) :
  dD o RB g (asBool p >>= f) (asBool C >>= f'):=by
 cases B<;>first|exact h _|exact .dm
def TQ{γ δ RB}{f f':V?->_}(J:VR g p C)(h:∀c B,fh g c B->dD o RB g (f c:Sem γ) (f' B:Sem δ)) :
  dD o RB g (asAgg p >>= f) (asAgg C >>= f'):=by
 cases J<;>first|exact h _ _<|.jb ‹_› ‹_›|exact .dm
def Fe{γ δ RB}{f:Addr->Sem γ}{f':Addr->Sem δ}(J:VR g p C)(h:∀a B,AR g a B->dD o RB g (f a) (f' B)) :
  dD o RB g (asAddr p >>= f) (asAddr C >>= f'):=by
 cases J<;>first|exact h _ _ ‹_›|exact .dm|exact fq (e:=.nilDeref) trivial
def nV{γ δ RB}{f:Addr->Sem γ}{f':Addr->Sem δ}(J:VR g p C)(h:∀a B,AR g a B->dD o RB g (f a) (f' B)) :
  dD o RB g (fa p >>= f) (fa C >>= f'):=by
 cases J<;>first|exact h _ _ ‹_›|exact .dm
def tv{a:Addr}(O:AR g a J):∀(n i:Nat)(acc B:V?),fh g acc B->dD o fh g (cp a i n acc) (cp J i n B)
 |0,_,_,_,h=>.pure h|n+1,i,_,_,h=>GB (O.add i) λv V U=>tv O n _ _ _<|h.push U
def zw{a:Addr}(B:AR g a J)(n:Nat):dD o fh g (cy a n)<|cy J n:=tv B n 0 _ _<|.nil g
def mY{a:Addr}(B:AR g a J):∀{vs vs':L?}(i:Nat),eA (VR g) vs vs'->dD o Dg g (cq a vs i) (cq J vs' i)
 |_,_,_,.nil=>by unfold cq;exact .pure trivial
 |_,_,i,.cons O h=>SC (B.add i) O<|mY B _ h
def Fh{t a}(B:AR g a J):dD o VR g (loadVar t a)<|loadVar t J:=by refine K3 λb=>dX (λ_=>?_)<|λ_=>.load B λ_ _ O=>.pure O;refine fj λn=>dL (zw B n) λV c W _ U=>.pure<|.PK U
def MU{t a}(O:AR g a J)(B:VR g p C):dD o Dg g (storeVar t a p)<|storeVar t J C:=by refine fj λn=>?_;rw[<-B.cells.size];split;exact .dm;exact mY O 0 B.cells
def Wp(m:Ren)(a B:Addr):Prop:=AR m a B/\¬m.3 a.1
def rp{e}{c:V?}(h:fh g c x1):dD o Wp g (ck e c)<|ck e x1:=by refine .new (.cells e _ _ h) (λx y z B=>by cases B;exact⟨_,q?⟩) λO r r' U hb J=>.pure ⟨.mk hb,J⟩
def AY{e}(h:VR g p C):dD o Wp g (newVar e p)<|newVar e C:=rp h.cells
def oF{t:bL}{c:V?}(h:fh g c x1)(off:Nat):dD o VR g (part t c off)<|part t x1 off:=by
 refine K3 λb=>dX (λ_=>?_)<|λ_=>?_;exact fj λn=>.pure<|.PK<|h.extract ..
 cases J:c[off]? with
 |none=>exact .dm|some v=>obtain⟨U,B,O⟩:=h.get J;rw[B];exact .pure O
def Xs(B:oy o){e:bL}:dD o VR g (gn e t?<|.tuple #[])<|gn e t?<|.tuple #[]:=by exact gW B λv J=>dL (AY J) λO a U _ h=>.pure<|.ptr h.1
def Zbc{e}(B:VR g p C):dD o VR g (gt e p)<|gt e C:=dL (AY B) λJ a O _ h=>.pure<|.ptr h.1
def ES(off):∀{l B:L?}(n){c J:V?},eA (VR g) l B->fh g c J->
  fh g ((l.zipIdx n).foldl (λcs x=>S? cs (off+x.2) x.1) c) ((B.zipIdx n).foldl (λcs x=>S? cs (off+x.2) x.1) J)
 |_,_,_,_,_,.nil,h=>by simpa using h
 |_,_,n,_,_,.cons O U,h=>by simp only[List.zipIdx_cons,List.foldl_cons];exact ES off _ U<|h.set _ O
def O2(m:Ren)(x y:Nat×v?):Prop:=x.1=y.1/\VR m x.2 y.2
def Gm(place):∀{ps ps'}{c B r:V?},eA (O2 g) ps ps'->fh g c B->cV place c ps=y? r->∃r',cV place B ps'=y? r'/\fh g r r'
 |_,_,c,B,r,.nil,h,e=>by
  simp only[cV,m?]at e⊢
  exact⟨B,q?,e▸h⟩
 |_,_,c,B,r,.cons (a:=(i,v)) (b:=(i',v')) J hl,h,e=>by
  obtain⟨U,J⟩:=J
  subst U;simp only[cV]at e⊢
  cases O:place i with
  |none=>rw[O]at e;cases e
  |some x=>
   obtain⟨off,size⟩:=x;rw[O]at e;simp only at e⊢;have V:=J.cells.size;rw[<-V,<-h.size];split at e
   cases e;rename_i W;rw[if_neg W];refine Gm place hl ?_ e;have:=ES off 0 J.cells h;rwa[<-b4,<-b4,bE,bE]
def AP(h:fh g x1 x1)(n:Nat):fh g ((bu n).map (x1[· % x1.size]!)) ((bu n).map (x1[· % x1.size]!)):=by refine .refl λv J=>?_;simp only[bv,Zv]at J;obtain⟨i,_,rfl⟩:=J;by_cases B:i % x1.size<x1.size;rw[getElem!_pos x1 _ B];exact h.idx _ B B;rw[getElem!_neg x1 _ B];exact .bool _
def Fc{O J:Type}{Q:Ren->J->J->Prop}(hm:∀m B a b,m.Le B->Q m a b->Q B a b)(g:O->Sem J)(U:∀m x,dD o Q m (g x)<|g x):∀(l:List O)(m:Ren),dD o (λm=>eA<|Q m) m (l.mapM g)<|l.mapM g
 |[],m=>.pure .nil|x::l,m=>by simp only[ny];exact dL (U m x) λB a b _ h=>dL (Fc hm g U l B) λV c d W Y=>.pure<|.cons (hm _ _ _ _ W h) Y
def eA.eq{α}:∀{l B:List α},eA (λa b=>a=b) l B->l=B
 |_,_,.nil=>rfl|_,_,.cons rfl h=>by rw[eA.eq h]
def LY{B:Array Field}:dD o FY g (B.mapM (λx=>do pure (x.3,<-cr x.2))) (B.mapM (λx=>do pure (x.3,<-cr x.2))):=by rw[bq];refine dL (Fc (Q:=FY) (λ_ _ _ _ _ h=>h) _ (λg x=>fj λn=>.pure q?) _ g) λJ a b _ h=>.pure ?_;exact congrArg _<|eA.eq h
def X6(hP:oy o){t:bL}{ps B:Array<|Nat×v?}(h:eA (O2 g) ps.1 B.1):dD o VR g (gm t ps)<|gm t B:=by
 refine gW hP λz hz=>dI λd hd=>?_
 have hf:∀J,g.Le J->∀place,dD o VR J (match cV place z.cells ps.1 with|some cells=>pure<|.agg cells|_=>stuck "build: a part of the wrong size") (match cV place z.cells B.1 with|some cells=>pure<|.agg cells|_=>stuck "build: a part of the wrong size"):=by
  intro J O place
  cases W:cV place .. with
  |none=>exact .dm|some r=>obtain⟨r',U,V⟩:=Gm place (h.mono λ_ _ x=>⟨x.1,x.2.mono O⟩) (hz.cells.mono O) W;rw[U];exact .pure (.PK V)
 have Y:∀J,g.Le J->∀place,dD o VR J (match cV place z.cells ps.1 with|some cells=>pure<|.agg cells|_=>stuck "build: no such field, or a part of the wrong size") (match cV place z.cells B.1 with|some cells=>pure<|.agg cells|_=>stuck "build: no such field, or a part of the wrong size"):=by
  intro J O place
  cases W:cV place .. with
  |none=>exact .dm|some r=>obtain⟨r',U,V⟩:=Gm place (h.mono λ_ _ x=>⟨x.1,x.2.mono O⟩) (hz.cells.mono O) W;rw[U];exact .pure (.PK V)
 cases d<;>first|exact .dm|skip
 exact fj λn=>hf g (.refl g) _;refine dL LY λJ a b O aa=>?_;cases aa;exact Y J O _
def GL(V:oy o){t:bL}{ps B:Array<|Nat×v?}(h:eA (O2 g) ps.1 B.1):dD o VR g (ek t I ps)<|ek t I B:=by
 refine dI λd hd=>?_;cases d<;>first|exact .dm|skip
 rename_i elem;dsimp only;refine fj λsize=>?_;split
 .exact .dm
 have fin:∀z,fh g z z->dD o VR g
   (match cV (λi=>y? (i*size,size)) ((bu<|I*size).map (z[· % z.size]!)) ps.1 with|some cells=>(do pure (.slice (y? (<-ck elem cells)) I I))|_=>stuck "buildSlice: a part of the wrong size")
   (match cV (λi=>y? (i*size,size)) ((bu<|I*size).map (z[· % z.size]!)) B.1 with|some cells=>(do pure (.slice (y? (<-ck elem cells)) I I))|_=>stuck "buildSlice: a part of the wrong size"):=by
  intro z J
  cases W:cV .. with
  |none=>exact .dm|some r=>obtain⟨r',O,U⟩:=Gm _ h (AP J _) W;rw[O];exact dL (rp U) λm' a a' _ Y=>.pure<|.slice _ _ Y.1
 split;exact fin _<|.nil g;exact gW V λz J=>fin _ J.cells
def TX{t a}(h:VR g a p):dD o VR g (fB t a)<|fB t p:=nV h λ_ _ B=>Fh B
def RU{t a}(h:VR g a p)(B:VR g C U):dD o Dg g (fk t a C)<|fk t p U:=nV h λ_ _ J=>MU J B
def tO{P:P?}{B O:Type}{RB:Ren->B->O->Prop}{a:Addr}{f:Unit->Sem B}{f':Unit->Sem O}(U:AR g a J)(h:dD P RB g (f ())<|f' ()):dD P RB g (noView a >>= f)<|noView J >>= f':=by
 refine dD.shape U.blk λx=>?_
 cases x with
 |some y=>exact h|none=>refine dD.getObj U.blk λo W V=>?_;cases V<;>exact h
def pU{a}(B:AR g a J):dD o FY g (cR a)<|cR J:=by
 unfold cR;rw[B.spot,B.off]
 cases O:a.3 with
 |some s=>exact .pure rfl|none=>
  refine iX<|tO B<|lr B.blk λx=>?_
  cases x with
  |none=>exact .dm|some y=>refine dX (λ_=>.pure q?)<|λ_=>?_;split;exact .pure rfl;exact .dm
def TA{a:Addr}(U:AR g a J)(c b:Nat):dD o AR g (partAt a c b)<|partAt J c b:=by
 cases U with
 |mk hb=>
 refine dL (pU<|.mk hb) λW x y O h=>?_;cases h;refine dL (pU<|.mk<|O.1 _ _ hb) λV Y y' B h=>?_;cases h;refine .pure ?_;split<;>exact .mk<|B.1 _ _<|O.1 _ _ hb
def FT{a:Addr}(B:AR g a J)(f:Field):dD o AR g (cO a f)<|cO J f:=by exact fj λn=>dX (λ_=>TA B ..)<|λ_=>.pure<|B.add _
def RD{s:bL}(h:VR g p C)(f:Nat):dD o VR g (ft s p f)<|ft s C f:=by
 refine dI λd U=>?_;cases d<;>first|exact .dm|skip
 rename_i B;dsimp only
 cases B[f]? with
 |none=>exact .dm|some J=>exact nV h λa V O=>dL (FT O J) λW b Y _ hb=>.pure<|.ptr hb
def Pg{t i}(h:VR g p C)(V:VR g i U):dD o VR g (dn t p i)<|dn t C U:=by
 unfold dn;refine Cz V λk n _=>dI λd W=>?_
 have fin:∀(len:Nat)(elem:bL)(B:Bool){a O:Addr},AR g a O->dD o VR g
   (if 0<=n/\n<(len:Int)then(do pure (p?<|y?<|a.add<|n.toNat*(<-cr elem)))else if B=t? then unsupported (.noEntry "op/indexAddr.an index out of range at an array of length 0 or 1 (ledger 616)")else bZ k n len .index)
   (if 0<=n/\n<(len:Int)then(do pure (p?<|y?<|O.add<|n.toNat*(<-cr elem)))else if B=t? then unsupported (.noEntry "op/indexAddr.an index out of range at an array of length 0 or 1 (ledger 616)")else bZ k n len .index):=by
  intro len elem B a O J;exact dX (λ_=>fj λs=>.pure<|.ptr<|J.add _)<|λ_=>dX (λ_=>.dm)<|λ_=>p8
 cases d<;>first|exact .dm|skip
 cases h with
 |gC l c=>exact dI λd2 _=>p8|zero a _=>refine dI λd2 _=>?_;dsimp only;have e:¬(0<=n/\n<((0:Nat):Int)):=o!;rw[if_neg e];exact dX (λ_=>.dm)<|λ_=>p8
 |slice l c J=>exact dI λd2 _=>fin l _ _ J|_=>exact .dm
 exact nV h λa O J=>dI λd2 _=>fin _ _ _ J
def Bw{α β γ δ RB k x y c}{f:α->Sem γ}{f':β->Sem δ}:dD o RB g (bZ k x y c >>= f)<|bZ k x y c >>= f':=
 dL (RA:=λ_ _ _=>False) p8 nofun
def DS{B J:Type}{RB:Ren->B->J->Prop}(h:VR g p C){c:BoundsCode}{f:Nat->Sem B}{f':Nat->Sem J}(O:∀n,n<=I->dD o RB g (f n) (f' n)) :
  dD o RB g (dk p I c >>= f) (dk C I c >>= f'):=by
 cases h with
 |int k n=>
  have e:dk (n? k n) I c=if 0<=n/\n<=I then pure _ else bZ k n I c:=rfl
  rw[e];split;exact O _ o!;exact Bw
 |_=>exact .dm
inductive nO{α β:Type}(R:α->β->Prop):Option α->Option β->Prop
 |none:nO R none none|some {a b}:R a b->nO R (some a) (some b)
def nO.mono{α β}{R S:α->β->Prop}(h:∀a b,R a b->S a b){o o'}(x:nO R o o'):nO S o o':=by
 cases x with
 |none=>exact .none|some B=>exact .some<|h _ _ B
def jM{B J:Type}{RB:Ren->B->J->Prop}{b:Bool}(O:nO (VR g) y4 y5)(U:nO (VR g) z0 z1)(V:nO (VR g) z2 z3){f:Nat×Nat×Nat->Sem B}{f':Nat×Nat×Nat->Sem J}(W:∀n:Nat×Nat×Nat,(I=0->x2=0->n=(0,0,0))->dD o RB g (f n) (f' n)) :
  dD o RB g (di b I x2 y4 z0 z2 >>= f) (di b I x2 y5 z1 z3 >>= f'):=by
 unfold di
 cases V<;>cases U<;>cases O<;>simp only[bind_assoc,pure_bind] <;>
  repeat first|exact W _ (by intro a b;refine Prod.ext ?_<|Prod.ext ?_ ?_<;>dsimp only<;>omega)|exact .dm|refine DS a! λ_ _=>?_
def VT{t}(W:VR g p C)(B:nO (VR g) y4 y5)(J:nO (VR g) z0 z1)(O:nO (VR g) z2 z3):dD o VR g (dw t p y4 z0 z2)<|dw t C y5 z1 z3:=by
 unfold dw;refine dI λd Y=>?_;cases d<;>first|exact .dm|skip
 cases W<;>first|exact .dm|skip
 rename_i s;have ex:z2.isSome=z3.isSome:=by cases O<;>rfl
 dsimp only;rw[ex];split;exact .dm;exact jM B J .none λn _=>.pure<|.string _
 exact Fe W λa a' U=>dI λd2 _=>by
  cases d2<;>first|exact .dm|skip
  refine jM B J O λn V=>fj λs=>.pure ?_;split;exact .slice _ _ U;exact .slice _ _ (U.add _)
 cases W<;>first|exact .dm|skip
 refine jM B J O λn V=>fj λs=>.pure ?_;split<;>exact .gC _ _;refine jM B J O λn V=>fj λs=>.pure ?_;rw[V q? rfl];exact .zero _ ‹_›
 rename_i U;refine jM B J O λn V=>fj λs=>.pure ?_;split;exact .slice _ _ U;exact .slice _ _ (U.add _)
def Qz{t}(B:VR g p C)(J:nO (VR g) y4 y5)(O:nO (VR g) z0 z1)(U:nO (VR g) z2 z3):dD o VR g (dl t p y4 z0 z2)<|dl t C y5 z1 z3:=by
 unfold dl;refine dI λd W=>?_;cases d<;>first|exact VT B J O U|skip
 refine nV B λa Y V=>jM J O U λn hz=>fj λs=>.pure ?_;split;exact .slice _ _ V;exact .slice _ _ (V.add _)
def VY{t:bL}(B:VR g p C)(f:Nat):dD o VR g (ge t p f)<|ge t C f:=by
 refine dI λd U=>?_;cases d<;>first|exact .dm|skip
 rename_i J;dsimp only
 cases J[f]? with
 |none=>exact .dm|some V=>exact TQ B λc W O=>oF O _
def Xv{t i}(B:VR g p C)(J:VR g i U):dD o VR g (gd t p i)<|gd t C U:=by
 refine Cz J λk n _=>dI λd W=>?_;cases d<;>first|exact .dm|skip
 cases B<;>first|exact .dm|skip
 dsimp only;split;exact .pure (.int ..);exact p8
 cases B<;>first|exact .dm|skip
 rename_i O V;exact dX (λ_=>fj λs=>oF (.jb O V) _)<|λ_=>p8
def Py(B:VR g p C)(i:Nat):dD o VR g (dq p i)<|dq C i:=by
 cases B<;>first|exact .dm|skip
 rename_i J O;unfold dq;dsimp only
 cases U:(_:V?)[i]? with
 |none=>exact .dm|some u=>obtain⟨Y,V,W⟩:=(fh.jb J O).get U;rw[V];exact .pure W
def A2{t}(B:VR g p C):dD o VR g (dB t p)<|dB t C:=by refine dI λd J=>?_;cases d<;>first|exact .dm|exact .pure<|.iface _ B
def Rm{t}(h:nO (VR g) y4 y5):dD o VR g (fm t y4)<|fm t y5:=by
 have fin:dD o VR g .. :=
  dD.new (.map 0 .nil) (nofun) λJ i O U hb _=>.pure<|.map hb
 cases h with
 |none=>exact fin|some B=>refine dI λd V=>?_;cases d<;>first|exact .dm|exact lU B λn=>fin
def sT{γ δ RB}{f:Unit->Sem γ}{f':Unit->Sem δ}(h:dD o RB g (f ())<|f' ()):dD o RB g (c8 I >>= f)<|c8 I >>= f':=by unfold c8;split;exact dD.mark trivial h;exact h
def Ir(J:oy o){t:bL}{c:v?}(O:VR g p C)(V:VR g c U):dD o VR g (ey t p c)<|ey t C U:=by
 refine dI λd hd=>?_;cases d<;>first|exact .dm|skip
 rename_i elem;refine lU O λln=>lU V λcn=>fx λti _=>?_
 have fin:∀{a b:Nat}{x y:Nat},dD o VR g
   (do c8 a;let n <-cr elem;if b*n=0 then(do let zero <-pure #[];let r <-ck elem<|bC (λx=>zero[x % zero.size]!)<|bu<|b*n;pure (Value.slice (y? r) x y))else(do let z <-bR elem;let zero <-pure z.cells;let r <-ck elem<|bC (λx=>zero[x % zero.size]!)<|bu<|b*n;pure (Value.slice (y? r) x y)))
   (do c8 a;let n <-cr elem;if b*n=0 then(do let zero <-pure #[];let r <-ck elem<|bC (λx=>zero[x % zero.size]!)<|bu<|b*n;pure (Value.slice (y? r) x y))else(do let z <-bR elem;let zero <-pure z.cells;let r <-ck elem<|bC (λx=>zero[x % zero.size]!)<|bu<|b*n;pure (Value.slice (y? r) x y))):=by
  refine sT<|fj λn=>dX (λ_=>?_)<|λ_=>gW J λz W=>?_;exact dL (RA:=Wp) (rp<|AP (.nil g) _) λY r r' _ B=>dD.pure<|VR.slice _ _ B.1;exact dL (RA:=Wp) (rp<|AP W.cells _) λY r r' _ B=>dD.pure<|VR.slice _ _ B.1
 refine dX (λ_=>dX (λ_=>?_)<|λ_=>dX (λ_=>?_)<|λ_=>kG λn=>?_)<|λ_=>fin
 all_goals exact fq trivial
def M9{f}(B:g.5 f){a b:V?}(J:fh g a x1)(hb:fh g b x5):dD o VR g (fd (.func f) a b)<|fd (.func f) x1 x5:=.pure<|.O5 (.func f B) J hb
def Nc(hm:g.6){t}(B:VR g p C):dD o VR g (fi t p)<|fi t C:=by
 refine lU B λn=>dI λd J=>?_;cases d<;>first|exact .dm|skip
 refine fx λO _=>dX (λ_=>fq t!)<|λ_=>?_;exact dD.tj hm λU i V _ hb=>.pure<|.chan hb
def WY{P:P?}{t:bL}(O:VR g p C):dD P VR g (ga t p)<|ga t C:=by
 refine dI λd V=>?_
 have fin:∀{o B:Obj},OR g o B->(∀e c f,o≠c? e c f)->dD P VR g (do pure (p?<|y? ⟨<-cC o,0,x?⟩)) (do pure (p?<|y? ⟨<-cC B,0,x?⟩)):=by intro o B J U;exact dD.new J (λe c f h=>absurd h<|U e c f) λW i Y _ hb _=>.pure<|.ptr<|.mk hb
 cases d<;>first|exact .dm|skip
 cases O<;>first|exact .dm|exact fin (.stringIter ..)<|nofun
 cases O<;>first|exact .dm|skip
 exact fin (.ik ..)<|nofun
 rename_i hb;refine gX hb λo B J=>?_;cases J<;>first|exact .dm|exact fin (.mapIter _ _ _ hb)<|nofun
 exact .gone ‹_›
def Kw{γ δ RB t}{f:bL->Sem γ}{f':bL->Sem δ}(h:∀n,dD o RB g (f n)<|f' n):dD o RB g (cP t >>= f)<|cP t >>= f':=by unfold cP;simp only[bind_assoc];refine dI λd B=>?_;cases d<;>first|exact .dm|exact h _
def NC{α β}{RA:Ren->α->β->Prop}:dD o RA g (ce .panicNil)<|ce .panicNil:=by refine .program ?_;refine Kw λn=>dL (AY<|.PK<|.nil g) λJ r r' _ B=>.panic<|.iface _<|.ptr B.1
def Wh(B:VR g p C):dD o VR g (gc p)<|gc C:=by
 cases B<;>first|exact .dm|exact .panic<|.iface _ ‹_›|skip
 refine dD.env λr=>?_;cases r<;>first|exact .dm|skip
 apply dD.program;exact dX (λ_=>.panic .nilIface)<|λ_=>NC
def q9(P:P?):Nat->bL->Bool
 |0,_=>t?|d+1,t=>match P.underlying t with
  |some (.pointer _)|some .unsafePointer|some (.interface _)=>f?|some (.struct B)=>B.all λf=>q9 P d f.2|some (.array _ e)=>q9 P d e|_=>t?
def iG(m:Ren):Prop:=∀r,¬m.3 r
def iG.mono(h:g.Le x8)(x:iG g):iG x8:=λr B=>x r<|h.4 r B
def zL{γ δ RB}(O:iG g){a}(B:AR g a J){f:Bool->Sem γ}{f':Bool->Sem δ}(h:∀b,dD o RB g (f b)<|f' b):dD o RB g (stringish a >>= f)<|stringish J >>= f':=by
 refine p9 B (O _) λx=>?_;cases x;refine lr B.blk λy=>?_
 cases y with
 |none=>exact h _|some z=>exact p9 (.mk B.blk) (O _) λb=>h b
 exact h _
def Bm{γ δ RB}(B:iG g){a b}(O:AR g a J)(hb:AR g b y9){f:Bool->Sem γ}{f':Bool->Sem δ}(h:∀b,dD o RB g (f b)<|f' b):dD o RB g (cD a b >>= f)<|cD J y9 >>= f':=by unfold cD;simp only[bind_assoc];exact zL B O λsa=>zL B hb λU=>lr O.blk λx=>lr hb.blk λy=>h _
def CK(O:iG g){a b}(B:AR g a J)(hb:AR g b y9):dD o FY g (cB a b)<|cB J y9:=by
 unfold cB;have U:(a.1==b.1)=(J.1==y9.1):=by rw[Z8];simp only[beq_iff_eq];exact B.uD hb
 have V:(a==b)=(J==y9):=by rw[Z8];simp only[beq_iff_eq];exact B.eq_iff hb
 rw[U,V];refine dX (λ_=>.pure q?)<|λ_=>?_;refine p9 B (O _) λx=>?_;exact p9 hb (O _) λy=>dX (λ_=>.dm)<|λ_=>tO B<|tO hb<|Bm O B hb λx=>dX (λ_=>kG λn=>.pure q?)<|λ_=>.pure q?
def eO{P:P?}{O U:Type}{RB:Ren->O->U->Prop}{a:Addr}(B:AR g a J){f:Addr×Bool->Sem O}{f':Addr×Bool->Sem U}(h:∀p V l,AR g p V->dD P RB g (f (p,l)) (f' (V,l))) :
  dD P RB g (cJ a >>= f) (cJ J >>= f'):=by
 refine lr B.blk λx=>?_
 cases x with
 |some y=>exact h _ _ _ B|none=>
  refine gX B.blk λo o' W=>?_
  cases W with
  |number l Y=>exact h _ _ _ Y|_=>exact h _ _ _ B
def sQ{W Y:Type}{f f'}:∀(l:List W)(s:Y)(B),g.Le B->(∀B a s,a∈l->g.Le B->dD o FY B (f a s) (f' a s))->dD o FY B (forIn l s f) (forIn l s f')
 |[],s,B,_,_=>.pure rfl|a::l,s,B,V,h=>by
  simp only[nw];refine dL (h B a s i! V) λJ x y O U=>?_;cases U
  cases x with
  |done b=>exact .pure rfl|yield b=>exact sQ l b J (V.trans O) λm1 a s ha=>h m1 a s (by simp[ha])
def qX{B J:Type}{f f':B->J->Sem (ForInStep J)}(xs:Array B)(s)(h:∀O a s,a∈xs.1->g.Le O->dD o FY O (f a s) (f' a s)):dD o FY g (forIn xs s f)<|forIn xs s f':=by rw[<-bz,<-bz];exact sQ _ s g (.refl g) h
def qT{σ}{f f':Nat->σ->Sem (ForInStep σ)}(n)(s)(h:∀B a s,g.Le B->dD o FY B (f a s) (f' a s)):dD o FY g (forIn [:n] s f)<|forIn [:n] s f':=by rw[r3,r3];exact sQ _ s g (.refl g) λm1 a s _=>h m1 a s
def Q1{γ δ RB t}{f:String->Sem γ}{f':String->Sem δ}(h:∀n,dD o RB g (f n)<|f' n):dD o RB g (cG t >>= f)<|cG t >>= f':=by unfold cG;simp only[bind_assoc];refine fx λB _=>?_;split;exact .dm;exact h _
def Za4{a b}(B:AR g a J)(hb:AR g b y9):(a==b)=(J==y9):=by rw[Z8];simp only[beq_iff_eq];exact B.eq_iff hb
def rm{P:P?}:∀(d:Nat)(m:Ren)(t:bL){x x' y y':v?},m.G=P.globals.size->VR m x x'->VR m y y'->iG m\/q9 P d t=t?->dD P FY m (j' d t x y) (j' d t x' y')
 |0,m,t,_,_,_,_,_,_,_,_=>.dm
 |d+1,m,t,x,x',y,y',hG,U,J,B=>by
  unfold j'
  refine dI λde hd=>?_
  cases de with
  |bool=>cases U<;>first|exact .dm|(cases J<;>first|exact .dm|exact .pure q?)
  |string=>cases U<;>first|exact .dm|(cases J<;>first|exact .dm|exact .pure q?)
  |int k=>
   cases U with
   |int k n=>
    cases J with
    |int k' n'=>exact dX (λ_=>.pure q?)<|λ_=>.dm
    |ptr ha=>
     cases n with
     |ofNat n=>cases n<;>first|exact .pure rfl|exact .dm
     |negSucc n=>exact .dm
    |_=>exact .dm
   |ptr ha=>
    cases J with
    |int k' n'=>
     cases n' with
     |ofNat n=>cases n<;>first|exact .pure rfl|exact .dm
     |negSucc n=>exact .dm
    |ptr hb=>
     refine eO ha λp p' l hp=>eO hb λq q' l' hq=>iX ?_
     have e1:(p.1==q.1)=(p'.1==q'.1):=by rw[Z8];simp only[beq_iff_eq];exact hp.uD hq
     have e2:(p==q)=(p'==q'):=by rw[Z8];simp only[beq_iff_eq];exact hp.eq_iff hq
     have e3:decide (p.1<P.globals.size)=decide (p'.1<P.globals.size):=by rw[<-hG];exact decide_eq_decide.2<|m.12 _ _ hp.blk
     rw[e1,e2,e3];refine dX (λ_=>?_)<|λ_=>fx λti _=>?_;refine dL (pU hp) λm' x y V h=>?_;cases h;refine dL (pU<|hq.mono V) λac x' y' V h=>?_;cases h;exact .pure rfl;split;exact dX (λ_=>.pure q?)<|λ_=>.dm;exact .dm
    |_=>exact .dm
   |iQ=>exact .dm|_=>cases J<;>exact .dm
  |pointer e=>
   cases U with
   |iQ=>cases J<;>first|exact .dm|exact .pure rfl
   |ptr ha=>
    cases J with
    |iQ=>exact .pure rfl|ptr hb=>
     obtain B|B:=B
     refine fj λn=>dX (λ_=>CK B ha hb)<|λ_=>?_;rw[Za4 ha hb];exact dX (λ_=>.pure q?)<|λ_=>kG λn=>.pure q?;simp[q9,hd]at B
    |_=>exact .dm
   |_=>exact .dm
  |interface ms=>
   cases U with
   |nilIface=>cases J<;>first|exact .dm|exact .pure rfl
   |iface tx aa=>
    cases J with
    |nilIface=>exact .pure rfl|iface ty ab=>
     obtain B|B:=B
     refine dX (λ_=>.pure q?)<|λad=>fx λti _=>dX (λ_=>iX<|iX ?_)<|λ_=>rm d m tx hG aa ab<|.inl B;dsimp only;exact dX (λ_=>.dm)<|λ_=>Q1 λn=>gh trivial;simp[q9,hd]at B
    |_=>exact .dm
   |_=>exact .dm
  |struct fs=>
   cases U<;>first|exact .dm|(cases J<;>first|exact .dm|skip)
   rename_i h1 W c c' h3 h4
   have Y:∀f∈fs.1,iG m\/q9 P d f.2=t?:=by
    intro f hf;obtain B|B:=B
    exact .inl B;right;simp only[q9,hd,bB]at B;exact B f (by simpa using hf)
   apply iX;dsimp only;refine dX (λ_=>.dm)<|λ_=>?_;refine dL (qX _ _ λm' f s hf V=>dX (λ_=>?_)<|λ_=>.pure q?) λm' a b _ O=>?_;refine dL (oF ((fh.jb h1 W).mono V) _) λm1 u u' l1 hu=>dL (oF ((fh.jb h3 h4).mono<|V.trans l1) _) λm2 v v' l2 hv=>?_;have l3:=(V.trans l1).trans l2;refine dL (rm d m2 _ (by rw[l3.G,hG]) (hu.mono l2) hv<|(Y f hf).imp (λx=>x.mono l3) id) λm3 a b _ O=>?_;cases O;exact dX (λ_=>.pure q?)<|λ_=>.pure q?
   cases O;obtain⟨o,_⟩:=a;cases o<;>exact .pure rfl
  |array n e=>
   cases U<;>first|exact .dm|(cases J<;>first|exact .dm|skip)
   rename_i h1 W c c' h3 h4
   have Y:iG m\/q9 P d e=t?:=by
    obtain B|B:=B
    exact .inl B;right;simpa only[q9,hd]using B
   refine fj λsz=>?_;refine dL (qT _ _ λm' i s V=>?_) λm' a b _ O=>?_;refine dL (oF ((fh.jb h1 W).mono V) _) λm1 u u' l1 hu=>dL (oF ((fh.jb h3 h4).mono<|V.trans l1) _) λm2 v v' l2 hv=>?_;have l3:=(V.trans l1).trans l2;refine dL (rm d m2 _ (by rw[l3.G,hG]) (hu.mono l2) hv<|Y.imp (λx=>x.mono l3) id) λm3 a b _ O=>?_;cases O;exact dX (λ_=>.pure q?)<|λ_=>.pure q?
   cases O;obtain⟨o,_⟩:=a;cases o<;>exact .pure rfl
  |slice e=>cases U<;>first|exact .dm|(cases J<;>first|exact .dm|exact .pure q?)
  |map k e=>cases U<;>first|exact .dm|(cases J<;>first|exact .dm|exact .pure q?)
  |func a b c=>cases U<;>first|exact .dm|(cases J<;>first|exact .dm|exact .pure q?)
  |unsafePointer=>
   obtain B|B:=B
   cases U<;>first|exact .dm|(cases J<;>first|exact .dm|exact .pure rfl|exact CK B ‹_› ‹_›)
   simp[q9,hd]at B
  |chan a b=>
   cases U<;>first|exact .dm|(cases J<;>first|exact .dm|exact .pure rfl|skip)
   rename_i r r' h1 s s' W;refine .pure ?_;show((y? r==y? s)=(y? r'==y? s'));rw[Z8];simp only[beq_iff_eq,m?];constructor;intro e;subst e;rw[h1]at W;cases W;rfl;intro e;subst e;exact m.14 _ _ _ h1 W
  |_=>cases U<;>exact .dm
def tz(P:P?):Nat->bL->Bool
 |0,_=>t?|d+1,t=>match P.underlying t with
  |some (.interface _)=>f?|some (.struct B)=>B.all λf=>tz P d f.2|some (.array _ e)=>tz P d e|_=>t?
def qd(b):∀(n)(m)(t){v J},VR m v J->tz o n t=t?->dD o Dg m (db b n t v) (db b n t J)
 |0,m,t,_,_,_,_=>.dm|n+1,m,t,v,J,hv,B=>by
  refine dI λd O=>?_
  cases d with
  |interface ms=>simp[tz,O]at B|struct fs=>
   simp only[tz,O,bB]at B;cases hv<;>first|exact .dm|skip
   rename_i U V;refine(dL (qX _ _ λm' f s hf W=>dX (λ_=>?_)<|λ_=>.pure q?) λ_ _ _ _ _=>.pure t!);refine dL (oF ((fh.jb U V).mono W) _) λm1 u u' l1 Y=>dL (qd b n m1 _ Y<|B f<|u! hf) λ_ _ _ _ _=>.pure rfl
  |array l e=>
   simp only[tz,O]at B;cases hv<;>first|exact .dm|skip
   rename_i U V;refine(dL (qT _ _ λm' i s W=>fj λsz=>?_) λ_ _ _ _ _=>.pure t!);refine dL (oF ((fh.jb U V).mono W) _) λm1 u u' l1 Y=>dL (qd b n m1 _ Y B) λ_ _ _ _ _=>.pure rfl
  |_=>exact .pure trivial
def N1(m:Ren):Option (Nat×v?)->Option (Nat×v?)->Prop:=nO λx y=>y.1=x.1/\VR m x.2 y.2
def wP{t:bL}(V:∀B,g.Le B->iG B\/q9 o i9 t=t?)(W:g.G=o.globals.size)(Y:VR g p C):∀{es O:List MapEntry}(i:Nat)(B:Ren),g.Le B->eA (wq g) es O->dD o N1 B (cZ t p es i) (cZ t C O i)
 |_,_,_,B,_,.nil=>by unfold cZ;exact .pure .none
 |_,_,i,B,J,.cons he h=>by refine dL (rm _ B t (by rw[J.G,W]) (Y.mono J) (he.1.mono J)<|V B J) λm2 a b l2 U=>?_;cases U;exact dX (λ_=>.pure<|.some ⟨q?,he.2.mono<|J.trans l2⟩)<|λ_=>wP V W Y _ m2 (J.trans l2) h
def Qu{d:TypeDesc}(B:VR g p C)(J:VR g U x4)(b:Bool)(h:cU d p U=y? b):cU d C x4=y? b:=by
 cases d with
 |bool=>
  cases B with
  |bool c=>cases J with|bool e=>exact h|_=>cases h
  |_=>cases h
 |int j=>
  cases B with
  |int c n=>cases J with|int e O=>exact h|_=>cases h
  |_=>cases h
 |string=>
  cases B with
  |string c=>cases J with|string e=>exact h|_=>cases h
  |_=>cases h
 |_=>cases h
def Gs{t:bL}{d:TypeDesc}(Y:o.underlying t=y? d)(O:VR g p C)(V:VR g U x4)(h:cU d p U=x?){b:Bool}(B:cU d C x4=y? b):eW o<|jt t p U:=by
 have key:∀{W:Type}(f:TypeDesc->Sem W),eW o (f d)->eW o (bU t >>= f):=by intro W f hf;show eW o ((match o.underlying t with|some d=>pure d|none=>stuck _) >>= f);rwa[Y]
 cases d with
 |bool=>
  cases O with
  |bool c=>cases V with
   |bool e=>cases h
   |gV v J=>exact key _ trivial|_=>cases B
  |gV v J=>exact key _ trivial|_=>cases B
 |int j=>
  cases O with
  |int c n=>cases V with
   |int e n'=>rw[B]at h;cases h
   |gV v J=>exact key _ trivial|_=>cases B
  |gV v J=>exact key _ (by cases U<;>trivial)|_=>cases B
 |string=>
  cases O with
  |string c=>cases V with
   |string e=>cases h
   |gV v J=>exact key _ trivial|_=>cases B
  |gV v J=>exact key _ trivial|_=>cases B
 |_=>cases B
def H8{t:bL}{d:TypeDesc}(B:o.underlying t=y? d)(h:cU d p C=y? f?){J:Type}(f:Bool->Sem J)(U:eW o<|f f?):eW o<|jt t p C >>= f:=by
 have key:∀(g:TypeDesc->Sem Bool),g d=pure f?->eW o ((bU t >>= g) >>= f):=by intro g O;show eW o (((match o.underlying t with|some d=>pure d|none=>stuck _) >>= g) >>= f);rw[B];show eW o (g d >>= f);rwa[O]
 match d,p,C,h with
 |.bool,.bool a,.bool b,h=>exact key _ (by simp only[cU,m?]at h;simp[h])|.string,.string a,.string b,h=>exact key _ (by simp only[cU,m?]at h;simp[h])|.int j,.int p a,.int k' b,h=>
  apply key _;simp only[cU]at h;split at h;simp only[m?]at h;rename_i e;simp[e,h]
  cases h
def EK{t:bL}{d:TypeDesc}(J:o.underlying t=y? d)(O:VR g p C):∀{es B:List MapEntry}(i:Nat),eA (wq g) es B->
  (∀r,cX d p es i=y? r->∃r',cX d C B i=y? r'/\N1 g r r')/\(cX d p es i=x?->cX d C B i=x?\/∀j,eW o<|cZ t p es j)
 |_,_,i,.nil=>by exact⟨λr h=>by cases h;exact⟨_,q?,.none⟩,nofun⟩
 |e::es,e'::B,i,.cons U h=>by
  obtain⟨V,W⟩:=EK J O _ h
  unfold cX
  cases Y:cU d p _ with
  |some b=>
   rw[Qu O U.1 b Y]
   cases b with
   |true=>exact⟨λr h=>by cases h;exact⟨_,q?,.some ⟨q?,U.2⟩⟩,nofun⟩|false=>refine⟨V,λhn=>(W hn).imp id λhD j=>?_⟩;exact H8 J Y _<|hD _
  |none=>
   refine⟨nofun,λ_=>?_⟩
   cases aa:cU d C _ with
   |none=>exact .inl rfl|some b=>refine .inr λj=>?_;exact(Gs J O U.1 Y aa).bind
def yP{t}(O:iG g\/q9 o i9 t=t?)(U:g.G=o.globals.size)(B:VR g p C)(h:eA (wq g) y1 y2):dD o N1 g (dc t p y1)<|dc t C y2:=by
 refine dI λd V=>?_;obtain⟨W,Y⟩:=EK V B 0 h
 cases J:cX d p y1 0 with
 |some r=>obtain⟨r',e,hr⟩:=W r J;rw[e];exact .pure hr
 |none=>
  obtain e|hD:=Y J
  rw[e];exact wP (λm' hl=>O.imp (λx=>x.mono hl) id) U B 0 g (.refl g) h;exact .wj (hD 0)
def TK{P:P?}(hP:oy P)(hG:g.G=P.globals.size){t:bL}(hK:∀k e,P.underlying t=y? (.map k e)->tz P 10000 k=t?/\(iG g\/q9 P i9 k=t?)){i:v?}(hx:VR g p C)(hi:VR g i U)(b:Bool):dD P VR g (fz t p i b)<|fz t C U b:=by
 refine dI λd hd=>?_;cases d<;>first|exact .dm|skip
 rename_i k e;obtain⟨W,Y⟩:=hK k e hd
 have fin:∀{es B:Array MapEntry},eA (wq g) es.1 B.1->dD P VR g
   (do db es.isEmpty 10000 k i;match <-dc k i es.1 with|some (_,v)=>(do let y <-pure (v,t?);match y with|(v,ok)=>pure (if b=t? then .tuple #[v,.bool ok]else v))|none=>(do let z <-bR e;let y <-pure (z,f?);match y with|(v,ok)=>pure (if b=t? then .tuple #[v,.bool ok]else v)))
   (do db B.isEmpty 10000 k U;match <-dc k U B.1 with|some (_,v)=>(do let y <-pure (v,t?);match y with|(v,ok)=>pure (if b=t? then .tuple #[v,.bool ok]else v))|none=>(do let z <-bR e;let y <-pure (z,f?);match y with|(v,ok)=>pure (if b=t? then .tuple #[v,.bool ok]else v))):=by
  intro es B h
  have he:es.isEmpty=B.isEmpty:=by have:=h.length;simp only[bx]at this;simp[b8,this]
  rw[he];refine dL (qd _ _ g _ hi W) λm1 _ _ J _=>dL (yP (Y.imp (λp=>p.mono J) id) (by rw[J.G,hG]) (hi.mono J)<|h.mono λ_ _ p=>p.mono J) λm2 r r' l2 hr=>?_
  have pr:∀(m':Ren)(v O:v?)(o:Bool),VR m' v O->VR m' (if b=t? then .tuple #[v,.bool o]else v) (if b=t? then .tuple #[O,.bool o]else O):=by intro m' v O o V;split;exact .mM (.cons V<|.cons (.bool _) .nil);exact V
  cases hr with
  |none=>exact gW hP λz hz=>.pure<|pr _ _ _ _ hz|some V=>exact .pure<|pr _ _ _ _ V.2
 cases hx<;>first|exact .dm|skip
 exact fin .nil
 rename_i hb;refine gX hb λo o' ho=>?_;cases ho<;>first|exact .dm|exact fin ‹_›
 exact .gone ‹_›
def Lb:∀(n)(a b),cT n a b=t?->a=b:=by
 intro n;induction n with
 |zero=>
  intro a b h;unfold cT at h;split at h;rw[eq_of_beq h];simp only[IT,beq_iff_eq]at h;rw[h.1,h.2];simp only[IT,beq_iff_eq]at h;rw[h.1,h.2];simp only[IT,beq_iff_eq]at h;rw[h.1.1,h.1.2,h.2];rw[(Go.MapKept.bytes_beq ..).1 h];rw[eq_of_beq h];rw[eq_of_beq h];rfl;rename_i e;cases e;rename_i e;cases e
  cases h
 |succ n B=>
  intro a b h;unfold cT at h;split at h;rw[eq_of_beq h];simp only[IT,beq_iff_eq]at h;rw[h.1,h.2];simp only[IT,beq_iff_eq]at h;rw[h.1,h.2];simp only[IT,beq_iff_eq]at h;rw[h.1.1,h.1.2,h.2];rw[(Go.MapKept.bytes_beq ..).1 h];rw[eq_of_beq h];rw[eq_of_beq h];rfl;rename_i e;cases e;simp only[IT,beq_iff_eq]at h;rw[h.1,B _ _ h.2];rename_i x y e;cases e;simp only[IT,beq_iff_eq,Zy]at h
  have:=by apply Array.ext h.1;intro i J O;refine B _ _<|h.2 (x[i],y[i]) ?_;rw[m0];exact⟨i,by simp[m7,J,O]⟩
  rw[this]
  cases h
def ux{a b}(Y:VR g a C)(hb:VR g b U):(∀p q,a=p? p->b=p? q->∃B J,C=p? B/\U=p? J/\(p==q)=(B==J))/\(∀p q,a=.chan p->b=.chan q->∃B J,C=.chan B/\U=.chan J/\(p==q)=(B==J)):=by
 constructor;intro p q V W;subst V W
 cases Y with
 |iQ=>cases hb with
  |iQ=>exact⟨_,_,q?,q?,q?⟩|ptr h=>exact⟨_,_,q?,q?,q?⟩
 |ptr h=>cases hb with
  |iQ=>exact⟨_,_,q?,q?,q?⟩|ptr O=>exact⟨_,_,q?,q?,by rw[Z8];simp only[beq_iff_eq,m?];exact h.eq_iff O⟩
 intro p q V W;subst V W
 cases Y with
 |kg=>cases hb with
  |kg=>exact⟨_,_,q?,q?,q?⟩|chan h=>exact⟨_,_,q?,q?,q?⟩
 |chan h=>cases hb with
  |kg=>exact⟨_,_,q?,q?,q?⟩|chan O=>refine⟨_,_,q?,q?,?_⟩;rw[Z8];simp only[beq_iff_eq,m?];constructor;intro e;subst e;rw[h]at O;cases O;rfl;intro e;subst e;exact g.14 _ _ _ h O
def Jh:∀(n){a b U V},VR g a U->VR g b V->cT n a b=t?->cT n U V=t?:=by
 intro n;induction n with
 |zero=>
  intro a b U V B hb h;unfold cT at h;split at h
  cases B;cases hb;simpa[cT]using h
  cases B;cases hb;simpa[cT]using h
  cases B
  cases B
  cases B;cases hb;simpa[cT]using h;obtain⟨W,Y,rfl,rfl,e⟩:=(ux B hb).1 _ _ q? rfl;rw[e]at h;simpa[cT]using h;obtain⟨W,Y,rfl,rfl,e⟩:=(ux B hb).2 _ _ q? rfl;rw[e]at h;simpa[cT]using h
  cases B;cases hb;rfl;rename_i e;cases e;rename_i e;cases e
  cases h
 |succ n ih=>
  intro a b U V B hb h;unfold cT at h;split at h
  cases B;cases hb;simpa[cT]using h
  cases B;cases hb;simpa[cT]using h
  cases B
  cases B
  cases B;cases hb;simpa[cT]using h;obtain⟨W,Y,rfl,rfl,e⟩:=(ux B hb).1 _ _ q? rfl;rw[e]at h;simpa[cT]using h;obtain⟨W,Y,rfl,rfl,e⟩:=(ux B hb).2 _ _ q? rfl;rw[e]at h;simpa[cT]using h
  cases B;cases hb;rfl;rename_i e;cases e
  cases B with
  |iface t h1=>cases hb with
   |iface u h2=>simp only[IT,beq_iff_eq]at h;simp only[cT,IT,beq_iff_eq];exact⟨h.1,ih h1 h2 h.2⟩
  rename_i x y e;cases e
  cases B with
  |agg s1 h1=>cases hb with
   |agg s2 h2=>
    simp only[IT,beq_iff_eq,Zy]at h;simp only[cT,IT,beq_iff_eq,Zy];refine⟨by rw[<-s1,<-s2];exact h.1,λp hp=>?_⟩;rw[m0]at hp;obtain⟨i,hi⟩:=hp;simp only[m7,ZL]at hi;obtain⟨g1,g2⟩:=hi;obtain⟨k1,e1⟩:=AI.1 g1;obtain⟨k2,e2⟩:=AI.1 g2;have J:i<x.size:=by rwa[s1]
    have O:i<y.size:=by rwa[s2]
    rw[<-e1,<-e2];refine ih (h1 i J k1) (h2 i O k2)<|h.2 (x[i],y[i]) ?_;rw[m0];exact⟨i,by simp[m7,J,O]⟩
  cases h
def CA{γ δ RB a b}(B:VR g a p)(hb:VR g b C){f:v?->Sem γ}{f':v?->Sem δ}(V:∀v,ig<|f v)(h:∀v O,VR g v O->dD o RB g (f v) (f' O)) :
  mL o RB g (dg a b >>= f) (dg p C >>= f'):=by
 unfold dg;by_cases J:cT 10000 a b=t?;rw[if_pos J,if_pos<|Jh _ B hb J];exact .base (h _ _ hb);rw[if_neg J];by_cases U:cT 10000 p C=t?;refine mL.odd (λn=>?_)<|λn=>?_;exact V _;show dD o RB g (f _) _;split;exact h _ _ hb;exact h _ _<|(Lb _ _ _ U)▸B;rw[if_neg U];refine .base (dD.choose λn=>?_);show dD o RB g (f _) (f' _);split;exact h _ _ hb;exact h _ _ B
def ig.bind{α β s}{f:α->Sem β}(h:ig s)(J:∀a,ig<|f a):ig<|s.bind f:=by
 induction s with
 |pure a=>exact J a|load m a k B=>exact λv=>B v<|h v|store m a v k B=>exact B h|new o k B=>exact λv=>B v<|h v|shape r k B=>exact λv=>B v<|h v|freeze a n k B=>exact B h|frozen a k B=>exact λv=>B v<|h v|getObj r k B=>exact λv=>B v<|h v|setObj r o k B=>exact B h|choose q k B=>exact h.elim|sys c k B=>exact λv=>B v<|h v|program k B=>exact λv=>B v<|h v|mark m k B=>exact B h|halt x=>trivial
def mL.map{α β γ δ RA}{RB:Ren->γ->δ->Prop}{s s'}{g:α->γ}{g':β->δ}(h:mL o RA x8 s s')(U:∀B a b,x8.Le B->RA B a b->RB B (g a) (g' b)) :
  mL o RB x8 (s.bind λa=>.pure<|g a) (s'.bind λb=>.pure<|g' b):=by
 induction h with
 |base h=>exact .base<|h.bind λB a b J O=>.pure<|U B a b J O|bind h _ ih=>rw[ld,ld];exact .bind h λB a b J O=>ih B a b J O λV c d W Y=>U V c d (J.trans W) Y
 |odd hd h=>exact .odd (λn=>(hd n).bind λ_=>trivial) λn=>(h n).bind λB a b J O=>.pure<|U B a b J O
def qB{α β γ δ RC RA s s'}{f:γ->Sem α}{f':δ->Sem β}(h:dD o RC g s s')(J:∀B a b,g.Le B->RC B a b->mL o RA B (f a) (f' b)):mL o RA g (s >>= f)<|s' >>= f':=.bind h J
def xA{t}:dD o (λ_ a b=>a=b/\o.underlying t=y? a) g (bU t)<|bU t:=by have:=dI (m:=g) (RB:=λ_ a b=>a=b/\o.underlying t=y? a) (f:=pure) (f':=pure) λd B=>.pure ⟨q?,B⟩;simpa using this
def Ho(hb:g.1 I=y? x2):dD o OR g (getObj I)<|getObj x2:=.getObj hb λ_ _ h=>.pure h
def Dj(h:eA (wq g) y3.1 y8.1)(i:Nat){f f':MapEntry->MapEntry}(W:∀e U,wq g e U->wq g (f e) (f' U)):eA (wq g) (y3.modify i f).1 (y8.modify i f').1:=by refine eA.Na (u! h.length) λj a b B hb=>?_;simp only[ZL,Ze]at B hb;by_cases e:i=j;simp only[e,if_true,qb]at B hb;obtain⟨x,Y,rfl⟩:=B;obtain⟨y,V,rfl⟩:=hb;obtain⟨z,J,O⟩:=h.get<|u! Y;simp only[ZL]at J;rw[J]at V;cases V;exact W _ _ O;simp only[e,if_false]at B hb;obtain⟨z,J,O⟩:=h.get<|u! B;simp only[ZL]at J;rw[J]at hb;cases hb;exact O
def wN(h:eA (wq g) y3.1 y8.1){e B:MapEntry}(J:wq g e B):eA (wq g) (y3.push e).1 (y8.push B).1:=by simp only[Array.toList_push];exact h.append<|.cons J .nil
def E1(h:eA (wq g) y3.1 y8.1)(i:Nat):nO (wq g) y3[i]? y8[i]?:=by
 cases B:y3[i]? with
 |none=>have:=h.get_none<|u! B;simp only[ZL]at this;rw[this];exact .none
 |some x=>obtain⟨y,J,O⟩:=h.get<|u! B;simp only[ZL]at J;rw[J];exact .some O
def pz{c}:∀x y z,Obj.map y3 c≠c? x y z:=nofun
def KB{P:P?}(hG:g.G=P.globals.size){t:bL}(hK:∀x4 e,P.underlying t=y? (.map x4 e)->tz P 10000 x4=t?/\(iG g\/q9 P i9 x4=t?)){v':v?}(hm:VR g C U)(V:VR g x4 z4)(hv:VR g z5 v') :
  mL P Dg g (ep t C x4 z5) (ep t U z4 v'):=by
 refine qB xA λm1 d d' l1 hd=>?_;obtain⟨rfl,hd⟩:=hd;cases d<;>first|exact .base<|.dm|skip
 rename_i kt et;obtain⟨ab,ac⟩:=hK kt et hd;have hm:=hm.mono l1;cases hm<;>first|exact .base<|.dm|exact .base<|gh (e:=.plain _) t!|skip
 case map.gone=>exact .base<|.gone ‹_›
 rename_i r r' hb;refine qB (Ho hb) λm2 o o' l2 ho=>?_;cases ho<;>first|exact .base<|.dm|skip
 rename_i es ad clock W;have Y:=l1.trans l2;refine qB (qd _ _ m2 _ (V.mono Y) ab) λm3 _ _ l3 _=>?_;have O:=Y.trans l3;refine qB (yP (ac.imp (λx=>x.mono O) id) (by rw[O.G,hG]) (V.mono O)<|W.mono λ_ _ x=>x.mono l3) λm4 a b l4 ae=>?_;have B:=O.trans l4;have J:=W.mono λ_ _ x=>x.mono<|l3.trans l4;have aa:=(l3.trans l4).1 _ _<|l2.1 _ _ hb
 cases ae with
 |none=>exact .base<|sZ aa (.map _<|wN J ⟨V.mono B,hv.mono B,q?⟩) pz|some hx=>
  rename_i x y;let ⟨i,u⟩:=x;let ⟨i',u'⟩:=y;let ⟨hi,_⟩:=hx;subst hi;refine CA ?_ (V.mono B) (λ_=>trivial) λq q' hq=>sZ aa (.map _<|Dj J _ λe e' he=>⟨hq,hv.mono B,he.3⟩) pz;have:=E1 J i';revert this;generalize es[i']?=p;generalize ad[i']?=p';intro hp
  cases hp with
  |none=>exact V.mono B|some he=>exact he.1
def M7{P:P?}(hP:oy P)(hG:g.G=P.globals.size){t:bL}(hK:∀x4 e,P.underlying t=y? (.map x4 e)->tz P 10000 x4=t?/\(iG g\/q9 P i9 x4=t?))(hm:VR g C U)(W:VR g x4 z4) :
  mL P VR g (fb t C x4) (fb t U z4):=by
 refine qB xA λm1 d d' l1 hd=>?_;obtain⟨rfl,hd⟩:=hd;cases d<;>first|exact .base<|.dm|skip
 rename_i kt et;obtain⟨ad,ae⟩:=hK kt et hd;have hm:=hm.mono l1;cases hm<;>first|exact .base<|.dm|exact .base<|gh (e:=.plain _) t!|skip
 case map.gone=>exact .base<|.gone ‹_›
 rename_i r r' hb;refine qB (Ho hb) λm2 o o' l2 ho=>?_;cases ho<;>first|exact .base<|.dm|skip
 rename_i es Y clock aa;have ab:=l1.trans l2;refine qB (qd _ _ m2 _ (W.mono ab) ad) λm3 _ _ l3 _=>?_;have J:=ab.trans l3;refine qB (yP (ae.imp (λx=>x.mono J) id) (by rw[J.G,hG]) (W.mono J)<|aa.mono λ_ _ x=>x.mono l3) λm4 a b l4 af=>?_;have O:=J.trans l4;have B:=aa.mono λ_ _ x=>x.mono<|l3.trans l4;have ac:=(l3.trans l4).1 _ _<|l2.1 _ _ hb
 cases af with
 |none=>exact .base<|gW hP λz hz=>l8 ac (.map _<|wN B ⟨W.mono O,hz,q?⟩) pz<|.pure<|.mM<|.cons hz<|.cons (.int ..) .nil|some hx=>
  rename_i x y;let ⟨i,u⟩:=x;let ⟨i',u'⟩:=y;let ⟨hi,hu⟩:=hx;subst hi;have hg:=E1 B i';refine CA ?_ (W.mono O) (λ_=>trivial) λq q' hq=>l8 ac (.map _<|Dj B _ λe e' V=>⟨hq,V.2,V.3⟩) pz<|.pure<|.mM<|.cons hu<|.cons ?_ .nil;revert hg;generalize es[i']?=p;generalize Y[i']?=p';intro hp
  cases hp with
  |none=>exact W.mono O|some V=>exact V.1
  revert hg;generalize es[i']?=p;generalize Y[i']?=p';intro hp
  cases hp with
  |none=>exact .int ..|some V=>rw[N!,N!,V.3];exact .int ..
def RJ(h:eA (wq g) y1 y2)(p:Nat->Bool):y1.findIdx? (λe=>p e.3)=y2.findIdx? (λe=>p e.3):=by
 induction h with
 |nil=>rfl|cons B _ J=>simp only[List.findIdx?_cons,B.3,J]
def Hj{P:P?}{t:bL}(hm:VR g p C)(V:VR g U x4)(W:VR g z4 z5):dD P Dg g (ee t p U z4)<|ee t C x4 z5:=by
 cases hm<;>first|exact .dm|skip
 case gone=>exact .gone ‹_›
 rename_i r r' hb;refine gX hb λo o' Y=>?_;cases Y<;>first|exact .dm|skip
 rename_i es B clock J;refine lU V λn=>?_
 have e:es.findIdx? (λe=>e.3==n)=B.findIdx? (λe=>e.3==n):=by have:=RJ J<|λb=>b==n;let ⟨a⟩:=es;let ⟨a'⟩:=B;simpa using this
 rw[e];split;exact sZ hb (.map _<|Dj J _ λe e' O=>⟨O.1,W,O.3⟩) pz;exact .dm
def Y3(h:eA (wq g) y1 y2)(p:Nat->Bool):nO (wq g) (y1.find? λe=>p e.3)<|y2.find? λe=>p e.3:=by
 induction h with
 |nil=>exact .none|cons B _ J=>simp only[List.find?_cons,B.3];split;exact .some B;exact J
def X1{P:P?}{i:v?}(h:VR g i C):dD P VR g (gj i)<|gj C:=by
 cases h<;>first|exact .dm|skip
 rename_i W
 cases W with
 |@mk b b' o s hb=>
 cases o<;>first|exact .dm|skip
 refine gX hb λo Y J=>?_;cases J<;>first|exact .dm|skip
 rename_i r r' x y z hm;dsimp only
 cases y.back? with
 |none=>exact .dm|some B=>
  refine gX hm λo Y J=>?_;cases J<;>first|exact .dm|skip
  rename_i es O clock U;dsimp only;split;exact .dm;have:=Y3 U<|λb=>b==B;simp only[Array.find?_toList]at this;revert this;generalize es.find? _=p;generalize O.find? _=p';intro hp
  cases hp with
  |none=>exact .dm|some V=>exact .pure<|.mM<|.cons V.1<|.cons V.2 .nil
def Ca(h:eA (wq g) y1 y2)(p:Nat->Bool):eA (wq g) (y1.filter λe=>p e.3)<|y2.filter λe=>p e.3:=by
 induction h with
 |nil=>exact .nil|cons B _ J=>simp only[List.filter_cons,B.3];split;exact .cons B J;exact J
def Zbh(h:eA (wq g) y1 y2)(p:Nat->Bool):y1.all (λe=>p e.3)=y2.all (λe=>p e.3):=by
 induction h with
 |nil=>rfl|cons B _ J=>simp only[List.all_cons,B.3,J]
def Mf(bT:Array Nat)(B:Nat)(es:Array MapEntry):Array<|Option MapEntry:=
 (if(br (λx=>decide<|x.3<B)<|br (λe=>!bT.contains e.3) es).isEmpty=t? then #[x?]else #[]) ++
  bC y? (br (λx=>decide<|x.3<B) (br (λe=>!bT.contains e.3) es)++br (λx=>decide<|x.3 ≥ B) (br (λe=>!bT.contains e.3) es))
def Y5(bT)(since)(h:eA (wq g) y3.1 y8.1):eA (nO<|wq g) (Mf bT since y3).1 (Mf bT since y8).1:=by
 have B:=Ca h<|λb=>!bT.contains b;have J:=Ca B<|λb=>decide<|b<since;unfold Mf
 have e:(br (λx=>decide<|x.3<since)<|br (λe=>!bT.contains e.3) y3).isEmpty=(br (λx=>decide<|x.3<since)<|br (λe=>!bT.contains e.3) y8).isEmpty:=by have:=J.length;simp only[<-bF,bx]at this;simp only[b8,this]
 rw[e];simp only[Array.toList_append,bv,bF];refine eA.append ?_<|eA.map (λa b h=>.some h)<|eA.append J<|Ca B<|λb=>decide<|b ≥ since;split;exact .cons .none .nil;exact .nil
def Ym{P:P?}{i:v?}(h:VR g i p)(b:Bool)(t:bL):dD P VR g (dN i b t)<|dN p b t:=by
 unfold dN;cases h<;>first|exact .dm|skip
 rename_i ha
 cases ha with
 |@mk c c' o s hb=>
 cases o<;>first|exact .dm|skip
 dsimp only;refine gX hb λo o' U=>?_;cases U<;>cases b<;>first|exact .dm|skip
 dsimp only;refine dX (λ_=>l8 hb (.stringIter _ _) (λ_ _ _ h=>by cases h)<|.pure<|.mM<|.cons (.bool _)<|.cons (.int ..)<|.cons (.int ..) .nil)<|λ_=>.pure<|.mM<|.one<|.bool _;exact .pure (.mM<|.one<|.bool _)
 rename_i r r' B bT last hm;refine gX hm λo o' U=>?_;cases U<;>first|exact .dm|skip
 rename_i es J clock O;have W:=O.length;simp only[bx]at W;have e1:es.isEmpty=J.isEmpty:=by simp only[b8,W]
 have e2:es.all (λx=>decide<|x.3 ≥ last)=J.all (λx=>decide<|x.3 ≥ last):=by have:=Zbh O<|λb=>decide<|b ≥ last;rwa[<-bJ,<-bJ]
 dsimp only;rw[e1,e2];refine dX (λ_=>.dm)<|λ_=>?_
 change dD P VR g (choose (.mapNext (Mf bT B es).size) >>= λn=>match (Mf bT B es)[n]? with
   |some (y? e)=>(do setObj c _;pure _)
   |some x?=>pure _|none=>stuck _)
  (choose _ >>= λn=>match (Mf bT B J)[n]? with
    |some (y? e)=>(do setObj c' _;pure _)
    |some x?=>pure _|none=>stuck _)
 have Y:=Y5 bT B O;have e3:=by simpa using Y.length
 rw[e3];refine kG λn=>?_
 cases hn:(Mf bT B es)[n]? with
 |none=>exact .dm|some x=>
  obtain⟨y,hy,hr⟩:=Y.get<|u! hn;simp only[ZL]at hy;rw[hy]
  cases hr with
  |none=>exact .pure<|.mM<|.one<|.bool _|some V=>dsimp only;rw[V.3];exact l8 hb (.mapIter _ _ _ hm) (nofun)<|.pure<|.mM<|.cons (.bool _)<|.cons V.1<|.cons V.2 .nil
def F7(O:oy o)(U:VR g p C)(t u:bL):dD o VR g (dS p t u t?)<|dS C t u t?:=by
 have B:dD o VR g (do pure (.tuple #[<-bR u,.bool f?])) _:=
  gW O λz V=>.pure<|.mM<|.cons V<|.cons (.bool _) .nil
 refine dI λd W=>?_
 cases U with
 |nilIface=>cases d<;>exact B
 |iface s J=>
  cases d
  case interface ms=>
   refine fx λY _=>?_
   cases Instr.missingMethod ms _ with
   |none=>exact .pure<|.mM<|.cons (.iface _ J)<|.cons (.bool _) .nil|some _=>exact B
  all_goals exact dX (λ_=>.pure<|.mM<|.cons J<|.cons (.bool _) .nil) (λ_=>B)
 |_=>cases d<;>exact .dm
def Dx(op)(k)(a b):dD o VR g (j3 op k a b)<|j3 op k a b:=by cases op<;>first|exact .dm|exact .pure<|.int ..
def Ev(op)(k)(a b):dD o VR g (j4 op k a b)<|j4 op k a b:=by cases op<;>first|exact .dm|exact .pure<|.int ..
def Vi(op)(a b):dD o VR g (kf op a b)<|kf op a b:=by cases op<;>first|exact .dm|exact .pure<|.bool _
def Tp(op)(k)(a b):dD o VR g (ke op k a b)<|ke op k a b:=by refine dX (λ_=>gh t!) (λ_=>?_);cases op<;>first|exact .dm|exact .pure<|.int ..
def OB(op)(k j)(a b):dD o VR g (kv op k a j b)<|kv op k a j b:=by refine dX (λ_=>gh t!) (λ_=>?_);cases op<;>first|exact .dm|exact .pure<|.int ..
def NE(op)(a b:b?):dD o VR g (j2 op a b)<|j2 op a b:=by cases op<;>first|exact .dm|exact .pure<|.bool _|exact dX (λ_=>.dm)<|λ_=>.pure<|.string _
def VN(op)(h:VR g p C):dD o VR g (ko op p)<|ko op C:=by
 cases h<;>cases op<;>first|exact .dm|exact .pure<|.bool _|skip
 rename_i k n;show dD o VR g (j3 .sub k 0 n) _;exact Dx ..;rename_i k n;show dD o VR g (j4 .xor k _ n) _;exact Ev ..
def U8{P:P?}{B J:Type}{RB:Ren->B->J->Prop}(hb:g.1 I=y? x2){f:Option (Addr×bL)->Sem B}{f':Option (Addr×bL)->Sem J}(h:dD P RB g (f x?)<|f' x?):dD P RB g (viewAt I >>= f)<|viewAt x2 >>= f':=by
 refine lr hb λx=>?_
 cases x with
 |some y=>exact h|none=>refine gX hb λo U O=>?_;cases O<;>exact h
def Zb8(m:Ren)(v J:v?):Prop:=∃a B,v=p? (y? a)/\J=p? (y? B)/\AR m a B
def uq{a t}(O:VR g p C)(J:VR g U x4):dD o Zb8 g (nU a t #[p,U])<|nU a t #[C,x4]:=by
 cases O<;>first|exact .dm|skip
 refine lU J λn=>?_;dsimp only;split;exact .dm;split<;>exact .dm
 rename_i B;refine lU J λn=>?_;dsimp only;split;apply U8 B.blk;exact .pure ⟨_,_,q?,q?,B⟩;split;exact .dm;refine lr B.blk λz=>?_
 cases z with
 |none=>exact .dm|some z=>
  apply iX
  cases B with
  |mk hb=>
  dsimp only;split;exact .pure ⟨_,_,q?,q?,.mk hb⟩;exact .dm
def Lx{P:P?}(hb:g.1 I=y? x2):dD P (λg=>nO λx y=>AR g x.1 y.1/\y.2=x.2) g (numberAt I)<|numberAt x2:=by
 refine lr hb λx=>?_
 cases x with
 |some y=>exact .pure .none|none=>
  refine gX hb λo O B=>?_
  cases B with
  |number l J=>exact .pure<|.some ⟨J,q?⟩|_=>exact .pure .none
def MN{a:Addr}(B:AR g a J)(l:Bool):dD o VR g (asNumber a l)<|asNumber J l:=
 dD.new (.number l B) (nofun) λO r r' _ hb _=>.pure<|.ptr<|.mk hb
def kC{t}(J:VR g C U)(B:VR g x4 z4):dD o VR g (cN t C x4)<|cN t U z4:=by
 refine dI λd hd=>?_;dsimp only;split;exact .dm
 cases J with
 |ptr O=>refine eO O λp p' l V=>?_;refine dL (uq (.ptr V) B) λW v Y hl hv=>?_;obtain⟨b,b',rfl,rfl,hb⟩:=hv;exact MN hb l
 |iQ=>exact(uq (a:=#[]) (t:=t) .iQ B).mono λW v Y _ h=>by obtain⟨b,b',rfl,rfl,hb⟩:=h;exact .ptr hb
 |_=>exact .dm
def ug{P:P?}{t:bL}(O:VR g p C)(V:VR g U x4):dD P VR g (cI t p U)<|cI t C x4:=by
 have fin:∀B,g.Le B->dD P VR B (nU #[] t _) _:=λB J=>(uq (O.mono J)<|V.mono J).mono λB v v' _ h=>by obtain⟨b,b',rfl,rfl,hb⟩:=h;exact .ptr hb
 cases O with
 |ptr W=>
  refine dL (Lx W.blk) λB o o' J Y=>?_
  cases Y with
  |none=>exact fin B J|some _=>exact .dm
 |gV v hv=>exact .dm|_=>exact fin g<|.refl g
def zE{t}(y):eW o<|jt t (.tuple #[]) y:=by
 show eW o ((match o.underlying t with|some d=>pure d|none=>stuck _) >>= _)
 cases o.underlying t with
 |none=>trivial|some d=>cases d<;>first|trivial|(cases y<;>trivial)
def zM{t}(x):eW o<|jt t x<|.tuple #[]:=by
 show eW o ((match o.underlying t with|some d=>pure d|none=>stuck _) >>= _)
 cases o.underlying t with
 |none=>trivial|some d=>cases d<;>first|trivial|(cases x<;>first|trivial|(rename_i a;cases a<;>trivial)|(cases b<;>first|trivial|(cases c<;>trivial))|(rename_i a b c;cases a<;>trivial))
def Is(U:g.G=o.globals.size){a b:Addr}(B:AR g a J)(hb:AR g b y9):dD o FY g (ka a b)<|ka J y9:=by
 apply iX
 have V:(a.1 != b.1)=(J.1 != y9.1):=by
  have:(a.1==b.1)=(J.1==y9.1):=by rw[Z8];simp only[beq_iff_eq];exact B.uD hb
  simp only[bne,this]
 have W:decide (a.1 ≥ o.globals.size)=decide (J.1 ≥ o.globals.size):=by have:=g.12 _ _ B.blk;rw[U]at this;exact decide_eq_decide.2 ⟨λh=>mb λx=>absurd (this.2 x) o!,λh=>mb λx=>absurd (this.1 x) o!⟩
 rw[V,W];refine dX (λ_=>.dm)<|λ_=>?_;refine dL (pU B) λm' x y O h=>?_;cases h;refine dL (pU<|hb.mono O) λY x' y' O h=>?_;cases h;exact .pure rfl
def yv{k:IntKind}{a:Addr}(B:AR g a J)(n:Int):dD o VR g (kb k a n)<|kb k J n:=by
 refine lr B.blk λx=>?_
 cases x with
 |none=>exact .dm|some y=>refine fx λO _=>?_;refine dX (λ_=>.dm)<|λ_=>?_;refine dL (pU B) λU x y V h=>?_;cases h;exact .pure (.int ..)
def O'(J:g.G=o.globals.size){t:bL}(O:iG g\/q9 o i9 t=t?)(V:VR g p C)(W:VR g U x4):dD o VR g (do pure (.bool (<-jt t p U))) (do pure (.bool (<-jt t C x4)))/\dD o VR g (do pure (.bool<|!(<-jt t p U))) (do pure (.bool<|!(<-jt t C x4))):=by
 have h:=rm _ g t J V W O;constructor;exact dL h λY a b _ B=>by cases B;exact .pure (.bool _)
 exact dL h λY a b _ B=>by cases B;exact .pure (.bool _)
def Ru(op)(t)(k k')(a b):dD o VR g (binOp op t (n? k a)<|n? k' b)<|binOp op t (n? k a)<|n? k' b:=by
 cases op
 case shl=>exact OB .shl k k' a b
 case shr=>exact OB .shr k k' a b
 all_goals
  refine dX (λ_=>.dm)<|λ_=>?_
  first|exact Dx ..|exact Tp ..|exact Ev ..|exact Vi ..
def FE(op:BinOp)(V:g.G=o.globals.size){t:bL}(hE:op=.eql\/op=.neq->iG g\/q9 o i9 t=t?)(W:VR g C U)(J:VR g x4 z4):dD o VR g (binOp op t C x4)<|binOp op t U z4:=by
 have heq:op=.eql->dD o VR g _ _:=λe=>(O' V (hE<|.inl e) W J).1;have hne:op=.neq->dD o VR g _ _:=λe=>(O' V (hE<|.inr e) W J).2
 have B:∀(z:v?),x4=.tuple #[]->op=.eql\/op=.neq->C=z->dD o VR g (binOp op t C x4) (binOp op t U z4):=by
  intro z e1 e2 e3;subst e1;refine .wj ?_;obtain rfl|rfl:=e2
  cases C<;>exact(zM _).bind
  cases C<;>exact(zM _).bind
 cases W with
 |gV v O=>
  refine .wj ?_;cases op
  case eql=>exact(zE _).bind
  case neq=>exact(zE _).bind
  all_goals(cases x4<;>trivial)
 |int k a=>
  cases J with
  |int k' b=>exact Ru op t k k' a b|gV v O=>cases op<;>first|exact .dm|exact B _ q? (.inl q?) rfl|exact B _ q? (.inr q?) rfl
  |iQ=>cases op<;>first|exact .dm|exact heq rfl|exact hne rfl|exact kC .iQ<|.int _ _
  |ptr hb=>
   cases op
   .exact kC (.ptr hb) (.int _ _)
   case and=>exact eO hb λp p' l hp=>yv hp _
   all_goals first|exact .dm|exact heq rfl|exact hne rfl
  |_=>cases op<;>first|exact .dm|exact heq rfl|exact hne rfl
 |string a=>
  cases J with
  |string b=>
   have e:∀op,binOp op t (s? a) (s? b)=j2 op a b:=λop=>by cases op<;>rfl
   rw[e];exact NE _ a b
  |gV v O=>cases op<;>first|exact .dm|exact B _ q? (.inl q?) rfl|exact B _ q? (.inr q?) rfl
  |_=>cases op<;>first|exact .dm|exact heq rfl|exact hne rfl
 |iQ=>
  cases J with
  |gV v O=>cases op<;>first|exact .dm|exact B _ q? (.inl q?) rfl|exact B _ q? (.inr q?) rfl
  |int k n=>
   cases op;refine dI λd hd=>?_;exact dX (λ_=>ug .iQ<|.int _ _)<|λ_=>kC .iQ<|.int _ _
   .exact kC .iQ (.int _ _)
   all_goals first|exact .dm|exact heq rfl|exact hne rfl
  |_=>cases op<;>first|exact .dm|exact heq rfl|exact hne rfl
 |ptr ha=>
  cases J with
  |gV v O=>cases op<;>first|exact .dm|exact B _ q? (.inl q?) rfl|exact B _ q? (.inr q?) rfl
  |int k n=>
   cases op;refine dI λd hd=>?_;exact dX (λ_=>ug (.ptr ha)<|.int _ _)<|λ_=>kC (.ptr ha)<|.int _ _
   .exact kC (.ptr ha) (.int _ _)
   case rem=>exact eO ha λp p' l hp=>yv hp _
   case and=>exact eO ha λp p' l hp=>yv hp _
   all_goals first|exact .dm|exact heq rfl|exact hne rfl
  |ptr hb=>
   have two:∀(f:Nat×Nat->Sem v?),(∀m' p,dD o VR m' (f p)<|f p)->∀{a a' b b':Addr},AR g a a'->AR g b b'->dD o VR g _ _:=
    λf hf a a' b b' h1 h2=>dL (Is V h1 h2) λm' p q _ Y=>by cases Y;exact hf m' p
   cases op
   case eql=>exact heq rfl
   case neq=>exact hne rfl
   case sub=>exact eO ha λp p' l hp=>eO hb λq q' l' hq=>two _ (λm' p=>.pure<|.int _ _) hp hq
   case lss=>exact eO ha λp p' l hp=>eO hb λq q' l' hq=>two _ (λm' p=>.pure<|.bool _) hp hq
   case leq=>exact eO ha λp p' l hp=>eO hb λq q' l' hq=>two _ (λm' p=>.pure<|.bool _) hp hq
   case gtr=>exact eO ha λp p' l hp=>eO hb λq q' l' hq=>two _ (λm' p=>.pure<|.bool _) hp hq
   case geq=>exact eO ha λp p' l hp=>eO hb λq q' l' hq=>two _ (λm' p=>.pure<|.bool _) hp hq
   all_goals exact .dm
  |_=>cases op<;>first|exact .dm|exact heq rfl|exact hne rfl
 |_=>
  cases op
  case eql=>exact heq rfl
  case neq=>exact hne rfl
  all_goals(cases J<;>exact .dm)
def A1{γ δ RB a}(B:AR g a J)(O:¬g.3 a.1){f:Unit->Sem γ}{f':Unit->Sem δ}(h:dD o RB g (f ())<|f' ()):dD o RB g (cF a >>= f)<|cF J >>= f':=by
 refine lr B.blk λx=>?_
 cases x with
 |none=>exact h|some y=>exact dD.freeze (.mk B.blk) O h
def yB(s:b?):fh g (s.1.map λb=>Value.int .u8 b.toNat)<|s.1.map λb=>Value.int .u8 b.toNat:=by refine .refl λv B=>?_;simp only[bv,Zv]at B;obtain⟨i,_,rfl⟩:=B;exact .int ..
def Ax{e}{s:b?}:dD o VR g (rf e s)<|rf e s:=by refine kG λcap=>?_;refine dL (rp<|(yB s).append<|.replicate _<|.int ..) λJ a O _ B=>?_;exact A1 B.1 B.2<|.pure<|.slice _ _ B.1
def Hq{c B:L?}(h:eA (VR g) c B):∀(s:b?),dD o FY g
  (forIn c s λc s=>match c with|n? .u8 n=>pure<|ForInStep.yield<|s.push<|UInt8.ofNat n.toNat|_=>(do stuck "bytesToString: byte expected";pure (ForInStep.yield s)))
  (forIn B s λc s=>match c with|n? .u8 n=>pure<|ForInStep.yield<|s.push<|UInt8.ofNat n.toNat|_=>(do stuck "bytesToString: byte expected";pure (ForInStep.yield s))):=by
 induction h with
 |nil=>intro s;exact .pure rfl|cons J _ O=>
  intro s;simp only[nw]
  cases J with
  |int k n=>cases k<;>first|exact .dm|exact O _
  |_=>exact .dm
def As(J:VR g p C):dD o VR g (re p)<|re C:=by
 cases J<;>first|exact .dm|exact .pure<|.string _|skip
 rename_i l c O;refine dL (zw O l) λU c W _ V=>?_;rw[<-bz,<-bz];exact dL (Hq V _) λU a b _ B=>by cases B;exact .pure (.string _)
def G'{γ δ RB a}(V:AR g a J){f:V?->Sem γ}{f':V?->Sem δ}(h:∀c U,fh g c U->dD o RB g (f c) (f' U)):dD o RB g (cy a I >>= f)<|cy J I >>= f':=by
 have key:∀(I i:Nat)(acc B:V?),fh g acc B->dD o RB g (cp a i I acc >>= f) (cp J i I B >>= f'):=by
  intro I;induction I with
  |zero=>intro i acc B O;exact h _ _ O|succ I W=>intro i acc B O;exact dD.load (V.add i) λv v' Y=>W _ _ _<|O.push Y
 exact key I 0 _ _<|.nil g
def gQ{γ δ RB}(J:VR g p C)(O:∀a,p=.slice (y? a) 0 0->x2=0){f:V?->Sem γ}{f':V?->Sem δ}(h:∀c B,fh g c B->(x2=0->c=#[]/\B=#[])->dD o RB g (f c) (f' B)):dD o RB g (ob I x2 p >>= f)<|ob I x2 C >>= f':=by
 obtain rfl|V:=ZJ x2
 cases J<;>first|exact .dm|(simp only[ob,mm];exact h _ _ (.nil g) λ_=>⟨q?,q?⟩)|exact h _ _ (yB _) λ_=>(by simp[ByteArray.extract,ByteArray.copySlice])
 have h:=λc B U=>h c B U λe=>absurd e o!;cases J<;>first|exact .dm|exact G' ‹_› h|exact h _ _<|yB _|exact h _ _<|.nil g|exact absurd (O _ q?) o!
def ue{γ δ RB}(B:VR g p C){f:Nat->Sem γ}{f':Nat->Sem δ}(h:∀n,(∀a,p=.slice (y? a) 0 0->n=0)->dD o RB g (f n) (f' n)):dD o RB g (o3 p >>= f)<|o3 C >>= f':=by cases B<;>first|exact .dm|exact h _ λ_ e=>(by cases e<;>rfl)
def tQ(h:fh g x1 x1)(n:Nat):fh g (nL x1 n)<|nL x1 n:=AP h _
def vE{α n base}{f:Bool->Sem α}(h:∀b,eW o<|f b):eW o<|o2 I x2 n base p >>= f:=by
 have hold:∀(a:Addr)(k:Nat)(g:Bool->Sem α),(∀b,eW o<|g b)->eW o (o1 a k >>= g):=by
  intro a k g B;intro r
  cases r with
  |none=>exact B _|some y=>exact B _
 have tail:∀b:Bool,eW o ((match p with|.slice (y? b) .. =>(do pure (!(<-o1 b<|n*I) || base.any (·.1==b.1)))|_=>pure f?) >>= f):=by
  intro _
  cases p with
  |slice a l c=>
   cases a with
   |none=>exact h _|some a=>simp only[bind_assoc];exact hold a _ _ λb=>h _
  |_=>exact h _
 unfold o2
 cases base with
 |none=>exact tail t?|some a=>simp only[bind_assoc];refine hold a _ _ λb=>?_;intro r;show eW o ((if(!(b && !r))=t? then pure t? else _) >>= f);split;exact h _;exact tail t?
def XN(U:oy o){J O:Type}{RB:Ren->J->O->Prop}{elem:bL}{f:V?->Sem J}{f':V?->Sem O}(h:∀c B,fh g c B->(I=0->c=#[]/\B=#[])->dD o RB g (f c) (f' B)) :
  dD o RB g ((if I*x2=0 then pure #[]else do pure (nL (<-bR elem).cells I)) >>= f) ((if I*x2=0 then pure #[]else do pure (nL (<-bR elem).cells I)) >>= f'):=by
 split;exact h _ _ (.nil g) λ_=>⟨q?,q?⟩;simp only[bind_assoc];exact gW U λz V=>h _ _ (tQ V.cells _) λe=>absurd (show I*x2=0 by rw[e,mm]) ‹_›
def Us{P:P?}(hP:oy P){t:bL}(h:fh g x1 x5):dD P VR g (oi x6 t x1)<|oi x6 t x5:=by
 unfold oi
 cases x6[0]? with
 |none=>exact .dm|some st=>
 cases h0:x1[0]? with
 |none=>exact .dm|some s=>
 cases h1:x1[1]? with
 |none=>exact .dm|some x=>
 obtain⟨s',ad,hs⟩:=h.get h0;obtain⟨x',ae,hx⟩:=h.get h1;rw[ad,ae];refine dI λd hd=>?_;cases d<;>first|exact .dm|skip
 rename_i elem
 have aa:∀{base O:Option Addr}{B J size n:Nat}{c c':V?},VR g (.slice base B J) (.slice O B J)->B+n<=J->(n=0->c=#[]/\c'=#[])->fh g c c'->dD P VR g
   (match base with|some a=>(do let r <-cq (a.add<|B*size) c.1;pure (Value.slice base (B+n) J))|_=>pure<|Value.slice base (B+n) J)
   (match O with|some a=>(do let r <-cq (a.add<|B*size) c'.1;pure (Value.slice O (B+n) J))|_=>pure<|Value.slice O (B+n) J):=by
  intro base O B J size n c c' hb V h0 W
  cases hb with
  |gC=>exact .pure<|.gC _ _|zero a hd=>obtain rfl:n=0:=o!;obtain⟨rfl,rfl⟩:=h0 rfl;exact .pure (.zero a hd)
  |slice _ _ ha=>exact dL (mY (ha.add _) 0 W) λm' _ _ hl _=>.pure<|.slice _ _<|ha.mono hl
 have U:∀{old ab new ac:V?}{k cap q:Nat},fh g old ab->fh g new ac->dD P VR g
   (do let z <-bR elem;let a <-ck elem<|old++new++nL z.cells q;pure (Value.slice (y? a) k cap))
   (do let z <-bR elem;let a <-ck elem<|ab++ac++nL z.cells q;pure (Value.slice (y? a) k cap)):=by
  intro old ab new ac k cap q ho hn;exact gW hP λz hz=>dL (rp<|(ho.append hn).append<|tQ hz.cells _) λm' a a' _ ha=>.pure<|.slice _ _ ha.1
 have Y:=hs;cases hs<;>first|exact .dm|skip
 all_goals
  refine fj λsize=>?_;dsimp only
  cases x6[1]? with
  |none=>refine ue hx λn hn=>?_;refine dX (λV=>?_)<|λ_=>?_;exact gQ hx hn λc c' W h0=>aa (size:=size) Y V h0 W;refine fx λti _=>dX (λ_=>fq t!)<|λ_=>?_;refine fx λti _=>dX (λ_=>?_)<|λ_=>?_;exact .wj (eW.bind<|vE λb=>by cases b<;>trivial);refine kG λq=>fx λti _=>sT ?_;exact gQ Y (λ_ e=>by cases e<;>rfl) λo o' ho _=>gQ hx hn λc c' W _=>U ho W
  |some xt=>
   refine dI λd2 _=>?_
   cases d2 with
   |int kk=>refine lU hx λnn=>?_;refine dX (λ_=>fq t!)<|λ_=>?_;refine fx λti _=>dX (λ_=>kG λ_=>fq t!)<|λ_=>?_;refine dX (λV=>?_)<|λ_=>?_;exact XN hP λc c' W h0=>aa (size:=size) Y V h0 W;refine fx λti _=>dX (λ_=>fq t!)<|λ_=>?_;refine fx λti _=>dX (λ_=>?_)<|λ_=>?_;exact fq (e:=.error _) trivial;refine kG λq=>fx λti _=>sT ?_;exact gQ Y (λ_ e=>by cases e<;>rfl) λo o' ho _=>XN hP λc c' W _=>U ho W
   |_=>refine ue hx λn hn=>?_;refine dX (λV=>?_)<|λ_=>?_;exact gQ hx hn λc c' W h0=>aa (size:=size) Y V h0 W;refine fx λti _=>dX (λ_=>fq t!)<|λ_=>?_;refine fx λti _=>dX (λ_=>?_)<|λ_=>?_;exact .wj (eW.bind<|vE λb=>by cases b<;>trivial);refine kG λq=>fx λti _=>sT ?_;exact gQ Y (λ_ e=>by cases e<;>rfl) λo o' ho _=>gQ hx hn λc c' W _=>U ho W
def YK{t}(h:fh g x1 x5):dD o VR g (ol x6 t x1)<|ol x6 t x5:=by
 unfold ol
 cases x6[0]? with
 |none=>exact .dm|some st=>
 cases O:x1[0]? with
 |none=>exact .dm|some s=>
 cases h1:x1[1]? with
 |none=>exact .dm|some x=>
 obtain⟨s',U,hs⟩:=h.get O;obtain⟨x',V,B⟩:=h.get h1;rw[U,V];refine dI λd hd=>?_;cases d<;>first|exact .dm|skip
 cases hs<;>first|exact .dm|skip
 exact ue B λn J=>fj λsz=>gQ B (λa e=>by rw[J a e];simp) λc Y W _=>.pure<|.int _ _
 exact ue B λn J=>fj λsz=>gQ B (λa e=>by rw[J a e];simp) λc Y W O=>by obtain⟨rfl,rfl⟩:=O i!;exact .pure (.int _ _)
 rename_i ha;exact ue B λn J=>fj λsz=>gQ B (λa e=>by rw[J a e];simp) λc Y W _=>dL (mY ha 0 W) λm' _ _ _ _=>.pure<|.int _ _
def uJ(P:P?)(t:bL):Bool:=match P.underlying t with|some (.chan ..)=>f?|_=>t?
def Zaw(B:∀t,x6[0]?=y? t->uJ o t=t?){t:bL}(h:fh g x1 x5):dD o VR g (ow x6 t x1)<|ow x6 t x5:=by
 unfold ow
 cases O:x6[0]? with
 |none=>exact .dm|some st=>
 cases U:x1[0]? with
 |none=>exact .dm|some s=>
 obtain⟨s',J,V⟩:=h.get U;rw[J];have B:=B st O;refine dI λd W=>?_;cases d<;>first|exact .dm|exact .pure<|.int ..|skip
 refine dI λd2 _=>?_;cases d2<;>first|exact .dm|exact .pure<|.int ..
 cases V<;>first|exact .dm|exact .pure<|.int ..
 simp[uJ,W]at B
def ZaW{P:P?}(B:∀t,x6[0]?=y? t->uJ P t=t?){t:bL}(h:fh g x1 x5):dD P VR g (ov x6 t x1)<|ov x6 t x5:=by
 unfold ov
 cases W:x6[0]? with
 |none=>exact .dm|some st=>
 cases Y:x1[0]? with
 |none=>exact .dm|some s=>
 obtain⟨s',J,O⟩:=h.get Y;rw[J];have B:=B st W;refine dI λd hd=>?_
 cases d with
 |array n e=>exact .pure<|.int ..|pointer e=>refine dI λd2 _=>?_;cases d2<;>first|exact .dm|exact .pure<|.int ..
 |string=>cases O<;>first|exact .dm|exact .pure<|.int ..
 |slice e=>cases O<;>first|exact .dm|exact .pure<|.int ..
 |map k e=>
  cases O<;>first|exact .dm|exact .pure<|.int ..|skip
  case gone=>exact .gone ‹_›
  rename_i hb;refine gX hb λo o' ho=>?_;cases ho<;>first|exact .dm|skip
  rename_i U;have V:=U.length;simp only[bx]at V;dsimp only;rw[V];exact .pure (.int ..)
 |chan a b=>simp[uJ,hd]at B|_=>exact .dm
def XE{P:P?}(U:oy P){t:bL}(h:fh g x1 x5):dD P VR g (oj x6 t x1)<|oj x6 t x5:=by
 have fin:∀B,dD P VR B (pure<|.tuple #[])<|pure<|.tuple #[]:=λB=>.pure<|.undef B;unfold oj
 cases ht:x6[0]? with
 |none=>exact .dm|some st=>
 cases V:x1[0]? with
 |none=>exact .dm|some s=>
 let ⟨s',J,W⟩:=h.get V;rw[J];refine dI λd O=>?_
 cases W with
 |oH=>exact fin g|gC l c=>exact fin g|zero a _=>exact fin g|map hb=>refine gX hb λo o' Y=>?_;cases Y<;>first|exact .dm|exact l8 hb (.map _ .nil) pz<|fin g
 |gone O=>exact .gone O|slice l c ha=>
  cases l with
  |zero=>exact fin g|succ l=>
   cases d<;>first|exact .dm|skip
   exact gW U λz hz=>dL (mY ha 0<|tQ hz.cells _) λB _ _ _ _=>fin B
 |_=>exact .dm
def YB(J:VR g p C)(B:VR g U x4):dD o VR g (o5 p U)<|o5 C x4:=by
 cases J with
 |int k n=>cases B<;>first|exact .dm|exact .pure<|.int ..
 |string s=>
  cases B with
  |string t=>exact .pure<|.string _|_=>exact .dm
 |ptr O=>exact .dm|_=>cases B<;>exact .dm
def YQ(J:VR g p C)(B:VR g U x4):dD o VR g (o4 p U)<|o4 C x4:=by
 cases J with
 |int k n=>cases B<;>first|exact .dm|exact .pure<|.int ..
 |string s=>
  cases B with
  |string t=>exact .pure<|.string _|_=>exact .dm
 |ptr O=>exact .dm|_=>cases B<;>exact .dm
def AZ{g:v?->v?->Sem v?}(U:∀m x B y V,VR m x B->VR m y V->dD o VR m (g x y) (g B V)):∀{l W:L?}{m:Ren}{x B:v?},eA (VR m) l W->VR m x B->dD o VR m (l.foldlM g x) (W.foldlM g B)
 |_,_,m,_,_,.nil,J=>.pure J|_,_,m,_,_,.cons Y h,J=>by exact dL (U m _ _ _ _ J Y) λm' a b hl O=>AZ U (h.mono λ_ _ z=>z.mono hl) O
def Zbl{t}(h:fh g x1 x5):dD o VR g (ou x6 t x1)<|ou x6 t x5:=by
 unfold ou;unfold fh at h;revert h;generalize x1.1=l;generalize x5.1=J;intro h
 cases h with
 |nil=>exact .dm|cons B h=>exact AZ (λg x O y U=>YB) h B
def Zbf{t}(h:fh g x1 x5):dD o VR g (om x6 t x1)<|om x6 t x5:=by
 unfold om;unfold fh at h;revert h;generalize x1.1=l;generalize x5.1=J;intro h
 cases h with
 |nil=>exact .dm|cons B h=>exact AZ (λg x O y U=>YQ) h B
def zn:∀(n){a B}(acc:b?),AR g a B->dD o FY g (cw a acc n) (cw B acc n)
 |0,_,_,_,_=>.pure rfl|n+1,a,B,acc,J=>by
  unfold cw;refine GB J λv U O=>?_
  cases O with
  |int k x=>cases k<;>first|exact .dm|exact zn n _<|J.add 1
  |_=>exact .dm
def DH{B O:Type}{RB:Ren->B->O->Prop}{a:Addr}(U:AR g a J){u:bL}{f:Bool->Sem B}{f':Bool->Sem O}(h:∀b,dD o RB g (f b)<|f' b):dD o RB g (cL a u I >>= f)<|cL J u I >>= f':=by refine iX (lr U.blk λx=>?_);rw[U.off];cases x<;>exact h _
def CC(W:iG g){t}(Y:VR g p C)(O:VR g U x4):dD o VR g (o0 x6 t #[p,U])<|o0 x6 t #[C,x4]:=by
 cases Y<;>first|exact .dm|skip
 refine lU O λn=>?_
 cases x6[0]? with
 |none=>exact .dm|some pt=>refine dX (λ_=>fq t!)<|λ_=>dX (λ_=>.dm)<|λ_=>dX (λ_=>.pure<|.string _)<|λ_=>gh t!
 rename_i B;refine lU O λn=>?_
 cases x6[0]? with
 |none=>exact .dm|some pt=>refine dX (λ_=>fq t!)<|λ_=>dX (λ_=>.dm)<|λ_=>dX (λ_=>.pure<|.string _)<|λ_=>?_;refine Kw λet=>DH B λb=>dX (λ_=>?_)<|λ_=>.dm;refine dL (zn _ _ B) λm' s s' V J=>?_;cases J;exact dD.freeze (B.mono V) (W.mono V _)<|.pure<|.string _
def FB(P:P?)(s d:bL):Bool:=match P.underlying s,P.underlying d with
 |some (.int _),y? (.int _)=>t?|some .string,y? (.slice e)=>(match P.underlying e with|some (.int .u8)=>t?|_=>f?)
 |some (.slice e),y? .string=>(match P.underlying e with|some (.int .u8)=>t?|_=>f?)
 |_,_=>f?
def PZ{s d}(ho:FB o s d=t?)(O:VR g p C):dD o VR g (convert s d p)<|convert s d C:=by
 unfold FB at ho;unfold convert;refine dI λd1 W=>dI λd2 Y=>?_;rw[W,Y]at ho;cases d1<;>cases d2<;>first|(simp at ho;done)|skip
 cases O<;>first|exact .dm|exact .pure<|.int _ _
 .rename_i e;cases O<;>first|exact .dm|skip
  refine dI λd3 B=>?_;simp only[B]at ho;cases d3<;>first|exact .dm|skip
  rename_i k;cases k<;>first|exact .dm|exact Ax|(simp at ho;done)
 rename_i e
 have V:o.underlying e=y? (.int .u8):=by
  simp only at ho;revert ho
  cases o.underlying e with
  |none=>intro ho;cases ho
  |some d3=>
   cases d3<;>intro ho<;>first|(cases ho;done)|skip
   rename_i k;cases k<;>first|(cases ho;done)|rfl
 have fin:∀{y J:v?},VR g y J->dD o VR g (bU e >>= λd=>match d with|.int .u8=>re y|.int .i32=>ro y|_=>stuck "Convert: a slice of what to string?") (bU e >>= λd=>match d with|.int .u8=>re J|.int .i32=>ro J|_=>stuck "Convert: a slice of what to string?"):=by intro y J hy;refine dI λd3 B=>?_;rw[V]at B;cases B;exact As hy
 cases O with
 |int k n=>exact .pure<|.string _|string s=>exact .pure<|.string _|gV v hv=>refine .wj ?_;show eW o ((match o.underlying e with|some d=>pure d|none=>stuck _) >>= _);rw[V];trivial
 |gC l c=>exact fin<|.gC l c|zero a hd=>exact fin<|.zero a hd|slice l c U=>exact fin<|.slice l c U|bool b=>exact fin<|.bool b|iQ=>exact fin .iQ|ptr U=>exact fin<|.ptr U|oH=>exact fin .oH|map hb=>exact fin<|.map hb|gone hb=>exact fin<|.gone hb|kg=>exact fin .kg|chan hb=>exact fin<|.chan hb|func a b c d e=>exact fin<|.func a b c d e|tC a b c=>exact fin<|.tC a b c|nilFunc=>exact fin .nilFunc|iface t h=>exact fin<|.iface t h|nilIface=>exact fin .nilIface|agg a b=>exact fin<|.agg a b|tuple a b=>exact fin<|.tuple a b
structure KA(m:Ren)(c c':CommCase):Prop where
 chan:VR m c.1 c'.1
 send:nO (VR m) c.2 c'.2
 zero:VR m c.3 c'.3
def OI(c:Array CommCase)(b:Bool)(s:CommShape):Prop:=b=t?/\s=.send/\∃ch v z,c=#[{chan:=ch,send:=y? v,zero:=z}]
inductive iY(P:P?)(m:Ren):Go.Next->Go.Next->Prop
 |value {v v'}:VR m v v'->iY P m (.value v) (.value v')|skip:iY P m .skip .skip|enter {f a a'}:m.5 f->(∃fn c,P.2[f]?=some fn/\fn.9=some c)->fh m a a'->iY P m (.enter f a) (.enter f a')|round {l l' f t t' a b}:m.1 l=some l'->fh m t t'->gU m.4 a->gU m.4 b->iY P m (.round l f t a b) (.round l' f t' a b)|defer {d d'}:DR m d d'->iY P m (.defer d) (.defer d')|recover:iY P m .recover .recover|spawn {d d'}:m.6->DR m d d'->iY P m (.spawn d) (.spawn d')|comm {c c'} (b s):m.6\/OI c b s->eA (KA m) c.1 c'.1->iY P m (.comm c b s) (.comm c' b s)
def LR(J:iG g){rs}(h:fh g x1 x5):dD o VR g (rt x6 rs x1)<|rt x6 rs x5:=by
 obtain⟨l⟩:=x1;obtain⟨l'⟩:=x5;unfold fh at h;simp only at h
 cases h with
 |nil=>exact .dm|cons O h=>
 cases h with
 |nil=>cases O<;>exact .dm
 |cons U h=>
 cases h with
 |cons hz h=>cases O<;>first|exact .dm|(cases U<;>exact .dm)
 |nil=>
 cases O<;>first|exact .dm|(cases U<;>first|exact .dm|skip)
 all_goals
  unfold rt;dsimp only;cases x6[0]?<;>first|exact .dm|skip
  refine dI λd hd=>?_;cases d<;>first|exact .dm|skip
  refine fj λsz=>?_
  first|exact .pure<|.bool _|(dsimp only;rw[if_pos i!,if_pos i!];exact .pure (.bool _))|skip
 rename_i a V la ca B b W lb cb hb st e;have Y:(a.1==b.1)=(V.1==W.1):=by rw[Z8];simp only[beq_iff_eq];exact B.uD hb
 have e0:(a.1 != b.1)=(V.1 != W.1):=by simp only[bne,Y]
 dsimp only;rw[Y,e0,B.off,hb.off];refine dX (λ_=>.pure<|.bool _)<|λ_=>?_;refine p9 B (J _) λx=>p9 hb (J _) λy=>dX (λ_=>.dm)<|λ_=>dX (λ_=>?_)<|λ_=>.pure<|.bool _;exact tO B<|tO hb<|Bm J B hb λx=>dX (λ_=>kG λn=>.pure<|.bool _)<|λ_=>.pure<|.bool _
def xH:∀(n){a B}(acc:b?),AR g a B->dD o FY g (rx a n acc) (rx B n acc)
 |0,_,_,_,_=>.pure rfl|n+1,a,B,acc,J=>by
  unfold rx;refine GB J λv U O=>?_
  cases O with
  |int k x=>cases k<;>first|exact .dm|exact xH n _<|J.add 1
  |_=>exact .dm
def Fw(B:VR g p C):dD o FY g (ry p)<|ry C:=by cases B<;>first|exact .dm|exact .pure rfl|exact xH _ _ ‹_›
def RM(h:fh g x1 x5):dD o VR g (Extern.BytealgCompare.compare x1)<|Extern.BytealgCompare.compare x5:=by
 obtain⟨l⟩:=x1;obtain⟨W⟩:=x5
 cases h with
 |nil=>exact .dm|cons O h=>
 cases h with
 |nil=>exact .dm|cons U h=>
 cases h with
 |cons Y h=>exact .dm|nil=>
 refine dL (Fw O) λm' a b J B=>?_;cases B;refine dL (Fw<|U.mono J) λV a b J B=>?_;cases B;exact .pure (.int ..)
def qk(P:P?)(m:Ren)(f:cv):Prop:=
 ∃fn,P.2[f]?=y? fn/\fn.1≠ "runtime.NumGoroutine"/\
  ((∃c,fn.9=y? c/\gU m.4 c)\/(fn.9=x?/\Extern.findNext fn=x?/\∃e,Extern.find fn=y? e/\∀J args B,m.Le J->fh J args B->dD P VR J (e args) (e B)))
def qk.mono(h:g.Le x8){f}(x:qk o g f):qk o x8 f:=by
 obtain⟨fn,U,V,W⟩:=x;refine⟨fn,U,V,?_⟩;obtain⟨c,B,J⟩|⟨B,J,e,Y,h7⟩:=W
 exact .inl ⟨c,B,h.5▸J⟩;exact .inr ⟨B,J,e,Y,λO a a' hl=>h7 O a a'<|h.trans hl⟩
def MV{f}(U:g.5 f)(V:qk o g f)(h:fh g x1 x5):dD o (iY o) g (callFunc f x1)<|callFunc f x5:=by
 obtain⟨fn,J,W,Y⟩:=V;apply iX;rw[J];dsimp only;have e2:(fn.1 == "runtime.NumGoroutine")=f?:=by simpa using W
 rw[e2];obtain⟨c,B,O⟩|⟨B,O,e,h6,h7⟩:=Y
 rw[B];exact .pure (.enter U ⟨fn,c,J,B⟩ h);rw[B,O,h6];refine dD.mark trivial ?_;show dD o _ g (e x1 >>= λv=>pure _) (e x5 >>= λv=>pure _);exact dL (h7 g x1 x5 (.refl g) h) λm' v v' _ hv=>dD.pure<|iY.value hv
structure xl(P:P?)(m:Ren):Prop where
 prog:oy P
 G:m.G=P.globals.size
 calls:∀f,m.5 f->qk P m f
 fol:P.follows .rangeFuncRecover=true
def xl.mono(h:g.Le x8)(x:xl o g):xl o x8:=⟨x.1,h.G.trans x.G,λf B=>(x.3 f<|h.6▸B).mono h,x.4⟩
def VA{P:P?}(J:g.1 I=y? x2)(h:fh g x1 x5):dD P (iY P) g (dr I x1)<|dr x2 x5:=by
 unfold dr dp;simp only[bind_assoc];refine gX J λo Y U=>?_;cases U<;>first|exact .dm|skip
 rename_i p p' B;have e:∀(q:Loop)(k:Loop->Sem Go.Next),(pure q >>= k)=k q:=λq k=>rfl;simp only[e];rw[<-B.6,<-h.size,<-B.4,<-B.7,<-B.8];refine dX (λ_=>.dm)<|λ_=>.pure<|.round J ?_ B.9 B.10
 have key:∀(ps:List Tmp){I x2:L?}{t t':V?},eA (VR g) I x2->fh g t t'->fh g ((ps.zip I).foldl (λtmps x=>S? tmps x.1 x.2) t) ((ps.zip x2).foldl (λtmps x=>S? tmps x.1 x.2) t'):=by
  intro ps;induction ps with
  |nil=>simpa using O|cons p ps V=>
   intro I x2 t t' J O
   cases J with
   |nil=>simpa using O|cons W J=>simpa using V J (O.set p W)
 have:=key p.5.1 h B.5;rwa[<-b4,<-b4,bI,bI]
def Vr(O:oy o)(t:bL)(x:v?){U:Type}(k:cv×v?->Sem U):eW o<|program >>= λp=>cK (p.types.size+Made.depth) t x "" >>= k:=by
 unfold cK c9
 cases B:o.info? t with
 |none=>show eW o ((((match o.info? t with|some i=>pure i|none=>stuck _) >>= _) >>= _));rw[B];trivial
 |some i=>show eW o ((((match o.info? t with|some i=>pure i|none=>stuck _) >>= _) >>= _));rw[B];have V:∀{W:Type}(J:TypeInfo->Sem W),((match y? i with|some i=>pure i|none=>stuck "no such type") >>= J)=J i:=λ_=>rfl;rw[V];simp only[O.2 t i B];trivial
def VZ(O:oy o)(t:bL)(x:v?){U:Type}(k:Option Bool->Sem U):eW o<|program >>= λp=>cE (p.types.size+Made.depth) t x "" >>= k:=by
 unfold cE c9
 cases B:o.info? t with
 |none=>show eW o ((((match o.info? t with|some i=>pure i|none=>stuck _) >>= _) >>= _));rw[B];trivial
 |some i=>show eW o ((((match o.info? t with|some i=>pure i|none=>stuck _) >>= _) >>= _));rw[B];have V:∀{W:Type}(J:TypeInfo->Sem W),((match y? i with|some i=>pure i|none=>stuck "no such type") >>= J)=J i:=λ_=>rfl;rw[V];simp only[O.2 t i B];trivial
def tW(O:xl o g){t t':Target}(U:TR g t t')(V:∀b x y z,t≠.builtin b x y z)(h:fh g x1 x5):dD o (iY o) g (invoke t x1)<|invoke t' x5:=by
 cases U with
 |nil=>exact gh (e:=.nilDeref) trivial|collected _=>exact .dm|mark _ _ _ _=>exact .dm|builtin x y z hm=>exact absurd q?<|V _ x y z|fn B=>
  obtain⟨B,W⟩|⟨rfl,n,rfl⟩:=B
  cases B with
  |func f B=>exact MV B (O.3 f B)<|h.append W|yield Y=>exact VA Y h
  unfold invoke
  cases ha:x1[0]? with
  |none=>exact .dm|some x=>
   obtain⟨x',J,hx⟩:=h.get ha;rw[J]
   cases hx with
   |nilIface=>exact gh (e:=.nilDeref) trivial|iface t hv=>exact .wj<|Vr O.1 t ..|_=>exact .dm
def eI(nu:cv->Prop)(gl:F?):Operand->Prop
 |.tmp _=>True|.const v=>Plain v|.global g=>gl g|.func f=>nu f
def yn(P:P?)(st:Bool)(B:Array bL)(n:Nat):Builtin->Prop
 |.append|.clear|.copy|.max|.min|.recover=>True|.cap|.len=>∀t,B[0]?=y? t->uJ P t=t?|.unsafeString=>st=t?/\n=2|.close=>True|_=>False
def T5(P:P?)(st:Bool)(t:bL):Prop:=∀k e,P.underlying t=y? (.map k e)->tz P 10000 k=t?/\(st=t?\/q9 P i9 k=t?)
def isNil:Operand->Bool
 |.const (p? x?)|.const .nilIface=>t?|_=>f?
def Zbq(P:P?)(st:Bool)(t:bL)(y:Operand):Prop:=st=t?\/q9 P i9 t=t?\/(isNil y=t?/\∀d,P.underlying t=y? d->(∃e,d=.pointer e)\/(∃e,d=.interface e))
def OkOp(P:P?)(nu:cv->Prop)(gl:F?)(st:Bool)(op:Op):Prop:=
 (∀x∈op.operands.1,eI nu gl x)/\match op with
 |.move _|.assign _|.pick ..|.alloc _|.box ..|.build ..|.buildSlice ..|.load ..|.store ..|.nilCheck _|.unOp ..|.makeInterface ..|.makeMap ..|.makeSlice ..|.slice ..|.fieldAddr ..|.field ..|.indexAddr ..|.index ..|.entryStore ..|.range ..|.next ..|.entry _|.extract ..|.panic _|.send .. => True|.select .. => False|.makeChan .. => False|.binOp o t _ y _=>o=.eql\/o=.neq->Zbq P st t y|.convert s d _=>FB P s d=t?|.makeFunc (.func f) _ _=>nu f|.lookup t ..|.mapUpdate t ..|.mapEntry t .. => T5 P st t|.typeAssert _ _ _ ok=>ok=t?|.call c=>match c.1 with
  |.value _=>True|.builtin b=>yn P st c.3 c.2.size b/\b≠.close|.invoke .. => False
 |.go c=>False/\match c.1 with
  |.value _=>True|_=>False
 |.defer c=>match c.1 with
  |.value _=>True|.builtin b=>b=.close/\False|_=>False
 |_=>False
def qH{P:P?}:∀(d:Nat)(m:Ren)(t:bL){x O y U:v?},VR m x O->VR m y U->dD P FY m (j1 d t x y) (j1 d t O U)
 |0,m,t,_,_,_,_,_,_=>.dm
 |d+1,m,t,x,O,y,U,W,Y=>by
  unfold j1
  refine dI λde hd=>?_
  cases de with
  |interface ms=>
   cases W with
   |nilIface=>cases Y with
    |gV v B=>cases U<;>first|exact .pure rfl|exact B.elim
    |_=>exact .pure rfl
   |gV v B=>cases O<;>first|exact .pure rfl|exact B.elim
   |_=>exact .pure rfl
  |struct fs=>
   cases W with
   |agg h1 h2=>
    cases Y with
    |agg h3 h4=>
     refine dL (qX _ _ λm' f s hf V=>dX (λ_=>?_)<|λ_=>.pure q?) λm' a b _ J=>?_
     .refine dL (oF ((fh.jb h1 h2).mono V) _) λm1 u u' l1 hu=>dL (oF ((fh.jb h3 h4).mono<|V.trans l1) _) λm2 v v' l2 B=>?_
      refine dL (qH d m2 _ (hu.mono l2) B) λm3 a b _ J=>?_
      cases J
      exact dX (λ_=>.pure q?)<|λ_=>.pure q?
     .cases J
      obtain⟨o,_⟩:=a
      cases o<;>exact .pure rfl
    |gV v B=>cases U<;>first|exact .pure rfl|exact B.elim
    |_=>exact .pure rfl
   |gV v B=>cases O<;>first|exact .pure rfl|exact B.elim
   |_=>exact .pure rfl
  |array n e=>
   cases W with
   |agg h1 h2=>
    cases Y with
    |agg h3 h4=>
     refine fj λsz=>?_;refine dL (qT _ _ λm' i s V=>?_) λm' a b _ J=>?_;refine dL (oF ((fh.jb h1 h2).mono V) _) λm1 u u' l1 hu=>dL (oF ((fh.jb h3 h4).mono<|V.trans l1) _) λm2 v v' l2 B=>?_;refine dL (qH d m2 _ (hu.mono l2) B) λm3 a b _ J=>?_;cases J;exact dX (λ_=>.pure q?)<|λ_=>.pure q?
     cases J;obtain⟨o,_⟩:=a;cases o<;>exact .pure rfl
    |gV v B=>cases U<;>first|exact .pure rfl|exact B.elim
    |_=>exact .pure rfl
   |gV v B=>cases O<;>first|exact .pure rfl|exact B.elim
   |_=>exact .pure rfl
  |_=>exact .pure rfl
def R6(op)(t)(p q)(V:VR g C U)(O:VR g x4 z4):dD o Dg g (eqGuard op t p q C x4)<|eqGuard op t p q U z4:=by
 refine dX (λ_=>.pure t!)<|λ_=>?_
 cases V with
 |nilIface=>
  cases O with
  |nilIface=>refine dX (λ_=>.pure t!)<|λ_=>?_;refine dL (qH _ g t .nilIface .nilIface) λW a b _ B=>?_;cases B;exact dX (λ_=>.dm)<|λ_=>.pure t!
  |gV v J=>cases z4<;>first|exact .pure trivial|exact J.elim
  |_=>exact .pure trivial
 |agg Y h2=>
  cases O with
  |agg h3 h4=>refine iX<|iX<|dX (λ_=>.pure t!)<|λ_=>?_;refine dL (qH _ g t (.agg Y h2)<|.agg h3 h4) λW a b _ B=>?_;cases B;exact dX (λ_=>.dm)<|λ_=>.pure t!
  |gV v J=>cases z4<;>first|exact .pure trivial|exact J.elim
  |_=>exact .pure trivial
 |gV v J=>cases U<;>first|exact .pure trivial|exact J.elim
 |_=>exact .pure trivial
def Ih{t}(B:∀d,o.underlying t=y? d->(∃e,d=.pointer e)\/(∃e,d=.interface e))(J:VR g p C)(O:U=.pointer x?\/U=.nilIface):dD o FY g (jt t p U)<|jt t C U:=by refine dI λd h=>?_;obtain⟨e,rfl⟩|⟨e,rfl⟩:=B d h<;>obtain rfl|rfl:=O<;>cases J<;>first|exact .dm|exact .pure rfl
def Ku(op)(W:op=.eql\/op=.neq){t}(Y:∀d,o.underlying t=y? d->(∃e,d=.pointer e)\/(∃e,d=.interface e))(hx:VR g p C)(J:U=.pointer x?\/U=.nilIface):dD o VR g (binOp op t p U)<|binOp op t C U:=by
 have h:=Ih Y hx J
 have O:∀z,binOp .eql t z U=(do pure (.bool (<-jt t z U))):=by intro z;obtain rfl|rfl:=J<;>cases z<;>rfl
 have V:∀z,binOp .neq t z U=(do pure (.bool<|!(<-jt t z U))):=by intro z;obtain rfl|rfl:=J<;>cases z<;>rfl
 obtain rfl|rfl:=W
 rw[O,O];exact dL h λm' a b _ B=>by cases B;exact .pure (.bool _)
 rw[V,V];exact dL h λm' a b _ B=>by cases B;exact .pure (.bool _)
def lY{nu}(B:∀x,eI nu y7 x->VR g (x9 x) (y6 x)){a:Array Operand}(h:∀x∈a.1,eI nu y7 x):fh g (a.map x9)<|a.map y6:=by
 unfold fh;simp only[bv];generalize a.1=l at h;induction l with
 |nil=>exact .nil|cons x l J=>exact .cons (B x<|h x i!) (J λy O=>h y<|by simp[O])
def CZ{nu:cv->Prop}(B:∀x,eI nu y7 x->VR g (x9 x) (y6 x)){o:Option Operand}(h:∀x,o=y? x->eI nu y7 x):nO (VR g) (o.map x9)<|o.map y6:=by
 cases o with
 |none=>exact .none|some x=>exact .some<|B x<|h x q?
def Kd{nu:cv->Prop}(B:∀x,eI nu y7 x->VR g (x9 x) (y6 x)){a:Array<|Nat×Operand}(h:∀x∈a.1.map (·.2),eI nu y7 x) :
  eA (O2 g) (a.map λ(i,x)=>(i,x9 x)).1 (a.map λ(i,x)=>(i,y6 x)).1:=by
 simp only[bv];generalize a.1=l at h;induction l with
 |nil=>exact .nil|cons x l J=>exact .cons ⟨q?,B _<|h _ i!⟩<|J λy O=>h y (by simp only[List.map_cons,Zm];exact .inr O)
def Nh(hP:oy o)(hx:VR x8 C U){a:Operand}(e:x9 a=C)(e':y6 a=U){d:Option Tmp}{t:bL}{p:String}{af:Array Edge}{g:Option<|Nat×Bool} :
  dD o (iY o) x8 (c7 x9 ⟨d,.nilCheck a,t,p,af,g⟩) (c7 y6 ⟨d,.nilCheck a,t,p,af,g⟩):=by
 unfold c7;dsimp only;rw[e,e']
 cases hx with
 |iQ=>exact gh trivial|nilIface=>exact gh trivial|nilFunc=>exact gh trivial|@tC lf n f c O V W=>
  dsimp only;have hA:=fh.jb O V
  cases J:lf[0]? with
  |none=>rw[hA.get_none J];exact .pure (.value<|.tC O V W)
  |some y=>
   let ⟨y',Y,hy⟩:=hA.get J;rw[Y]
   have aa:∀t u,y'=.iface t u->∃z,y=.iface t z:=λt u e=>by obtain⟨z,hz⟩:=W t u (by rw[Y,e]);rw[J]at hz;exact⟨z,o7 hz⟩
   cases hy with
   |nilIface=>exact gh trivial|iface t B=>exact .wj<|VZ hP t _ _|gV v B=>
    have:∀t u,y'≠.iface t u:=λt u e=>by obtain⟨z,hz⟩:=aa t u e;cases hz
    cases y'<;>first|exact B.elim|exact absurd q?<|this _ _|exact .pure<|.value<|.tC O V W
   |_=>exact .pure<|.value<|.tC O V W
 |func hf O V W h4=>cases hf<;>exact .pure<|.value<|.func (by first|exact .func _ ‹_›|exact .yield ‹_›) O V W h4
 |gV v B=>cases U<;>first|exact .pure<|.value<|.gV _ B|exact B.elim|(rename_i q;cases q<;>first|exact .pure<|.value<|.gV _ B|exact B.elim)|(rename_i q _ _;cases q<;>first|exact .pure<|.value<|.gV _ B|exact B.elim|exact .dm)
 |bool b=>exact .pure<|.value<|.bool b|int k n=>exact .pure<|.value<|.int k n|string s=>exact .pure<|.value<|.string s|ptr J=>exact .pure<|.value<|.ptr J|gC l c=>exact .pure<|.value<|.gC l c|zero a hd=>exact .pure<|.value<|.zero a hd|slice l c J=>exact .pure<|.value<|.slice l c J|oH=>exact .pure<|.value .oH|map h=>exact .pure<|.value<|.map h|gone h=>exact .pure<|.value<|.gone h|kg=>exact .pure<|.value .kg|chan h=>exact .pure<|.value<|.chan h|iface t h=>exact .pure<|.value<|.iface t h|agg a b=>exact .pure<|.value<|.agg a b|tuple a b=>exact .pure<|.value<|.tuple a b
def rq(W:VR g p C){a:V?}(B:fh g a x1):dD o (λg d Y=>DR g d Y/\∀b x y z,d.1≠.builtin b x y z) g (Deferred.ofValue p a)<|Deferred.ofValue C x1:=by
 cases W<;>first|exact .dm|skip
 rename_i J O V U h4;exact .pure ⟨⟨.fn<|.inl ⟨J,.jb U h4⟩,(fh.jb O V).append B⟩,nofun⟩;exact .pure ⟨⟨.nil,B⟩,nofun⟩;rename_i U O V;exact .pure ⟨⟨.fn<|.inr ⟨q?,_,q?⟩,(fh.jb U O).append B⟩,nofun⟩
def vU{O V:Type}{Q}(hm:∀m B a b,m.Le B->Q m a b->Q B a b){g g':O->Sem V}:∀(l:List O)(m),(∀x∈l,∀B,m.Le B->dD o Q B (g x) (g' x))->dD o (λm=>eA<|Q m) m (l.mapM g) (l.mapM g')
 |[],m,_=>.pure .nil|x::l,m,U=>by simp only[ny];exact dL (U x i! m<|.refl m) λB a b J h=>dL (vU hm l B λy W m1 Y=>U y (by simp[W]) m1<|J.trans Y) λaa c d J hc=>.pure<|.cons (hm _ _ _ _ J h) hc
def KA.mono(h:g.Le x8){a b}(x:KA g a b):KA x8 a b:=⟨x.1.mono h,x.2.mono λ_ _ y=>y.mono h,x.3.mono h⟩
def vg{s s':Sem v?}(h:dD o VR g s s'):mL o (iY o) g (do pure (.value (<-s))) (do pure (.value (<-s'))):=.base<|dL h λ_ _ _ _ B=>.pure<|.value B
def u_R{s s':Sem Unit}(h:dD o Dg g s s'):mL o (iY o) g (do s;pure .skip) (do s';pure .skip):=.base<|dL h λ_ _ _ _ _=>.pure .skip
def RE(U:xl o g){st:Bool}(J:st=t?->iG g){b:Builtin}{t:bL}{cs:Array Bool}(h:fh g x1 x5)(B:yn o st x6 x1.size b)(V:b≠.close):mL o (iY o) g (builtin b x6 t cs x1)<|builtin b x6 t cs x5:=by
 cases b<;>simp only[yn]at B<;>first|exact B.elim|exact absurd q? V|skip
 exact vg<|Us U.1 h;exact vg<|Zaw B h;exact vg<|XE U.1 h;exact vg<|YK h;exact vg<|ZaW B h;exact vg<|Zbl h;exact vg<|Zbf h;exact .base (.pure .recover);obtain⟨W,Y⟩:=B;have O:x5.size=2:=by rwa[<-h.size]
 obtain⟨x,y,rfl⟩:∃x y,x1=#[x,y]:=by
  obtain⟨l⟩:=x1;match l,Y with
  |[x,y],_=>exact⟨x,y,q?⟩
 obtain⟨x',y',rfl⟩:∃x y,x5=#[x,y]:=by
  obtain⟨l⟩:=x5;match l,O with
  |[x,y],_=>exact⟨x,y,q?⟩
 cases h with
 |cons hx h=>cases h with
  |cons hy h=>exact vg<|CC (J W) hx hy
def I0{P:P?}(W:xl P g){st:Bool}(ac:st=t?->iG g)(ab:False->g.6){ρ:Operand->v?}(U:∀x,eI g.5 y7 x->VR g (ρ x) (x9 x))(ae:∀c,ρ (.const c)=c/\x9 (.const c)=c)(o:Oper)(ho:OkOp P g.5 y7 st o.2):mL P (iY P) g (c7 ρ o)<|c7 x9 o:=by
 obtain⟨ai,op,ah,pos,after,guard⟩:=o;obtain⟨J,O⟩:=ho;have B:∀x(_:x∈op.operands.1:=by simp[i8]),VR g _ _:=λx V=>U x<|J x V;have aa:∀t,T5 P st t->∀k e,P.underlying t=y? _->tz P _ k=t?/\(iG g\/q9 P _ k=t?):=λt h k e hd=>⟨(h k e hd).1,(h k e hd).2.imp ac id⟩
 cases op with
 |move x=>exact .base (.pure<|.value<|B x)|assign x=>exact .base (.pure<|.value<|B x)|pick c a b=>refine .base<|Pw (B c) λt=>.pure<|.value ?_;cases t;exact B b (by simp[i8]);exact B a (by simp[i8])
 |alloc e=>exact vg<|Xs W.1|box e x=>exact vg (Zbc<|B x)|build t ps=>exact vg (X6 W.1<|Kd U<|by simpa[i8]using J)|buildSlice t n ps=>exact vg (GL W.1<|Kd U<|by simpa[i8]using J)|load t x=>exact vg (TX<|B x)|store t x y=>exact u_R (RU (B x)<|B y)|nilCheck x=>exact .base<|Nh W.1 (B x) q? q?|binOp o t x y yt=>
  refine vg<|dL (R6 o t x y (B x)<|B y) λm' _ _ Y _=>?_;have V:=(B x).mono Y;have hy:=(B y).mono Y;by_cases hq:o=.eql\/o=.neq
  .obtain h|h|⟨h,hd⟩:=O hq
   exact FE o (Y.G.trans W.G) (λ_=>.inl<|(ac h).mono Y) V hy;exact FE o (Y.G.trans W.G) (λ_=>.inr h) V hy
   cases y with
   |const c=>
    let ⟨e1,e2⟩:=ae c;rw[e1,e2]
    have hc:c=p? x?\/c=.nilIface:=by
     cases c<;>first|cases h;done|exact .inr rfl|skip
     rename_i p;cases p;exact .inl rfl
     cases h
    exact Ku o hq hd V hc
   |_=>cases h
  exact FE o (Y.G.trans W.G) (λh=>absurd h hq) V hy
 |unOp o t x=>exact vg (VN o<|B x)|convert s d x=>exact vg (PZ O<|B x)|makeInterface t x=>exact vg (A2<|B x)|makeFunc f a b=>
  cases f<;>simp only at O<;>first|exact O.elim|skip
  exact vg<|M9 O (lY U λx V=>J x (by simp[i8];exact .inl (u! V)))<|lY U λx V=>J x (by simp[i8];exact .inr (u! V))
 |makeMap t r=>exact vg (Rm<|CZ U λx V=>J x<|by simp[i8,V])|makeChan t s=>exact vg (Nc (ab O)<|B s)|makeSlice t l c=>exact vg (Ir W.1 (B l)<|B c)|slice t x l h mx=>exact vg (Qz (B x) (CZ U λy hy=>J y<|by simp[i8,hy]) (CZ U λy hy=>J y<|by simp[i8,hy])<|CZ U λy hy=>J y<|by simp[i8,hy])|fieldAddr t x f=>exact vg<|RD (B x) f|field t x f=>exact vg<|VY (B x) f|indexAddr t x i=>exact vg (Pg (B x)<|B i)|index t x i=>exact vg (Xv (B x)<|B i)|lookup t x i b=>exact vg<|TK W.1 W.G (aa t O) (B x) (B i) b|mapUpdate t a b c=>exact(KB W.G (aa t O) (B a) (B b)<|B c).map λ_ _ _ _ _=>.skip|mapEntry t a b=>exact(M7 W.1 W.G (aa t O) (B a)<|B b).map λ_ _ _ _ h=>.value h|entryStore t a b c=>exact u_R (Hj (B a) (B b)<|B c)|range t x=>exact vg (WY<|B x)|next x b=>exact vg<|Ym (B x) b _|entry x=>exact vg (X1<|B x)|typeAssert x a b c=>simp only at O;subst O;exact vg<|F7 W.1 (B x) _ _
 |extract x i=>exact vg<|Py (B x) i|panic x=>exact vg (Wh<|B x)|send c x=>exact .base<|.pure<|.comm _ _ (.inr ⟨q?,q?,_,_,_,q?⟩)<|.cons ⟨B c<|by simp[i8],.some<|B x,.undef g⟩ .nil|select cs b=>refine .base ?_;show dD P (iY P) g (cs.mapM (λs=>do pure {chan:=ρ s.1,send:=s.2.map ρ,zero:=<-bR s.3:CommCase}) >>= λc=>pure<|.comm c b .select) (cs.mapM (λs=>do pure {chan:=x9 s.1,send:=s.2.map x9,zero:=<-bR s.3:CommCase}) >>= λc=>pure<|.comm c b .select);rw[bq,bq];simp only[map_eq_pure_bind,bind_assoc,pure_bind];refine dL (vU (λ_ _ _ _ h x=>x.mono h) _ g λs hs m' Y=>?_) λm' a b' af ag=>.pure<|.comm _ _ (.inl (by rw[af.7];exact ab O)) ag;refine gW W.1 λz hz=>.pure ⟨(B _ ?_).mono Y,(CZ U λy hy=>J y ?_).mono λ_ _ x=>x.mono Y,hz⟩;simp only[i8,ZQ,bH];exact⟨s,u! hs,i!⟩;simp only[i8,ZQ,bH];exact⟨s,u! hs,by simp[hy]⟩
 |call c=>
  let ⟨callee,args,ad⟩:=c
  cases callee with
  |invoke r n=>exact O.elim|builtin b=>exact RE W ac (lY U λx V=>J x (by simp[i8,qt];simpa using V)) (u! O.1) O.2
  |value f=>refine .base<|dL (rq (B f<|by simp[i8,qt])<|lY U λx V=>J x (by simp[i8,qt];exact .inr (u! V))) λm' d d' Y hd=>?_;exact tW (W.mono Y) hd.1.1 hd.2 hd.1.2
 |go c=>
  let ⟨callee,args,ad⟩:=c
  cases callee with
  |invoke r n=>exact O.2.elim|builtin b=>exact O.2.elim|value f=>exact .base<|dL (rq (B f<|by simp[i8,qt])<|lY U λx V=>J x (by simp[i8,qt];exact .inr (u! V))) λm' d d' Y hd=>.pure<|.spawn (by rw[Y.7];exact ab O.1) hd.1
 |defer c=>
  let ⟨callee,args,ad⟩:=c
  cases callee with
  |invoke r n=>exact O.elim|builtin b=>let ⟨O,hs⟩:=O;subst O;exact .base (.pure<|.defer ⟨.builtin _ _ _<|ab hs,lY U λx V=>J x (by simp[i8,qt];simpa using V)⟩)
  |value f=>exact .base<|dL (rq (B f<|by simp[i8,qt])<|lY U λx V=>J x (by simp[i8,qt];exact .inr (u! V))) λm' d d' Y hd=>.pure<|.defer hd.1
 |_=>exact O.elim
end
open Conc
section
variable {I:P?}{J x1 y5 v2:Frame}{U x2 x4 y7:List Frame}{x0 x3 x8:w?}{x5 z4:Array Event}{x6 z9:Bool}{x7:F?}{x9 v1:Goroutine}{y1 y3:Nat}{y2 z1:Sem Go.Next}{y4:GStep}{y6:CommShape}{y8 y9:w?->GStep}{z0 v0:V?}{z5 z6:v?}{z7 z8:Deferred}
def E3(y:Code):Code:=.cond (.global 0) y .skip
inductive lG(m:Ren):Item->Item->Prop
 |Ie (y):lG m (.code (E3 y)) (.code y)|nW (y):lG m (.inLoop (E3 y)) (.inLoop y)|code (c):gU m.4 c->lG m (.code c) (.code c)|inBlock (i):lG m (.inBlock i) (.inBlock i)|inLoop (c):gU m.4 c->lG m (.inLoop c) (.inLoop c)|inScope (c):gU m.4 c->lG m (.inScope c) (.inScope c)|inRegion (ops t):(∀o∈ops.1,m.4 o)->lG m (.inRegion ops t) (.inRegion ops t)|inRangeFunc {l l'}:m.1 l=some l'->lG m (.inRangeFunc l) (.inRangeFunc l')|endRangeFunc {l l'}:m.1 l=some l'->lG m (.endRangeFunc l) (.endRangeFunc l')|beginRound:lG m .beginRound .beginRound
structure PER(m:Ren)(p p':PanicEntry):Prop where
 v:VR m p.v p'.v
 rv:p'.2=p.2
 ex:p'.3=p.3
inductive vq(m:Ren):FrameMode->FrameMode->Prop
 |run:vq m .run .run|returning:vq m .returning .returning|panicking {c c'}:eA (PER m) c c'->vq m (.panicking c) (.panicking c')
structure ic(m:Ren)(fr fr':Frame):Prop where
 fn:fr'.1=fr.1
 tmps:fh m fr.2 fr'.2
 todo:eA (lG m) fr.3 fr'.3
 defers:eA (DR m) fr.4 fr'.4
 mode:vq m fr.5 fr'.5
 round:nO (λr r'=>m.1 r=some r') fr.7 fr'.7
variable {C y0:Ren}
def lG.mono(h:C.Le y0){a b}(x:lG C a b):lG y0 a b:=by
 cases x with
 |Ie y=>exact .Ie y|nW y=>exact .nW y|code c B=>exact .code c<|h.5▸B|inBlock i=>exact .inBlock i|inLoop c B=>exact .inLoop c<|h.5▸B|inScope c B=>exact .inScope c<|h.5▸B|inRegion o t O=>exact .inRegion o t<|h.5▸O|inRangeFunc J=>exact .inRangeFunc<|h.1 _ _ J|endRangeFunc J=>exact .endRangeFunc<|h.1 _ _ J|beginRound=>exact .beginRound
def PER.mono(h:C.Le y0){a b}(x:PER C a b):PER y0 a b:=⟨x.v.mono h,x.2,x.3⟩
def vq.mono(h:C.Le y0){a b}(x:vq C a b):vq y0 a b:=by
 cases x with
 |run=>exact .run|returning=>exact .returning|panicking B=>exact .panicking<|B.mono λ_ _ y=>y.mono h
def ic.mono(h:C.Le y0){a b}(x:ic C a b):ic y0 a b:=
 ⟨x.1,x.2.mono h,x.3.mono λ_ _ y=>y.mono h,x.4.mono λ_ _ y=>y.mono h,x.5.mono h,x.6.mono h.1⟩
def ic.eval(h:ic C J x1)(B:∀g,x7 g->C.1 g=y? g)(x)(O:eI C.5 x7 x):VR C (J.eval x)<|x1.eval x:=by
 cases x with
 |tmp t=>exact h.2.getD t|const v=>exact VR.plain O|global g=>exact .ptr<|.mk<|B g O|func f=>exact .O5 (.func f O) (.nil C)<|.nil C
def ic.finish(h:ic C J x1)(hv:VR C z5 z6):ic C (J.finish z5) (x1.finish z6)/\(J.finish z5).6=J.6/\(x1.finish z6).6=x1.6:=by
 obtain⟨fn,tmps,todo,defers,mode,kind,round⟩:=J;obtain⟨af,Y,ac,aa,ad,ae,ab⟩:=x1;obtain⟨O,B,h3,U,V,W⟩:=h
 cases h3 with
 |nil=>exact⟨⟨O,B,.nil,U,V,W⟩,q?,q?⟩|cons hi ht=>
  cases hi with
  |inRegion ops t ho=>
   cases t with
   |nil=>exact⟨⟨O,B,.cons (.inRegion _ _ ho) ht,U,V,W⟩,q?,q?⟩|cons i t=>
    refine⟨⟨O,?_,.cons (.inRegion _ _ ho) ht,U,V,W⟩,q?,q?⟩;show fh C (match (ops[i]?).bind _ with|some d=>S? tmps d z5|none=>tmps) (match (ops[i]?).bind _ with|some d=>S? Y d z6|none=>Y)
    cases(ops[i]?).bind _ with
    |none=>exact B|some d=>exact B.set d hv
  |inRangeFunc hl=>exact⟨⟨O,B,.cons (.endRangeFunc hl) ht,U,V,W⟩,q?,q?⟩|beginRound=>exact⟨⟨O,B,ht,U,V,W⟩,q?,q?⟩|Ie y=>exact⟨⟨O,B,.cons (.Ie y) ht,U,V,W⟩,q?,q?⟩|nW y=>exact⟨⟨O,B,.cons (.nW y) ht,U,V,W⟩,q?,q?⟩|code c hc=>exact⟨⟨O,B,.cons (.code c hc) ht,U,V,W⟩,q?,q?⟩|inBlock i=>exact⟨⟨O,B,.cons (.inBlock i) ht,U,V,W⟩,q?,q?⟩|inLoop c hc=>exact⟨⟨O,B,.cons (.inLoop c hc) ht,U,V,W⟩,q?,q?⟩|inScope c hc=>exact⟨⟨O,B,.cons (.inScope c hc) ht,U,V,W⟩,q?,q?⟩|endRangeFunc hl=>exact⟨⟨O,B,.cons (.endRangeFunc hl) ht,U,V,W⟩,q?,q?⟩
def ic.raise(h:ic C J x1){vs vs'}(U:eA (PER C) vs vs'):ic C (J.raise vs) (x1.raise vs')/\(J.raise vs).6=J.6/\(x1.raise vs').6=x1.6:=by
 obtain⟨fn,tmps,todo,defers,mode,kind,round⟩:=J;obtain⟨ab,V,W,B,Y,aa,O⟩:=x1;obtain⟨h1,h2,h3,h4,h5,h6⟩:=h
 cases h5 with
 |run=>exact⟨⟨h1,h2,h3,h4,.panicking U,h6⟩,q?,q?⟩|returning=>exact⟨⟨h1,h2,h3,h4,.panicking U,h6⟩,q?,q?⟩|panicking hc=>exact⟨⟨h1,h2,h3,h4,.panicking<|U.append hc,h6⟩,q?,q?⟩
def GD{f}(V:qk I C f)(hb:∃fn c,I.2[f]?=y? fn/\fn.9=y? c){a:V?}(h:fh C a z0)(k k'):ic C (oQ I f a k)<|oQ I f z0 k':=by
 obtain⟨fn,c,O,U⟩:=hb;obtain⟨W,B,_,Y⟩:=V;rw[O]at B;cases B
 have hc:gU C.4 c:=by
  obtain⟨c',J,h5⟩|⟨J,_⟩:=Y
  rw[U]at J;cases J;exact h5;rw[U]at J;cases J
 refine⟨q?,?_,?_,.nil,.run,.none⟩;simp only[oQ,O,N!,I!,h.size];exact h.append<|.replicate _<|.undef C;simp only[oQ,O,Zf,U,I!];exact .cons (.code c hc) .nil
def LL(k:CallKind):Prop:=k=.normal\/k=.deferred
def door(P:P?):Frame:={fn:=P.2.size,tmps:=#[],todo:=[.call {target:=.nil,args:=#[]} f? "fmt's door" #[]],defers:=[],mode:=.run,kind:=.normal}
def GA(k:CallKind)(T:List Frame):Prop:=(k=.normal/\∀ps,T=[ps]->ps.5≠.panicking [bX])\/(k=.deferred/\∃ps,T=[ps]/\ps.5=.panicking [bX])
inductive eD(P:P?)(m:Ren)(T:List Frame):List Frame->List Frame->Prop
 |one {fr fr'}:ic m fr fr'->fr.6=.normal->GA fr'.6 T->fr.7=none->eD P m T (fr::[door P]) (fr'::T)|cons {fr fr' c c' cs cs'}:ic m fr fr'->fr'.6=fr.6->LL fr.6->eD P m T (c::cs) (c'::cs')->eD P m T (fr::c::cs) (fr'::c'::cs')
def eD.mono(h:C.Le y0)(x:eD I C U x2 x4):eD I y0 U x2 x4:=by
 induction x with
 |one B J O V=>exact .one (B.mono h) J O V|cons B J O _ W=>exact .cons (B.mono h) J O W
def eD.sX(x:eD I C U (J::x2) (x1::x4)):ic C J x1:=by cases x<;>assumption
def eD.set(h:C.Le y0){g g'}(x:eD I C U (J::x2) (x1::x4))(W:ic y0 g g')(k:g.6=J.6)(k':g'.6=x1.6)(Y:g.7=J.7)(_hn:g.1=J.1):eD I y0 U (g::x2) (g'::x4):=by
 cases x with
 |one hf B O V=>exact .one W (k.trans B) (k'▸O)<|Y.trans V|cons hf B O V=>exact .cons W (by rw[k,k',B]) (k▸O)<|V.mono h
def eD.push(x:eD I C U (J::x2) (x1::x4))(B:ic C y5 v2)(k:v2.6=y5.6)(O:LL y5.6):eD I C U (y5::J::x2) (v2::x1::x4):=.cons B k O x
def tF(P:P?)(m:Ren)(T:List Frame)(s':GStep)(w':w?)(fr:Frame)(cs:List Frame)(w₁:w?):Prop:=
 ∃B fr' cs' J es,s'=.go (G fr' cs') J es/\m.Le B/\eD P B T (fr::cs) (fr'::cs')/\WR B w₁ J/\gH m B w' J/\∀e∈es,ri B e
def Zal(h:ic C J x1):(match J.3 with|.call _ t? _ _::_=>CallKind.wrapped|_=>.normal)=.normal/\(match x1.3 with|.call _ t? _ _::_=>CallKind.wrapped|_=>.normal)=.normal:=by
 have:=h.3;revert this;generalize J.3=l;generalize x1.3=O;intro h
 cases h with
 |nil=>exact⟨q?,q?⟩|cons B _=>cases B<;>exact⟨q?,q?⟩
def xI(h:eD I C U (J::x2) (x1::x4)) :
  nO (λx y=>VR C x.1 y.1/\eD I C U (J::x.2) (x1::y.2)) (bN J x2) (bN x1 x4):=by
 have e1:∀(f:Frame)(c:List Frame),f.6=.normal->bN f c=x?:=by intro f c hk;unfold bN;rw[hk]
 cases h with
 |one hf h1 B h3=>
  rw[e1 J _ h1];obtain⟨B,_⟩|⟨B,ps,rfl,h4⟩:=B
  rw[e1 x1 _ B];exact .none
  have e2:bN x1 [ps]=x?:=by unfold bN;simp only[B];rw[h4];rfl
  rw[e2];exact .none
 |cons hf h1 B h3=>
  rename_i c c' x2 x4;obtain B|B:=B
  rw[e1 J _ B,e1 x1 _<|h1.trans B];exact .none;have ac:=h1.trans B
  cases h3 with
  |one O g1 g2 g3=>
   have hm:=O.5;let ⟨ak,al,am,an,ao,ap,aq⟩:=c;let ⟨ad,ae,af,ag,ah,ai,aj⟩:=c';unfold bN;rw[B,ac]
   cases hm with
   |run=>exact .none|returning=>exact .none|panicking hc=>
    cases hc with
    |nil=>exact .none|cons hp ht=>
     rename_i p p' Y W;let ⟨v,r,x⟩:=p;let ⟨v',r',x'⟩:=p';let ⟨V,aa,ab⟩:=hp;subst aa ab;cases r'<;>cases x'<;>first|exact .none|skip
     exact .some ⟨V,.cons hf h1 (.inr B)<|.one ⟨O.1,O.2,O.3,O.4,.panicking<|.cons ⟨V,q?,q?⟩ ht,O.6⟩ g1 g2 g3⟩
  |cons O g1 g2 g3=>
   have hm:=O.5;let ⟨ak,al,am,an,ao,ap,aq⟩:=c;let ⟨ad,ae,af,ag,ah,ai,aj⟩:=c';unfold bN;rw[B,ac]
   cases hm with
   |run=>exact .none|returning=>exact .none|panicking hc=>
    cases hc with
    |nil=>exact .none|cons hp ht=>
     rename_i p p' Y W;let ⟨v,r,x⟩:=p;let ⟨v',r',x'⟩:=p';let ⟨V,aa,ab⟩:=hp;subst aa ab;cases r'<;>cases x'<;>first|exact .none|skip
     exact .some ⟨V,.cons hf h1 (.inr B)<|.cons ⟨O.1,O.2,O.3,O.4,.panicking<|.cons ⟨V,q?,q?⟩ ht,O.6⟩ g1 g2 g3⟩
def fY(fr:Frame)(v):(fr.finish v).7=fr.7:=by unfold oS;split<;>rfl
def qE(fr:Frame)(v):(fr.raise v).7=fr.7:=by unfold oC;split<;>rfl
def iU(fr:Frame)(v):(fr.finish v).1=fr.1:=by unfold oS;split<;>rfl
def wL(fr:Frame)(v):(fr.raise v).1=fr.1:=by unfold oC;split<;>rfl
def xF{f c}[Decidable c](h:∀e∈x5,ri C e):∀e∈bT I f (if c then #[]else x5)++#[],ri C e:=by intro e B;have:=mem_seen B;split at this;simp at this;exact h e this
def Zat(hE:xl I y0)(W:eD I y0 U (J::x2) (x1::x4))(hs:mL I (iY I) y0 y2 z1)(hw:WR y0 x0 x3)(ae:Al x0 x3)
  (h:kx I t? J x2 x? y2 x0=.go (G y5 y7) x8 x5):tF I y0 U (kx I t? x1 x4 x? z1 x3) x3 y5 y7 x8:=by
 have hr:=hs.run x0 x3 #[] hw ae;unfold kx at h⊢;simp only[if_true]at h⊢;rcases hrt:y2.runT I x0 #[]with⟨r,ap⟩;have af:y2.run I x0=r:=by rw[<-k6 I y2 x0 #[],hrt]
 rw[af]at hr;rw[hrt]at h;have aq:=Zal W.sX
 cases r with
 |ok n wn=>
  let ⟨V,n',aa,es₁,e1,Y,e3,e4,_,e6,e7⟩:=hr;rw[e1];simp only[bs]at h⊢
  have out:∀{X:Array Event}{g g':Frame}{c c':List Frame},eD I V U (g::c) (g'::c')->mv X (.go {frame:=g,callers:=c,status:=.running,dying:=x?} wn)=.go (G y5 y7) x8 x5->
    tF I y0 U (mv (bT I x1.1 (if(x1.6==CallKind.early)=t? then #[]else es₁))<|.go {frame:=g',callers:=c',status:=.running,dying:=x?} aa) x3 y5 y7 x8:=by
   intro X g g' c c' ab hh;simp only[mv,G,r6,Goroutine.mk.injEq]at hh;obtain⟨⟨rfl,rfl,_⟩,rfl,_⟩:=hh;exact⟨V,g',c',aa,_,q?,Y,ab,e4,e6,xF e7⟩
  cases e3 with
  |value hv=>have O:=(W.sX.mono Y).finish hv;exact out (W.set Y O.1 O.2.1 O.2.2 (fY _ _)<|iU _ _) h
  |skip=>have O:=(W.sX.mono Y).finish<|.undef V;exact out (W.set Y O.1 O.2.1 O.2.2 (fY _ _)<|iU _ _) h
  |enter O ac ha=>
   have ab:=(W.mono Y).push (GD ((hE.mono Y).3 _ O) ac ha _ _) q?<|.inl q?;have ht:=W.sX.3;let ⟨fn,tm,td,df,md,kd,rd⟩:=J;let ⟨ag,ah,ai,aj,ak,al,am⟩:=x1;simp only at ht
   cases ht with
   |nil=>exact out ab h|cons hi _=>cases hi<;>exact out ab h
  |round hl ht ha ac=>rename_i l l' f t t' a c;have an:ic V (oN l f t a c .normal)<|oN l' f t' a c .normal:=⟨q?,ht,.cons (.code _ ha)<|.cons .beginRound<|.cons (.code _ ac) .nil,.nil,.run,.some hl⟩;exact out ((W.mono Y).push an q?<|.inl q?) h
  |defer hd=>have ao:ic V {J with defers:=_::J.4} {x1 with defers:=_::x1.4}:=⟨W.sX.1,W.sX.2.mono Y,(W.sX.mono Y).3,.cons hd (W.sX.mono Y).4,(W.sX.mono Y).5,(W.sX.mono Y).6⟩;have O:=ao.finish<|.undef V;exact out (W.set Y O.1 O.2.1 O.2.2 (fY _ _)<|iU _ _) h
  |recover=>
   have ht:=xI<|W.mono Y;have ad:=W.sX.6;let ⟨fn,tm,td,df,md,kd,rd⟩:=J;let ⟨ag,ah,ai,aj,ak,al,am⟩:=x1;simp only at ad
   cases ad with
   |none=>
    dsimp only at h⊢;revert ht h;generalize bN _ _=p;generalize bN _ _=p';intro h ht
    cases ht with
    |none=>have O:=(W.sX.mono Y).finish<|.nilIface;exact out (W.set Y O.1 O.2.1 O.2.2 (fY _ _)<|iU _ _) h
    |some hx=>rename_i x y;let ⟨v,c⟩:=x;let ⟨v',c'⟩:=y;have O:=(W.sX.mono Y).finish hx.1;exact out (hx.2.set (.refl V) O.1 O.2.1 O.2.2 (fY _ _)<|iU _ _) h
   |some ar=>
    dsimp only at h⊢;rw[if_pos hE.4]at h⊢;revert ht h;generalize bN _ _=p;generalize bN _ _=p';intro h ht
    cases ht with
    |none=>have O:=(W.sX.mono Y).finish<|.nilIface;exact out (W.set Y O.1 O.2.1 O.2.2 (fY _ _)<|iU _ _) h
    |some hx=>rename_i x y;let ⟨v,c⟩:=x;let ⟨v',c'⟩:=y;have O:=(W.sX.mono Y).finish hx.1;exact out (hx.2.set (.refl V) O.1 O.2.1 O.2.2 (fY _ _)<|iU _ _) h
  |spawn au hd=>
   exfalso;dsimp only at h;generalize bT I J.1 _=X at h;rw[apply_ite<|mv X]at h
   have key:∀(c:Prop)[Decidable c] (A B C:GStep),(if c then A else B)=C->A=C\/B=C:=by intro c _ A B C hh;split at hh;exact .inl hh;exact .inr hh
   obtain h|h:=key _ _ _ _ h
   simp[bY,cz,mv,G]at h;simp[mv]at h
  |comm bl sh hq hc=>cases h
 |halt x wn=>
  cases x with
  |panic v=>let ⟨V,v',aa,es₁,e1,Y,e3,e4,_,e6,e7⟩:=hr;rw[e1];simp only[bs]at h⊢;have O:=(W.sX.mono Y).raise (vs:=[{v,recovered:=f?}]) (vs':=[{v:=v',recovered:=f?}])<|.cons ⟨e3,q?,q?⟩ .nil;obtain⟨⟨rfl,rfl,_⟩,rfl,_⟩:=h;exact⟨V,_,x4,aa,_,q?,Y,W.set Y O.1 O.2.1 O.2.2 (qE ..)<|wL ..,e4,e6,xF e7⟩
  |unsupported u=>cases u<;>first|exact hr.elim|cases h
  |stuck y=>cases h
  |throw y=>simp[bY,cz,mv,G]at h|_=>exact hr.elim
def BN(id):∀{k k'},eA (lG C) k k'->nO (eA<|lG C) (c6 id k) (c6 id k')
 |_,_,.nil=>.none|_,_,.cons B h=>by
  cases B with
  |inBlock i=>unfold c6;split;exact .some h;exact BN id h
  |_=>unfold c6;exact BN id h
def sR{ok}(l):∀(c B),gU ok c->cu c l=y? B->gU ok B
 |.seq a b,B,h,e=>by
  unfold cu at e
  cases J:cu a l with
  |some r=>rw[J]at e;simp only[m?]at e;subst e;exact⟨sR l a r h.1 J,h.2⟩
  |none=>rw[J]at e;exact sR l b B h.2 e
 |.label O,B,h,e=>by
  unfold cu at e;split at e
  cases e;trivial
  cases e
 |.skip,_,_,e|.region ..,_,_,e|.cond ..,_,_,e|.block ..,_,_,e|.loop ..,_,_,e|.rangeFunc ..,_,_,e|.exit ..,_,_,e|.scope ..,_,_,e|.goto ..,_,_,e|.ret,_,_,e|.refuse ..,_,_,e=>by cases e
def AQ(l):∀{k k'},eA (lG C) k k'->nO (eA<|lG C) (c5 l k) (c5 l k')
 |_,_,.nil=>.none|_,_,.cons J h=>by
  cases J with
  |inScope c B=>
   unfold c5
   cases O:cu c l with
   |none=>exact AQ l h|some r=>exact .some<|.cons (.code r<|sR l c r B O)<|.cons (.inScope c B) h
  |_=>unfold c5;exact AQ l h
def nH(ops:Array Oper)(h:fh C z0 v0)(j:Nat):cm ops v0 j=cm ops z0 j:=by
 unfold cm
 cases(ops[j]?).bind _ with
 |none=>rfl|some d=>
  simp only[Zf]
  cases J:z0[d]? with
  |none=>rw[h.get_none J]|some v=>
   obtain⟨O,B,U⟩:=h.get J;rw[B];cases U<;>first|rfl|skip
   rename_i V;cases O<;>first|rfl|exact V.elim
def nG{P fn}(h:fh C z0 v0):dD P VR C (c3 fn z0)<|c3 fn v0:=by
 unfold c3;rw[bq,bq];simp only[map_eq_pure_bind,bind_assoc,pure_bind];refine dL (vU (Q:=VR) (λ_ _ _ _ h x=>x.mono h) _ C λr _ O U=>?_) λO a c _ J=>?_
 cases r with
 |tmp z0=>exact .pure<|(h.mono U).getD z0|cell a z0=>exact Fe ((h.mono U).getD a) λp Y W=>Fh W
 refine .pure ?_;have B:fh O .. := J;by_cases V:a.toArray.size=1;rw[dif_pos V,dif_pos<|by rwa[<-B.size]];exact B.idx 0 ..;rw[dif_neg V,dif_neg<|by rwa[<-B.size]];exact .mM B
def La{o B:List PanicEntry}(h:eA (PER C) o B):eA (PER C) (o.dropWhile (!·.3)) (B.dropWhile (!·.3)):=by
 induction h with
 |nil=>exact .nil|cons J _ O=>simp only[List.dropWhile_cons,J.3];split;exact O;exact .cons J ‹_›
def Nq{c}(hS:eD I C U (J::c::x2) (x1::y5::x4))(hk:x1.6=J.6)(ho:LL J.6)(V:eD I C U (c::x2) (y5::x4))(hv:VR C z5 z6){main'}(hw:WR C x0 x3)
  (h:bO I x6 J (c::x2) x? z5 x0=.go (G v2 y7) x8 x5):∃B,bO I main' x1 (y5::x4) x? z6 x3=.go (G B x4) x3/\eD I C U (v2::y7) (B::x4)/\x8=x0:=by
 unfold bO at h⊢;rw[hk];obtain ho|ho:=ho
 rw[ho]at h⊢;obtain⟨⟨rfl,rfl,_⟩,rfl,_⟩:=h;have hf:=V.sX.finish hv;exact⟨_,q?,V.set (.refl C) hf.1 hf.2.1 hf.2.2 (fY ..)<|iU ..,q?⟩;rw[ho]at h⊢;have hm:=V.sX.5;let ⟨ah,ai,aj,ak,aq,al,am⟩:=c;let ⟨Y,aa,ab,ac,ap,ad,ae⟩:=y5
 have qQ:∀{md O},vq C md O->eD I C U (⟨ah,ai,aj,ak,md,al,am⟩::x2) (⟨Y,aa,ab,ac,O,ad,ae⟩::x4):=λaf=>V.set (.refl C) ⟨V.sX.1,V.sX.2,V.sX.3,V.sX.4,af,V.sX.6⟩ q? q? q? rfl
 have fin:∀{md O},vq C md O->GStep.go (G ⟨ah,ai,aj,ak,md,al,am⟩ x2) x0=.go (G v2 y7) x8 x5->∃B,GStep.go (G ⟨Y,aa,ab,ac,O,ad,ae⟩ x4) x3=.go (G B x4) x3/\eD I C U (v2::y7) (B::x4)/\x8=x0:=by intro md O af hh;obtain⟨⟨rfl,rfl,_⟩,rfl,_⟩:=hh;exact⟨_,q?,qQ af,q?⟩
 cases hm with
 |run=>exact fin .run h|returning=>exact fin .returning h|panicking an=>
  cases an with
  |nil=>exact fin (.panicking .nil) h|cons hp ht=>
   rename_i p p' ag W;let ⟨pv,pr,px⟩:=p;let ⟨ar,ao,au⟩:=p';let ⟨h1,h2,h3⟩:=hp;subst h2 h3
   cases ao with
   |false=>exact fin (.panicking<|.cons ⟨h1,q?,q?⟩ ht) h
   |true=>
    have hd:=La ht;simp only at h⊢;revert hd h;generalize ag.dropWhile _=o;generalize W.dropWhile _=o';intro h hd
    cases hd with
    |nil=>exact fin .returning h|cons hq hr=>exact fin (.panicking<|.cons hq hr) h
def se{γ δ RB}(J:C.1 y1=y? y3){f:Loop->Sem γ}{f':Loop->Sem δ}(h:∀p B,Ag C p B->dD I RB C (f p) (f' B)):dD I RB C (dp y1 >>= f)<|dp y3 >>= f':=by refine gX J λo U O=>?_;cases O<;>first|exact .dm|exact h _ _ ‹_›
def qj{l}:∀x y z,Obj.loop l≠c? x y z:=nofun
def LX{P}(J:C.1 y1=y? y3){j}(O:∀c,j=y? c->gU C.4 c):dD P VR C (cW y1 j)<|cW y3 j:=by refine se J λp U B=>l8 J (.loop ⟨q?,q?,O,B.4,B.5,B.6,B.7,B.8,B.9,B.10,B.11⟩) qj<|.pure<|.bool _
def GP(J:C.1 y1=y? y3):dD I Dg C (en y1)<|en y3:=by refine se J λp O B=>l8 J (.loop ⟨q?,B.2,B.3,B.4,B.5,B.6,B.7,B.8,B.9,B.10,B.11⟩) qj ?_;rw[<-B.1];cases p.1<;>first|exact .pure trivial|exact gh trivial
def PM{P}(J:C.1 y1=y? y3):dD P (λC a b=>a=b/\∀c,a=y? c->gU C.4 c) C (fv y1)<|fv y3:=by refine se J λp O B=>?_;rw[<-B.1];exact dX (λ_=>fq t!)<|λ_=>(l8 J (.loop ⟨q?,B.2,B.3,B.4,B.5,B.6,B.7,B.8,B.9,B.10,B.11⟩) qj<|.pure ⟨B.2,B.3⟩)
def BK(O:C.1 y1=y? y3)(U:DR C z7 z8):dD I Dg C (dh y1 z7)<|dh y3 z8:=by
 refine se O λp W J=>gX J.11 λo Y V=>?_
 cases V with
 |deferred B=>exact sZ J.11 (.deferred<|.cons U B)<|nofun|fM=>exact .dm|_=>exact .dm
def Dc(J:C.1 y1=y? y3):dD I (λC=>eA<|DR C) C (cY y1)<|cY y3:=by
 refine gX J λo U O=>?_
 cases O with
 |deferred B=>exact l8 J .fM (nofun)<|.pure B|_=>exact .dm
def Ik{fn:cv}(W:fh C z0 v0){ps:Array Tmp}{a c:Code}(Y:gU C.4 a)(hc:gU C.4 c){r r':Option Nat}(hr:nO (λx y=>C.1 x=y? y) r r'):dD I (λC x y=>C.1 x.1=y? y.1/\eA (DR C) x.2 y.2) C (eC fn z0 ps a c r)<|eC fn v0 ps a c r':=by
 have fin:∀{B:Ren}{q O:Nat}{d U:List Deferred},C.Le B->B.1 q=y? O->eA (DR B) d U->dD I (λC x y=>C.1 x.1=y? y.1/\eA (DR C) x.2 y.2) B (do pure (<-cC<|.loop {state:=.ready,pending:=x?,fn,tmps:=z0,params:=ps,assign:=a,body:=c,defers:=q},d)) (do pure (<-cC<|.loop {state:=.ready,pending:=x?,fn,tmps:=v0,params:=ps,assign:=a,body:=c,defers:=O},U)):=by intro B q O d U J hq hd;exact dD.new (.loop ⟨q?,q?,nofun,q?,W.mono J,q?,q?,q?,J.5▸Y,J.5▸hc,hq⟩) (nofun) λaa i i' V hb _=>.pure ⟨hb,hd.mono λ_ _ x=>x.mono V⟩
 cases hr with
 |some hx=>exact se hx λp p' hp=>fin (.refl C) hp.11 .nil|none=>exact dD.new (.deferred .nil) (nofun) λB i i' J hb _=>fin J hb<|.cons ⟨.collected hb,.nil B⟩ .nil
structure nj(P:P?)(m:Ren)(gl:F?)(st:Bool):Prop where
 env:xl P m
 strict:st=true->iG m
 SN:False->m.6
 Lp:∀g,gl g->m.1 g=some g
 ops:∀o,m.4 o->OkOp P m.5 gl st o.2
def nj.mono(h:C.Le y0)(x:nj I C x7 x6):nj I y0 x7 x6:=
 ⟨x.1.mono h,λs=>(x.2 s).mono h,nofun,λg B=>h.1 _ _<|x.4 g B,λo J=>h.6▸x.5 o (h.5▸J)⟩
def AtClose(fr:Frame):Prop:=fr.5≠.run/\∃a t c args ds,fr.4={target:=.builtin .close a t c,args}::ds
def Dp(h:mv x5 y4=.go x9 x0 z4):∃B,y4=.go x9 x0 B:=by cases y4<;>simp[mv]at h;obtain⟨rfl,rfl,_⟩:=h;exact⟨_,q?⟩
def Zbz(hl:C.Le y0)(hS:eD I y0 U (J::x2) (x1::x4))(hn:x2=[door I]->J.7=x?->False)(hv:VR y0 z5 z6)(hw:WR y0 x0 x8)(hk:gH C y0 x3 x8)(V:∀e∈z4,ri y0 e){w₁ es}
  (h:mv x5 (bO I t? J x2 x? z5 x0)=.go (G y5 y7) w₁ es):tF I C U (mv z4<|bO I x6 x1 x4 x? z6 x8) x3 y5 y7 w₁:=by
 obtain⟨aa,h⟩:=Dp h
 cases hS with
 |one hf W Y O=>exact(hn q? O).elim|cons hf W Y O=>obtain⟨B,e1,e2,e3⟩:=Nq (.cons hf W Y O) W Y O hv (main':=x6) hw h;subst e3;rw[e1];exact⟨y0,B,_,x8,_,q?,hl,e2,hw,hk,u! V⟩
def pB{f}(h:∀e∈x5,ri C e):∀e∈bT I f x5,ri C e:=λe B=>h e<|mem_seen B
def still(B:WR C x0 x3)(O:eD I C U (J::x2) (x1::x4))
  (h:GStep.go {frame:=J,callers:=x2,status:=.running,dying:=x?} x0=.go (G y5 y7) x8 x5):tF I C U (GStep.go {frame:=x1,callers:=x4,status:=.running,dying:=x?} x3) x3 y5 y7 x8:=by
 obtain⟨⟨rfl,rfl,_⟩,rfl,_⟩:=h;exact⟨C,x1,x4,x3,#[],q?,.refl C,O,B,.refl C x3,i!⟩
def Ns(h:ic C J x1){k k'}(B:eA (lG C) k k'):ic C {J with todo:=k} {x1 with todo:=k'}:=⟨h.1,h.2,B,h.4,h.5,h.6⟩
def YP(h:ic C J x1){k k'}(B:vq C k k'):ic C {J with mode:=k} {x1 with mode:=k'}:=⟨h.1,h.2,h.3,h.4,B,h.6⟩
def tF.after(V:C.Le y0)(W:gH C y0 x0 x3)(Y:∀e∈x5,ri y0 e)(h:tF I y0 U y4 x3 J x2 x8):tF I C U (mv x5 y4) x0 J x2 x8:=by
 obtain⟨m₂,f,c,B,es,rfl,O,h3,h4,h5,h6⟩:=h;refine⟨m₂,f,c,B,x5++es,q?,V.trans O,h3,h4,W.trans V O h5,λe he=>?_⟩;obtain x|x:=bw.1 he
 exact(Y e x).mono O;exact h6 e x
def PG{ρ ρ':Operand->v?}(O:∀x,eI C.5 x7 x->VR C (ρ x) (ρ' x)){c:Call}(W:(∀x∈c.operands.1,eI C.5 x7 x)/\match c.1 with|.value _=>True|.builtin b=>b=.close/\C.6|_=>False)(t):dD I DR C (cH ρ c t)<|cH ρ' c t:=by
 obtain⟨B,J⟩:=W;obtain⟨callee,args,Y⟩:=c
 cases callee with
 |invoke r n=>exact J.elim|builtin bb=>let ⟨J,U⟩:=J;subst J;exact .pure ⟨.builtin _ _ _ U,lY O λx V=>B x (by simp[qt];simpa using V)⟩
 |value f=>exact(rq (O f<|B f<|by simp[qt])<|lY O λx V=>B x (by simp[qt];exact .inr (u! V))).mono λ_ _ _ _ h=>h.1
def PB{P}(B:C.7 y1)(J:WR C x0 x3):∃x w₁,(cY y1).run P x0=.halt x w₁:=by obtain⟨_,c,f,O⟩:=J.10 y1 B;unfold cY;exact⟨_,_,by simp only[getObj,bind,k9,k5,O];rfl⟩
def uU(s):mv #[] s=s:=by cases s<;>simp[mv]
def tp(w:w?)(τ:Nat->Question->Nat):w?:={w with tape:=τ}
def Gk{α}:Result α->w?
 |.ok _ w=>w|.halt _ w=>w
def C8{α}(P:P?)(s:Sem α)(w:w?)(τ:Nat->Question->Nat):Result α->Prop
 |.ok a w₁=>s.run P (tp w τ)=.ok a (tp w₁ τ)|.halt (.panic v) w₁=>s.run P (tp w τ)=.halt (.panic v) (tp w₁ τ)|_=>True
def zb(τ:Nat->Question->Nat)(w w₁:w?):Prop:=∀i,w.3<=i->i<w₁.3->τ i=w.2 i
def XW{α}(P:P?)(s:Sem α)(w:w?):Prop:=
 w.3<=(Gk<|s.run P w).3/\(Gk<|s.run P w).2=w.2/\∀τ,zb τ w (Gk<|s.run P w)->C8 P s w τ (s.run P w)
def Loc{α}(P:P?)(s:Sem α)(w:w?):Prop:=(∃x w₁,s.run P w=.halt x w₁/\lV x)\/XW P s w
def Loc.step{α}{s:Sem α}{k}(h:Loc I k x3)(e:s.run I x0=k.run I x3)(V:x3.3=x0.3)(W:x3.2=x0.2)(J:∀τ,s.run I (tp x0 τ)=k.run I (tp x3 τ)):Loc I s x0:=by
 obtain⟨x,O,Y,U⟩|⟨Y,U,h3⟩:=h
 exact .inl ⟨x,O,e.trans Y,U⟩;refine .inr ⟨by rwa[e,<-V],by rw[e,U,W],λτ B=>?_⟩;rw[e]at B⊢;have:=h3 τ λi a b=>by rw[W];exact B i (V▸a) b
 revert this
 cases k.run I x3 with
 |ok a w2=>intro h;show s.run I _=_;rwa[J]|halt x w2=>cases x<;>intro h<;>first|trivial|(show s.run I _=_;rwa[J])
def dD.loc{α β RA}{s:Sem α}{s':Sem β}(h:dD I RA C s s'):∀(w w'),WR C w w'->Loc I s w:=by
 induction h with
 |wj hd=>exact λw w' _=>.inl<|hd.run w|pure hr=>exact λw w' _=>.inr ⟨Zu _,q?,λτ _=>rfl⟩|@load C a a' k k' Y _ J=>
  intro w w' B
  cases V:C? w a with
  |some v=>obtain⟨v',ah,hv⟩:=B.cell Y V;refine(J v v' hv w w' B).step (by simp only[k5,V]) q? q? λτ=>?_;have aa:C? (tp w τ) a=y? v:=V;simp only[k5,aa]
  |none=>obtain⟨y,hy⟩:=B.Vz Y V I<|Mode.plain==.atomic;exact .inl ⟨.stuck y,w,by simp only[k5,V,hy],t!⟩
 |@store C a a' v v' k k' Y hv _ J=>
  intro w w' B;by_cases O:∃c,v=.agg c
  .obtain⟨c,rfl⟩:=O;exact .inl ⟨.stuck "store: not the value of one cell",w,by simp only[k5],t!⟩
  by_cases W:∃c,v=.tuple c
  .obtain⟨c,rfl⟩:=W;exact .inl ⟨.stuck "store: not the value of one cell",w,by simp only[k5],t!⟩
  have e1:∀w:w?,(Sem.store Mode.plain a v k).run I w=match C? w a with
    |some _=>if w.frozen? a then .halt (.unsupported<|.unsafePointer "a write to bytes that a string shares") w else k.run I (w.setCell a v)|none=>match w.farStore I a v (Mode.plain==.atomic)with
     |.ok (w,_)=>k.run I w|.error h=>.halt h w:=by
   intro w;rw[k5];rfl;exact λc e=>O ⟨c,e⟩;exact λc e=>W ⟨c,e⟩
  cases V:C? w a with
  |none=>let ⟨y,hy⟩:=B.O4 Y V I v<|Mode.plain==.atomic;exact .inl ⟨.stuck y,w,by rw[e1,V];simp only[hy],t!⟩
  |some u=>by_cases hf:w.frozen? a=t?;exact .inl ⟨.unsupported<|.unsafePointer "a write to bytes that a string shares",w,by rw[e1,V];simp only[hf,if_true],t!⟩;refine(J _ _ (B.setCell Y hv λaf=>by cases v<;>first|exact af.elim|exact O ⟨_,rfl⟩|exact W ⟨_,rfl⟩)).step (by rw[e1,V];simp only[hf,if_false,Zk]) rfl rfl λτ=>?_;have aa:C? (tp w τ) a=y? u:=V;have ag:¬(tp w τ).frozen? a=t?:=hf;rw[e1,aa];simp only[ag,if_false,Zk];rfl
 |@new C o o' k k' ho V _ J=>
  intro w w' B;have ab:(C.ext w.1.size w'.1.size B.jc B.nD B.YZ).1 w.1.size=y? w'.1.size:=by simp[Ren.ext]
  exact(J _ _ _ (Ren.yT B.jc B.nD B.YZ) ab (by simp[Ren.ext]) _ _<|B.push ho V).step q? q? q? λτ=>rfl
 |@tj C c b x s r t c' b' x' s' r' t' k k' ai _ J=>
  intro w w' B;have ab:(C.wC w.1.size w'.1.size B.sV B.pD).2 w.1.size=y? w'.1.size:=by simp[Ren.wC]
  exact(J _ _ _ (Ren.AJ B.sV B.pD) ab _ _<|B.Vj _<|.chan c' b' x' s' r' t').step q? q? q? λτ=>rfl
 |shape hb _ J=>exact λw w' B=>(J _ w w' B).step q? q? q? λτ=>rfl|@freeze C a a' n k k' Y hn _ J=>
  intro w w' B;refine(J _ _<|B.freeze Y hn n).step q? (by unfold ra;split<;>rfl) (by unfold ra;split<;>rfl) λτ=>?_;have:(tp w τ).freeze a n=tp (w.freeze a n) τ:=by unfold ra;split<;>rfl
  simp only[k5,this]
 |frozen Y hn _ J=>exact λw w' B=>(J _ w w' B).step q? q? q? λτ=>rfl|getObj hb _ J=>
  intro w w' B;obtain⟨x,x',O,W,ho⟩:=B.1 _ _ hb;have U:∀τ,(tp w τ).1[_]?=y? x:=λ_=>O
  cases ho with
  |cells=>exact .inl ⟨.stuck "getObj: a row of cells",w,by simp only[k5,O],t!⟩|map clock he=>exact(J _ _ (.map clock he) w w' B).step (by simp only[k5,O]) q? q? λτ=>by simp only[k5,U]
  |number l hx=>exact(J _ _ (.number l hx) w w' B).step (by simp only[k5,O]) q? q? λτ=>by simp only[k5,U]
  |stringIter s p=>exact(J _ _ (.stringIter s p) w w' B).step (by simp only[k5,O]) q? q? λτ=>by simp only[k5,U]
  |ik a b c=>exact(J _ _ (.ik a b c) w w' B).step (by simp only[k5,O]) q? q? λτ=>by simp only[k5,U]
  |mapIter a b c hm=>exact(J _ _ (.mapIter a b c hm) w w' B).step (by simp only[k5,O]) q? q? λτ=>by simp only[k5,U]
  |loop hl=>exact(J _ _ (.loop hl) w w' B).step (by simp only[k5,O]) q? q? λτ=>by simp only[k5,U]
  |fM=>exact(J _ _ .fM w w' B).step (by simp only[k5,O]) q? q? λτ=>by simp only[k5,U]
  |deferred hd=>exact(J _ _ (.deferred hd) w w' B).step (by simp only[k5,O]) q? q? λτ=>by simp only[k5,U]
 |@setObj C r r' o o' k k' hb ho V _ J=>
  intro w w' B;obtain⟨x,x',O,W,hx⟩:=B.1 _ _ hb;have U:∀τ,(tp w τ).1[r]?=y? x:=λ_=>O;obtain ac|ac:=pu<|C.3 r
  .let ⟨c,e,f,hy⟩:=B.9 _ _ hb ac;exact .inl ⟨.stuck "setObj: a row of cells",w,by simp only[k5,hy],t!⟩
  have fin:=J _ _<|B.turn hb ho (λc e f c' e' f' e1 _=>absurd e1<|V c e f) (λh=>absurd h ac)<|λc e f c' e' f' e1 _=>absurd e1<|V c e f
  cases hx with
  |cells=>exact .inl ⟨.stuck "setObj: a row of cells",w,by simp only[k5,O],t!⟩|_=>refine fin.step ?_ q? q? λτ=>?_;simp only[k5,O];simp only[k5,U];rfl
 |@choose C q k k' _ J=>
  intro w w' B;by_cases hf:q.forced=t?;exact(J 0 w w' B).step (by simp only[k5,hf,if_true]) q? q? λτ=>by simp only[k5,hf,if_true]
  have e:(Sem.choose q k).run I w=(k<|q.cut<|w.2 w.3 q).run I {w with drawn:=w.3+1}:=by simp only[k5,hf,if_false,Zk]
  obtain⟨x,ae,O,W⟩|⟨O,W,h3⟩:=J (q.cut<|w.2 w.3 q) {w with drawn:=w.3+1} w' (B.draw _ _)
  exact .inl ⟨x,ae,e.trans O,W⟩;refine .inr ⟨by rw[e];exact ZE (mr _) O,by rw[e,W],λτ ad=>?_⟩;rw[e]at ad⊢
  have e2:(Sem.choose q k).run I (tp w τ)=(k<|q.cut<|w.2 w.3 q).run I (tp {w with drawn:=w.3+1} τ):=by simp only[k5,hf,if_false,Zk];show(k<|q.cut<|τ w.3 q).run I _=_;rw[ad _ (Zu _)<|ly O];rfl
  have:=h3 τ λi a b=>ad i (lE a) b;revert this
  cases(k<|q.cut<|w.2 w.3 q).run I {w with drawn:=w.3+1}with
  |ok a w2=>intro h;show(Sem.choose q k).run I (tp w τ)=_;rwa[e2]|halt x w2=>cases x<;>intro h<;>first|trivial|(show(Sem.choose q k).run I (tp w τ)=_;rwa[e2])
 |gone hd=>intro w w' B;obtain⟨_,c,f,hx⟩:=B.10 _ hd;exact .inl ⟨.stuck "getObj: a row of cells",w,by simp only[k5,hx],t!⟩
 |env _ J=>exact λw w' B=>(J _ w w' B).step q? q? q? λτ=>rfl|program _ J=>exact λw w' B=>(J w w' B).step q? q? q? λτ=>rfl|mark hm _ J=>exact λw w' B=>(J w w' B).step q? q? q? λτ=>rfl|panic hv=>exact λw w' _=>.inr ⟨Zu _,q?,λτ _=>rfl⟩
def align(h:WR C x0 x3):∃B,WR C x0 B/\Al x0 B/\B.1=x3.1:=by refine⟨{x3 with tape:=λi q=>x0.2 (i-x3.3+x0.3) q},⟨h.1,h.2,h.3,h.4,h.5,h.6,h.7,h.8,h.9,h.10,h.11⟩,λi q=>?_,rfl⟩;show x0.2 _ q=x0.2 _ q;have:x3.3+i-x3.3+x0.3=x0.3+i:=o!;rw[this]
def mL.loc{α β RA}{s:Sem α}{s':Sem β}(h:mL I RA C s s'):∀(w w'),WR C w w'->Loc I s w:=by
 induction h with
 |base h=>exact h.loc|@bind γ δ RC C s s' f f' h _ ih=>
  intro w w' hw;obtain⟨ac,ad,ae,_⟩:=align hw;have J:=h.run w ac #[] ad<|.inl ae;obtain⟨x,O,U,Y⟩|⟨U,Y,h3⟩:=h.loc w w' hw
  exact .inl ⟨x,O,by rw[k8,U];rfl,Y⟩
  cases hr:s.run I w with
  |halt x W=>
   have V:(s.bind f).run I w=.halt x W:=by rw[k8,hr];rfl
   rw[hr]at U Y h3 J
   cases x with
   |panic v=>refine .inr ⟨by rwa[V],by rwa[V],λτ B=>?_⟩;rw[V]at B⊢;have:=h3 τ B;show(s.bind f).run I (tp w τ)=_;rw[k8,this];rfl
   |unsupported u=>cases u<;>first|exact J.elim|exact .inl ⟨_,W,V,t!⟩
   |stuck y=>exact .inl ⟨_,W,V,t!⟩|throw y=>exact .inl ⟨_,W,V,t!⟩|_=>exact J.elim
  |ok a W=>
   rw[hr]at U Y h3 J;let ⟨aa,b,af,es₁,e1,e2,e3,e4,_⟩:=J;have V:(s.bind f).run I w=(f a).run I W:=by rw[k8,hr];rfl
   obtain⟨x,O,g1,g2⟩|⟨g1,g2,g3⟩:=ih aa a b e2 e3 W af e4
   exact .inl ⟨x,O,V.trans g1,g2⟩;refine .inr ⟨by rw[V];exact ZE U g1,by rwa[V,g2],λτ B=>?_⟩;rw[V]at B⊢;have hb:=g3 τ λi x y=>by rw[show W.2=w.2 from Y];exact B i (ZE U x) y
   have ab:(s.bind f).run I (tp w τ)=(f a).run I (tp W τ):=by rw[k8,h3 τ λi x y=>B i x<|AT y g1];rfl
   revert hb
   cases(f a).run I W with
   |ok c w2=>intro h;show(s.bind f).run I _=_;rwa[ab]|halt x w2=>cases x<;>intro h<;>first|trivial|(show(s.bind f).run I _=_;rwa[ab])
 |@odd C q k s' hd h=>
  intro w w' hw;by_cases hf:q.forced=t?;exact((h 0).loc w w' hw).step (by simp only[k5,hf,if_true]) q? q? λτ=>by simp only[k5,hf,if_true]
  have e:(Sem.choose q k).run I w=(k<|q.cut<|w.2 w.3 q).run I {w with drawn:=w.3+1}:=by simp only[k5,hf,if_false,Zk]
  rcases(h _).loc _ w' (hw.draw _ _)with⟨x,O,U,Y⟩|⟨U,Y,h3⟩
  exact .inl ⟨x,O,e.trans U,Y⟩;refine .inr ⟨by rw[e];exact ZE (mr _) U,by rw[e,Y],λτ B=>?_⟩;rw[e]at B⊢
  have e2:(Sem.choose q k).run I (tp w τ)=(k<|q.cut<|w.2 w.3 q).run I (tp {w with drawn:=w.3+1} τ):=by simp only[k5,hf,if_false,Zk];show(k<|q.cut<|τ w.3 q).run I _=_;rw[B _ (Zu _)<|ly U];rfl
  have:=h3 τ λi a b=>B i (lE a) b;revert this
  cases(k _).run I _ with
  |ok a w2=>intro h;show(Sem.choose q k).run I _=_;rwa[e2]|halt x w2=>cases x<;>intro h<;>first|trivial|(show(Sem.choose q k).run I _=_;rwa[e2])
def AK(P:P?)(s:w?->GStep)(w:w?)(B:Frame)(J:List Frame)(w₁:w?):Prop:=
 w.3<=w₁.3/\w₁.2=w.2/\∀τ,zb τ w w₁->∃es,s (tp w τ)=.go (G B J) (tp w₁ τ) es
def iB{α P}{s:Sem α}{w r}(h:s.run P w=r):∃es,s.runT P w #[]=(r,es):=by refine⟨(s.runT P w #[]).2,?_⟩;rw[<-h,<-k6 P s w _]
def Qn(aa:I.follows .rangeFuncRecover=t?)(W:Loc I y2 x0)(ad:∀n O,y2.run I x0=.ok n O->∃m n',iY I m n n')(ac:∀x O,y2.run I x0=.halt x O->(∃v,x=.panic v)\/lV x)
  (h:kx I t? J U x? y2 x0=.go (G x1 x2) x3 x5):AK I (kx I t? J U x? y2) x0 x1 x2 x3:=by
 rcases hrt:y2.runT I x0 #[]with⟨r,ah⟩;have Y:y2.run I x0=r:=by rw[<-k6 I y2 x0 #[],hrt]
 unfold kx at h;simp only[if_true]at h;rw[hrt]at h;obtain⟨x,ag,h1,h2⟩|⟨h1,h2,h3⟩:=W
 rw[Y]at h1;subst h1;exfalso
 cases x with
 |unsupported u=>cases u<;>first|exact h2.elim|cases h
 |stuck y=>cases h
 |throw y=>simp[bY,cz,mv,G]at h|_=>exact h2.elim
 rw[Y]at h1 h2 h3
 have fin:∀{X:Array Event}{g:Goroutine}{O:w?},Gk r=O->mv X (.go g O)=.go (G x1 x2) x3 x5->(∀τ,C8 I y2 x0 τ r->∃X',kx I t? J U x? y2 (tp x0 τ)=mv X' (.go g<|tp O τ))->AK I (kx I t? J U x? y2) x0 x1 x2 x3:=by intro X g O e hh hk;simp only[mv,r6]at hh;obtain⟨rfl,rfl,_⟩:=hh;subst e;refine⟨h1,h2,λτ ae=>?_⟩;obtain⟨X',e⟩:=hk τ<|h3 τ ae;exact⟨_,e⟩
 have plain:∀{X:Array Event}{g:Goroutine}{O:w?},Gk r=O->mv X (.go g O)=.go (G x1 x2) x3 x5->(∀τ V,y2.runT I (tp x0 τ) #[]=(match r with|.ok n x0=>.ok n<|tp x0 τ|.halt x x0=>.halt x<|tp x0 τ,V)->∃X',kx I t? J U x? y2 (tp x0 τ)=mv X' (.go g<|tp O τ))->(∃n O,r=.ok n O)\/(∃v O,r=.halt (.panic v) O)->AK I (kx I t? J U x? y2) x0 x1 x2 x3:=by
  intro X g O e hh hk hr;refine fin e hh λτ W=>?_;obtain⟨n,O,rfl⟩|⟨v,O,rfl⟩:=hr
  obtain⟨e',e⟩:=iB W;exact hk τ e' e;obtain⟨e',e⟩:=iB W;exact hk τ e' e
 cases r with
 |ok n O=>
  let ⟨m,n',hn⟩:=ad n O Y
  cases hn with
  |value hv=>exact plain q? h (λτ V e=>by unfold kx;simp only[if_true,e];exact⟨_,q?⟩)<|.inl ⟨_,_,q?⟩|skip=>exact plain q? h (λτ V e=>by unfold kx;simp only[if_true,e];exact⟨_,q?⟩)<|.inl ⟨_,_,q?⟩|enter hf af ha=>exact plain q? h (λτ V e=>by unfold kx;simp only[if_true,e];exact⟨_,q?⟩)<|.inl ⟨_,_,q?⟩|round W ht ha af=>exact plain q? h (λτ V e=>by unfold kx;simp only[if_true,e];exact⟨_,q?⟩)<|.inl ⟨_,_,q?⟩|defer hd=>exact plain q? h (λτ V e=>by unfold kx;simp only[if_true,e];exact⟨_,q?⟩)<|.inl ⟨_,_,q?⟩|comm bl sh hq hc=>cases h
  |spawn ai hd=>
   exfalso;clear plain fin h1 h2 h3 hrt Y;dsimp only at h;generalize bT I J.1 _=X at h;rw[apply_ite<|mv X]at h
   have key:∀(c:Prop)[Decidable c] (A B C:GStep),(if c then A else B)=C->A=C\/B=C:=by intro c _ A B C hh;split at hh;exact .inl hh;exact .inr hh
   obtain h|h:=key _ _ _ _ h
   simp[bY,cz,mv,G]at h;simp[mv]at h
  |recover=>
   clear plain;let ⟨fn,tm,td,df,md,kd,rd⟩:=J
   cases rd with
   |none=>
    dsimp only at h;revert h;generalize ab:bN _ U=p;intro h
    cases p with
    |none=>refine fin q? h λτ W=>?_;obtain⟨e',e⟩:=iB W;unfold kx;simp only[if_true,e];rw[ab];exact⟨_,q?⟩
    |some x=>let ⟨v,c⟩:=x;refine fin q? h λτ W=>?_;obtain⟨e',e⟩:=iB W;unfold kx;simp only[if_true,e];rw[ab];exact⟨_,q?⟩
   |some l=>
    dsimp only at h;rw[if_pos aa]at h;revert h;generalize ab:bN _ U=p;intro h
    cases p with
    |none=>refine fin q? h λτ W=>?_;obtain⟨e',e⟩:=iB W;unfold kx;simp only[if_true,e,aa];rw[ab];exact⟨_,q?⟩
    |some x=>refine fin q? h λτ W=>?_;obtain⟨e',e⟩:=iB W;unfold kx;simp only[if_true,e,aa];rw[ab];exact⟨_,q?⟩
 |halt x O=>
  cases x with
  |panic v=>exact plain q? h (λτ V e=>by unfold kx;simp only[if_true,e];exact⟨_,q?⟩)<|.inr ⟨_,_,q?⟩|stuck y=>cases h
  |throw y=>simp[bY,cz,mv,G]at h|unsupported u=>
   obtain⟨v,hv⟩|hv:=ac _ _ Y
   cases hv
   cases u<;>first|exact hv.elim|cases h
  |_=>
   obtain⟨v,hv⟩|hv:=ac _ _ Y
   cases hv;exact hv.elim
def mL.outs(h:mL I (iY I) C y2 z1)(Y:WR C x0 x3):(∀n B,y2.run I x0=.ok n B->∃C n',iY I C n n')/\(∀x B,y2.run I x0=.halt x B->(∃v,x=.panic v)\/lV x):=by obtain⟨U,V,W,_⟩:=align Y;have O:=h.run x0 U #[] V W;constructor;intro n B e;rw[e]at O;obtain⟨J,b,_,_,_,_,e3,_⟩:=O;exact⟨J,b,e3⟩;intro x B e;rw[e]at O;cases x<;>first|exact .inl ⟨_,q?⟩|exact .inr O
def nP(P:P?)(d:Deferred):Goroutine:={frame:={(default:Frame)with fn:=P.2.size,defers:=[d],mode:=.panicking [bX]},callers:=[],status:=.running,dying:=x?}
inductive rA(P:P?):GStep->Prop
 |go (g c w es):rA P (.go (G g c) w es)|ended (o w es):rA P (.ended o w es)|dies (g w es):q7 P g->rA P (.go g w es)|comm (g c k b s w es):rA P (.comm (G g c) k b s w es)|spawn (g c d w es):rA P (.spawn (G g c) (nP P d) w es)
def rA.after(h:rA I y4)(X):rA I<|mv X y4:=by
 cases h with
 |go g c w es=>exact .go ..|ended o w es=>exact .ended ..|dies g w es h=>exact .dies _ _ _ h|comm g c k b y4 w es=>exact .comm ..|spawn g c d w es=>exact .spawn ..
def vV(fr)(y)(w):rA I<|bY fr y w:=.dies _ _ _<|dieOf_okD (P:=I) fr [] y f? w
def OG(P:P?)(m:Ren)(T:List Frame)(s':GStep)(w':w?)(g:Goroutine)(k:Array CommCase)(b:Bool)(sh:CommShape)(w₁:w?):Prop:=
 ∃fr cs B fr' cs' k' J es,g=G fr cs/\s'=.comm (G fr' cs') k' b sh J es/\(m.6\/OI k b sh)/\m.Le B/\eD P B T (fr::cs) (fr'::cs')/\eA (KA B) k.1 k'.1/\WR B w₁ J/\gH m B w' J/\∀e∈es,ri B e
def Oj(P:P?)(m:Ren)(T:List Frame)(s':GStep)(w':w?)(g ch:Goroutine)(w₁:w?):Prop:=
 ∃fr cs d B fr' cs' O J es,g=G fr cs/\ch=nP P d/\s'=.spawn (G fr' cs') (nP P O) J es/\m.6/\m.Le B/\eD P B T (fr::cs) (fr'::cs')/\DR B d O/\WR B w₁ J/\gH m B w' J/\∀e∈es,ri B e
def Lr(h:ic C J x1):x1.noResult I=J.noResult I:=by
 have B:=h.3;unfold Frame.noResult
 have:x1.oper?=J.oper?:=by
  unfold pi;revert B;generalize J.3=l;generalize x1.3=U;intro B
  cases B with
  |nil=>rfl|cons O _=>
   cases O with
   |inRegion ops t V=>cases t<;>rfl
   |_=>rfl
 rw[this]
def Dn(h:DR C z7 z8):((z8.1 matches .nil):Bool)=(z7.1 matches .nil):=by have:=h.1;revert this;generalize z7.1=a;generalize z8.1=b;intro x;cases x<;>rfl
def Ln(h:DR C z7 z8):z8.2.isEmpty=z7.2.isEmpty:=by have:=h.2.size;simp[b8,this]
def MI(ac:I.follows .rangeFuncRecover=t?)(aa:∀n W,y2.run I x0=.ok n W->∃m n',iY I m n n')(Y:∀x W,y2.run I x0=.halt x W->(∃v,x=.panic v)\/lV x):rA I<|kx I t? J U x? y2 x0:=by
 rcases hrt:y2.runT I x0 _ with⟨r,ad⟩;have V:y2.run I x0=r:=by rw[<-k6 I y2 x0 _,hrt]
 unfold kx;rw[hrt];refine rA.after ?_ _
 cases r with
 |ok n W=>
  obtain⟨m,n',hn⟩:=aa n W V
  cases hn with
  |value O=>exact .go ..|skip=>exact .go ..|enter hf ab ha=>exact .go ..|round hl ht ha ab=>exact .go ..|defer hd=>exact .go ..|comm bl sh hq hc=>exact .comm ..|spawn ae hd=>
   have key:∀(c:Prop)[Decidable c] (A B:GStep),rA I A->rA I B->rA I (if c then A else B):=by intro c _ A B h1 h2;split;exact h1;exact h2
   exact key _ _ _ (vV ..)<|.spawn ..
  |recover=>
   obtain⟨fn,tm,td,df,md,kd,rd⟩:=J
   cases rd with
   |none=>dsimp only;split<;>exact .go ..
   |some l=>dsimp only;split<;>exact .go ..
 |halt x W=>
  cases x with
  |panic v=>exact .go ..|stuck y=>exact .ended ..|throw y=>exact vV ..|unsupported u=>
   obtain⟨v,O⟩|O:=Y _ _ V
   cases O
   cases u<;>first|exact O.elim|exact .ended ..
  |_=>
   obtain⟨v,O⟩|O:=Y _ _ V
   cases O;exact O.elim
def LF(hE:xl I y0)(hS:eD I y0 U (J::x2) (x1::x4))(hs:mL I (iY I) y0 y2 z1)(hw:WR y0 x0 x3)(aa:Al x0 x3){k b}
  (h:kx I t? J x2 x? y2 x0=.comm x9 k b y6 x8 x5):OG I y0 U (kx I t? x1 x4 x? z1 x3) x3 x9 k b y6 x8:=by
 have hr:=hs.run x0 x3 #[] hw aa;have W:=(hs.outs hw).2;unfold kx at h⊢;simp only[if_true]at h⊢;rcases hrt:y2.runT I x0 #[]with⟨r,ac⟩;have O:y2.run I x0=r:=by rw[<-k6 I y2 x0 #[],hrt]
 rw[O]at hr;rw[hrt]at h
 cases r with
 |ok n wn=>
  let ⟨Y,n',ab,es₁,e1,e2,e3,e4,_,e6,e7⟩:=hr;rw[e1];simp only[bs]at h⊢
  cases e3 with
  |comm bl y6 hq hc=>simp only[mv,GStep.comm.injEq]at h;let ⟨rfl,rfl,rfl,rfl,rfl,_⟩:=h;exact⟨J,x2,Y,x1,x4,_,ab,_,q?,q?,hq.imp (λx=>e2.7▸x) id,e2,hS.mono e2,hc,e4,e6,xF e7⟩
  |spawn ad hd=>
   have key:∀(X:Array Event)(c:Prop)[Decidable c] (A B C:GStep),mv X (if c then A else B)=C->(c/\mv X A=C)\/(¬c/\mv X B=C):=by intro X c _ A B C hh;split at hh;exact .inl ⟨‹_›,hh⟩;exact .inr ⟨‹_›,hh⟩
   obtain⟨_,h⟩|⟨hc,h⟩:=key _ _ _ _ _ h
   simp[bY,cz,mv]at h;simp[mv]at h
  |recover=>
   let ⟨fn,tm,td,df,md,kd,rd⟩:=J
   cases rd with
   |none=>revert h;generalize bN _ x2=p;intro h;cases p<;>cases h
   |some l=>dsimp only at h;rw[if_pos hE.4]at h;revert h;generalize bN _ x2=p;intro h;cases p<;>cases h
  |_=>cases h
 |halt x wn=>
  cases x with
  |panic v=>cases h
  |stuck y=>cases h
  |throw y=>cases h
  |unsupported u=>
   obtain⟨v,V⟩|V:=W _ _ O
   cases V
   cases u<;>first|exact V.elim|cases h
  |_=>
   obtain⟨v,V⟩|V:=W _ _ O
   cases V;exact V.elim
def KI(hE:xl I y0)(hS:eD I y0 U (J::x2) (x1::x4))(hs:mL I (iY I) y0 y2 z1)(hw:WR y0 x0 x3)(aa:Al x0 x3)
  (h:kx I t? J x2 x? y2 x0=.spawn x9 v1 x8 x5):Oj I y0 U (kx I t? x1 x4 x? z1 x3) x3 x9 v1 x8:=by
 have hr:=hs.run x0 x3 #[] hw aa;have Y:=(hs.outs hw).2;unfold kx at h⊢;simp only[if_true]at h⊢;rcases hrt:y2.runT I x0 #[]with⟨r,ae⟩;have V:y2.run I x0=r:=by rw[<-k6 I y2 x0 #[],hrt]
 rw[V]at hr;rw[hrt]at h
 cases r with
 |ok n wn=>
  let ⟨O,n',ab,es₁,e1,e2,e3,e4,_,e6,e7⟩:=hr;rw[e1];simp only[bs]at h⊢
  cases e3 with
  |comm bl sh hq hc=>cases h
  |spawn ac hd=>
   rename_i d d';dsimp only at h⊢
   have key:∀(X:Array Event)(c:Prop)[Decidable c] (A B C:GStep),mv X (if c then A else B)=C->(c/\mv X A=C)\/(¬c/\mv X B=C):=by intro X c _ A B C hh;split at hh;exact .inl ⟨‹_›,hh⟩;exact .inr ⟨‹_›,hh⟩
   obtain⟨_,h⟩|⟨hc,h⟩:=key _ _ _ _ _ h
   simp[bY,cz,mv]at h
   have ad:¬((I.follows .goNilFatal&&(d'.1 matches .nil)&&d'.2.isEmpty&&x1.noResult I)=t?):=by rwa[Dn hd,Ln hd,Lr hS.sX]
   have hf:=(hS.sX.mono e2).finish<|.undef O;obtain⟨rfl,rfl,rfl,_⟩:=h;exact⟨_,_,d,O,_,_,d',ab,_,q?,q?,(congrArg _<|if_neg ad).trans q?,e2.7▸ac,e2,hS.set e2 hf.1 hf.2.1 hf.2.2 (fY ..)<|iU ..,hd,e4,e6,xF e7⟩
  |recover=>
   let ⟨fn,tm,td,df,md,kd,rd⟩:=J
   cases rd with
   |none=>revert h;generalize bN _ x2=p;intro h;cases p<;>cases h
   |some l=>dsimp only at h;rw[if_pos hE.4]at h;revert h;generalize bN _ x2=p;intro h;cases p<;>cases h
  |_=>cases h
 |halt x wn=>
  cases x with
  |panic v=>cases h
  |stuck y=>cases h
  |throw y=>cases h
  |unsupported u=>
   obtain⟨v,W⟩|W:=Y _ _ V
   cases W
   cases u<;>first|exact W.elim|cases h
  |_=>
   obtain⟨v,W⟩|W:=Y _ _ V
   cases W;exact W.elim
inductive kE:GStep->Prop
 |go (g w es):kE (.go g w es)|ended (o w es):kE (.ended o w es)
def kE.after(h:kE y4)(X):kE<|mv X y4:=by
 cases h with
 |go g w es=>exact .go ..|ended o w es=>exact .ended ..
def V4(P:P?)(m:Ren)(T:List Frame)(r r':GStep)(w':w?):Prop:=
 (∃B X O fr cs fr' cs' s s' w₁ J,r=mv X (kx P t? fr cs x? s w₁)/\r'=mv O (kx P t? fr' cs' x? s' J)/\m.Le B/\xl P B/\eD P B T (fr::cs) (fr'::cs')/\mL P (iY P) B s s'/\WR B w₁ J/\Al w₁ J/\gH m B w' J/\∀e∈O,ri B e)\/kE r
def Zah{c}(h:GStep.go {frame:=J,callers:=U,status:=.running,dying:=x?} x0=.go (G x1 c) x3 x5):x3=x0/\∀y,∃B,GStep.go {frame:=J,callers:=U,status:=.running,dying:=x?} y=.go (G x1 c) y B:=by simp only[r6]at h;obtain⟨O,rfl,_⟩:=h;exact⟨q?,λy=>⟨#[],by rw[O]⟩⟩
def FF(fr)(c)(cs)(v):∀x g d B e,bO I t? fr (c::cs) x? v x=.go (G g d) B e->B=x/\∀y,∃J,bO I t? fr (c::cs) x? v y=.go (G g d) y J:=by intro x g d B e h;unfold bO at h⊢;cases O:fr.6<;>rw[O]at h<;>dsimp only at h⊢ <;> simp only[r6]at h<;>obtain⟨U,rfl,_⟩:=h<;>exact⟨q?,λy=>⟨#[],by rw[U]⟩⟩
def G9(O:eD I C U (J::x2) (x1::x4)):∃c B,x2=c::B:=by cases O<;>exact⟨_,_,q?⟩
def Xe(g)(c)(w):rA I<|.go {frame:=g,callers:=c,status:=.running,dying:=x?} w:=.go g c w _
def Ee(fr c)(cs)(v)(w):rA I<|bO I t? fr (c::cs) x? v w:=by unfold bO;cases fr.6<;>exact Xe ..
def V4.direct(O:xl I C)(V:eD I C U (J::x2) (x1::x4))(W:mL I (iY I) C y2 z1)(Y:WR C x0 x3)(B:Al x0 x3):V4 I C U (kx I t? J x2 x? y2 x0) (kx I t? x1 x4 x? z1 x3) x3:=
 .inl ⟨C,#[],#[],J,x2,x1,x4,y2,z1,x0,x3,(uU _).symm,(uU _).symm,.refl C,O,V,W,Y,B,.refl C x3,i!⟩
def tT(fr c)(cs)(v)(w):kE<|bO I t? fr (c::cs) x? v w:=by unfold bO;cases fr.6<;>exact .go ..
def vQ(B:C.Le y0)(J:∀e∈x5,ri C e)(O:∀e∈z4,ri y0 e):∀e∈x5++z4,ri y0 e:=λe U=>(bw.1 U).elim (λx=>(J e x).mono B)<|O e
def Km(P:P?)(s:w?->GStep)(w:w?)(g:Goroutine)(k:Array CommCase)(b:Bool)(sh:CommShape)(w₁:w?):Prop:=
 w.3<=w₁.3/\w₁.2=w.2/\∀τ,zb τ w w₁->∃es,s (tp w τ)=.comm g k b sh (tp w₁ τ) es
def noC(B:kE y4){k b}(h:y4=.comm x9 k b y6 x0 x5){X:Prop}:X:=by rw[h]at B;cases B
def LI{k b}(h:mv x5 y4=.comm x9 k b y6 x0 z4):∃B,y4=.comm x9 k b y6 x0 B:=by cases y4<;>simp[mv]at h;obtain⟨rfl,rfl,rfl,rfl,rfl,_⟩:=h;exact⟨_,q?⟩
def Cb(Y:I.follows .rangeFuncRecover=t?)(ab:∀n W,y2.run I x0=.ok n W->∃m n',iY I m n n')(aa:∀x W,y2.run I x0=.halt x W->(∃v,x=.panic v)\/lV x){k b}
  (h:kx I t? J U x? y2 x0=.comm x9 k b y6 x3 x5):x9=G J U/\y2.run I x0=.ok (.comm k b y6) x3:=by
 rcases hrt:y2.runT I x0 _ with⟨r,ac⟩;have O:y2.run I x0=r:=by rw[<-k6 I y2 x0 _,hrt]
 unfold kx at h;rw[hrt]at h;rw[O]
 cases r with
 |ok n W=>
  let ⟨m,n',hn⟩:=ab n W O
  cases hn with
  |comm bl y6 hq hc=>obtain⟨rfl,rfl,rfl,rfl,rfl,_⟩:=h;exact⟨q?,q?⟩
  |spawn ad hd=>
   have key:∀(X:Array Event)(c:Prop)[Decidable c] (A B C:GStep),mv X (if c then A else B)=C->(c/\mv X A=C)\/(¬c/\mv X B=C):=by intro X c _ A B C hh;split at hh;exact .inl ⟨‹_›,hh⟩;exact .inr ⟨‹_›,hh⟩
   obtain⟨_,h⟩|⟨hc,h⟩:=key _ _ _ _ _ h
   simp[bY,cz,mv]at h;simp[mv]at h
  |recover=>
   let ⟨fn,tm,td,df,md,kd,rd⟩:=J
   cases rd with
   |none=>revert h;generalize bN _ U=p;intro h;cases p<;>cases h
   |some l=>dsimp only at h;rw[if_pos Y]at h;revert h;generalize bN _ U=p;intro h;cases p<;>cases h
  |_=>cases h
 |halt x W=>
  cases x with
  |panic v=>cases h
  |stuck y=>cases h
  |throw y=>cases h
  |unsupported u=>
   obtain⟨v,V⟩|V:=aa _ _ O
   cases V
   cases u<;>first|exact V.elim|cases h
  |_=>
   obtain⟨v,V⟩|V:=aa _ _ O
   cases V;exact V.elim
def Ly(B:I.follows .rangeFuncRecover=t?)(hl:Loc I y2 x0)(V:∀n W,y2.run I x0=.ok n W->∃m n',iY I m n n')(Y:∀x W,y2.run I x0=.halt x W->(∃v,x=.panic v)\/lV x){k b}
  (h:kx I t? J U x? y2 x0=.comm x9 k b y6 x3 x5):Km I (kx I t? J U x? y2) x0 x9 k b y6 x3:=by
 obtain⟨rfl,hr⟩:=Cb B V Y h;obtain⟨x,ab,O,h2⟩|⟨O,h2,h3⟩:=hl
 rw[hr]at O;cases O;rw[hr]at O h2 h3;refine⟨O,h2,λτ aa=>?_⟩;let ⟨e',e⟩:=iB<|h3 τ aa;unfold kx;simp only[if_true,e];exact⟨_,q?⟩
structure Sw(P:P?)(r:GStep):Prop where
 go:∀{g c w es},r≠.go (G g c) w es
 outs:rA P r
 plain:kE r
def Sw.after(h:Sw I y4)(X):Sw I<|mv X y4:=⟨λe=>(Dp e).elim λ_ e=>h.1 e,h.2.after X,h.3.after X⟩
def Sw.ended(o)(w)(es):Sw I<|.ended o w es:=⟨λe=>(by cases e),.ended ..,.ended ..⟩
def Sw.throw(fr)(y)(w):Sw I<|bY fr y w:=⟨nofun,vV ..,.go ..⟩
inductive Bt(P:P?)(T:List Frame)(main':Bool)(ok:Prop):Ren->(w?->GStep)->(w?->GStep)->Prop
 |stay {m f f' g g' cs cs'}:eD P m T (g::cs) (g'::cs')->(∀x,f x=.go (G g cs) x)->(∀x,f' x=.go (G g' cs') x)->Bt P T main' ok m f f'|low {m f f' g cs}:(ok->False)->(∀x,f x=.go (G g cs) x)->Bt P T main' ok m f f'|bad {m f f'}:(∀x x',WR m x x'->Sw P (f x))->Bt P T main' ok m f f'|app {m f f' fr fr' cs cs' s s'}:xl P m->eD P m T (fr::cs) (fr'::cs')->mL P (iY P) m s s'->(∀x,f x=kx P true fr cs none s x)->(∀x,f' x=kx P true fr' cs' none s' x)->Bt P T main' ok m f f'|ret {m f f' fr fr' cs cs' v v'}:eD P m T (fr::cs) (fr'::cs')->(ok->cs=[door P]->fr.7=none->False)->VR m v v'->(∀x,f x=bO P true fr cs none v x)->(∀x,f' x=bO P main' fr' cs' none v' x)->Bt P T main' ok m f f'|run {m f f'} {α β:Type} {RA:Ren->α->β->Prop} {t t'} {E:Result α->Array Event->Array Event} {E':Result β->Array Event->Array Event} {K:Result α->GStep} {K':Result β->GStep}:dD P RA m t t'->
   (∀x r es,t.runT P x #[]=(r,es)->f x=mv (E r es) (K r))->(∀x r es,t'.runT P x #[]=(r,es)->f' x=mv (E' r es) (K' r))->(∀jU r es,(∀e∈es,ri jU e)->∀e∈E' r es,ri jU e)->
   (∀jU a a',m.Le jU->RA jU a a'->Bt P T main' ok jU (λw=>K (.ok a w)) (λw=>K' (.ok a' w)))->
   (∀jU v v',m.Le jU->VR jU v v'->Bt P T main' ok jU (λw=>K (.halt (.panic v) w)) (λw=>K' (.halt (.panic v') w)))->
   (∀x w,lV x->Sw P (K (.halt x w)))->Bt P T main' ok m f f'
def NR(R:w?->Array Event->GStep)(s:w?->GStep)(w w₁:w?):Prop:=
 w.3<=w₁.3/\w₁.2=w.2/\∀τ,zb τ w w₁->∃es,s (tp w τ)=R (tp w₁ τ) es
structure Kind(P:P?)(R:w?->Array Event->GStep):Prop where
 off:∀{X s w es},mv X s=R w es->∃e,s=R w e
 on:∀X w es,∃e,mv X (R w es)=R w e
 bad:∀{r w es},Sw P r->r≠R w es
 go:∀{g c x w es},GStep.go (G g c) x=R w es->w=x/\∀y,∃e,GStep.go (G g c) y=R y e
 ret:∀{fr c cs v x w es},bO P true fr (c::cs) none v x=R w es->w=x/\∀y,∃e,bO P true fr (c::cs) none v y=R y e
 app:∀{fr cs s w w₁ es},Loc P s w->(∀n wn,s.run P w=.ok n wn->∃m n',iY P m n n')->(∀x wn,s.run P w=.halt x wn->(∃v,x=.panic v)\/lV x)->kx P true fr cs none s w=R w₁ es->NR R (kx P true fr cs none s) w w₁
def Bt.o{ok}(F:Bt I U x6 ok C y8 y9)(W:ok):∀{w w'},WR C w w'->Al w w'->∀{a b w₁ es},y8 w=.go (G a b) w₁ es->tF I C U (y9 w') w' a b w₁:=by
 induction F with
 |stay hg h h'=>intro w w' U B _ _ w₁ es e;rw[h]at e;rw[h'];exact still U hg e|low hn h=>exact(hn W).elim|bad h=>intro w w' U B _ _ w₁ es e;exact absurd e (h w w' U).1|app hE hS hs h h'=>intro w w' U B _ _ w₁ es e;rw[h]at e;rw[h'];exact Zat hE hS hs U B e|ret hS hn hv h h'=>intro w w' U B _ _ w₁ es e;have:=Zbz (x6:=x6) (x5:=#[]) (z4:=#[]) (.refl _) hS (hn W) hv U (.refl _ w') i! (by rw[uU,<-h];exact e);rw[uU]at this;rw[h'];exact this
 |@run m f f' α β RA t t' E E' K K' ht h h' hE _ _ Y aa ab=>
  intro w w' U B _ _ w₁ es e;have O:=ht.run w w' #[] U (.inl B);rw[<-k6 I _ w _]at O;rcases hrt:t.runT I w _ with⟨r,ad⟩;rw[hrt]at O;rw[h _ _ _ hrt]at e;obtain⟨ae,e⟩:=Dp e
  cases r with
  |ok a wn=>obtain⟨_,a',ac,es₁,g1,g2,g3,g4,g5,g6,g7⟩:=O;rw[h' _ _ _ g1];exact tF.after g2 g6 (hE _ _ _ (u! g7)) (aa _ a a' g2 g3 g4 (g5 B) e)
  |halt x wn=>
   cases x with
   |panic v=>obtain⟨_,a',ac,es₁,g1,g2,g3,g4,g5,g6,g7⟩:=O;rw[h' _ _ _ g1];exact tF.after g2 g6 (hE _ _ _ (u! g7)) (ab _ v a' g2 g3 g4 (g5 B) e)
   |_=>refine absurd e (Y _ _ ?_).1;exact O
def Bt.loc{ok}(F:Bt I U x6 ok C y8 y9){R}(k:Kind I R):∀{w w'},WR C w w'->∀{w₁ es},y8 w=R w₁ es->NR R y8 w w₁:=by
 induction F with
 |stay _ h _|low _ h=>intro w w' O w₁ es e;rw[h]at e;obtain⟨rfl,q⟩:=k.4 e;exact⟨Zu _,q?,λτ _=>by rw[h];exact q _⟩
 |bad h=>intro w w' O w₁ es e;exact absurd e<|k.3<|h w w' O|app hE hS hs h h'=>intro w w' O w₁ es e;rw[h]at e;obtain⟨a,b,c⟩:=k.6 (hs.loc w w' O) (hs.outs O).1 (hs.outs O).2 e;exact⟨a,b,λτ V=>by rw[h];exact c τ V⟩
 |ret hS hn hv h h'=>obtain⟨c,ak,rfl⟩:=G9 hS;intro w w' O w₁ es e;rw[h]at e;obtain⟨rfl,q⟩:=k.5 e;exact⟨Zu _,q?,λτ _=>by rw[h];exact q _⟩
 |@run C y8 y9 α β RA t t' E E' K K' ht h h' hE _ _ Y aa ab=>
  intro w w' O w₁ es e;obtain⟨ac,ad,ae,_⟩:=align O;have B:=ht.run w ac #[] ad<|.inl ae;have hl:=ht.loc w w' O;let ⟨al,af⟩:=iB (P:=I) (s:=t) (w:=w) rfl;rw[h _ _ _ af]at e;let ⟨_,e⟩:=k.1 e
  have key:∀{r:Result α}{W:w?},Gk r=W->NR R (λw=>K (match r with|.ok a _=>.ok a w|.halt x _=>.halt x w)) W w₁->(∀τ,C8 I t w τ r->t.run I (tp w τ)=match r with|.ok a _=>.ok a<|tp W τ|.halt x _=>.halt x<|tp W τ)->t.run I w=r->XW I t w->NR R y8 w w₁:=by
   rintro r W rfl ⟨k1,k2,k3⟩ ag hr ⟨h1,h2,h3⟩;rw[hr]at h1 h2 h3;refine⟨ZE h1 k1,k2.trans h2,λτ V=>?_⟩;have ha:=ag τ<|h3 τ λi x y=>V i x<|AT y k1;let ⟨am,k4⟩:=k3 τ λi x y=>by rw[h2];exact V i (ZE h1 x) y
   let ⟨an,ah⟩:=iB ha;have k4:K _=R .. := k4;rw[h _ _ _ ah,k4];exact k.2 ..
  obtain⟨q,aj,h1,h2⟩|hl:=hl
  rw[h1]at e;exact absurd e<|k.3<|Y _ _ h2
  cases hq:t.run I w with
  |ok a W=>rw[hq]at e B;let ⟨J,a',ai,es₁,g1,g2,g3,g4,_⟩:=B;exact key (r:=.ok a W) q? (aa J a a' g2 g3 g4 e) (λ_ h=>h) hq hl
  |halt x W=>
   rw[hq]at e B
   cases x with
   |panic v=>let ⟨J,a',ai,es₁,g1,g2,g3,g4,_⟩:=B;exact key (r:=.halt _ W) q? (ab J v a' g2 g3 g4 e) (λ_ h=>h) hq hl
   |_=>refine absurd e<|k.3<|Y _ _ ?_;exact B
def Bt.outs{ok}(F:Bt I U x6 ok C y8 y9):∀{w w'},WR C w w'->rA I (y8 w):=by
 induction F with
 |stay _ h _|low _ h=>intro w w' O;rw[h];exact .go ..|bad h=>exact λO=>(h _ _ O).2|app hE hS hs h h'=>intro w w' O;rw[h];exact MI hE.4 (hs.outs O).1 (hs.outs O).2|ret hS hn hv h h'=>obtain⟨c,af,rfl⟩:=G9 hS;intro w w' O;rw[h];exact Ee ..
 |@run C y8 y9 α β RA t t' E E' K K' ht h h' hE _ _ V W Y=>
  intro w w' O;obtain⟨aa,ab,ac,_⟩:=align O;have B:=ht.run w aa #[] ab<|.inl ac;let ⟨ag,ad⟩:=iB (P:=I) (s:=t) (w:=w) rfl;rw[h _ _ _ ad];refine rA.after ?_ _
  cases hq:t.run I w with
  |ok a wn=>rw[hq]at B;obtain⟨J,a',ae,es₁,g1,g2,g3,g4,_⟩:=B;exact W J a a' g2 g3 g4
  |halt x wn=>
   rw[hq]at B
   cases x with
   |panic v=>obtain⟨J,a',ae,es₁,g1,g2,g3,g4,_⟩:=B;exact Y J v a' g2 g3 g4
   |_=>refine(V _ _ ?_).2;exact B
def V4.after{r'}(O:C.Le y0)(W:gH C y0 x0 x3)(hX:∀e∈z4,ri y0 e)(h:V4 I y0 U y4 r' x3):V4 I C U (mv x5 y4) (mv z4 r') x0:=by
 have V:∀(x5 Y:Array Event)(s:GStep),mv x5 (mv Y s)=mv (x5++Y) s:=λx5 Y s=>by cases s<;>simp[mv]
 obtain⟨m₂,Y,Y',fr,cs,fr',cs',s,s',w₁,B,rfl,rfl,J,h2,h3,h4,h5,h6,h7,h8⟩|h:=h
 exact .inl ⟨m₂,_,_,fr,cs,fr',cs',s,s',w₁,B,V ..,V ..,O.trans J,h2,h3,h4,h5,h6,W.trans O J h7,vQ J hX h8⟩;exact .inr (h.after _)
def Bt.via{ok}(F:Bt I U x6 ok C y8 y9):∀{w w'},WR C w w'->Al w w'->V4 I C U (y8 w) (y9 w') w':=by
 induction F with
 |stay _ h _|low _ h=>intro w w' V J;rw[h];exact .inr (.go ..)|bad h=>exact λV _=>.inr (h _ _ V).3|app hE hS hs h W=>intro w w' V J;rw[h,W];exact V4.direct hE hS hs V J|ret hS hn hv h W=>obtain⟨c,ae,rfl⟩:=G9 hS;intro w w' V J;rw[h];exact .inr (tT ..)
 |@run C y8 y9 α β RA t t' E E' K K' ht h W hE _ _ Y aa ab=>
  intro w w' V J;have B:=ht.run w w' #[] V<|.inl J;let ⟨af,ac⟩:=iB (P:=I) (s:=t) (w:=w) rfl;rw[h _ _ _ ac]
  cases hq:t.run I w with
  |ok a wn=>rw[hq]at B;let ⟨O,a',ad,es₁,g1,g2,g3,g4,g5,g6,g7⟩:=B;rw[W _ _ _ g1];exact V4.after g2 g6 (hE _ _ _<|u! g7)<|aa O a a' g2 g3 g4<|g5 J
  |halt x wn=>
   rw[hq]at B
   cases x with
   |panic v=>let ⟨O,a',ad,es₁,g1,g2,g3,g4,g5,g6,g7⟩:=B;rw[W _ _ _ g1];exact V4.after g2 g6 (hE _ _ _<|u! g7)<|ab O v a' g2 g3 g4<|g5 J
   |_=>refine .inr<|kE.after (Y _ _ ?_).3 _;exact B
def sH{ok}(B:J.7≠x?)(V:eD I C U (J::x2) (x1::x4))(W:C.1 y1=y? y3)(j:Option Code)(Y:∀c,j=y? c->gU C.4 c){q q'}
  (h:∀x,y8 x=mv (bT I J.1 ((cW y1 j).runT I x #[]).2) (match ((cW y1 j).runT I x #[]).1 with|.ok v w=>bO I t? J x2 x? v w|.halt _ w=>.ended q w))
  (h':∀x,y9 x=mv (bT I x1.1 ((cW y3 j).runT I x #[]).2) (match ((cW y3 j).runT I x #[]).1 with|.ok v w=>bO I x6 x1 x4 x? v w|.halt _ w=>.ended q' w)):Bt I U x6 ok C y8 y9:=
 .run (E:=λ_ es=>bT I _ es) (E':=λ_ es=>bT I _ es) (K:=λr=>match r with|.ok v w=>bO I t? J x2 x? v w|.halt _ w=>.ended q w) (K':=λr=>match r with|.ok v w=>bO I x6 x1 x4 x? v w|.halt _ w=>.ended q' w) (LX (P:=I) W Y)
  (λx r es e=>by rw[h,e]) (λx r es e=>by rw[h',e]) (λ_ _ _ h=>pB h) (λO a a' hm ha=>.ret (V.mono hm) (λ_ _ h=>B h) ha (λ_=>rfl)<|λ_=>rfl) (λ_ _ _ _ _=>.bad λ_ _ _=>.ended ..) (λ_ _ _=>.ended ..)
def pA{b}{ops:Array Oper}{i}{t:List Nat}{k:List Item}{o}(B:J.3=r? ops (i::t)::k)(O:ops[i]?=y? o)(V:sb o (cm ops J.2)=t?)(x) :
  ky I b t? J U x? x=match J.7,o.2 with
   |some l,.defer c=>kx I t? J U x? (do dh l (<-cH J.eval c o.3);pure .skip) x
   |_,_=>kx I t? J U x? (c7 J.eval o) x:=by
 unfold ky;simp only[B,O,N!,I!];rw[if_pos V];unfold bM.oper;simp only[pi,B,O];rfl
def P4{ok}(hX:nj I C x7 x6)(hS:eD I C U (J::x2) (x1::x4)):Bt I U z9 ok C (ky I t? t? J x2 x?)<|ky I z9 t? x1 x4 x?:=by
 have hF:=hS.sX;have ht:=hF.3;have ad:=hF.6;have ao:=hF.1;let ⟨fn,tm,td,df,md,kd,rd⟩:=J;let ⟨B,V,au,ab,ae,ac,Y⟩:=x1;simp only at ht ad ao;subst ao;have O:∀{k k':List Item},eA _ k k'->eD I C U (⟨B,tm,k,df,md,kd,rd⟩::x2) (⟨B,V,k',ab,ae,ac,Y⟩::x4):=λhk=>hS.set (.refl C) (Ns hF hk) q? q? q? rfl;have aj:eD I C U (⟨B,tm,td,df,.returning,kd,rd⟩::x2) (⟨B,V,au,ab,.returning,ac,Y⟩::x4):=hS.set (.refl C) (YP hF .returning) q? q? q? rfl;have al:∀x,eI _ x7 x->VR C _ _:=λx hx=>hF.eval hX.4 x hx
 cases ht with
 |nil=>
  cases ad with
  |none=>exact .stay aj (λ_=>rfl)<|λ_=>rfl|some hl=>exact sH i! hS hl x? (λ_ h=>by cases h) (λ_=>rfl)<|λ_=>rfl
 |cons hi hk=>
  rename_i k k'
  cases hi with
  |Ie y=>exact .bad λ_ _ _=>.ended _ _ _|nW y=>exact .stay (O<|.cons (.Ie y)<|.cons (.nW y) hk) (λ_=>rfl)<|λ_=>rfl|inBlock i=>exact .stay (O hk) (λ_=>rfl)<|λ_=>rfl|inScope c hc=>exact .stay (O hk) (λ_=>rfl)<|λ_=>rfl|inLoop c hc=>exact .stay (O<|.cons (.code c hc)<|.cons (.inLoop c hc) hk) (λ_=>rfl)<|λ_=>rfl|inRangeFunc hl=>exact .bad λ_ _ _=>.ended _ _ _|beginRound=>
   refine .app hX.1 hS (s:=do rd.elim _ _;pure _) (s':=do Y.elim _ _;pure _) ?_ (λ_=>rfl) (λ_=>rfl)
   cases ad with
   |none=>exact .base<|.dm|some hl=>exact u_R<|GP hl
  |endRangeFunc hl=>
   rename_i l l'
   refine .run (PM (P:=I) hl) (E:=λ_ es=>bT I B es) (E':=λ_ es=>bT I B es)
    (K:=λr=>match r with|.ok ag w=>.go {frame:=⟨B,tm,(ag.map Item.code).toList++k,df,md,kd,rd⟩,callers:=x2,status:=.running,dying:=x?} w|.halt (.panic v) w=>.go {frame:=oC ⟨B,tm,.endRangeFunc l::k,df,md,kd,rd⟩ [{v,recovered:=f?}],callers:=x2,status:=.running,dying:=x?} w|.halt _ w=>.ended (.stuck "range over a function: no such loop" (oK I ⟨B,tm,.endRangeFunc l::k,df,md,kd,rd⟩)) w)
    (K':=λr=>match r with|.ok ag w=>.go {frame:=⟨B,V,(ag.map Item.code).toList++k',ab,ae,ac,Y⟩,callers:=x4,status:=.running,dying:=x?} w|.halt (.panic v) w=>.go {frame:=oC ⟨B,V,.endRangeFunc l'::k',ab,ae,ac,Y⟩ [{v,recovered:=f?}],callers:=x4,status:=.running,dying:=x?} w|.halt _ w=>.ended (.stuck "range over a function: no such loop" (oK I ⟨B,V,.endRangeFunc l'::k',ab,ae,ac,Y⟩)) w)
    (λx r es e=>by unfold ky;dsimp only;rw[e];rfl) (λx r es e=>by unfold ky;dsimp only;rw[e];rfl) (λ_ _ _ h=>pB h) ?_ ?_ ?_
   rintro aa a b hm ⟨rfl,ha⟩;refine .stay (hS.set hm (Ns (hF.mono hm)<|eA.append ?_<|hk.mono λ_ _ x=>x.mono hm) q? q? q? q?) (λ_=>rfl) (λ_=>rfl)
   cases a with
   |none=>exact .nil|some c=>exact .cons (.code c<|ha c q?) .nil
   intro aa v v' hm hv;have hf:=(hF.mono hm).raise (vs:=[{v,recovered:=f?}]) (vs':=[{v:=v',recovered:=f?}])<|.cons ⟨hv,q?,q?⟩ .nil;exact .stay (hS.set hm hf.1 hf.2.1 hf.2.2 (qE _ _)<|wL _ _) (λ_=>rfl) (λ_=>rfl);intro x w hx;cases x<;>first|exact hx.elim|exact .ended _ _ _
  |inRegion ops t ho=>
   cases t with
   |nil=>exact .stay (O hk) (λ_=>rfl)<|λ_=>rfl|cons i t=>
    have hy:cm ops V=cm ops tm:=funext<|nH ops hF.2;have hf:=hF.finish<|.undef C;have ak:=hS.set (.refl C) hf.1 hf.2.1 hf.2.2 (fY _ _)<|iU _ _
    cases W:ops[i]? with
    |none=>exact .stay ak (λx=>by unfold ky;dsimp only;rw[W];rfl) (λx=>by unfold ky;dsimp only;rw[W];rfl)|some o=>
     by_cases ai:sb o (cm ops tm)=t?;have ah:sb o (cm ops V)=t?:=by rwa[hy]
     have am:=hX.5 o<|ho o (by rw[<-ZL]at W;exact W! W);have ap:=I0 hX.1 hX.2 hX.3 al (λc=>⟨q?,q?⟩) o am
     cases ad with
     |none=>exact .app hX.1 hS ap (λx=>by rw[pA q? W ai]) (λx=>by rw[pA q? W ah])|some hl=>
      let ⟨od,oo,ot,op,oa,og⟩:=o;cases oo<;>first|exact .app hX.1 hS ap (λx=>pA q? W ai x)<|λx=>pA q? W ah x|skip
      rename_i c;refine .app hX.1 hS (.base ?_) (λx=>pA q? W ai x) (λx=>pA q? W ah x);refine dL (PG al ⟨am.1,?_⟩ _) λm' d d' av hd=>dL (BK (av.1 _ _ hl) hd) λ_ _ _ _ _=>.pure .skip;have h2:=am.2;let ⟨cc,ca,ct⟩:=c;cases cc<;>first|trivial|exact⟨h2.1,hX.3 h2.2⟩|exact h2.elim
     refine .stay ak (λx=>?_) (λx=>?_)
     all_goals
      unfold ky;dsimp only;rw[W];simp only[N!,I!]
      try rw[hy]
      rw[if_neg ai];rfl
  |code c hc=>
   cases c with
   |skip=>exact .stay (O hk) (λ_=>rfl)<|λ_=>rfl|label l=>exact .stay (O hk) (λ_=>rfl)<|λ_=>rfl|ret=>
    cases ad with
    |none=>exact .stay aj (λ_=>rfl)<|λ_=>rfl|some hl=>exact sH i! hS hl _ (λ_ h=>by cases h;trivial) (λ_=>rfl)<|λ_=>rfl
   |seq x y=>exact .stay (O<|.cons (.code x hc.1)<|.cons (.code y hc.2) hk) (λ_=>rfl)<|λ_=>rfl|cond c x y=>
    have hv:=al c (by have:=hc.1;cases c<;>first|exact this|exact this.elim);generalize hp:oT _ c=p at hv;generalize af:oT _ c=p' at hv;cases hv<;>first|exact .bad (λx _ _=>by unfold ky;dsimp only;rw[hp];exact .ended _ _ _)|skip
    rename_i t;refine .stay (O<|.cons (.code _ ?_) hk) (λx=>by unfold ky;dsimp only;rw[hp];rfl) (λx=>by unfold ky;dsimp only;rw[af];rfl);cases t;exact hc.2.2;exact hc.2.1
   |block i x=>exact .stay (O<|.cons (.code x hc)<|.cons (.inBlock i) hk) (λ_=>rfl)<|λ_=>rfl|loop x=>exact .stay (O<|.cons (.code x hc)<|.cons (.inLoop x hc) hk) (λ_=>rfl)<|λ_=>rfl|scope x=>exact .stay (O<|.cons (.code x hc)<|.cons (.inScope x hc) hk) (λ_=>rfl)<|λ_=>rfl|exit i=>
    have he:=BN i hk;generalize hp:c6 i k=p at he;generalize af:c6 i k'=p' at he
    cases he with
    |some an=>exact .stay (O an) (λx=>by unfold ky;dsimp only;rw[hp];rfl) (λx=>by unfold ky;dsimp only;rw[af];rfl)|none=>
     cases ad with
     |none=>exact .bad (λx _ _=>by unfold ky;dsimp only;rw[hp];exact .ended _ _ _)|some hl=>exact sH i! hS hl (y? _) (λ_ h=>by cases h;trivial) (λx=>by unfold ky;dsimp only;rw[hp];rfl) (λx=>by unfold ky;dsimp only;rw[af];rfl)
   |goto l=>
    have he:=AQ l hk;generalize hp:c5 l k=p at he;generalize af:c5 l k'=p' at he
    cases he with
    |some an=>exact .stay (O an) (λx=>by unfold ky;dsimp only;rw[hp];rfl) (λx=>by unfold ky;dsimp only;rw[af];rfl)|none=>
     cases ad with
     |none=>exact .bad (λx _ _=>by unfold ky;dsimp only;rw[hp];exact .ended _ _ _)|some hl=>exact sH i! hS hl (y? _) (λ_ h=>by cases h;trivial) (λx=>by unfold ky;dsimp only;rw[hp];rfl) (λx=>by unfold ky;dsimp only;rw[af];rfl)
   |rangeFunc f ps a x=>
    refine .run (Ik hF.2 hc.2.1 hc.2.2 ad)
     (K:=λr=>match r with|.ok (l,mark) w=>kx I t? ⟨B,tm,.inRangeFunc l::k,mark++df,md,kd,rd⟩ x2 x? _ w|.halt _ w=>.ended _ w)
     (K':=λr=>match r with|.ok (l,mark) w=>kx I t? ⟨B,V,.inRangeFunc l::k',mark++ab,ae,ac,Y⟩ x4 x? _ w|.halt _ w=>.ended _ w)
     (λx r es e=>by unfold ky;dsimp only;rw[e];rfl) (λx r es e=>by unfold ky;dsimp only;rw[e];rfl) (λ_ _ _ h=>pB h) ?_ (λ_ _ _ _ _=>.bad λ_ _ _=>.ended _ _ _) (λ_ _ _=>.ended _ _ _)
    rintro aa ⟨l,mk⟩ ⟨l',mk'⟩ hm ⟨aq,aw⟩
    have ar:ic aa ⟨B,tm,.inRangeFunc l::k,mk++df,md,kd,rd⟩ ⟨B,V,.inRangeFunc l'::k',mk'++ab,ae,ac,Y⟩:=
     ⟨q?,hF.2.mono hm,.cons (.inRangeFunc aq)<|hk.mono λ_ _ y=>y.mono hm,aw.append<|(hF.mono hm).4,(hF.mono hm).5,(hF.mono hm).6⟩
    refine .app (hX.mono hm).1 (hS.set hm ar q? q? q? q?) (.base<|dL (rq (ar.eval (hX.mono hm).4 f (by have:=hc.1;cases f<;>first|exact this|exact this.elim))<|by simpa[oT]using fh.one (VR.O5 (Sb.yield aq) (.nil aa)<|.nil aa)) λm' d d' hl hd=>?_) (λ_=>rfl) (λ_=>rfl);exact tW ((hX.mono hm).1.mono hl) hd.1.1 hd.2 hd.1.2
   |region i ops d=>
    cases d with
    |false=>exact .stay (O<|.cons (.inRegion ops _ hc) hk) (λ_=>rfl)<|λ_=>rfl|true=>
     refine .run (RA:=FY) (t:=choose<|.order B i) (t':=choose _) (E:=λ_ _=>#[]) (E':=λ_ _=>#[])
      (K:=λr=>match r with|.ok t w=>.go {frame:=⟨B,tm,.inRegion ops (sc (I.follows .mixedOrders) ops t)::k,df,md,kd,rd⟩,callers:=x2,status:=.running,dying:=x?} w|.halt _ w=>.ended (.stuck "order" (oK I ⟨B,tm,.code (.region i ops t?)::k,df,md,kd,rd⟩)) w)
      (K':=λr=>match r with|.ok t w=>.go {frame:=⟨B,V,.inRegion ops (sc (I.follows .mixedOrders) ops t)::k',ab,ae,ac,Y⟩,callers:=x4,status:=.running,dying:=x?} w|.halt _ w=>.ended (.stuck "order" (oK I ⟨B,V,.code (.region i ops t?)::k',ab,ae,ac,Y⟩)) w)
      (.choose λn=>.pure q?) (λx r es e=>?_) (λx r es e=>?_) (λ_ _ _ _ e h=>by simp at h) ?_ (λ_ _ _ _ _=>.bad λ_ _ _=>.ended _ _ _) (λ_ _ _=>.ended _ _ _)
     have q:(choose<|.order B i).run I x=r:=by rw[<-k6 I _ x #[],e]
     rw[uU,<-q];rfl;have q:(choose<|.order B i).run I x=r:=by rw[<-k6 I _ x #[],e]
     rw[uU,<-q];rfl;intro aa a b hm rfl;exact .stay (hS.set hm (Ns (hF.mono hm)<|.cons (.inRegion ops _<|hm.5▸hc)<|hk.mono λ_ _ y=>y.mono hm) q? q? q? q?) (λ_=>rfl) (λ_=>rfl)
   |refuse y=>exact hc.elim
def Bt.eq{ok}{g g':w?->GStep}(F:Bt I U x6 ok C y8 y9)(h:∀x,g x=y8 x)(B:∀x,g' x=y9 x):Bt I U x6 ok C g g':=by rwa[funext h,funext B]
def qK{ok}(hX:nj I C x7 x6)(hS:eD I C U (J::x2) (x1::x4))(hd:DR C z7 z8)(hn:∀x y z,z7.1≠.builtin .close x y z):Bt I U z9 ok C (cf I J x2 x? z7)<|cf I x1 x4 x? z8:=by
 have aa:=tW hX.1 hd.1 (by
  intro bb x y z e;have O:=hd.1;rw[e]at O;revert O;generalize z8.1=t';intro O;cases O
  exact hn x y z e) hd.2
 have V:=hS.sX.5;have ab:=Dn hd
 have ac:((x1.5 matches .panicking _):Bool)=(J.5 matches .panicking _):=by revert V;generalize J.5=q;generalize x1.5=q';intro h;cases h<;>rfl
 by_cases hc:((z7.1 matches .nil)&&(J.5 matches .panicking _))=t?;exact .bad λx _ _=>by rw[show cf I J x2 x? z7 x=_ from if_pos hc];exact .ended _ _ _
 refine .run aa (E:=λr es=>bT I J.1 (match r with|.halt .blocked _|.halt .waiting _=>#[]|_=>es)) (E':=λr es=>bT I x1.1 (match r with|.halt .blocked _|.halt .waiting _=>#[]|_=>es)) (λx r es e=>by rw[show cf I J x2 x? z7 x=_ from if_neg hc,e];rfl)
  (λx r es e=>by rw[show cf I x1 x4 x? z8 x=_ from if_neg λh=>hc<|(congr (congrArg and ab) ac).symm.trans h,e];rfl) (λB r es h=>pB<|by split<;>simp_all) ?_ ?_ ?_
 intro B a a' hm ha;have Y:=hS.mono hm
 cases ha with
 |enter hf W ha=>exact .stay (Y.push (GD ((hX.1.mono hm).3 _ hf) W ha _ _) q?<|.inr q?) (λ_=>rfl)<|λ_=>rfl|round hl O ha W=>rename_i l l' f t t' a c;have ad:ic B (oN l f t a c .deferred)<|oN l' f t' a c .deferred:=⟨q?,O,.cons (.code _ ha)<|.cons .beginRound<|.cons (.code _ W) .nil,.nil,.run,.some hl⟩;exact .stay (Y.push ad q?<|.inr q?) (λ_=>rfl) (λ_=>rfl)
 |recover=>
  have O:=xI Y;generalize hq:J.5=q at V;generalize ae:x1.5=q' at V
  cases V with
  |run|panicking=>exact .stay Y (λ_=>rfl)<|λ_=>rfl|returning=>
   generalize hp:bN _ x2=p at O;generalize af:bN _ x4=p' at O
   cases O with
   |none=>exact .stay Y (λ_=>rfl)<|λ_=>rfl|some hx=>exact .stay hx.2 (λ_=>rfl)<|λ_=>rfl
 |_=>exact .stay Y (λ_=>rfl)<|λ_=>rfl
 intro B v v' hm hv;have hf:=(hS.sX.mono hm).raise (vs:=[{v,recovered:=f?}]) (vs':=[{v:=v',recovered:=f?}])<|.cons ⟨hv,q?,q?⟩ .nil;exact .stay (hS.set hm hf.1 hf.2.1 hf.2.2 (qE ..)<|wL ..) (λ_=>rfl) (λ_=>rfl);intro x w hx
 cases x with
 |throw y=>exact .throw ..|stuck y=>exact .ended ..|unsupported u=>exact .ended ..|_=>exact hx.elim
def Jn{ok}(hX:nj I C x7 x6)(hS:eD I C U (J::x2) (x1::x4))(hm:J.5≠.run)(hn:¬AtClose J)(B:ok->x2=[door I]->J.5≠.run->J.4=[]->J.7=x?->False):Bt I U z9 ok C (bQ I t? J x2 x?)<|bQ I z9 x1 x4 x?:=by
 have hF:=hS.sX;have ab:=hF.4;have V:=hF.5;have ac:=hF.1;unfold AtClose at hn;let ⟨fn,tm,td,df,md,kd,rd⟩:=J;let ⟨O,ad,ae,aq,af,ag,ah⟩:=x1;simp only at ab V hm hn B ac;subst ac
 cases ab with
 |cons hd ai=>
  rename_i d d' ds aj;have ak:eD I C U (⟨O,tm,td,ds,md,kd,rd⟩::x2) (⟨O,ad,ae,aj,af,ag,ah⟩::x4):=hS.set (.refl C) ⟨hF.1,hF.2,hF.3,ai,V,hF.6⟩ q? q? q? rfl;have ht:=hd.1;let ⟨dt,da⟩:=d;let ⟨ar,au⟩:=d';simp only at ht
  cases ht with
  |collected am=>
   rename_i r r';refine .run (Dc am) (λx r es e=>by unfold bQ;dsimp only;rw[e];dsimp only) (λx r es e=>by unfold bQ;dsimp only;rw[e];dsimp only) (λ_ _ _ h=>pB h) (λal a a' Y ha=>?_) (λ_ _ _ _ _=>.bad λ_ _ _=>?_) (λ_ _ _=>?_)<;>try exact .ended _ _ _
   exact .stay (hS.set Y (g:=⟨O,tm,td,a++ds,md,kd,rd⟩) (g':=⟨O,ad,ae,a'++aj,af,ag,ah⟩) ⟨hF.1,hF.2.mono Y,(hF.mono Y).3,ha.append<|ai.mono λ_ _ x=>x.mono Y,V.mono Y,(hF.mono Y).6⟩ q? q? q? q?) (λ_=>rfl) (λ_=>rfl)
  |nil=>exact(qK hX ak ⟨.nil,hd.2⟩<|λ_ _ _ h=>by cases h).eq (λ_=>rfl)<|λ_=>rfl|fn hf=>exact(qK hX ak ⟨.fn hf,hd.2⟩<|λ_ _ _ h=>by cases h).eq (λ_=>rfl)<|λ_=>rfl|builtin x y z av=>exact absurd ⟨hm,x,y,z,_,_,q?⟩ hn|mark x y z an=>refine .bad λx _ hw=>?_;obtain⟨q,ap,e1⟩:=PB (P:=I) an hw;rw[<-k6 I _ x #[]]at e1;unfold bQ;dsimp only;rw[e1];exact Sw.after (.ended _ _ _) _
 |nil=>
  cases V with
  |run=>exact absurd q? hm|returning=>
   cases W:I.2[O]? with
   |none=>exact .ret hS (λo e h=>B o e i! q? h) (hF.2.getD 0) (λx=>by unfold bQ;dsimp only;rw[W]) (λx=>by unfold bQ;dsimp only;rw[W])|some f=>
    refine .run (nG hF.2) (λx r es e=>by unfold bQ;dsimp only;rw[W];dsimp only;rw[e];dsimp only) (λx r es e=>by unfold bQ;dsimp only;rw[W];dsimp only;rw[e];dsimp only) (λ_ _ _ h=>pB h)
     (λal a a' Y ha=>?_) (λ_ _ _ _ _=>.bad λ_ _ _=>?_) (λx _ _=>?_)
    exact .ret (hS.mono Y) (λo e h=>B o e i! q? h) ha (λ_=>rfl) (λ_=>rfl);exact .ended _ _ _
    cases x<;>exact .ended _ _ _
  |panicking ao=>
   have kO:∀{q q':Frame},ic C q q'->oB I q=f?/\oB I q'=f?:=by
    intro q q' hq;have:=hq.3;unfold oB;revert this;generalize q.3=l;generalize q'.3=l';intro ht
    cases ht with
    |nil=>constructor <;>(split<;>first|rfl|simp_all)
    |cons hi _=>cases hi <;>(constructor <;>(split<;>first|rfl|simp_all))
   have aa:=kO hF
   cases hS with
   |one hf h1 h2 h3=>exact .low (λo=>B o q? i! q? h3) (λx=>by unfold bQ;dsimp only;rw[aa.1];rfl)|cons hf h1 h2 h3=>have hr:=h3.sX.raise ao;exact .stay (h3.set (.refl C) hr.1 hr.2.1 hr.2.2 (qE ..)<|wL ..) (λx=>by unfold bQ;rw[aa.1];rfl) (λx=>by unfold bQ;rw[aa.2];rfl)
def I6{ok}(hX:nj I C x7 x6)(W:eD I C U (J::x2) (x1::x4))(hn:¬AtClose J)(O:ok->x2=[door I]->J.5≠.run->J.4=[]->J.7=x?->False):Bt I U z9 ok C (bM I t?<|G J x2)<|bM I z9<|G x1 x4:=by
 have B:=W.sX.5;generalize Y:J.5=q at B;generalize V:x1.5=q' at B
 cases B with
 |run=>exact(P4 hX W).eq (λx=>by unfold bM;simp only[G,Y]) (λx=>by unfold bM;simp only[G,V])|returning|panicking=>exact(Jn hX W (by rw[Y];simp) hn O).eq (λx=>by unfold bM;simp only[G,Y]) (λx=>by unfold bM;simp only[G,V])
def Ci(V:nj I C x7 x6)(W:eD I C U (J::x2) (x1::x4))(Y:¬AtClose J)(B:x2=[door I]->J.5≠.run->J.4=[]->J.7=x?->False)(hw:WR C x0 x3)(O:Al x0 x3){main'}
  (h:bM I t? (G J x2) x0=.go (G y5 y7) x8 x5):tF I C U (bM I main' (G x1 x4) x3) x3 y5 y7 x8:=(I6 (ok:=True) V W Y λ_=>B).o trivial hw O h
def AO{main'}(B:nj I C x7 x6)(O:eD I C U (J::x2) (x1::x4))(V:¬AtClose J):Bt I U main' False C (bM I t?<|G J x2)<|bM I main'<|G x1 x4:=I6 B O V False.elim
def Xk(B:nj I C x7 x6)(O:eD I C U (J::x2) (x1::x4))(V:¬AtClose J)(W:WR C x0 x3)
  (h:bM I t? (G J x2) x0=.go (G y5 y7) x8 x5):AK I (bM I t?<|G J x2) x0 y5 y7 x8:=
 (AO (main':=t?) B O V).loc (R:=λx x5=>.go _ x x5) ⟨Dp,λ_ _ _=>⟨_,q?⟩,λh=>h.1,Zah,λh=>FF _ _ _ _ _ _ _ _ _ h,λa b c h=>Qn B.1.4 a b c h⟩ W h
def TS(B:nj I C x7 x6)(O:eD I C U (J::x2) (x1::x4))(V:¬AtClose J)(W:WR C x0 x3):rA I<|bM I t? (G J x2) x0:=(AO (main':=t?) B O V).outs W
def OZ(O:nj I C x7 x6)(V:eD I C U (J::x2) (x1::x4))(W:¬AtClose J)(Y:WR C x0 x3)(B:Al x0 x3){main'}:V4 I C U (bM I t? (G J x2) x0) (bM I main' (G x1 x4) x3) x3:=(AO O V W).via Y B
def xU(hX:nj I C x7 x6)(hS:eD I C U (J::x2) (x1::x4))(hn:¬AtClose J)(hw:WR C x0 x3)(W:Al x0 x3){main' k b}
  (h:bM I t? (G J x2) x0=.comm x9 k b y6 x8 x5):OG I C U (bM I main' (G x1 x4) x3) x3 x9 k b y6 x8:=by
 have hv:=OZ hX hS hn hw W (main':=main');rw[h]at hv;obtain⟨ae,X,X',f,c,f',c',s,s',w2,af,Y,e2,hl,hE,aa,hs,ab,B,hk,hx⟩|hp:=hv
 rw[e2];generalize hr:kx I t? f c x? s w2=r at Y;cases r<;>simp only[mv,GStep.comm.injEq,reduceCtorEq]at Y;let ⟨rfl,rfl,rfl,rfl,rfl,_⟩:=Y;obtain⟨ac,ad,m₂,O,V,k',w3,ag,rfl,g1,g0,g2,g3,g4,g5,g6,g7⟩:=LF hE aa hs ab B hr;rw[g1];exact⟨ac,ad,m₂,O,V,k',w3,_,q?,q?,g0.imp (λx=>hl.7▸x) id,hl.trans g2,g3,g4,g5,hk.trans hl g2 g6,vQ g2 hx g7⟩
 cases hp
def RS(hX:nj I C x7 x6)(hS:eD I C U (J::x2) (x1::x4))(hn:¬AtClose J)(hw:WR C x0 x3)(W:Al x0 x3){main'}
  (h:bM I t? (G J x2) x0=.spawn x9 v1 x8 x5):Oj I C U (bM I main' (G x1 x4) x3) x3 x9 v1 x8:=by
 have hv:=OZ hX hS hn hw W (main':=main');rw[h]at hv;obtain⟨ae,X,X',f,c,f',c',s,s',w2,af,Y,e2,hl,hE,aa,hs,ab,B,hk,hx⟩|hp:=hv
 rw[e2];generalize hr:kx I t? f c x? s w2=r at Y;cases r<;>simp only[mv,GStep.spawn.injEq,reduceCtorEq]at Y;let ⟨rfl,rfl,rfl,_⟩:=Y;obtain⟨ac,ad,d,m₂,O,V,d',w3,ag,rfl,rfl,g1,g0,g2,g3,g4,g5,g6,g7⟩:=KI hE aa hs ab B hr;rw[g1];exact⟨ac,ad,d,m₂,O,V,d',w3,_,q?,q?,q?,hl.7▸g0,hl.trans g2,g3,g4,g5,hk.trans hl g2 g6,vQ g2 hx g7⟩
 cases hp
def SL(B:nj I C x7 x6)(O:eD I C U (J::x2) (x1::x4))(V:¬AtClose J)(W:WR C x0 x3){k b}
  (h:bM I t? (G J x2) x0=.comm x9 k b y6 x8 x5):Km I (bM I t?<|G J x2) x0 x9 k b y6 x8:=
 (AO (main':=t?) B O V).loc (R:=λx x5=>.comm x9 k b y6 x x5) ⟨LI,λ_ _ _=>⟨_,q?⟩,λh e=>noC h.3 e,nofun,λh=>noC (tT ..) h,λa b c h=>Ly B.1.4 a b c h⟩ W h
structure LS where
 fr:Frame
 cs:List Frame
 w:w?
def LS.m(S:LS):Machine:=bV S.1 S.2 S.w
inductive IM(P:P?):LS->LS->Prop
 |go {fr cs w Aj Ak w₁ es}:bM P true (G fr cs) w=.go (G Aj Ak) w₁ es->IM P ⟨fr,cs,w⟩ ⟨Aj,Ak,w₁⟩|send {fr cs w f0 c0 r v z w₁ es cap buf jx rcvd tm}:bM P true (G fr cs) w=.comm (G f0 c0) #[⟨.chan (some r),some v,z⟩] true .send w₁ es->w₁.1[r]?=some (.chan cap buf false jx rcvd tm)->buf.size<cap->
   IM P ⟨fr,cs,w⟩ ⟨f0.finish (cQ #[⟨.chan (some r),some v,z⟩] .send 0 undef false),c0,{w₁ with heap:=S? w₁.1 r (.chan cap (buf.push v) false (jx+1) rcvd tm)}⟩
def mw(hm:¬C.6)(B:eD I C U (J::x2) (x1::x4)):¬AtClose J:=by
 rintro⟨_,a,t,c,args,ds,e⟩;have h:=B.sX.4;rw[e]at h;revert h;generalize x1.4=l;intro h
 cases h with
 |@cons _ O _ _ V _=>
  let ⟨W,Y⟩:=O;have ht:=V.1
  cases ht with
  |builtin _ _ _ h=>exact hm h
abbrev KG:Array Goroutine:=#[{(default:Goroutine)with status:=.finished}]
abbrev vp:Rest:={timers:=#[],alone:=x?,slice:=x?}
def tJ{k b}(h:bM I t? (G J U) x0=.comm x9 k b y6 x3 x5):step I (bV J U x0)=(bP I vp KG 0 x9 k b y6 x3).1:=by unfold G at h;rw[step,cM,move_lone];simp[cA,bV,bK,h]
def G2(O:x9.3=.running\/x9.3=.blocked)(h:bM I t? (G J U) x0=.go x9 x3 x5):step I (bV J U x0)=.next (oneG x9 x3):=by unfold G at h;rw[step,cM,move_lone];obtain B|B:=O<;>simp[cA,bV,oneG,bK,h,B]
def Cv:∀(n:Nat){g:Goroutine}{w:w?},g.dyingOn I->∀fr cs w',bW I n (oneG g w)≠.next (bV fr cs w')
 |0,g,w,h,fr,cs,w',e=>by
  simp only[bW,qz,oneG,bV,Machine.mk.injEq]at e
  obtain⟨_,e,_⟩:=e
  obtain⟨_,d,J,_⟩:=h;have:=congrArg (λx=>x[0]?) e;simp only[T!,m9,m?]at this;rw[this]at J;cases J
 |n+1,g,w,h,fr,cs,w',e=>by
  obtain⟨g',w1,B,O⟩|⟨o,w1,B,U⟩:=step_dyingOn (w:=w) h
  simp only[bW,B]at e;exact Cv n O _ _ _ e;simp only[bW,B]at e;cases e
def Ei(n:Nat)(h:x9.3=.blocked)(fr:Frame)(cs:List Frame)(w':w?):bW I n (oneG x9 x0)≠.next (bV fr cs w'):=by
 intro e
 cases n with
 |zero=>simp only[bW,qz,oneG,bV,Machine.mk.injEq]at e;obtain⟨_,e,_⟩:=e;have:=congrArg (λx=>x[0]?) e;simp only[T!,m9,m?]at this;rw[this]at h;cases h
 |succ n=>
  obtain⟨f,c,s,B,off⟩:=x9;subst h;obtain⟨J,w1,O,U⟩:=endWith_ended x0 2 ..
  have:step I (oneG {frame:=f,callers:=c,status:=.blocked,dying:=B,offers:=off} x0)=.ended J w1:=by simp[step,cM,move,ask,askOn,oneG,runnable_eq,due,ahead,q8,List.range_succ,pure];rw[O]
  simp only[bW,this]at e;cases e
def wY{P:P?}{v z:v?}{f0:Frame}{c0:List Frame}{jx B:Nat}(O:x0.1[y1]?=y? (.chan y3 z0 f? jx B x6)) :
  (z0.size<y3/\(bP P vp KG 0 (G f0 c0) #[⟨.chan<|y? y1,y? v,z⟩] t? .send x0).1=.next (bV (f0.finish<|cQ #[⟨.chan<|y? y1,y? v,z⟩] .send 0 undef f?) c0 {x0 with heap:=S? x0.1 y1<|.chan y3 (z0.push v) f? (jx+1) B x6}))\/
  (¬z0.size<y3/\((∃g w2,g.3=.blocked/\(bP P vp KG 0 (G f0 c0) #[⟨.chan<|y? y1,y? v,z⟩] t? .send x0).1=.next (oneG g w2))\/∃o w2,(bP P vp KG 0 (G f0 c0) #[⟨.chan<|y? y1,y? v,z⟩] t? .send x0).1=.ended o w2)):=by
 by_cases hb:z0.size<y3;simp[bP,O,ways,ci,hb,choose,k5,rz,bind,k9,pure,q6,bV,G];refine .inr ⟨hb,?_⟩
 cases J:waitingAt vp #[⟨.chan<|y? y1,y? v,z⟩] x0 with
 |none=>exact .inr ⟨_,_,by simp[bP,O,ways,ci,hb,J];exact⟨q?,q?⟩⟩|some w2=>exact .inl ⟨{G f0 c0 with status:=.blocked,offers:=y? (#[⟨.chan<|y? y1,y? v,z⟩],.send)},w2,rfl,by simp[bP,O,ways,ci,hb,J,oneG]⟩
def KX{z:v?}(V:∀r,z5=.chan (y? r)->False) :
  ((∃g w2,g.3=.blocked/\(bP I vp KG 0 (G J U) #[⟨z5,y? z6,z⟩] t? .send x0).1=.next (oneG g w2))\/∃o w2,(bP I vp KG 0 (G J U) #[⟨z5,y? z6,z⟩] t? .send x0).1=.ended o w2):=by
 by_cases O:z5=.chan x?;subst O
 cases B:waitingAt vp #[⟨.chan x?,y? z6,z⟩] x0 with
 |none=>exact .inr ⟨_,_,by simp[bP,ways,B];exact⟨q?,q?⟩⟩|some w2=>exact .inl ⟨{G J U with status:=.blocked,offers:=y? (#[⟨.chan x?,y? z6,z⟩],.send)},w2,rfl,by simp[bP,ways,B,oneG]⟩
 cases z5 with
 |chan x=>
  cases x with
  |none=>exact absurd q? O|some r=>exact(V r q?).elim
 |_=>simp[bP]
def Open(m:Ren):Prop:=∀r r',m.2 r=y? r'->∃cap J jx B tm,m.10 r=y? (.chan cap J f? jx B tm)
def Fx(hX:nj I C x7 x6)(hm:¬C.6)(ho:Open C)(hS:eD I C U (J::x2) (x1::x4))(hw:WR C x0 x3)
  (h:bW I (y1+1) (bV J x2 x0)=.next (bV y5 y7 x8)):∃S,IM I ⟨J,x2,x0⟩ S/\bW I y1 S.m=.next (bV y5 y7 x8):=by
 have hn:=mw hm hS;have O:=TS hX hS hn hw;generalize hs:bM I t? _ x0=s at O
 cases O with
 |go g c w₁ es=>refine⟨⟨g,c,w₁⟩,.go hs,?_⟩;have:=cj (by unfold G at hs;rw[hs];rfl);simp only[bW,this]at h;exact h
 |ended o w₁ es=>have:=cd (by unfold G at hs;rw[hs];rfl);simp only[bW,this]at h;cases h
 |dies g w₁ es hd=>have:=G2 hd.1 hs;simp only[bW,this]at h;exact absurd h<|Cv y1 hd _ _ _
 |spawn g c d w₁ es=>let ⟨ab,V,W,_⟩:=align hw;let ⟨_,_,_,_,_,_,_,_,_,_,_,_,ac,_⟩:=RS (main':=t?) hX hS hn V W hs;exact absurd ac hm
 |comm g c k b sh w₁ es=>
  let ⟨ab,V,W,_⟩:=align hw;let ⟨f0,c0,Y,af,ag,k',ad,ah,e0,e1,e2,e3,e4,e5,e6,e7,e8⟩:=xU (main':=t?) hX hS hn V W hs;obtain⟨rfl,rfl,ch,v,z,rfl⟩:=e2.resolve_left hm;simp only[bW,tJ hs]at h
  have dead:((∃gg w2,q5 gg=.blocked/\(bP I vp KG 0 (G g c) #[⟨ch,y? v,z⟩] t? .send w₁).1=.next (oneG gg w2))\/∃o w2,(bP I vp KG 0 (G g c) #[⟨ch,y? v,z⟩] t? .send w₁).1=.ended o w2)->False:=by rintro(⟨gg,w2,hg,e⟩|⟨o,w2,e⟩);rw[e]at h;exact Ei y1 hg _ _ _ h;rw[e]at h;cases h
  by_cases hc:∃r,ch=.chan (y? r);obtain⟨r,rfl⟩:=hc
  have B:∃r',Y.2 r=y? r':=by
   revert e5;generalize k'.1=l;intro e5
   cases e5 with
   |@cons _ q _ _ hx _=>
    obtain⟨ai,aj,ak⟩:=q;have hv:=hx.1
    cases hv with
    |chan hb=>exact⟨_,hb⟩
  let ⟨r',B⟩:=B;rw[e7.9 hm]at B;let ⟨cap,al,jx,ae,tm,am⟩:=ho r r' B;have aa:=(e6.8 r _<|by rwa[e7.10]).1;obtain⟨hb,e⟩|⟨hb,e⟩:=wY (P:=I) (v:=v) (z:=z) (f0:=g) (c0:=c) aa
  rw[e]at h;exact⟨_,.send hs aa hb,h⟩;exact(dead e).elim;exact(dead<|KX λr e=>hc ⟨r,e⟩).elim
def LS.on(S:LS)(τ:Nat->Question->Nat):LS:=⟨S.1,S.2,tp S.w τ⟩
def DN(τ:Nat->Question->Nat)(w:w?):Prop:=∀i,i<w.3->τ i=w.2 i
def Fin(P:P?)(S:LS):Prop:=S.2=[door P]/\S.1.5≠.run/\S.1.4=[]/\S.1.7=x?
structure zQ(P:P?)(gl:F?)(st:Bool)(m:Ren)(T:List Frame)(S:LS)(fr':Frame)(cs':List Frame)(w':w?):Prop where
 ctx:nj P m gl st
 SN:¬m.6
 op:Open m
 stack:eD P m T (S.1::S.2) (fr'::cs')
 world:WR m S.w w'
def K4{c}(h:bV J c x0=bV x1 U x3):J=x1/\c=U/\x0=x3:=by simp only[bV,Machine.mk.injEq]at h;obtain⟨B,O,_⟩:=h;have:=congrArg (λx=>x[0]?) O;simp only[T!,m9,m?,Goroutine.mk.injEq]at this;exact⟨this.1,this.2.1,B⟩
variable {z2 z3:LS}
def LS.O8(h:z2.m=z3.m):z2=z3:=by obtain⟨f,c,w⟩:=z2;obtain⟨rfl,rfl,rfl⟩:=K4 h;rfl
def IM.next(h:IM I z2 z3):step I z2.m=.next z3.m:=by
 cases h with
 |go h=>exact cj (by unfold G at h;rw[h];rfl)|send h B hb=>
  have:=tJ h;obtain⟨_,e⟩|⟨J,_⟩:=wY (P:=I) (v:=_) (z:=_) (f0:=_) (c0:=_) B
  exact this.trans e;exact absurd hb J
def IM.loc(B:zQ I x7 x6 C U z2 J x2 x0)(h:IM I z2 z3):z2.w.3<=z3.w.3/\z3.w.2=z2.w.2/\∀τ,zb τ z2.w z3.w->IM I (z2.on τ) (z3.on τ):=by
 cases h with
 |go h=>obtain⟨V,W,Y⟩:=Xk B.1 B.4 (mw B.2 B.4) B.5 h;exact⟨V,W,λτ O=>by obtain⟨es,e⟩:=Y τ O;exact .go e⟩
 |send h hc hb=>obtain⟨V,W,Y⟩:=SL B.1 B.4 (mw B.2 B.4) B.5 h;exact⟨V,W,λτ O=>by obtain⟨es,e⟩:=Y τ O;exact .send e hc hb⟩
def Ren.put(m:Ren)(r:Nat)(o:Obj):Ren:={m with Li:=λx=>if x=r then y? o else m.10 x}
def Ren.qU(m:Ren)(r)(o):m.Le<|m.put r o:=⟨λ_ _ h=>h,λ_ _ h=>h,λ_ _ _=>Iff.rfl,λ_ h=>h,q?,q?,q?,q?,q?,q?,q?⟩
def WR.put(h:WR C x3 x8){r:Nat}{o:Obj}(ho:∃c b x s y t,o=.chan c b x s y t)(O:∃c b x s y t,x3.1[r]?=y? (.chan c b x s y t)):WR (C.put r o) {x3 with heap:=S? x3.1 r o} x8:=by
 obtain⟨c0,b0,x0,s0,y0,t0,O⟩:=O
 have ne:∀s s',C.1 s=y? s'->r≠s:=by intro s s' hb rfl;obtain⟨x,x',J,_,W⟩:=h.1 _ _ hb;rw[O]at J;cases J;cases W
 have get:∀s,r≠s->(S? x3.1 r o)[s]?=x3.1[s]?:=λs B=>Zd B;refine⟨λs s' hb=>?_,λs s' c e f Y e' f' hb J U hn=>?_,λs s' c e f Y e' f' hb J U hl=>?_,λs s' hb=>by simpa using h.4 s s' hb,(show C.G<=(S? x3.1 r o).size by simpa using h.5),h.6,h.7,λs x B=>?_,λs s' hb hl=>?_,λs B=>?_,λs i v hv=>?_⟩;obtain⟨x,x',J,U,W⟩:=h.1 s s' hb;exact⟨x,x',by rwa[get s<|ne s s' hb],U,W.mono<|Ren.qU C r o⟩;exact h.2 s s' _ _ _ _ _ _ hb (by rwa[<-get s<|ne s s' hb]) U hn;exact h.3 s s' _ _ _ _ _ _ hb (by rwa[<-get s<|ne s s' hb]) U hl;by_cases e:s=r;subst e;simp only[Ren.put,if_true,m?]at B;subst B;exact⟨by simp[lA O],ho⟩;simp only[Ren.put,e,if_false]at B;obtain⟨g1,g2⟩:=h.8 s x B;exact⟨by rwa[get s<|qs e],g2⟩;obtain⟨c,e,f,V⟩:=h.9 s s' hb hl;exact⟨c,e,f,by rwa[get s<|ne s s' hb]⟩;obtain⟨J,c,f,V⟩:=h.10 s B;refine⟨J,c,f,?_⟩;rw[get s];exact V;intro rfl;rw[O]at V;cases V;obtain⟨s',hb,hp⟩:=h.11 s i v hv;exact⟨s',hb,λc e f Y e' f' x g1=>hp c e f Y e' f' x<|by rwa[<-get s<|ne s s' hb]⟩
def zQ.own(O:zQ I x7 x6 C U z2 J x2 x0)(hf:¬Fin I z2)(h:IM I z2 z3):∃B ab ac w₁,zQ I x7 x6 B U z3 ab ac w₁:=by
 obtain⟨ai,ad,ae,_⟩:=align O.5;have hn:=mw O.2 O.4
 cases h with
 |go h=>let ⟨B,f,c,V,es,_,h1,h2,h3,h4,_⟩:=Ci (main':=t?) O.1 O.4 hn (λa b c d=>hf ⟨a,b,c,d⟩) ad ae h;exact⟨B,f,c,V,O.1.mono h1,by rw[h1.7];exact O.2,λr r' hr=>by rw[h4.9 O.2]at hr;rw[h4.10];exact O.3 r r' hr,h2,h3⟩
 |@send _ _ _ f0 c0 r v z w₁ es cap af jx aa tm h hc hb=>
  let ⟨f1,c1,B,ag,ah,k',V,aj,e0,_,_,h1,h2,h3,h4,h5,_⟩:=xU (main':=t?) O.1 O.4 hn ad ae h
  obtain⟨rfl,rfl⟩:f0=f1/\c0=c1:=by have:=congrArg q3 e0;exact⟨this,congrArg q0 e0⟩
  have W:=(h2.sX).finish<|VR.undef B;refine⟨B.put r<|.chan cap (af.push v) f? (jx+1) aa tm,ag.finish undef,ah,V,(O.1.mono h1).mono<|Ren.qU ..,?_,?_,?_,?_⟩;show ¬B.6;rw[h1.7];exact O.2;intro s s' Y;by_cases e:s=r;exact⟨cap,af.push v,jx+1,aa,tm,by simp[Ren.put,e]⟩;have Y:B.2 s=y? s':=Y;rw[h5.9 O.2]at Y;let ⟨a,b,c,d,e',hx⟩:=O.3 s s' Y;exact⟨a,b,c,d,e',by simp only[Ren.put,e,if_false];rwa[h5.10]⟩;exact(h2.set (.refl B) W.1 W.2.1 W.2.2 (fY ..)<|iU ..).mono<|Ren.qU ..;exact h4.put ⟨_,_,_,_,_,_,q?⟩ ⟨_,_,_,_,_,_,hc⟩
def PL:Extern.next "fmt's door" = x?:=by rfl
def Qy(v)(w):∃o w',step I (bV ((door I).finish v) [] w)=.ended o w':=by
 have:bM I t? {frame:=(door I).finish v,callers:=[],status:=.running,dying:=x?} w=.ended (.stuck ("no extern row " ++ "fmt's door")<|oK I<|(door I).finish v) w:=by simp only[door,oS,bM,ky,PL,Option.elim]
 exact⟨_,_,cd q?⟩
def KF(c)(w):∃o w',step I (bV ((door I).raise c) [] w)=.ended o w':=by
 have B:oB I ((door I).raise c)=t?:=by simp[door,oC,oB]
 have:∃o,bM I t? {frame:=(door I).raise c,callers:=[],status:=.running,dying:=x?} w=.ended o w:=by
  have hm:((door I).raise c).5=.panicking c:=rfl;have J:((door I).raise c).4=[]:=rfl
  exact⟨_,by
   unfold bM;unfold bQ;simp only[hm,J,B,if_true]
   rfl⟩
 let ⟨o,this⟩:=this;exact⟨_,_,cd (by rw[this];rfl)⟩
def Fi(hS:eD I C U (z2.1::z2.2) (J::x2))(hf:Fin I z2)(n)(hc:z3.2≠[]):bW I (n+1) z2.m≠.next z3.m:=by
 obtain⟨fr,cs,w⟩:=z2;obtain⟨h1,h2,V,h4⟩:=hf;simp only at h1 h2 V h4 hc hS;subst h1
 have Y:=by cases hS with|one _ h _ _=>exact h
                                   |cons _ _ _ h=>cases h
 intro e
 have fin:(∃v w2,step I (bV fr [door I] w)=.next (bV ((door I).finish v) [] w2))\/(∃v w2,step I (bV fr [door I] w)=.next (bV ((door I).raise v) [] w2))\/∃o w2,step I (bV fr [door I] w)=.ended o w2:=by
  cases hm:fr.5 with
  |run=>exact absurd hm h2|panicking ch=>
   by_cases W:fr.catches I=t?;refine .inr (.inr ?_)
   have:∃o,bM I t? {frame:=fr,callers:=[door I],status:=.running,dying:=x?} w=.ended o w:=by
    exact⟨_,by
     unfold bM;unfold bQ;simp only[hm,V,W,if_true]
     rfl⟩
   let ⟨o,this⟩:=this;exact⟨_,_,cd (by rw[this];rfl)⟩;refine .inr (.inl ⟨ch,w,cj ?_⟩);unfold bM;unfold bQ;simp[hm,V,W]
  |returning=>
   cases hp:I.2[fr.1]? with
   |none=>refine .inl ⟨fr.2.getD 0 undef,w,cj ?_⟩;simp[bM,bQ,bO,hm,V,Y,hp]
   |some fn=>
    cases hr:(c3 fn fr.2).run I w with
    |ok v w2=>refine .inl ⟨v,w2,cj ?_⟩;simp[bM,bQ,bO,hm,V,Y,hp,hr]
    |halt x w2=>
     refine .inr (.inr ?_)
     have:∃o,(bM I t? {frame:=fr,callers:=[door I],status:=.running,dying:=x?} w).bare=.ended o w2:=by cases x<;>exact⟨_,by simp[bM,bQ,bO,hm,V,Y,hp,hr];rfl⟩
     let ⟨o,this⟩:=this;exact⟨_,_,cd this⟩
 have two:∀(f:Frame)(w2:w?),(∃o w',step I (bV f [] w2)=.ended o w')->step I (bV fr [door I] w)=.next (bV f [] w2)->False:=by
  intro f w2 ⟨o,w3,hh⟩ O;have B:bW I _ (bV fr _ w)=.next _:=e;simp only[bW,O]at B
  cases n with
  |zero=>simp only[bW,qz]at B;exact hc (K4 B).2.1.symm
  |succ n=>simp only[bW,hh]at B;cases B
 obtain⟨v,w2,O⟩|⟨v,w2,O⟩|⟨o,w2,O⟩:=fin
 exact two _ _ (Qy v w2) O;exact two _ _ (KF v w2) O;have B:bW I _ (bV fr _ w)=.next _:=e;simp only[bW,O]at B;cases B
def ns(P:P?)(Stop:LS->Prop)(S:LS):Prop:=∀τ,DN τ S.w->∃n B,bW P n (S.on τ).m=.next (LS.m B)/\Stop B/\B.2≠[]
def C5(Stop:LS->Prop):Prop:=∀S τ,Stop (S.on τ)->Stop S
def qu(P:P?)(Stop:LS->Prop)(B S:LS):Prop:=¬Stop S/\∃τ,DN τ S.w/\IM P (S.on τ) B
def yf(P:P?)(S:LS):Prop:=∃gl st m T fr' cs' w',zQ P gl st m T S fr' cs' w'
def WR.tp(h:WR C x0 x3)(τ:Nat->Question->Nat):WR C (tp x0 τ) x3:=⟨h.1,h.2,h.3,h.4,h.5,h.6,h.7,h.8,h.9,h.10,h.11⟩
end
section
variable {f:P?}{g i:LS}
def zQ.on{m T}{gl:F?}{st fr' cs' w'}(h:zQ f gl st m T g fr' cs' w')(τ):zQ f gl st m T (g.on τ) fr' cs' w':=⟨h.1,h.2,h.3,h.4,h.5.tp τ⟩
def N8(w):DN w.2 w:=λ_ _=>rfl
def ZaE(S:LS)(τ τ'):(S.on τ).on τ'=S.on τ':=rfl
def ns.step{Stop}(Y:C5 Stop)(B:yf f i)(hH:ns f Stop i)(hn:¬Stop i)(τ)(O:DN τ i.w):¬Fin f i/\∃U,IM f (i.on τ) U:=by
 obtain⟨gl,st,m,T,fr',cs',w',B⟩:=B;obtain⟨n,V,J,h2,h3⟩:=hH τ O
 cases n with
 |zero=>simp only[bW,qz]at J;obtain rfl:=LS.O8 J;exact absurd (Y _ _ h2) hn
 |succ n=>refine⟨λW=>Fi (B.on τ).4 ⟨W.1,W.2⟩ n h3 J,?_⟩;obtain⟨U,g,_⟩:=Fx (B.on τ).1 B.2 B.3 (B.on τ).4 (B.on τ).5 J;exact⟨U,g⟩
def yf.own{P}(J:yf P g)(O:¬Fin P g)(h:IM P g i):yf P i:=by obtain⟨gl,st,m,T,fr',cs',w',J⟩:=J;obtain⟨B,f,c,w,h⟩:=J.own O h;exact⟨gl,st,B,T,f,c,w,h⟩
def yf.on(B:yf f g)(τ):yf f<|g.on τ:=by obtain⟨gl,st,m,T,fr',cs',w',B⟩:=B;exact⟨gl,st,m,T,fr',cs',w',B.on τ⟩
def Cf(B:yf f g)(h:IM f g i):g.w.3<=i.w.3/\i.w.2=g.w.2/\∀τ,zb τ g.w i.w->IM f (g.on τ) (i.on τ):=by obtain⟨gl,st,m,T,fr',cs',w',B⟩:=B;exact h.loc B
def ns.own{Stop}(hB:C5 Stop){O}(hs:yf f g)(hH:ns f Stop g)(h:qu f Stop O g):yf f O/\ns f Stop O:=by
 obtain⟨hn,τ,U,ho⟩:=h;refine⟨(hs.on τ).own (λx=>((hH.step hB hs hn τ U).1) ⟨x.1,x.2⟩) ho,λJ B=>?_⟩;obtain⟨h1,Y,h3⟩:=Cf (hs.on τ) ho;have h1:g.w.3<=O.w.3:=h1;have Y:O.w.2=τ:=Y
 have V:=h3 J λi _ b=>by rw[B i b,Y];rfl
 rw[ZaE]at V
 have hb:DN J _:=λi hi=>by rw[B i<|AT hi h1,Y];exact U i hi
 let ⟨n,W,g1,g2,g3⟩:=hH J hb
 cases n with
 |zero=>simp only[bW,qz]at g1;obtain rfl:=LS.O8 g1;exact absurd (hB _ _ g2) hn
 |succ n=>simp only[bW,V.next]at g1;exact⟨n,W,g1,g2,g3⟩
def WG{J:Type}{r}{x:J}(h:¬Acc r x):∃y,r y x/\¬Acc r y:=by by_cases B:∃y,r y x/\¬Acc r y;exact B;exact absurd (Acc.intro x λy O=>ZX λU=>B ⟨y,O,U⟩) h
open Classical in
def ns.acc{P:P?}{Stop:LS->Prop}(hB:C5 Stop)(hs:yf P g)(hH:ns P Stop g):Acc (qu P Stop) g:=by
 apply ZX;intro Y;let X:={g:LS // yf P g/\ns P Stop g/\¬Acc (qu P Stop) g}
 have nx:∀x:X,∃y:X,qu P Stop y.1 x.1:=by rintro⟨x,W,U,h3⟩;obtain⟨y,hr,hy⟩:=WG h3;have:=U.own hB W hr;exact⟨⟨y,this.1,this.2,hy⟩,hr⟩
 let f:=λx=>pp<|nx x;let s:Nat->X:=λn=>Nat.rec ⟨g,hs,hH,Y⟩ (λ_ x=>f x) n;have B:∀n,qu P Stop (s<|n+1).1 _:=λn=>(λx=>p0<|nx x) _
 have one:∀n,(s n).1.w.3<=(s<|n+1).1.w.3/\(∀i,i<(s n).1.w.3->(s<|n+1).1.w.2 i=(s n).1.w.2 i):=by intro n;obtain⟨_,τ,O,ho⟩:=B n;obtain⟨W,U,_⟩:=Cf ((s n).2.1.on τ) ho;exact⟨W,λi J=>by rw[U];exact O i J⟩
 have mono:∀k n,(s n).1.w.3<=(s<|n+k).1.w.3/\(∀i,i<(s n).1.w.3->(s<|n+k).1.w.2 i=(s n).1.w.2 i):=by
  intro k;induction k with
  |zero=>exact λn=>⟨Zu _,λ_ _=>rfl⟩
  |succ k ih=>intro n;have a:=ih n;have b:=one<|n+k;refine⟨ZE a.1 b.1,λi J=>?_⟩;have:=b.2 i<|AT J a.1;exact this.trans<|a.2 i J
 let τ:=λi=>if h:∃n,i<(s n).1.w.3 then(s<|pp h).1.w.2 i else λ_=>0
 have O:∀n i,i<(s n).1.w.3->τ i=(s n).1.w.2 i:=by
  intro n i J;have hx:∃n,i<(s n).1.w.3:=⟨n,J⟩;have e:τ i=(s _).1.w.2 i:=dif_pos hx;have hk:=p0 hx;rw[e];generalize pp hx=k at hk;obtain h|h:=Nat.le_total k n
  obtain⟨d,rfl⟩:=lx h;exact((mono d k).2 i hk).symm;obtain⟨d,rfl⟩:=lx h;exact(mono d n).2 i J
 have go:∀n,IM P ((s n).1.on τ)<|(s<|n+1).1.on τ:=by
  intro n;obtain⟨_,V,hb,ho⟩:=B n;obtain⟨W,U,h3⟩:=Cf ((s n).2.1.on V) ho;have U:(s<|n+1).1.w.2=V:=U
  exact h3 τ λi _ J=>by rw[O (n+1) i J,U];rfl
 have run:∀n k,bW P n ((s k).1.on τ).m=.next ((s<|k+n).1.on τ).m:=by
  intro n;induction n with
  |zero=>exact λk=>rfl|succ n ih=>intro k;simp only[bW,(go k).next];rw[ih<|k+1,Nat.add_right_comm];rfl
 let ⟨n,aa,g1,g2,_⟩:=hH τ λi J=>O 0 i J;have:=run n 0;rw[Nat.zero_add]at this;have e:=this.symm.trans g1;simp only[qz]at e;obtain rfl:=LS.O8 e;exact(B n).1<|hB _ _ g2
end
section
variable {f x6 y8:w?}{C x1 y9:Nat}{I z1:cg}{U y2 z4:Ren}{x0:P?}{x2 z3:F?}{x3 z5:LS}{x4:Bool}{x5:Goroutine}{x7:Frame}{x8 x9:List Frame}{y3 z0:v?}{y6 z2:MemOp}{y7 z6:L?}
def WR.rely{B:w?}(h:WR U x6 y8)(O:∀r r',U.1 r=y? r'->B.1[r']?=y8.1[r']?)(Y:y8.1.size<=B.1.size)(ho:B.4=y8.4):WR U x6 B:=by refine⟨λr r' hb=>?_,λr r' c e f V W f' hb J h2 hn=>?_,λr r' c e f V W f' hb J h2 hl=>?_,λr r' hb=>?_,h.5,ZE h.6 Y,ho.trans h.7,h.8,h.9,h.10,λr i v hv=>?_⟩;obtain⟨o,o',J,h2,h3⟩:=h.1 r r' hb;exact⟨o,o',J,by rwa[O r r' hb],h3⟩;exact h.2 r r' _ _ _ _ _ _ hb J (by rwa[<-O r r' hb]) hn;exact h.3 r r' _ _ _ _ _ _ hb J (by rwa[<-O r r' hb]) hl;have:=h.4 r r' hb;exact⟨this.1,AT this.2 Y⟩;obtain⟨r',hb,hp⟩:=h.11 r i v hv;exact⟨r',hb,λc e f V W f' x g1 g2=>hp c e f V W f' x g1<|by rwa[<-O r r' hb]⟩
def zQ.rely(h:zQ x0 x2 x4 U x8 x3 x7 x9 f)(B:∀r r',U.1 r=y? r'->x6.1[r']?=f.1[r']?)(J:f.1.size<=x6.1.size)(O:x6.4=f.4):zQ x0 x2 x4 U x8 x3 x7 x9 x6:=⟨h.1,h.2,h.3,h.4,h.5.rely B J O⟩
structure th(P:P?)(gl:F?)(st:Bool)(m:Ren)(T:List Frame)(S:LS)(r r':Nat)(v v':v?)(fr':Frame)(cs':List Frame)(w':w?):Prop where
 ctx:nj P m gl st
 SN:¬m.6
 op:Open m
 ch:m.2 r=some r'
 val:VR m v v'
 sit:∃f0 wl cap buf jx rcvd tm,S=⟨f0.finish undef,S.2,{wl with heap:=S? wl.1 r (.chan cap (buf.push v) false (jx+1) rcvd tm)}⟩/\eD P m T (f0::S.2) (fr'::cs')/\WR m wl w'/\wl.1[r]?=some (.chan cap buf false jx rcvd tm)/\buf.size<cap
def th.rely(h:th x0 x2 x4 U x8 x3 C x1 y3 z0 x7 x9 f)(O:∀C x1,U.1 C=y? x1->x6.1[x1]?=f.1[x1]?)(V:f.1.size<=x6.1.size)(W:x6.4=f.4):th x0 x2 x4 U x8 x3 C x1 y3 z0 x7 x9 x6:=by obtain⟨f0,wl,cap,J,jx,B,tm,Y,h2,h3,h4⟩:=h.6;exact⟨h.1,h.2,h.3,h.4,h.5,f0,wl,cap,J,jx,B,tm,Y,h2,h3.rely O V W,h4⟩
def th.done(h:th x0 x2 x4 U x8 x3 C x1 y3 z0 x7 x9 f):∃o,zQ x0 x2 x4 (U.put C o) x8 x3 (x7.finish undef) x9 f:=by obtain⟨f0,wl,cap,O,jx,J,tm,W,Y,h3,h4,_⟩:=h.6;have B:=Y.sX.finish<|VR.undef U;refine⟨.chan cap (O.push y3) f? (jx+1) J tm,h.1.mono<|Ren.qU ..,h.2,λs s' V=>?_,?_,?_⟩;by_cases e:s=C;exact⟨cap,O.push y3,jx+1,J,tm,by simp[Ren.put,e]⟩;obtain⟨a,b,c,d,e',hx⟩:=h.3 s s' V;exact⟨a,b,c,d,e',by simp only[Ren.put,e,if_false];exact hx⟩;rw[W];exact(Y.set (.refl U) B.1 B.2.1 B.2.2 (fY ..)<|iU ..).mono<|Ren.qU ..;rw[W];exact h3.put ⟨_,_,_,_,_,_,q?⟩ ⟨_,_,_,_,_,_,h4⟩
inductive Does(P:P?)(gl:F?)(st:Bool)(Stop:LS->Prop)(m:Ren)(T:List Frame)(S:LS)(w':w?):GStep->Prop
 |go {S' jU Aj Ak w₁ es}:qu P Stop S' S->m.Le jU->zQ P gl st jU T S' Aj Ak w₁->gH m jU w' w₁->(∀e∈es,ri jU e)->Does P gl st Stop m T S w' (.go (G Aj Ak) w₁ es)|send {S' jU Aj Ak w₁ es r r' v v' z'}:qu P Stop S' S->m.Le jU->th P gl st jU T S' r r' v v' Aj Ak w₁->gH m jU w' w₁->(∀e∈es,ri jU e)->Does P gl st Stop m T S w' (.comm (G Aj Ak) #[⟨.chan (some r'),some v',z'⟩] true .send w₁ es)
def along(w w':w?):Nat->Question->Nat:=λi=>if i<w.3 then w.2 i else w'.2 (w'.3+(i-w.3))
def Ld(w w'):DN (along w w') w:=λi B=>by simp[along,B]
def rP(w w'):Al (tp w<|along w w') w':=λi q=>by show w'.2 _ q=along w w' (w.3+i) q;have:¬w.3+i<w.3:=o!;simp[along,this]
def zQ.Zbg{Stop}(hB:C5 Stop)(J:zQ x0 x2 x4 U x8 x3 x7 x9 x6)(hH:ns x0 Stop x3)(hn:¬Stop x3)(main'):Does x0 x2 x4 Stop U x8 x3 x6<|bM x0 main' (G x7 x9) x6:=by
 have hb:=Ld x3.w x6;let ⟨hf,S',ho⟩:=hH.step hB ⟨_,_,_,_,_,_,_,J⟩ hn _ hb;have hg:qu x0 Stop S' x3:=⟨hn,_,hb,ho⟩;have B:=J.on<|along x3.w x6;have V:=mw B.2 B.4;generalize aa:x3.on _=S0 at ho B V;have O:Al S0.w x6:=by rw[<-aa];exact(rP x3.w x6)
 have af:¬Fin x0 S0:=by rw[<-aa];exact λx=>hf ⟨x.1,x.2⟩
 cases ho with
 |go h=>let ⟨ab,f,c,ac,es,e,W,h2,h3,h4,h5⟩:=Ci (main':=main') B.1 B.4 V (λa b c d=>af ⟨a,b,c,d⟩) B.5 O h;rw[e];exact .go hg W ⟨J.1.mono W,by rw[W.7];exact J.2,λr r' hr=>by rw[h4.9 J.2]at hr;rw[h4.10];exact J.3 r r' hr,h2,h3⟩ h4 h5
 |@send _ _ _ f0 c0 r v z w₁ es cap ag jx ad tm h hc ah=>
  let ⟨f1,c1,ab,al,am,k',ac,an,e0,e,_,W,h2,h3,h4,h5,h6⟩:=xU (main':=main') B.1 B.4 V B.5 O h;obtain⟨rfl,rfl⟩:f0=f1/\c0=c1:=⟨congrArg q3 e0,congrArg q0 e0⟩;let ⟨kl⟩:=k'
  cases h3 with
  |@cons _ q _ _ hx Y=>
   cases Y;let ⟨ao,ap,aq⟩:=q;have ai:=hx.1;have aj:=hx.2
   cases ai with
   |@chan _ r' ak=>
   cases aj with
   |@some _ v' hv=>
   rw[e];exact .send hg W ⟨J.1.mono W,by rw[W.7];exact J.2,(λs s' ae=>by rw[h5.9 J.2]at ae;rw[h5.10];exact J.3 s s' ae),ak,hv,f0,w₁,cap,ag,jx,ad,tm,q?,h2,h4,hc,ah⟩ h5 h6
def mU:Go.Loc->Option Nat
 |.cell a=>y? a.1|.obj r=>y? r|_=>x?
def qx(t:cg)(g:Nat)(m:Ren):Prop:=∀p a b r,gA t p=y? a->mU a.1=y? b->m.1 r=y? b->(m.3 r->a.2=t?)->hU t g p
def UI(t:cg)(B:Nat):Prop:=∀p a b,gA t p=y? a->mU a.1=y? b->b<B
def rh(m B:Ren):Prop:=∀r r' b,m.1 r=y? b->B.1 r'=y? b->m.3 r/\B.3 r'
def rh.symm(h:rh U y2):rh y2 U:=λr r' b x y=>⟨(h r' r b y x).2,(h r' r b y x).1⟩
def nX{e}(h:ri U e){x}(B:(p1 e).touch?=y? x)(hm:x.1.isMemory=t?):∃b r,mU x.1=y? b/\U.1 r=y? b/\(U.3 r->x.2=f?):=by
 obtain⟨loc,wr,V⟩:=e
 cases loc with
 |cell a=>
  obtain⟨O,W,Y,hw⟩:=h;simp only[p1,p5,m?]at B;subst B;refine⟨a.1,W.1,q?,Y.blk,λJ=>?_⟩
  cases wr with
  |false=>rfl|true=>exact absurd J<|hw q?
 |obj r=>obtain⟨O,r0,hb,J⟩:=h;subst O;cases wr <;>(simp only[p1,p5,m?]at B;subst B;exact⟨r,r0,q?,hb,λx=>absurd x J⟩)
 |mark k=>cases k<;>first|exact(h).elim|(simp[p1,p5]at B)
 |output=>cases wr<;>cases V <;>(simp only[p1,p5,m?]at B;subst B;simp[Go.Loc.isMemory]at hm)
 |goroutines=>exact h.elim
def qx.grow(h:qx I C U)(J:U.Le y2)(O:UI I x1)(V:∀r b,y2.1 r=y? b->U.1 r=y? b\/x1<=b):qx I C y2:=by
 intro p a b r B hb W Y;obtain x|x:=V r b W
 exact h p a b r B hb x λy=>Y<|(J.3 r b x).2 y;have:=O p a b B hb;omega
def eQ{a}(h:gA (I++z1) C=y? a):(C<I.size/\gA I C=y? a)\/∃op,op∈z1/\(I++z1)[C]?=y? op/\op.4.touch?=y? a:=by
 obtain⟨op,B,O⟩:=touch_of h;obtain⟨U,J⟩|⟨_,J⟩:=getElem?_append_cases B
 exact .inl ⟨U,by rwa[touchAt_of J]⟩;exact .inr ⟨op,J,B,O⟩
def qx.own(h:qx I C U){fn pos es}:qx (I++oA C fn pos es) C U:=by
 intro p a b r J hb O V;obtain⟨_,B⟩|⟨op,B,W,_⟩:=eQ J
 exact(h p a b r B hb O V).app _;have:=hZ W;obtain⟨e,_,rfl⟩:=gx B;exact this
def qx.other(h:qx I C U)(hd:rh U y2){fn pos es}(he:∀e∈es,ri y2 e):qx (I++oA x1 fn pos es) C U:=by
 intro p a b r ha hb O V;obtain⟨_,B⟩|⟨op,B,_,h3⟩:=eQ ha
 exact(h p a b r B hb O V).app _;obtain⟨e,J,rfl⟩:=gx B
 have hm:a.1.isMemory=t?:=by cases hl:a.1<;>rw[hl]at hb<;>simp[mU]at hb<;>rfl
 let ⟨b',r',W,g2,Y⟩:=nX (he e J) h3 hm;rw[hb]at W;cases W;let ⟨l1,l2⟩:=hd r r' b O g2;rw[V l1]at Y;exact absurd (Y l2) i!
def qx.clean(h:qx I C U)(W:∀said,¬cS said I){fn pos es}(Y:∀e∈es,ri U e):∀said,¬cS said (I++oA C fn pos es):=by
 intro said;refine hQ (W said) (λop B=>by obtain⟨e,_,rfl⟩:=gx B;rfl) λi a ha op B b hb J=>?_;obtain⟨e,O,rfl⟩:=gx B;obtain⟨V,h2,h3,_⟩:=J;obtain⟨b',r,g1,g2,g3⟩:=nX (Y e O) hb<|V▸h2;refine h i a b' r ha (by rwa[V]) g2 λhl=>?_;obtain x|x:=h3
 exact x;rw[g3 hl]at x;cases x
def UI.own(h:UI I x1)(V:WR U x6 f)(W:x1<=f.1.size){fn pos es}(Y:∀e∈es,ri U e):UI (I++oA C fn pos es) f.1.size:=by
 intro p a b ha hb;obtain⟨_,B⟩|⟨op,B,_,h3⟩:=eQ ha
 exact AT (h p a b B hb) W;obtain⟨e,J,rfl⟩:=gx B
 have hm:a.1.isMemory=t?:=by cases hl:a.1<;>rw[hl]at hb<;>simp[mU]at hb<;>rfl
 let ⟨b',r',O,g2,g3⟩:=nX (Y e J) h3 hm;rw[hb]at O;cases O;exact(V.lt g2).2
def Nu{B:Type}(r:B->B->Prop)(n:Nat)(J q:Nat->B):Prop:=∃i,i<n/\r (J i) (q i)/\∀j,j≠i->J j=q j
def Sr{α r}:∀(n)(q:Nat->α),(∀i,i<n->Acc r (q i))->Acc (Nu r n) q:=by
 intro n;induction n with
 |zero=>exact λq _=>.intro q λU ⟨i,J,_⟩=>absurd J<|Nat.not_lt_zero i|succ n ih=>
  have key:∀x,Acc r x->∀q,q n=x->(∀i,i<n->Acc r (q i))->Acc (Nu r<|n+1) q:=by
   intro x hx;induction hx with
   |intro x _ V=>
    intro q W fu;have Y:=ih q fu;revert W fu;induction Y with
    |intro q _ aa=>
     intro W fu;refine .intro q λU ⟨i,J,hr,O⟩=>?_;by_cases e:i=n;subst e;exact V _ (W▸hr) U q? λj B=>by rw[O j<|mp B];exact fu j B
     refine aa U ⟨i,o!,hr,O⟩ (by rwa[O n<|qs e]) λj B=>?_;by_cases ej:j=i;subst ej;exact(fu j B).inv hr;rw[O j ej];exact fu j B
  exact λq h=>key _ (h n<|Nat.lt_succ_self n) q q? λi J=>h i<|Nat.lt_succ_of_lt J
def rh.grow(h:rh U z4)(J:U.Le y2)(O:gH U y2 f x6)(V:WR z4 y8 f):rh y2 z4:=by
 intro r r' b W B;obtain x|x:=O.4 r b W
 obtain⟨a,b⟩:=h r r' _ x B;exact⟨(J.3 r _ x).2 a,b⟩;have:=(V.lt B).2;omega
def gH.leaves(J:gH U y2 f x6)(V:rh U z4)(W:WR z4 y8 f):∀r r',z4.1 r=y? r'->x6.1[r']?=f.1[r']?:=by intro r r' hb;by_cases O:∃s,U.1 s=y? r';obtain⟨s,B⟩:=O;exact J.11 s r' B (V s r r' B hb).1;exact J.1 r' (W.lt hb).2 λs B=>O ⟨s,B⟩
def mD(O:WR U x6 f){c:Nat}{o}(B:∃a b x s y t,f.1[c]?=y? (.chan a b x s y t)):∀r r',U.1 r=y? r'->(S? f.1 c o)[r']?=f.1[r']?:=by intro r r' hb;apply Zd;intro rfl;obtain⟨x,W,_,J,V⟩:=O.1 r _ hb;obtain⟨a,b,y,s,z,t,B⟩:=B;rw[B]at J;cases J;cases V
def gH.chan(O:gH U y2 f x6)(V:WR U y8 f){c:Nat}{a}{b:V?}{t}(B:f.1[c]?=y? (.chan a b x4 C x1 t)):x6.1[c]?=y? (.chan a b x4 C x1 t):=by rw[O.1 c (lA B) λr W=>?_];exact B;obtain⟨o,o',_,J,Y⟩:=V.1 r _ W;rw[B]at J;cases J;cases Y
def Holds(S:LS)(r:Nat)(l:L?):Prop:=∃cap B jx J tm,S.w.1[r]?=y? (.chan cap B f? jx J tm)/\B.1=l
def Holds.one(h:Holds x3 C y7)(J:Holds x3 C z6):y7=z6:=by obtain⟨_,_,_,_,_,O,rfl⟩:=h;obtain⟨_,_,_,_,_,B,rfl⟩:=J;rw[O]at B;cases B;rfl
def zQ.Za7(J:zQ x0 x2 x4 U x8 x3 x7 x9 x6)(hf:¬Fin x0 x3)(h:IM x0 x3 z5):∃B af ag w₁,zQ x0 x2 x4 B x8 z5 af ag w₁/\B.2=U.2/\∀r r' l,U.2 r=y? r'->Holds x3 r l->Holds z5 r l\/∃v,Holds z5 r<|l++[v]:=by
 obtain⟨an,ah,ai,_⟩:=align J.5;have hn:=mw J.2 J.4
 cases h with
 |go h=>let ⟨B,f,c,W,es,_,h1,h2,h3,h4,_⟩:=Ci (main':=t?) J.1 J.4 hn (λa b c d=>hf ⟨a,b,c,d⟩) ah ai h;refine⟨B,f,c,W,⟨J.1.mono h1,by rw[h1.7];exact J.2,λr r' hr=>by rw[h4.9 J.2]at hr;rw[h4.10];exact J.3 r r' hr,h2,h3⟩,h4.9 J.2,λr r' l hr hl=>.inl ?_⟩;obtain⟨cap,V,jx,O,tm,hx⟩:=J.3 r r' hr;have:=hl.one ⟨cap,V,jx,O,tm,(J.5.8 r _ hx).1,q?⟩;exact⟨cap,V,jx,O,tm,(h3.8 r _<|by rwa[h4.10]).1,this.symm⟩
 |@send _ _ _ f0 c0 r0 v z w₁ es cap V jx O tm h hc hb=>
  let ⟨f1,c1,B,ak,al,k',W,ao,e0,_,_,h1,h2,h3,h4,h5,_⟩:=xU (main':=t?) J.1 J.4 hn ah ai h;obtain⟨rfl,rfl⟩:f0=f1/\c0=c1:=⟨congrArg q3 e0,congrArg q0 e0⟩;have Y:=(h2.sX).finish<|VR.undef B
  have am:Open<|B.put r0<|.chan cap (V.push v) f? (jx+1) O tm:=by intro s s' ac;by_cases e:s=r0;exact⟨cap,V.push v,jx+1,O,tm,by simp[Ren.put,e]⟩;have ac:B.2 s=y? s':=ac;rw[h5.9 J.2]at ac;let ⟨a,b,c,d,e',hx⟩:=J.3 s s' ac;exact⟨a,b,c,d,e',by simp only[Ren.put,e,if_false];rwa[h5.10]⟩
  refine⟨B.put r0 _,ak.finish undef,al,W,⟨(J.1.mono h1).mono<|Ren.qU ..,?_,am,?_,h4.put ⟨_,_,_,_,_,_,q?⟩ ⟨_,_,_,_,_,_,hc⟩⟩,h5.9 J.2,λr r' l hr hl=>?_⟩;show ¬B.6;rw[h1.7];exact J.2;exact(h2.set (.refl B) Y.1 Y.2.1 Y.2.2 (fY ..)<|iU ..).mono<|Ren.qU ..;obtain⟨ad,ae,aa,ab,aj,hx⟩:=J.3 r r' hr;have b:=(h4.8 r _<|by rwa[h5.10]).1;have el:=hl.one ⟨ad,ae,aa,ab,aj,(J.5.8 r _ hx).1,q?⟩;by_cases e:r=r0;subst e;rw[hc]at b;cases b;refine .inr ⟨v,cap,V.push v,jx+1,O,tm,?_,by rw[el];simp⟩;simp[lA hc];refine .inl ⟨ad,ae,aa,ab,aj,?_,el.symm⟩;rwa[Zd<|qs e]
def D3:∀(n){m S fr' cs' w'},zQ x0 x2 x4 m x8 S fr' cs' w'->m.2 C=y? x1->∀{B},bW x0 n S.m=.next B.m->B.2≠[]->Holds B C y7->∀{l},Holds S C l->l <+: y7
 |0,m,S,fr',cs',w',J,hr,B,h,O,U,l,V=>by
  simp only[bW,qz]at h
  obtain rfl:=LS.O8 h
  rw[V.one U];exact List.prefix_refl _
 |n+1,m,S,fr',cs',w',J,hr,B,h,O,U,l,V=>by
  let ⟨S',ho,h2⟩:=Fx J.1 J.2 J.3 J.4 J.5 h;let ⟨aa,f,c,w,W,Y,hh⟩:=J.Za7 (λx=>Fi J.4 x n O h) ho;have ih:=fun {l}=>D3 n W (by rwa[Y]) h2 O U (l:=l);obtain x|⟨v,x⟩:=hh C x1 l hr V
  exact ih x;exact(List.prefix_append l _).trans<|ih x
def ns.prefix{Stop}(J:zQ x0 x2 x4 U x8 x3 x7 x9 f)(O:ns x0 Stop x3)(V:U.2 C=y? x1)(W:∀B,Stop B->Holds B C y7)(Y:Holds x3 C z6):z6 <+: y7:=by obtain⟨n,B,h1,h2,h3⟩:=O _<|N8 _;exact D3 n J V h1 h3 (W _ h2) Y
def th.next{Stop}(h:th x0 x2 x4 U x8 x3 C x1 y3 z0 x7 x9 f)(W:ns x0 Stop x3)(Y:∀B,Stop B->Holds B C y7):∃l,Holds x3 C (l++[y3])/\(l++[y3]) <+: y7:=by
 obtain⟨o,hs⟩:=h.done;obtain⟨f0,wl,cap,J,jx,O,tm,h1,h2,h3,h4,_⟩:=h.6
 have V:Holds x3 C<|J.1++[y3]:=by rw[h1];refine⟨cap,J.push y3,jx+1,O,tm,?_,i!⟩;simp[lA h4]
 exact⟨_,V,W.prefix hs h.4 Y V⟩
def Lv(P:P?):Nat->Goroutine->Prop
 |0,g=>g.3=.finished|n+1,g=>g.3=.finished\/(g.3=.running/\∃g',(∀w,bM P f? g w=.go g' w #[])/\Lv P n g')
def Lv.status(h:Lv x0 C x5):x5.3=.running\/x5.3=.finished:=by
 cases C with
 |zero=>exact .inr h|succ C=>exact h.elim .inr λx=>.inl x.1
def Lv.Jy:∀{n g},Lv x0 n g->QuitsD x0 n 0 g
 |0,_,h=>⟨h,q?⟩
 |_+1,_,.inl h=>.inl ⟨h,q?⟩|_+1,_,.inr ⟨h,g',B,J⟩=>.inr ⟨h,g',#[],i!,B,J.Jy⟩
def M4(a)(t)(cs){c}{B:V?}(J:f.1[c]?=y? (.chan C B f? x1 y9 x4)) :
  (invoke (.builtin .close a t cs) #[.chan<|y? c]).runT x0 f #[]=(.ok (.value<|.tuple #[]) {f with heap:=S? f.1 c<|.chan C B t? x1 y9 x4},#[⟨.obj c,f?,t?⟩,⟨.obj c,t?,t?⟩]):=by
 obtain⟨k,e,O⟩:∃k,invoke (.builtin .close a t cs) #[.chan<|y? c]=Sem.getObj c k/\k (.chan C B f? x1 y9 x4)=Sem.setObj c .. := ⟨_,q?,q?⟩;rw[e]
 have U:(Sem.getObj c k).runT x0 f #[]=(k<|.chan C B f? x1 y9 x4).runT x0 f (#[].push ⟨.obj c,f?,t?⟩):=by rw[k7];simp only[J];rfl
 rw[U,O];rw[k7];simp only[J];rfl
def closing{ps}{a:Array bL}{t}{cs:Array Bool}{c}{B:V?}(hm:x7.5=.returning)(J:x7.4=[⟨.builtin .close a t cs,#[.chan<|y? c]⟩])(O:(x0.2[x7.1]?).any (·.10)=f?)(U:f.1[c]?=y? (.chan C B f? x1 y9 x4)) :
  bM x0 f? (G x7 [ps]) f=.go (G {x7 with defers:=[]} [ps]) {f with heap:=S? f.1 c<|.chan C B t? x1 y9 x4} #[⟨.obj c,f?,t?⟩,⟨.obj c,t?,t?⟩]:=by
 have e:bM x0 f? (G x7 [ps]) f=bQ x0 f? x7 [ps] x? f:=by unfold bM;simp only[G,hm]
 rw[e];let ⟨fn,tmps,todo,defers,mode,kind,round⟩:=x7;subst hm J;unfold bQ;dsimp only;unfold cf;rw[M4 a t cs U];simp[bT,O,mv,G]
def Hm{ps fn}(hm:x7.5=.returning)(W:x7.4=[])(Y:x7.6=.deferred)(hf:x0.2[x7.1]?=y? fn)(V:fn.8=#[])(B:ps.5=.panicking [bX])(O:ps.4=[])(aa:x0.2[ps.1]?=x?)(U:ps.3=[]):Lv x0 2<|G x7 [ps]:=by
 refine .inr ⟨q?,G ps [],λw=>?_,.inr ⟨q?,{frame:=ps,callers:=[],status:=.finished,dying:=x?},λw=>?_,q?⟩⟩;have e:bM x0 f? (G x7 [ps]) w=bQ x0 f? x7 [ps] x? w:=by unfold bM;simp only[G,hm]
 rw[e]
 have J:(c3 fn x7.2).runT x0 w #[]=(.ok (.tuple #[]) w,#[]):=by rw[Sem.runT_eq,results_none V _ x0 w,events_results_none V ..]
 unfold bQ;simp only[W,hm,hf,J];unfold bO;simp only[Y,B,bX];simp[bT,mv,G];have e:bM x0 f? (G ps []) w=bQ x0 f? ps [] x? w:=by unfold bM;simp only[G,B]
 rw[e];unfold bQ;simp[O,B,oB,U,bX]
def zQ.Y2(hs:zQ x0 x2 x4 U x8 x3 x7 x9 f){c}(h1:x3.2=[door x0])(h2:x3.1.5=.returning)(h3:x3.1.4=[⟨.collected C,#[.chan<|y? x1]⟩])(hd:U.7 C)(hr:U.2 x1=y? c) :
  x7.5=.returning/\x9=x8/\(∃a t cs,x7.4=[⟨.builtin .close a t cs,#[.chan<|y? c]⟩])/\GA x7.6 x8/\x7.1=x3.1.1:=by
 have hS:=hs.4;have hF:=hS.sX;have B:=hF.5;have J:=hF.4;rw[h2]at B;rw[h3]at J;rw[h1]at hS;let ⟨fn,tm,td,df,md,kd,aa⟩:=x7
 have O:x9=x8/\GA kd x8:=by
  cases hS with
  |one _ _ hb _=>exact⟨q?,hb⟩|cons _ _ _ h=>cases h
 cases B;refine⟨q?,O.1,?_,O.2,hF.1⟩
 cases J with
 |@cons _ d' _ l' hx V=>
  cases V;obtain⟨ab,Y⟩:=d';have ht:=hx.1;have ha:=hx.2
  have W:Y=#[.chan<|y? c]:=by
   obtain⟨al⟩:=Y
   cases ha with
   |cons hv hn=>
    cases hn
    cases hv with
    |chan hb=>rw[hr]at hb;cases hb;rfl
  subst W
  cases ht with
  |collected hb=>rw[(hs.5.10 C hd).1]at hb;cases hb
  |mark a t cs _=>exact⟨a,t,cs,q?⟩
def Rn{P}(n)(B:0<n)(w):∃a d,a<n/\(choose<|.select n).run P w=.ok a (w.at d):=by by_cases J:n<=1;exact⟨0,w.3,B,by simp[choose,k5,rz,J,rc]⟩;refine⟨(Question.select n).cut<|w.2 w.3<|.select n,w.3+1,?_,by simp[choose,k5,rz,J,rc]⟩;exact Nat.mod_lt _ B
def kQ(w:w?)(B:Array Goroutine)(cases:Array CommCase):List<|Nat×CommCase×List Way:=(cases.zipIdx.1.map λ(c,k)=>(k,c,ways w B c)).filter λ(_,_,ws)=>!ws.isEmpty
def mem_ready{cases B x}(h:x∈kQ f B cases):cases[x.1]?=y? x.2.1/\x.2.2=ways f B x.2.1/\x.2.2≠[]:=by unfold kQ at h;rw[Zb,Zv]at h;obtain⟨⟨⟨cc,k⟩,hm,rfl⟩,U⟩:=h;obtain⟨j,O⟩:=m0.1 hm;simp at O;obtain⟨_,J,rfl,rfl⟩:=O;refine⟨J,q?,λe=>?_⟩;have e:ways f B _=[]:=e;simp[e]at U
def Vb{cases B cc}(J:cases[C]?=y? cc)(O:ways f B cc≠[]):kQ f B cases≠[]:=by
 have:(C,cc,ways f B cc)∈kQ f B cases:=by
  unfold kQ;rw[Zb,Zv];refine⟨⟨(cc,C),?_,q?⟩,?_⟩;refine m0.2 ⟨C,?_⟩;simp[J]
  cases e:ways f B cc with
  |nil=>exact absurd e O|cons a l=>rfl
 intro e;rw[e]at this;cases this
def DL{B:Array Goroutine}{sl:Option<|Nat×Nat}{i g}{es:Array Event}{cases:Array CommCase}{shape}(hi:B[i]?=y? g)(h:bM x0 (i==0) g x6=.comm x5 cases x4 shape y8 es)(aa:∀cc∈cases,i4 y8 cc=f?)
  (ab:∀(k:Nat)cc,cases[k]?=y? cc->ways y8 (S? B i ph) cc=[]\/(∃c z cap J s r tm,cc=gz c z/\y8.1[c]?=y? (.chan cap J t? s r tm)/\ways y8 (S? B i ph) cc=[.closed])\/(∃c z cap J cl s r tm j q,cc=gz c z/\y8.1[c]?=y? (.chan cap J cl s r tm)/\ways y8 (S? B i ph) cc=[.partner j q]))
  (ae:∃(k:Nat)(cc:CommCase),cases[k]?=y? cc/\ways y8 (S? B i ph) cc≠[]) :
  (∃(k:Nat)(c:Nat)(z:v?)(d:Nat),cases[k]?=y? (gz c z)/\ways y8 (S? B i ph) (gz c z)=[.closed]/\cA x0 (g8 B x6 sl) i=(.next<|g8 (S? B i<|x5.finishComm x0 cases shape k z f?) (y8.at d) sl,oA i g.1.1 g.1.place es++#[{g:=i,fn:=x5.1.1,pos:=x5.1.place,act:=.recvClosed c}]))\/
  (∃(k:Nat)(c:Nat)(z:v?)(d j q cap s r:Nat)(J:V?)(cl tm:Bool),cases[k]?=y? (gz c z)/\y8.1[c]?=y? (.chan cap J cl s r tm)/\ways y8 (S? B i ph) (gz c z)=[.partner j q]/\
    cA x0 (g8 B x6 sl) i=(.next<|g8 (S? (finishPartner x0 (S? B i ph) j q undef) i<|x5.finishComm x0 cases shape k (c4 (S? B i ph) j q) t?) {y8.at d with heap:=S? y8.1 c<|.chan cap J cl (s+1) (r+1) tm} sl,
     oA i g.1.1 g.1.place es++#[{g:=j,fn:=((S? B i ph).getD j default).1.1,pos:=((S? B i ph).getD j default).1.place,act:=.send c s},{g:=i,fn:=x5.1.1,pos:=x5.1.place,act:=.recv c r cap},{g:=j,fn:=((S? B i ph).getD j default).1.1,pos:=((S? B i ph).getD j default).1.place,act:=.sendDone c s},{g:=i,fn:=x5.1.1,pos:=x5.1.place,act:=.recvDone c r}])):=by
 obtain⟨k0,aj,af,ag⟩:=ae;have ac:=Vb af ag
 have ad:0<(kQ y8 (S? B i ph) cases).length:=by
  cases W:kQ y8 (S? B i ph) cases with
  |nil=>exact absurd W ac|cons a l=>simp
 let ⟨a,d,ha,ah⟩:=Rn (P:=x0) _ ad y8;obtain⟨x,W⟩:∃x,(kQ y8 _ cases)[a]?=y? x:=⟨_,List.getElem?_eq_getElem ha⟩;let ⟨k,cc,ws⟩:=x;let ⟨h1,Y,h3⟩:=(mem_ready<|m0.2 ⟨a,W⟩);have U:(kQ y8 (S? B i ph) cases).getD a (0,default,[])=(k,cc,ws):=by simp[List.getD,W]
 have V:(kQ y8 (S? B i ph) cases).isEmpty=f?:=by
  cases W:kQ y8 _ cases with
  |nil=>exact absurd W ac|cons a l=>rfl
 rw[ip hi h];unfold bP;rw[if_neg (by rw[n8];exact any_ill aa)]
 have O:∀(f:Nat->Sem (Nat×CommCase×Way)),((choose<|.select (kQ y8 (S? B i ph) cases).length).bind f).run x0 y8=(f a).run x0 (y8.at d):=by intro f;rw[k8,ah];rfl
 have ai:(y8.at d).1=y8.1:=rfl;obtain e|⟨c,z,cap,J,s,r,tm,rfl,hc,e⟩|⟨c,z,cap,J,cl,s,r,tm,j,q,rfl,hc,e⟩:=ab k cc h1
 rw[e]at Y;exact absurd Y h3;rw[e]at Y;subst Y;refine .inl ⟨k,c,z,d,h1,e,?_⟩;have hf:((cases.zipIdx.1.map λ(c,k)=>(k,c,ways y8 (S? B i ph) c)).filter _)=kQ y8 _ cases:=rfl;simp only[hf,V,Zk,if_false,bind,O,U];simp[choose,k5,rz,bind,k9,pure,gz,g8];rw[e]at Y;subst Y;refine .inr ⟨k,c,z,d,j,q,cap,s,r,J,cl,tm,h1,hc,e,?_⟩;have hf:((cases.zipIdx.1.map λ(c,k)=>(k,c,ways y8 (S? B i ph) c)).filter _)=kQ y8 _ cases:=rfl;simp only[hf,V,Zk,if_false,bind,O,U];simp[choose,k5,rz,bind,k9,pure,gz,g8,ai,hc]
def nf(t:cg):Prop:=∀op∈t,op.4≠.mark .disable/\op.4≠.mark .enable
def nf.append(J:nf I)(O:nf z1):nf<|I++z1:=λop B=>(bw.1 B).elim (J op)<|O op
def nf.deaf(h:nf I)(g):∀i,I.deaf g i=0:=by
 intro i;induction i with
 |zero=>rfl|succ i J=>unfold cg.deaf;split;rename_i B;exact absurd q? (h _<|iv B).1;rename_i B;exact absurd q? (h _<|iv B).2;exact J
def nf.heard(h:nf I){i}(B:I[i]?=y? y6):I.heard i:=⟨y6.g,by simp[r5,B],h.deaf ..⟩
def RP(O:nf I){c}(U:I[C]?=y? y6)(B:y6.4=.close c)(V:I[x1]?=y? z2)(J:z2.4=.recvClosed c):HappensBefore I C x1:=
 .single (.inr ⟨.closed (c:=c) (by simp[r4,U,B])<|by simp[r4,V,J],O.heard U,O.heard V⟩)
def PC(U:nf I){c:Nat}(V:I[C]?=y? y6)(B:y6.4=.close c)(O:I[x1]?=y? z2)(J:z2.4=.recvClosed c)(W:Before I y9 C):hU I z2.g y9:=
 ⟨x1,z2,O,q?,.inr<|W.hb<|RP U V B O J⟩
def Lz(U:nf I){c}(O:I[C]?=y? y6)(B:y6.4=.close c)(V:I[x1]?=y? z2)(J:z2.4=.recvClosed c){y}(W:I[y9]?=y? y)(Y:y.g=y6.g)(hp:y9<=C):hU I z2.g y9:=by
 apply PC U O B V J;obtain h|h:=Nat.lt_or_eq_of_le hp
 exact .inr (hb_po h W O Y);exact .inl h
def I'{i a b}(V:nf<|I++#[a,b])(W:a.g=i)(J:a.4=.go C)(hb:b.g=C)(O:b.4=.start)(Y:hU I i x1):hU (I++#[a,b]) C x1:=by have U:(I++#[a,b])[I.size]?=y? a:=i!;have B:(I++#[a,b])[I.size+1]?=y? b:=i!;exact⟨I.size+1,b,B,hb,.inr<|(Y.hb_new (Zu _) U W).trans<|.single<|.inr ⟨.spawn (child:=C) (by simp[r4,U,J]) (by simp[r4,B,O])<|by simp[r5,B,hb],V.heard U,V.heard B⟩⟩
def qx.mute(h:qx I C U)(V:∀op∈z1,op.4.touch?=x?):qx (I++z1) C U:=by
 intro p x q r W Y hr B;obtain⟨_,J⟩|⟨op,J,_,O⟩:=eQ W
 exact(h p x q r J Y hr B).app z1;rw[V op J]at O;cases O
def nJ(t:cg)(A:F?):Prop:=∀p a,gA t p=y? a->a.1.isMemory=t?->hU t 0 p\/∃op,t[p]?=y? op/\A op.g
def nJ.mono(h:nJ I x2)(B:∀i,x2 i->z3 i):nJ I z3:=λp a J hm=>(h p a J hm).imp id λ⟨op,O,U⟩=>⟨op,O,B _ U⟩
def nJ.app{u:cg}(h:nJ I x2)(U:∀op∈u,op.4.touch?=x?\/op.g=0\/x2 op.g):nJ (I++u) x2:=by
 intro p a V hm;obtain⟨W,B⟩|⟨op,B,J,O⟩:=eQ V
 obtain x|⟨op,x,y⟩:=h p a B hm
 exact .inl (x.app u);exact .inr ⟨op,by rwa[hI W],y⟩;obtain x|x|x:=U op B
 rw[x]at O;cases O;have:=hZ J;rw[x]at this;exact .inl this;exact .inr ⟨op,J,x⟩
def nJ.join(h:nJ I x2)(Y:nf I){pr c:Nat}{r}(hz:I[x1]?=y? y6)(J:y6.g=C)(O:y6.4=.close c)(hr:I[pr]?=y? r)(U:r.g=0)(V:r.4=.recvClosed c)(B:∀p a op,gA I p=y? a->I[p]?=y? op->op.g=C->p<=x1):nJ I λi=>x2 i/\i≠C:=by
 intro p a W hm;obtain x|⟨op,x,y⟩:=h p a W hm
 exact .inl x;by_cases e:op.g=C;have:=Lz Y hz O hr V x (e.trans J.symm)<|B p a op W x e;rw[U]at this;exact .inl this;exact .inr ⟨op,x,y,e⟩
def nJ.over(h:nJ I λ_=>False):I.HandedOver:=by
 intro i g V B W;obtain⟨x,Y,hm,_⟩:=W;obtain⟨q,z,O,U,J⟩|⟨_,_,h⟩:=h i x Y hm
 refine⟨q,by simp[r5,O,U],?_⟩;obtain rfl|J:=J
 exact absurd (by simpa[r5,O,U]using V.symm) B;exact J;exact h.elim
def Vo{e}(h:ri U e):p1 e≠.mark .disable/\p1 e≠.mark .enable:=by
 obtain⟨loc,wr,B⟩:=e
 cases loc with
 |mark x=>cases x<;>first|exact(h).elim|simp[p1]
 |_=>cases wr<;>cases B<;>simp[p1]
def E2(h:nf I){fn pos es}(O:∀e∈es,ri U e):nf<|I++oA C fn pos es:=by refine h.append λop B=>?_;obtain⟨e,J,rfl⟩:=gx B;exact Vo<|O e J
structure uj where
 gl:Nat->Prop
 T:List Frame
 Stop:LS->Prop
 r:Nat
 c:Nat
 rd:Nat
 L:List v?
 qQ:Nat->Nat->Obj->Prop
structure uj.Ok(P:P?)(J:uj):Prop where
 blind:C5 J.3
 holds:∀S,J.3 S->Holds S J.r J.L
 Zb6:∀S,J.3 S->S.2=[door P]/\S.1.5=.returning/\S.1.4=[⟨.collected J.6,#[.chan (some J.r)]⟩]/\∃fn,P.2[S.1.1]?=some fn/\fn.8=#[]/\fn.10=false
 back:∀S,J.3 S->∀r b o,J.8 r b o->S.w.1[r]?=some o/\∀(m:Ren)o',OR m o o'->o'=o
 bot:∃ps,J.T=[ps]/\ps.5=.panicking [bX]/\ps.4=[]/\P.2[ps.1]?=none/\ps.3=[]
structure uj.rn(J:uj)(m:Ren):Prop where
 ch:m.2 J.r=some J.c
 only:∀r r',m.2 r=some r'->r=J.r
 dead:m.7 J.6
 qQ:∀r b o,J.8 r b o->m.1 r=some b
variable {y0:uj}
def uj.rn.le{m B:Ren}(h:y0.rn m)(J:m.Le B)(O:B.2=m.2):y0.rn B:=⟨by rw[O];exact h.1,λr r' x=>by rw[O]at x;exact h.2 r r' x,by rw[J.9];exact h.3,λr b o x=>J.1 r b<|h.4 r b o x⟩
structure uj.Act(P:P?)(J:uj)(m:Ren)(S:LS)(n:Nat)(g:Goroutine)(w:w?):Prop where
 vh:J.rn m
 IW:ns P J.3 S
 sit:∃fr' cs',g=G fr' cs'/\zQ P J.1 false m J.T S fr' cs' w
 jx:∃l,Holds S J.r l/\l? l=n
structure uj.Qm(P:P?)(J:uj)(m:Ren)(S:LS)(n:Nat)(v':v?)(g:Goroutine)(w:w?):Prop where
 vh:J.rn m
 IW:ns P J.3 S
 sit:∃v fr' cs',g=G fr' cs'/\th P J.1 false m J.T S J.r J.c v v' fr' cs' w
 jx:∃l,Holds S J.r l/\l? l=n+1
def uj.Qm.value{m:Ren}(O:y0.Ok x0)(h:y0.Qm x0 m x3 C y3 x5 f):∃v,y0.L[C]?=y? v/\VR m v y3:=by
 obtain⟨v,fr',cs',_,J⟩:=h.3;obtain⟨l,U,V⟩:=h.4;obtain⟨l0,W,Y⟩:=J.next h.2 O.2;have e:=U.one W;subst e;have B:=by simpa using V
 refine⟨v,?_,J.5⟩;obtain⟨tl,e⟩:=Y;rw[<-e,<-B];simp
def uj.Qm.done{m:Ren}(h:y0.Qm x0 m x3 C y3 x5 f):∃B,m.Le B/\B.1=m.1/\B.3=m.3/\y0.Act x0 B x3 (C+1) (gy x5 undef) f:=by obtain⟨v,fr',cs',rfl,J⟩:=h.3;obtain⟨o,O⟩:=J.done;exact⟨m.put _ o,Ren.qU ..,q?,q?,h.1.le (Ren.qU ..) q?,h.2,⟨_,_,q?,O⟩,h.4⟩
def uj.Act.stands{m:Ren}(J:y0.Ok x0)(h:y0.Act x0 m x3 C x5 f)(B:y0.3 x3):C=l? y0.L/\∃fr ps a t cs,x5=G fr [ps]/\fr.5=.returning/\fr.4=[⟨.builtin .close a t cs,#[.chan<|y? y0.c]⟩]/\(x0.2[fr.1]?).any (·.10)=f?/\Lv x0 2 (G {fr with defers:=[]} [ps]):=by
 obtain⟨fr',cs',rfl,W⟩:=h.3;obtain⟨l,Y,rfl⟩:=h.4;obtain⟨f1,f2,f3,fn,f4,f5,f6⟩:=J.3 x3 B;obtain⟨ps,hT,O,p2,p3,p4⟩:=J.5;obtain⟨U,g2,⟨a,t,cs,g3⟩,g4,V⟩:=W.Y2 f1 f2 f3 h.1.3 h.1.1;refine⟨by rw[Y.one<|J.2 x3 B],fr',ps,a,t,cs,by rw[g2,hT],U,g3,by rw[V,f4];simp[f6],?_⟩
 have hk:fr'.6=.deferred:=by
  obtain⟨_,h⟩|⟨h,_⟩:=g4
  exact absurd O<|h ps hT;exact h
 exact Hm U q? hk (by rwa[V]) f5 O p2 p3 p4
inductive uj.Next(P:P?)(J:uj)(m:Ren)(S:LS)(n:Nat)(w:w?):GStep->Prop
 |go {S' jU g₁ w₁ es}:qu P J.3 S' S->m.Le jU->J.Act P jU S' n g₁ w₁->gH m jU w w₁->(∀e∈es,ri jU e)->uj.Next P J m S n w (.go g₁ w₁ es)|send {S' jU g₁ w₁ es v' z'}:qu P J.3 S' S->m.Le jU->J.Qm P jU S' n v' g₁ w₁->gH m jU w w₁->(∀e∈es,ri jU e)->uj.Next P J m S n w (.comm g₁ #[hL J.c v' z'] true .send w₁ es)
def PR{m Stop}(J:C5 Stop)(B:zQ x0 x2 x4 m x8 x3 x7 x9 f)(O:ns x0 Stop x3)(U:qu x0 Stop z5 x3)(V:m.2 C=y? x1)(W:Holds x3 C y7):Holds z5 C y7\/∃v,Holds z5 C<|y7++[v]:=by obtain⟨Y,τ,hb,ho⟩:=U;let ⟨_,_,_,_,_,_,h⟩:=(B.on τ).Za7 (λx=>((O.step J ⟨_,_,_,_,_,_,_,B⟩ Y τ hb).1) ⟨x.1,x.2⟩) ho;exact h C x1 y7 V W
def uj.Act.EL{m:Ren}(hJ:y0.Ok x0)(h:y0.Act x0 m x3 C x5 f)(hn:¬y0.3 x3):uj.Next x0 y0 m x3 C f<|bM x0 f? x5 f:=by
 obtain⟨fr',cs',rfl,U⟩:=h.3;obtain⟨l,hl,ac⟩:=h.4;have hd:=U.Zbg hJ.1 h.2 hn f?;generalize bM x0 f? _ f=s at hd
 cases hd with
 |@go S' ad V W w₁ es hg J ae Y he=>refine .go hg J ⟨h.1.le J<|Y.9 U.2,(h.2.own hJ.1 ⟨_,_,_,_,_,_,_,U⟩ hg).2,⟨_,_,q?,ae⟩,l,?_,ac⟩ Y he;obtain⟨cap,O,jx,B,tm,hx⟩:=U.3 _ _ h.1.1;exact⟨cap,O,jx,B,tm,(ae.5.8 _ _<|by rwa[Y.10]).1,(hl.one ⟨cap,O,jx,B,tm,(U.5.8 _ _ hx).1,q?⟩).symm⟩
 |@send S' ad V W w₁ es r r' v v' z' hg J hp Y he=>
  have hh:=(h.2.own hJ.1 ⟨_,_,_,_,_,_,_,U⟩ hg).2;have af:=Y.9 U.2;have hr:m.2 r=y? r':=by rw[<-af];exact hp.4
  have er:=h.1.2 r r' hr;subst er;have ai:r'=y0.c:=by rw[h.1.1]at hr;cases hr;rfl
  subst ai;refine .send hg J ⟨h.1.le J af,hh,⟨v,_,_,q?,hp⟩,?_⟩ Y he;obtain⟨l0,h1,_⟩:=hp.next hh hJ.2;refine⟨l0++[v],h1,?_⟩;obtain x|⟨u,x⟩:=PR hJ.1 U h.2 hg h.1.1 hl
  obtain⟨f0,wl,cap,O,jx,B,tm,e1,_,aj,hc,_⟩:=hp.6;obtain⟨ag,ah,aa,ab,ak,hx⟩:=U.3 _ _ h.1.1;have b:=(aj.8 _ _<|by rwa[Y.10]).1;have e:=hl.one ⟨ag,ah,aa,ab,ak,(U.5.8 _ _ hx).1,q?⟩;rw[hc]at b;cases b
  have hS:Holds S' y0.r<|O.1++[v]:=by rw[e1];refine⟨cap,O.push v,jx+1,B,tm,?_,i!⟩;simp[lA hc]
  have:=hS.one x;rw[e]at this;simp at this;have:=h1.one x;simp[this,ac]
def uf(P:P?)(J:uj)(m:Ren)(S:LS):Nat->Goroutine->Prop
 |0,g=>g.3=.running/\∀w,WR m S.w w->∃fr' cs' d es,bM P f? g w=.go (G fr' cs') (w.at d) es/\(∀e∈es,ri m e)/\zQ P J.1 f? m J.T S fr' cs' (w.at d)|k+1,g=>g.3=.running/\∀w,WR m S.w w->∃g' d es,bM P f? g w=.go g' (w.at d) es/\(∀e∈es,ri m e)/\uf P J m S k g'
inductive fQ
 |quit (q:Nat)|ended (heard:Bool) (J:uj) (m:Ren) (S:LS) (q:Nat)|act (J:uj) (m:Ren) (S:LS) (n:Nat)|kK (J:uj) (m:Ren) (S:LS) (n:Nat) (v:v?)|start (J:uj) (m:Ren) (S:LS) (k:Nat)
def fQ.vh:fQ->Option Ren
 |.quit _=>x?|.ended _ _ m _ _|.act _ m _ _|.kK _ m _ _ _|.start _ m _ _=>y? m
def fQ.live:fQ->Option Ren
 |.quit _|.ended .. => x?|.act _ m _ _|.kK _ m _ _ _|.start _ m _ _=>y? m
def fQ.vf:fQ->Option uj
 |.quit _=>x?|.ended _ J _ _ _|.act J _ _ _|.kK J _ _ _ _|.start J _ _ _=>y? J
def fQ.chan:fQ->Option uj
 |.quit _|.ended .. => x?|.act J _ _ _|.kK J _ _ _ _|.start J _ _ _=>y? J
def fQ.sum:fQ->Option (uj×Nat)
 |.quit _|.ended t? .. => x?|.ended f? J _ _ _=>y? (J,l? J.L)|.act J _ _ n|.kK J _ _ n _=>y? (J,n)|.start J _ _ _=>y? (J,0)
def im(w:w?)(c:Nat)(cl:Bool):Prop:=∃s r,w.1[c]?=y? (.chan 0 #[] cl s r f?)
def At(P:P?)(w:w?)(t:cg)(i:Nat)(g:Goroutine):fQ->Prop
 |.quit q=>Lv P q g|.ended _ J m S q=>Lv P q g/\J.rn m/\(J.3 S/\J.Ok P)/\WR m S.w w/\im w J.c t?/\∃B z,t[B]?=y? z/\z.g=i/\z.4=.close J.c/\∀p a op,gA t p=y? a->t[p]?=y? op->op.g=i->p<=B|.act J m S n=>J.Ok P/\im w J.c f?/\J.Act P m S n g w|.kK J m S n v=>J.Ok P/\im w J.c f?/\∃O z,g=parked O #[hL J.c v z] .send/\J.Qm P m S n v O w|.start J m S k=>J.Ok P/\im w J.c f?/\J.rn m/\ns P J.3 S/\Holds S J.r []/\WR m S.w w/\uf P J m S k g
def WR.at(h:WR U x6 f)(d):WR U x6<|f.at d:=h.rely (λ_ _ _=>rfl) (Zu _) rfl
def uf.status(h:uf x0 y0 U x3 C x5):x5.3=.running:=by cases C<;>exact h.1
variable {y1:fQ}
def At.status{i}(h:At x0 f I i x5 y1):x5.3=.running\/x5.3=.blocked\/x5.3=.finished:=by
 cases y1 with
 |quit q=>exact h.status.elim .inl λx=>.inr<|.inr x|ended B J m S q=>exact h.1.status.elim .inl λx=>.inr<|.inr x|act J m S n=>obtain⟨_,_,h⟩:=h;obtain⟨fr,cs,rfl,_⟩:=h.3;exact .inl rfl
 |kK J m S n v=>obtain⟨_,_,O,z,rfl,_⟩:=h;exact .inr (.inl q?)
 |start J m S k=>exact .inl h.2.2.2.2.2.2.status
def At.wr{i}(h:At x0 f I i x5 y1)(hm:y1.vh=y? U):∃wl,WR U wl f:=by
 cases y1 with
 |quit q=>cases hm
 |ended W J U S q=>cases hm;exact⟨_,h.2.2.2.1⟩
 |act J U S n=>cases hm;obtain⟨_,_,h⟩:=h;obtain⟨fr,cs,rfl,B⟩:=h.3;exact⟨_,B.5⟩
 |kK J U S n v=>cases hm;obtain⟨_,_,Y,z,rfl,O⟩:=h;obtain⟨_,_,_,_,B⟩:=O.3;obtain⟨_,wl,_,_,_,_,_,_,_,V,_⟩:=B.6;exact⟨wl,V⟩
 |start J U S k=>cases hm;exact⟨_,h.2.2.2.2.2.1⟩
def At.ZbC{i}(h:At x0 f I i x5 y1)(hm:y1.vh=y? U)(B:y1.vf=y? y0):y0.rn U:=by
 cases y1 with
 |quit q=>cases hm
 |ended O y0 U S q=>cases hm;cases B;exact h.2.1
 |act y0 U S n=>cases hm;cases B;exact h.2.2.1
 |kK y0 U S n v=>cases hm;cases B;obtain⟨_,_,V,z,rfl,J⟩:=h;exact J.1
 |start y0 U S k=>cases hm;cases B;exact h.2.2.1
def At.is{i}(h:At x0 f I i x5 y1)(B:y1.vf=y? y0):∃cl,im f y0.c cl:=by
 cases y1 with
 |quit q=>cases B
 |ended J y0 m S q=>cases B;exact⟨_,h.2.2.2.2.1⟩
 |act y0 m S n=>cases B;exact⟨_,h.2.1⟩
 |kK y0 m S n v=>cases B;exact⟨_,h.2.1⟩
 |start y0 m S k=>cases B;exact⟨_,h.2.1⟩
def At.rely{w₁:w?}{u:cg}{i}(h:At x0 f I i x5 y1)(hk:∀m,y1.vh=y? m->∀r b,m.1 r=y? b->w₁.1[b]?=f.1[b]?)(hc:∀J,y1.vf=y? J->w₁.1[J.c]?=f.1[J.c]?)(hs:f.1.size<=w₁.1.size)(ho:w₁.4=f.4)(hu:∀op∈u,op.g=i->op.4.touch?=x?):At x0 w₁ (I++u) i x5 y1:=by
 have U:∀J cl,y1.vf=y? J->im f J.c cl->im w₁ J.c cl:=by rintro J cl hJ ⟨s,r,h⟩;exact⟨s,r,by rwa[hc J hJ]⟩
 cases y1 with
 |quit q=>exact h|ended hd J m S q=>
  let ⟨V,W,B,h4,h5,pc,z,h6,h7,h8,h9⟩:=h;refine⟨V,W,B,h4.rely (hk m q?) hs ho,U J _ q? h5,pc,z,by rwa[hI<|hV h6],h7,h8,λp a op ha Y hg=>?_⟩;obtain⟨hp,V⟩|⟨aa,x1,x2,x3⟩:=eQ ha
  exact h9 p a op V (by rwa[<-hI hp]) hg;rw[x2]at Y;cases Y;rw[hu _ x1 hg]at x3;cases x3
 |act J m S n=>let ⟨V,W,B⟩:=h;obtain⟨fr,cs,rfl,O⟩:=B.3;exact⟨V,U J _ q? W,B.1,B.2,⟨fr,cs,q?,O.rely (hk m q?) hs ho⟩,B.4⟩
 |kK J m S n v=>obtain⟨V,W,g0,z,rfl,B⟩:=h;let ⟨v0,fr,cs,e,O⟩:=B.3;exact⟨V,U J _ q? W,g0,z,q?,B.1,B.2,⟨v0,fr,cs,e,O.rely (hk m q?) hs ho⟩,B.4⟩
 |start J m S k=>let ⟨V,W,B,h4,h5,h6,h7⟩:=h;exact⟨V,U J _ q? W,B,h4,h5,h6.rely (hk m q?) hs ho,h7⟩
def At.woken{i}(h:At x0 f I i x5 y1)(a a'):i6 x0 a a' f x5=x5:=by
 cases y1 with
 |quit q=>exact i1 h.Jy|ended O J m S q=>exact i1 h.1.Jy|act J m S n=>obtain⟨_,_,h⟩:=h;obtain⟨fr,cs,rfl,_⟩:=h.3;exact woken_run rfl
 |kK J m S n v=>obtain⟨_,⟨s,r,B⟩,U,z,rfl,_⟩:=h;exact woken_send_open a a' B
 |start J m S k=>exact woken_run h.2.2.2.2.2.2.status
def Kn(qW:F?)(ρ:Nat->fQ)(t:cg):Prop:=∀p a b,gA t p=y? a->mU a.1=y? b->qW b->hU t 0 p\/∃i B r,(ρ i).vh=y? B/\B.1 r=y? b
variable {y4 y5:Nat->fQ}
def Kn.app{u:cg}(h:Kn x2 y4 I)(V:∀i B r b,(y4 i).vh=y? B->B.1 r=y? b->∃W J r',(y5 W).vh=y? J/\J.1 r'=y? b)(Y:∀op∈u,∀a b,op.4.touch?=y? a->mU a.1=y? b->x2 b->op.g=0\/∃i B r,(y5 i).vh=y? B/\B.1 r=y? b):Kn x2 y5<|I++u:=by
 intro p a b ha hb U;obtain⟨_,O⟩|⟨op,O,h2,h3⟩:=eQ ha
 obtain x|⟨i,B,r,x,y⟩:=h p a b O hb U
 exact .inl (x.app u);exact .inr (V i B r b x y);obtain x|x:=Y op O a b h3 hb U
 have:=hZ h2;rw[x]at this;exact .inl this;exact .inr x
def Kn.same(h:Kn x2 y4 I)(B:∀j,(y5 j).vh=(y4 j).vh):Kn x2 y5 I:=λp a b J hb O=>(h p a b J hb O).imp id λ⟨i,U,r,x,y⟩=>⟨i,U,r,by rwa[B],y⟩
def YV(B qW:F?)(ρ:Nat->fQ)(w:w?)(t:cg):Prop:=∀c,B c->im w c f?/\(∀p a,gA t p=y? a->mU a.1≠y? c)/\(∀i J,(ρ i).vf=y? J->J.c≠c)/\¬qW c
def YV.app{u:cg}(h:YV x2 z3 y4 f I)(U:∀j,(y5 j).vf=(y4 j).vf)(V:∀c,x2 c->im f c f?->x6.1[c]?=f.1[c]?)(W:∀op∈u,∀a c,op.4.touch?=y? a->x2 c->im f c f?->mU a.1≠y? c):YV x2 z3 y5 x6<|I++u:=by
 intro c B;obtain⟨⟨s,r,O⟩,Y,h3,h4⟩:=h c B;refine⟨⟨s,r,by rwa[V c B ⟨s,r,O⟩]⟩,λp a ha=>?_,λi J hJ=>h3 i J<|by rwa[<-U],h4⟩;obtain⟨_,x⟩|⟨op,x,_,y⟩:=eQ ha
 exact Y p a x;exact W op x a c y B ⟨s,r,O⟩
def YV.same(h:YV x2 z3 y4 f I)(B:∀j,(y5 j).vf=(y4 j).vf)(J:x6.1=f.1):YV x2 z3 y5 x6 I:=by have:=h.app (u:=#[]) B (λc _ _=>by rw[J]) i!;simpa using this
def rX:Obj:=.deferred x?
def Len(qW:F?)(w0:w?)(ρ:Nat->fQ):Prop:=∀b,b<w0.1.size->qW b\/(∃i J r o,(ρ i).vf=y? J/\J.8 r b o/\w0.1[b]?=y? o)\/w0.1[b]?=y? rX
def Len.same(h:Len x2 f y4)(B:∀j,(y5 j).vf=(y4 j).vf):Len x2 f y5:=λb hb=>(h b hb).imp id λz=>z.imp (λ⟨i,J,r,o,x,y⟩=>⟨i,J,r,o,by rwa[B],y⟩) id
structure Co(P:P?)(qW:F?)(w0:w?)(Pd:F?)(ρ:Nat->fQ)(m:Ren)(wl:w?)(gs:Array Goroutine)(w:w?)(t:cg):Prop where
 main:WR m wl w
 at_:∀i g,0<i->gs[i]?=some g->At P w t i g (ρ i)
 out:∀i,i=0\/gs.size<=i->ρ i=.quit 0
 d0:∀i m',(ρ i).vh=some m'->rh m m'
 dd:∀i j m1 m2,i≠j->(ρ i).vh=some m1->(ρ j).vh=some m2->rh m1 m2
 cc:∀i j J1 J2,i≠j->(ρ i).vf=some J1->(ρ j).vf=some J2->J1.c≠J2.c
 s0:qx t 0 m
 ss:∀i m',(ρ i).live=some m'->qx t i m'
 unt:∀i J,(ρ i).chan=some J->∀p a,gA t p=some a->mU a.1≠some J.c
 low:UI t w.1.size
 hears:nf t
 Zb9:nJ t λi=>(ρ i).sum≠none
 clean:∀said,¬cS said t
 fix:∀b,qW b->b<w.1.size/\w.1[b]?=w0.1[b]?
 f0:∀r b,m.1 r=some b->qW b->m.3 r
 ff:∀i m',(ρ i).vh=some m'->∀r b,m'.1 r=some b->qW b->m'.3 r
 cx:∀i J,(ρ i).vf=some J->¬qW J.c
 sz:w0.1.size<=w.1.size
 os:w.4=w0.4/\w.5=w0.5
 kn:Kn qW ρ t
 pd:YV Pd qW ρ w t
 len:Len qW w0 ρ
end
end
section
open Conc
open ConcN (upd upd_same upd_ne)
variable {f P:Ren}{g l o:w?}{p:cg}{C:P?}{I J:F?}{i:Nat}
def gH.at(m)(w)(d):gH m m w<|w.at d:=⟨λ_ _ _=>rfl,Zu _,λr' h B=>absurd B (by show ¬r'<w.1.size;omega),λ_ _ h=>.inl h,λ_ _ h=>.inl h,q?,q?,q?,λ_=>rfl,q?,λ_ _ _ _=>rfl⟩
def fQ.qf{ρ:fQ}(h:ρ.live=y? f):ρ.vh=y? f:=by cases ρ<;>first|cases h;rfl|cases h
def fQ.wX{ρ:fQ}{J}(h:ρ.chan=y? J):ρ.vf=y? J:=by cases ρ<;>first|cases h;rfl|cases h
def fQ.TL{ρ:fQ}(h:ρ.live=y? f):ρ.sum≠x?:=by cases ρ<;>first|(simp[fQ.sum];done)|cases h
def WR.Cm(h:WR f g l){c cl}(B:im l c cl):f.1 i≠y? c:=by intro O;obtain⟨s,y,B⟩:=B;obtain⟨o,V,_,J,U⟩:=h.1 i c O;rw[B]at J;cases J;cases U
def gH.U6(J:gH f P g l)(O:WR f o g){c cl}(B:im g c cl):l.1[c]?=g.1[c]?:=by obtain⟨s,y,B⟩:=B;rw[B];exact J.chan O B
def ofEvents_g{fn pos es op}(h:op∈oA i fn pos es):op.g=i:=by obtain⟨e,_,rfl⟩:=gx h;rfl
def Co.get{ρ gs w}(h:Co C I l J ρ f o gs w p)(U:ρ i≠.quit 0):∃g,0<i/\gs[i]?=y? g/\At C w p i g (ρ i):=by by_cases V:i=0\/gs.size<=i;exact absurd (h.3 i V) U;have B:i<gs.size:=o!;have O:=Z1 B;exact⟨gs[i],o!,O,h.2 i _ o! O⟩
def Co.wr{ρ gs w}(h:Co C I l J ρ f o gs w p)(B:(ρ i).vh=y? P):∃O,WR P O w:=by
 obtain⟨g,_,_,U⟩:=h.get λe=>by rw[e]at B;cases B
 exact U.wr B
def Co.is{O:F?}{ρ gs w}(h:Co C I l O ρ f o gs w p){J}(B:(ρ i).vf=y? J):∃cl,im w J.c cl:=by
 obtain⟨g,_,_,U⟩:=h.get λe=>by rw[e]at B;cases B
 exact U.is B
def Co.step{Pd:F?}{ρ gs gs' w₁ t g' mi ρ' fn pos es Pa}(h:Co C I g Pd ρ f l gs o t)(hi:0<i)(av:i<gs.size)(hl:(ρ i).live=y? mi)(ab:mi.Le P)(V:gH mi P o w₁)(he:∀e∈es,ri P e)(Y:WR P Pa w₁)
  (au:At C w₁ (t++oA i fn pos es) i g' ρ') (ag:ρ'.live=y? P) (aw:ρ'.vf=(ρ i).vf) (hc:ρ'.chan=(ρ i).chan) (hs:ρ'.sum=(ρ i).sum)
  (ak:gs'.size=gs.size) (al:gs'[i]?=y? g') (am:∀j x,0<j->j≠i->gs'[j]?=y? x->∃y,gs[j]?=y? y/\(At C w₁ (t++oA i fn pos es) j y (ρ j)->x=y)) :
  Co C I g Pd (n4 ρ i ρ') f l gs' w₁ (t++oA i fn pos es):=by
 have hr:=fQ.qf hl;have ad:=fQ.qf ag;let ⟨ax,an⟩:=h.wr hr;have O:∀c cl,im o c cl->w₁.1[c]?=o.1[c]?:=λc cl x=>V.U6 an x
 have W:∀j,(n4 ρ i ρ' j).vf=(ρ j).vf:=λj=>by by_cases e:j=i;subst e;rwa[n0];rw[n3 _ _ e]
 have ah:∀j,(n4 ρ i ρ' j).chan=(ρ j).chan:=λj=>by by_cases e:j=i;subst e;rwa[n0];rw[n3 _ _ e]
 have ae:∀j,(n4 ρ i ρ' j).sum=(ρ j).sum:=λj=>by by_cases e:j=i;subst e;rwa[n0];rw[n3 _ _ e]
 have dm:=(rh.grow (h.4 i mi hr).symm ab V h.1).symm
 have dj:∀j m',j≠i->(ρ j).vh=y? m'->rh P m':=λj m' U B=>by obtain⟨ay,ao⟩:=h.wr B;exact rh.grow (h.5 i j mi m' (qs U) hr B) ab V ao
 have hrel:∀j y,0<j->j≠i->gs[j]?=y? y->At C w₁ (t++oA i fn pos es) j y (ρ j):=by intro j y hj U hy;refine(h.2 j y hj hy).rely (λm' B=>V.leaves (h.5 i j mi m' (qs U) hr B) (h.wr B).choose_spec) (λJ hJ=>?_) V.2 V.8 λop aa hg=>absurd (ofEvents_g aa) (by rwa[hg]);obtain⟨cl,hx⟩:=h.is hJ;exact O _ cl hx
 have ap:∀j x,0<j->gs'[j]?=y? x->At C w₁ (t++oA i fn pos es) j x (n4 ρ i ρ' j):=by intro j x ai hx;by_cases e:j=i;subst e;rw[al]at hx;cases hx;rwa[n0];rw[n3 _ _ e];obtain⟨y,hy,aq⟩:=am j x ai e hx;have:=hrel j y ai e hy;rwa[aq this]
 have si:=(h.8 i mi hl).grow ab h.10 V.4;refine⟨h.1.rely (V.leaves (h.4 i mi hr).symm h.1) V.2 V.8,ap,λj hj=>?_,λj m' B=>?_,λj k m1 m2 U h1 h2=>?_,λj k J1 J2 U h1 h2=>h.6 j k J1 J2 U (by rwa[<-W])<|by rwa[<-W],h.7.other dm he,λj m' B=>?_,λj J hJ p a ha hb=>?_,h.10.own Y V.2 he,E2 h.11 he,?_,si.clean h.13 he,λb hb=>?_,h.f0,λj m' B r b aj hb=>?_,λj J hJ=>h.cx j J<|by rwa[<-W],ZE h.sz V.2,⟨V.8.trans h.os.1,V.7.trans h.os.2⟩,h.kn.app (λj m' r b B hb=>?_)<|λop aa a b ha hb _=>?_,h.pd.app W (λc _ af=>O c _ af)<|λop aa a c ha _ af hb=>?_,h.22.same W⟩;rw[n3 _ _ (by intro rfl;obtain x|x:=hj<;>omega)];exact h.3 j (by rwa[<-ak]);by_cases e:j=i;subst e;rw[n0,ad]at B;cases B;exact dm;rw[n3 _ _ e]at B;exact h.4 j m' B;by_cases e:j=i;subst e;rw[n0,ad]at h1;cases h1;rw[n3 _ _<|qs U]at h2;exact dj k m2 (qs U) h2;rw[n3 _ _ e]at h1;by_cases e':k=i;subst e';rw[n0,ad]at h2;cases h2;exact(dj j m1 e h1).symm;rw[n3 _ _ e']at h2;exact h.5 j k m1 m2 U h1 h2;by_cases e:j=i;subst e;rw[n0,ag]at B;cases B;exact si.own;rw[n3 _ _ e]at B;exact(h.8 j m' B).other (dj j m' e<|fQ.qf B).symm he;rw[ah]at hJ;obtain⟨_,h1⟩|⟨op,h1,_,h3⟩:=eQ ha
 exact h.9 j J hJ p a h1 hb;obtain⟨e,ac,rfl⟩:=gx h1
 have hm:a.1.isMemory=t?:=by cases hl:a.1<;>rw[hl]at hb<;>simp[mU]at hb<;>rfl
 let ⟨b',r',g1,g2,g3⟩:=nX (he e ac) h3 hm;rw[hb]at g1;cases g1;let ⟨cl,s,y,hx⟩:=h.is<|fQ.wX hJ;have:im w₁ _ cl:=⟨s,y,by rwa[O _ cl ⟨s,y,hx⟩]⟩;exact Y.Cm this g2;refine(h.12.mono λj hj=>by rwa[ae]).app λop aa=>.inr<|.inr ?_;rw[ofEvents_g aa,ae];exact fQ.TL hl;obtain⟨h1,h2⟩:=h.14 b hb;refine⟨AT h1 V.2,?_⟩;rw[<-h2];by_cases hx:∃r,mi.1 r=y? b;obtain⟨r,hx⟩:=hx;exact V.11 r b hx<|h.ff i mi hr r b hx hb;exact V.1 b h1 λr ar=>hx ⟨r,ar⟩;by_cases e:j=i;subst e;rw[n0,ad]at B;cases B;obtain x|x:=V.4 r b aj
 exact(ab.3 r b x).2<|h.ff j mi hr r b x hb;have:=(h.14 b hb).1;omega;rw[n3 _ _ e]at B;exact h.ff j m' B r b aj hb;by_cases e:j=i;subst e;rw[hr]at B;cases B;exact⟨j,P,r,by rwa[n0],ab.1 _ _ hb⟩;exact⟨j,m',r,by rwa[n3 _ _ e],hb⟩;obtain⟨e,ac,rfl⟩:=gx aa
 have hm:a.1.isMemory=t?:=by cases hl:a.1<;>rw[hl]at hb<;>simp[mU]at hb<;>rfl
 let ⟨b',r',g1,g2,g3⟩:=nX (he e ac) ha hm;rw[hb]at g1;cases g1;exact .inr ⟨i,P,r',by rwa[n0],g2⟩;obtain⟨e,ac,rfl⟩:=gx aa
 have hm:a.1.isMemory=t?:=by cases hl:a.1<;>rw[hl]at hb<;>simp[mU]at hb<;>rfl
 let ⟨b',r',g1,g2,g3⟩:=nX (he e ac) ha hm;rw[hb]at g1;cases g1;let ⟨s,y,hx⟩:=af;exact Y.Cm ⟨s,y,by rwa[O _ f? ⟨s,y,hx⟩]⟩ g2
def Co.XL{Pd:F?}{ρ U gs' g' ρ'}(h:Co C I g Pd ρ P l U o p)(d)(hi:0<i)(ag:i<U.size)(af:At C (o.at d) p i g' ρ')(V:ρ'.vh=(ρ i).vh)(hl:ρ'.live=(ρ i).live)(B:ρ'.vf=(ρ i).vf)(hc:ρ'.chan=(ρ i).chan)(hs:ρ'.sum=(ρ i).sum)
  (ab:gs'.size=U.size) (ac:gs'[i]?=y? g') (ad:∀j x,0<j->j≠i->gs'[j]?=y? x->∃y,U[j]?=y? y/\(At C (o.at d) p j y (ρ j)->x=y)) :
  Co C I g Pd (n4 ρ i ρ') P l gs' (o.at d) p:=by
 have key:∀{α:Type}(f:fQ->α),f ρ'=f (ρ i)->∀j,f (n4 ρ i ρ' j)=f (ρ j):=λf hf j=>by by_cases e:j=i;subst e;rwa[n0];rw[n3 _ _ e]
 have hrel:∀j y,0<j->U[j]?=y? y->At C (o.at d) p j y (ρ j):=by intro j y hj hy;have:=(h.2 j y hj hy).rely (w₁:=o.at d) (u:=#[]) (λ_ _ _ _ _=>rfl) (λ_ _=>rfl) (Zu _) q? i!;simpa using this
 refine⟨h.1.at d,λj x W hx=>?_,λj hj=>?_,λj Y aa=>h.4 j Y<|by rwa[<-key _ V],λj k m1 m2 O h1 h2=>h.5 j k m1 m2 O (by rwa[<-key _ V])<|by rwa[<-key _ V],λj k J1 J2 O h1 h2=>h.6 j k J1 J2 O (by rwa[<-key _ B])<|by rwa[<-key _ B],h.7,λj Y aa=>h.8 j Y<|by rwa[<-key _ hl],λj J hJ=>h.9 j J<|by rwa[<-key _ hc],h.10,h.11,h.12.mono λj hj=>by rwa[key _ hs],h.13,h.14,h.f0,λj Y aa=>h.ff j Y<|by rwa[<-key _ V],λj J hJ=>h.cx j J<|by rwa[<-key _ B],h.sz,h.os,h.kn.same<|key _ V,h.pd.same (key _ B) q?,h.22.same<|key _ B⟩;by_cases e:j=i;subst e;rw[ac]at hx;cases hx;rwa[n0];rw[n3 _ _ e];obtain⟨y,hy,ae⟩:=ad j x W e hx;have:=hrel j y W hy;rwa[ae this];rw[n3 _ _ (by obtain x|x:=hj<;>omega)];exact h.3 j (by rwa[<-ab])
end
section
open Conc
open ConcN (upd upd_same upd_ne)
variable {f:P?}{g:LS}{i:uj}{l o p:w?}
inductive jQ(P:P?):fQ->fQ->Prop
 |quit {q}:jQ P (.quit q) (.quit (q+1))|ended {h J m S q}:jQ P (.ended h J m S q) (.ended h J m S (q+1))|close {J m S n m' S' q}:jQ P (.ended false J m' S' q) (.act J m S n)|act {J m S n m' S' n'}:qu P J.3 S' S->jQ P (.act J m' S' n') (.act J m S n)|kK {J m S n m' S' n' v}:qu P J.3 S' S->jQ P (.kK J m' S' n' v) (.act J m S n)|start {J m S k}:jQ P (.start J m S k) (.start J m S (k+1))|go {J m S k}:jQ P (.act J m S 0) (.start J m S k)
def Ja(q):Acc (jQ f)<|.quit q:=by
 induction q with
 |zero=>exact .intro _ λy h=>by cases h
 |succ q B=>exact .intro _ λy h=>by cases h;exact B
def EO(hd)(J)(m)(S)(q):Acc (jQ f)<|.ended hd J m S q:=by
 induction q with
 |zero=>exact .intro _ λy h=>by cases h
 |succ q B=>exact .intro _ λy h=>by cases h;exact B
def JX(J)(m)(S)(n)(v):Acc (jQ f)<|.kK J m S n v:=.intro _ λy h=>by cases h
def Gp(h:Acc (qu f i.3) g):∀(m)(n),Acc (jQ f)<|.act i m g n:=by
 induction h with
 |intro g _ J=>
  intro m n;refine .intro _ λy O=>?_
  cases O with
  |close=>exact EO ..|act B=>exact J _ B ..|kK B=>exact JX ..
def Pq(h:Acc (qu f i.3) g)(m)(k):Acc (jQ f)<|.start i m g k:=by
 induction k with
 |zero=>exact .intro _ λy B=>by cases B;exact Gp h ..
 |succ k J=>
  refine .intro _ λy B=>?_
  cases B with
  |start=>exact J|go=>exact Gp h ..
def uf.ZaB{m S}:∀{k g},uf f i m S k g->∀{w},WR m S.w w->yf f S
 |0,_,h,w,B=>by
  obtain⟨fr,cs,d,es,_,_,J⟩:=h.2 w B
  exact⟨_,_,_,_,_,_,_,J⟩
 |k+1,_,h,w,B=>by obtain⟨g',d,es,_,_,J⟩:=h.2 w B;exact J.ZaB B
def At.acc{t i g ρ}(h:At f l t i g ρ):Acc (jQ f) ρ:=by
 cases ρ with
 |quit q=>exact Ja q|ended hd J m S q=>exact EO ..|act J m S n=>obtain⟨B,_,O⟩:=h;obtain⟨fr,cs,_,U⟩:=O.3;exact Gp (O.2.acc B.1 ⟨_,_,_,_,_,_,_,U⟩) ..
 |kK J m S n v=>exact JX ..|start J m S k=>obtain⟨B,_,_,V,_,W,Y⟩:=h;exact Pq (V.acc B.1<|Y.ZaB W) ..
def Co.acc{qW:F?}{B:F?}{ρ m gs t}(h:Co f qW l B ρ m o gs p t):Acc (Nu (jQ f) gs.size) ρ:=by refine Sr _ _ λi J=>?_;by_cases e:i=0;rw[h.3 i<|.inl e];exact Ja 0;exact(h.2 i _ o!<|Z1 J).acc
def PY(i)(fn)(pos)(c):oA i fn pos #[⟨.obj c,f?,t?⟩,⟨.obj c,t?,t?⟩]=#[{g:=i,fn,pos,act:=.access ⟨.obj c,f?,t?⟩},{g:=i,fn,pos,act:=.close c}]:=by rw[hO];simp[p1]
def Co.close{P}{qW:F?}{Pd:F?}{ρ m gs gs' w w₁ t i g' J mi S n s r fn pos}(h:Co P qW l Pd ρ m o gs w t)(hi:0<i)(aq:i<gs.size)(aa:ρ i=.act J mi S n)(ar:J.3 S)(hn:n=l? J.L)(ao:WR mi S.w w)(hc:w.1[J.c]?=y? (.chan 0 #[] f? s r f?))(au:Lv P 2 g')
  (ag:w₁={w with heap:=S? w.1 J.c<|.chan 0 #[] t? s r f?}) (av:gs'.size=gs.size) (aw:gs'[i]?=y? g')
  (ap:∀j x,0<j->j≠i->gs'[j]?=y? x->∃y,gs[j]?=y? y/\(At P w₁ (t++oA i fn pos #[⟨.obj J.c,f?,t?⟩,⟨.obj J.c,t?,t?⟩]) j y (ρ j)->x=y)) :
  Co P qW l Pd (n4 ρ i<|.ended f? J mi S 2) m o gs' w₁ (t++oA i fn pos #[⟨.obj J.c,f?,t?⟩,⟨.obj J.c,t?,t?⟩]):=by
 subst ag;have ae:=lA hc;have O:w.1.size<=(S? w.1 J.c<|.chan 0 #[] t? s r f?).size:=i!;have ah:∃a b x s y t,w.1[J.c]?=y? (.chan a b x s y t):=⟨_,_,_,_,_,_,hc⟩
 have key:∀{α:Type}(f:fQ->α),f _=f _->∀j,f (n4 ρ i (.ended f? J mi S 2) j)=f (ρ j):=λf hf j=>by by_cases e:j=i;subst e;rwa[n0];rw[n3 _ _ e]
 have kr:=key fQ.vh (by rw[aa];rfl);have kj:=key fQ.vf (by rw[aa];rfl);have ks:=key fQ.sum (by rw[aa,hn];rfl);have ac:(ρ i).vf=y? J:=by rw[aa];rfl
 have kl:∀j V,(n4 ρ i (.ended f? J mi S 2) j).live=y? V->j≠i/\(ρ j).live=y? V:=λj V hx=>by by_cases e:j=i;subst e;rw[n0]at hx;cases hx;rw[n3 _ _ e]at hx;exact⟨e,hx⟩
 have kc:∀j J',(n4 ρ i (.ended f? J mi S 2) j).chan=y? J'->j≠i/\(ρ j).chan=y? J':=λj J' hx=>by by_cases e:j=i;subst e;rw[n0]at hx;cases hx;rw[n3 _ _ e]at hx;exact⟨e,hx⟩
 have Y:=PY i fn pos J.c;generalize hu:oA i fn pos #[⟨.obj J.c,f?,t?⟩,⟨.obj J.c,t?,t?⟩]=u at Y ap⊢;have ai:∀op∈u,op.g=i:=by rw[<-hu];exact λop B=>ofEvents_g B
 have U:∀op∈u,∀a,op.4.touch?=y? a->a=⟨.obj J.c,f?,.atomic⟩:=by
  intro op B a ha;rw[Y]at B;simp only[m8,Zm,q!,or_false]at B;obtain rfl|rfl:=B
  simp only[p5,m?]at ha;exact ha.symm
  cases ha
 have af:∀j V ad,qx t j V->WR V ad w->qx (t++u) j V:=by
  intro j V ad hs hw p a b rr ha hb hr ax;obtain⟨_,h1⟩|⟨op,h1,_,h3⟩:=eQ ha
  exact(hs p a b rr h1 hb hr ax).app u;have:=U op h1 a h3;subst this;cases hb;exact absurd hr<|hw.Cm ⟨s,r,hc⟩
 refine⟨h.1.rely (mD h.1 ah) O q?,λj x aj hx=>?_,λj hj=>?_,λj V W=>h.4 j V<|by rwa[<-kr],λj k m1 m2 ak h1 h2=>h.5 j k m1 m2 ak (by rwa[<-kr])<|by rwa[<-kr],λj k J1 J2 ak h1 h2=>h.6 j k J1 J2 ak (by rwa[<-kj])<|by rwa[<-kj],af 0 m o h.7 h.1,λj V W=>?_,λj J' ab p a ha hb=>?_,λp a b ha hb=>?_,h.11.append λop B=>?_,?_,λsaid=>?_,λb hb=>?_,h.f0,λj V W=>h.ff j V<|by rwa[<-kr],λj J' ab=>h.cx j J'<|by rwa[<-kj],ZE h.sz O,h.os,h.kn.app (λj V r b W hb=>⟨j,V,r,by rwa[kr],hb⟩)<|λop B a b ha hb ay=>?_,h.pd.app kj (λc al _=>Zd<|(h.pd c al).2.2.1 i J ac)<|λop B a c ha al _ hb=>?_,h.22.same kj⟩;by_cases e:j=i;subst e;rw[aw]at hx;cases hx;rw[n0];have am:=h.2 j _ aj<|Z1 aq;rw[aa]at am;refine⟨au,am.2.2.1,⟨ar,am.1⟩,ao.rely (mD ao ah) O q?,⟨s,r,by simp[ae]⟩,t.size+1,{g:=j,fn,pos,act:=.close J.c},by rw[Y];simp,q?,q?,λp a op ha B hg=>?_⟩;have:=hV B;rw[Y]at this;simp at this;omega;rw[n3 _ _ e];obtain⟨y,hy,az⟩:=ap j x aj e hx
 have:At P {w with heap:=S? w.1 J.c<|.chan 0 #[] t? s r f?} (t++u) j y (ρ j):=by refine(h.2 j y aj hy).rely (λV W=>?_) (λJ' ab=>?_) O q? λop B hg=>absurd (ai op B) (by rwa[hg]);obtain⟨ad,an⟩:=h.wr W;exact mD an ah;exact Zd<|h.6 i j J J' (qs e) ac ab
 rwa[az this];rw[n3 _ _ (by obtain x|x:=hj<;>omega)];exact h.3 j (by rwa[<-av]);obtain⟨e,W⟩:=kl j V W;obtain⟨ad,an⟩:=h.wr<|fQ.qf W;exact af j V ad (h.8 j V W) an;obtain⟨e,ab⟩:=kc j J' ab;obtain⟨_,h1⟩|⟨op,h1,_,h3⟩:=eQ ha
 exact h.9 j J' ab p a h1 hb;have:=U op h1 a h3;subst this;simp only[mU,m?]at hb;exact h.6 i j J J' (qs e) ac (fQ.wX ab) hb;obtain⟨_,h1⟩|⟨op,h1,_,h3⟩:=eQ ha
 exact AT (h.10 p a b h1 hb) O;have:=U op h1 a h3;subst this;simp only[mU,m?]at hb;subst hb;exact AT ae O;rw[Y]at B;simp only[m8,Zm,q!,or_false]at B;obtain rfl|rfl:=B<;>simp
 refine(h.12.mono λj hj=>by rwa[ks]).app λop B=>.inr<|.inr ?_;rw[ai op B,ks,aa];simp[fQ.sum];refine hQ (h.13 said) ai λq a ha op B b hb a0=>?_;have:=U op B b hb;subst this;exact absurd (by rw[a0.1];rfl)<|h.9 i J (by rw[aa];rfl) q a ha;obtain⟨h1,h2⟩:=h.14 b hb;refine⟨AT h1 O,?_⟩;rw[<-h2];exact Zd (by intro rfl;exact h.cx i J ac hb);have:=U op B a ha;subst this;cases hb;exact absurd ay<|h.cx i J ac;have:=U op B a ha;subst this;simp only[mU,m?]at hb;exact(h.pd c al).2.2.1 i J ac hb
end
section
open Conc
open ConcN (upd upd_same upd_ne)
variable {f:P?}{g l:Goroutine}{i:Nat}
def At.offers{w t ρ}(h:At f w t i g ρ)(c):g9 g c f?=[]:=by
 cases ρ with
 |quit q=>exact gv (by obtain x|x:=Lv.status h<;>rw[x]<;>simp) ..|ended B J m S q=>exact gv (by obtain x|x:=h.1.status<;>rw[x]<;>simp) ..|act J m S n=>obtain⟨_,_,h⟩:=h;obtain⟨fr,cs,rfl,_⟩:=h.3;exact gv (by simp[G]) ..
 |kK J m S n v=>obtain⟨_,_,O,z,rfl,_⟩:=h;exact offersAt_parked_send' ..
 |start J m S k=>exact gv (by rw[h.2.2.2.2.2.2.status];simp) ..
def uP{ρ n i r}(B:i<n)(h:jQ f r<|ρ i):Nu (jQ f) n (n4 ρ i r) ρ:=⟨i,B,by rwa[n0],λj J=>n3 _ _ J⟩
def uM{ρ}{r:fQ}(h:r.sum=(ρ i).sum)(j):(n4 ρ i r j).sum=(ρ j).sum:=by by_cases e:j=i;subst e;rwa[n0];rw[n3 _ _ e]
def rC{ρ:Nat->fQ}{J:Array Goroutine}{u}(w₁):∀j x,0<j->j≠i->(S? (J.map<|woken f g l w₁) i l)[j]?=y? x->∃y,J[j]?=y? y/\(At f w₁ u j y (ρ j)->x=y):=by intro j x _ B O;rw[Zd<|qs B,bG]at O;obtain⟨y,U,rfl⟩:=qb.1 O;exact⟨y,U,λh=>h.woken g l⟩
def C6{ρ:Nat->fQ}{J u}(w₁):∀j x,0<j->j≠i->(S? J i g)[j]?=y? x->∃y,J[j]?=y? y/\(At f w₁ u j y (ρ j)->x=y):=by intro j x _ B O;rw[Zd<|qs B]at O;exact⟨x,O,λ_=>rfl⟩
def OD{B:Array Goroutine}{w₁ a}(O:0<i)(J:B[0]?=y? a):(S? (B.map<|woken f g l w₁) i l)[0]?=y? (woken f g l w₁ a):=by rw[Zd o!,bG,J];rfl
def Uh{P}(g g' a)(w):woken P g g' w a=a\/woken P g g' w a=a.again w:=by unfold woken;split;exact .inr rfl;exact .inl rfl
def Co.other{qW:F?}{w0}{Pd:F?}{ρ m wl gs w t sl a}(h:Co f qW w0 Pd ρ m wl gs w t)(hi:0<i)(hg:gs[i]?=y? g)(aa:g.3=.running)(h0:gs[0]?=y? a)(al:∀J W S n g₁ cs w₁ es,ρ i=.act J W S n->bM f f? g w=.comm g₁ cs t? .send w₁ es->g9 a J.c f?=[]) :
  ∃gs' w' ops ρ',cA f (g8 gs w sl) i=(.next<|g8 gs' w' sl,ops)/\Co f qW w0 Pd ρ' m wl gs' w' (t++ops)/\Nu (jQ f) gs.size ρ' ρ/\(∀j,(ρ' j).sum=(ρ j).sum)/\gs'.size=gs.size/\((gs'[0]?=y? a/\∀j,(ρ' j).chan=(ρ j).chan)\/gs'[0]?=y? (a.again w'))/\(∀J W S n v,ρ' i=.kK J W S n v->g9 a J.c f?=[])/\(∀j,j≠i->ρ' j=ρ j):=by
 have O:=(AI.1 hg).1;have ad:(i==0)=f?:=j!;have U:=h.2 i g hi hg
 have lv:∀q,Lv f q g->∃q' g',q=q'+1/\(∀w,bM f f? g w=.go g' w #[])/\Lv f q' g':=by
  intro q hq
  cases q with
  |zero=>rw[hq]at aa;cases aa
  |succ q=>
   obtain x|⟨_,g',x,y⟩:=hq
   rw[x]at aa;cases aa;exact⟨q,g',q?,x,y⟩
 have aw:w.at _=w:=rfl
 have Y:∀r:fQ,r.chan=(ρ i).chan->∀j,(n4 ρ i r j).chan=(ρ j).chan:=λr hr j=>by by_cases e:j=i;subst e;rwa[n0];rw[n3 _ _ e]
 have zero:∀(g':Goroutine)(w₁:w?)(r:fQ),r.chan=(ρ i).chan->(((S? (gs.map<|woken f g g' w₁) i g')[0]?=y? a/\∀j,(n4 ρ i r j).chan=(ρ j).chan)\/(S? (gs.map<|woken f g g' w₁) i g')[0]?=y? (a.again w₁)):=by
  intro g' w₁ r hr;rw[OD hi h0];obtain x|x:=Uh (P:=f) g g' a w₁
  exact .inl ⟨by rw[x],Y r hr⟩;exact .inr (by rw[x])
 cases B:ρ i with
 |quit q=>
  rw[B]at U;obtain⟨q',g',rfl,hs,hq⟩:=lv q U;have ab:=gB (sl:=sl) hg (by rw[ad];exact hs w);have e0:oA i g.1.1 g.1.place #[]=#[]:=by rw[hO];simp
  rw[e0]at ab;refine⟨_,w,_,n4 ρ i _,ab,?_,uP O (by rw[B];exact .quit),uM (by rw[B];rfl),i!,zero g' w _ (by rw[B];rfl),λ_ _ _ _ _ x=>(by rw[n0]at x;cases x),λj hj=>n3 _ _ hj⟩;rw[b9];exact h.XL (gs':=S? (gs.map<|woken f g g' w) i g') w.3 hi O (ρ':=.quit q') (g':=g') hq (by rw[B];rfl) (by rw[B];rfl) (by rw[B];rfl) (by rw[B];rfl) (by rw[B];rfl) i! (by simp[O])<|rC<|w.at w.3
 |ended hd J W S q=>
  rw[B]at U;obtain⟨q',g',rfl,hs,hq⟩:=lv q U.1;have ab:=gB (sl:=sl) hg (by rw[ad];exact hs w);have e0:oA i g.1.1 g.1.place #[]=#[]:=by rw[hO];simp
  rw[e0]at ab;refine⟨_,w,_,n4 ρ i _,ab,?_,uP O (by rw[B];exact .ended),uM (by rw[B];cases hd<;>rfl),i!,zero g' w _ (by rw[B];rfl),λ_ _ _ _ _ x=>(by rw[n0]at x;cases x),λj hj=>n3 _ _ hj⟩;rw[b9];exact h.XL (gs':=S? (gs.map<|woken f g g' w) i g') w.3 hi O (ρ':=.ended hd J W S q') (g':=g') ⟨hq,U.2⟩ (by rw[B];rfl) (by rw[B];rfl) (by rw[B];rfl) (by rw[B];rfl) (by rw[B];cases hd<;>rfl) i! (by simp[O])<|rC<|w.at w.3
 |kK J W S n v=>rw[B]at U;obtain⟨_,_,g0,z,rfl,_⟩:=U;cases aa
 |start J W S k=>
  rw[B]at U;obtain⟨h1,h2,h3,h4,h5,h6,h7⟩:=U
  have step:∀g' d es(r:fQ),bM f f? g w=.go g' (w.at d) es->(∀e∈es,ri W e)->At f (w.at d) (t++oA i g.1.1 g.1.place es) i g' r->r.live=y? W->r.vf=y? J->r.chan=y? J->r.sum=y? (J,0)->jQ f r (.start J W S k)->
    ∃gs' w' ops ρ',cA f (g8 gs w sl) i=(.next<|g8 gs' w' sl,ops)/\Co f qW w0 Pd ρ' m wl gs' w' (t++ops)/\Nu (jQ f) gs.size ρ' ρ/\(∀j,(ρ' j).sum=(ρ j).sum)/\gs'.size=gs.size/\((gs'[0]?=y? a/\∀j,(ρ' j).chan=(ρ j).chan)\/gs'[0]?=y? (a.again w'))/\(∀J W S n v,ρ' i=.kK J W S n v->g9 a J.c f?=[])/\(∀j,j≠i->ρ' j=ρ j):=by
   intro g' d es r hs he hr e1 e2 e3 e4 am;exact⟨_,_,_,n4 ρ i r,gB (sl:=sl) hg<|by rwa[ad],h.step (gs':=S? (gs.map<|woken f g g'<|w.at d) i g') hi O (by rw[B];rfl) (Ren.Le.refl W) (gH.at W w d) he (h6.at d) hr e1 (by rwa[B]) (by rwa[B]) (by rwa[B]) i! (by simp[O])<|rC _,uP O<|by rwa[B],uM<|by rwa[B],i!,zero g' _ r<|by rwa[B],λ_ _ _ _ _ x=>(by rw[n0]at x;subst x;cases am),λj hj=>n3 _ _ hj⟩
  cases k with
  |zero=>let ⟨fr,cs,d,es,hs,he,V⟩:=h7.2 w h6;exact step _ d es (.act J W S 0) hs he ⟨h1,h2,h3,h4,⟨fr,cs,q?,V⟩,[],h5,q?⟩ q? q? q? q? .go
  |succ k=>let ⟨g',d,es,hs,he,ae⟩:=h7.2 w h6;exact step g' d es (.start J W S k) hs he ⟨h1,h2,h3,h4,h5,h6.at d,ae⟩ q? q? q? q? .start
 |act J W S n=>
  rw[B]at U;obtain⟨h1,⟨s,r,hc⟩,h3⟩:=U;have ac:(ρ i).live=y? W:=by rw[B];rfl
  let ⟨ax,an⟩:=h.wr<|fQ.qf ac;by_cases ae:J.3 S;obtain⟨hn,fr,ps,a',ty,cs,rfl,hm,hd,hq,ar⟩:=h3.stands h1 ae;let ⟨fr',cs',e,V⟩:=h3.3
  have au:∀o,woken f (G fr [ps]) (G {fr with defers:=[]} [ps]) {w with heap:=S? w.1 J.c<|.chan 0 #[] t? s r f?} o=o.again {w with heap:=S? w.1 J.c<|.chan 0 #[] t? s r f?}:=by intro o;unfold woken;rw[if_pos];simp[mayWake,G,hm]
  refine⟨_,_,_,n4 ρ i<|.ended f? J W S 2,gB (sl:=sl) hg (by rw[ad];exact(closing (ps:=ps) hm hd hq hc)),?_,uP O (by rw[B];exact .close),uM (by rw[B,hn];rfl),i!,.inr ?_,λ_ _ _ _ _ x=>(by rw[n0]at x;cases x),λj hj=>n3 _ _ hj⟩;exact h.close (gs':=S? (gs.map<|woken f (G fr [ps]) (G {fr with defers:=[]} [ps]) {w with heap:=S? w.1 J.c<|.chan 0 #[] t? s r f?}) i<|G {fr with defers:=[]} [ps]) hi O B ae hn V.5 hc ar rfl i! (by simp[O]) (rC _);rw[OD hi h0,au];have ao:=h3.EL h1 ae;generalize ap:bM f f? g w=sg at ao
  cases ao with
  |@go S' af g₁ w₁ es aj ak ai hk he=>let ⟨fr',cs',e,V⟩:=ai.3;exact⟨_,_,_,n4 ρ i<|.act J af S' n,gB (sl:=sl) hg<|by rwa[ad],h.step (gs':=S? (gs.map<|woken f g g₁ w₁) i g₁) hi O ac ak hk he V.5 ⟨h1,⟨s,r,hk.chan an hc⟩,ai⟩ q? (by rw[B];rfl) (by rw[B];rfl) (by rw[B];rfl) i! (by simp[O])<|rC _,uP O (by rw[B];exact .act aj),uM (by rw[B];rfl),i!,zero g₁ _ _ (by rw[B];rfl),λ_ _ _ _ _ x=>(by rw[n0]at x;cases x),λj hj=>n3 _ _ hj⟩
  |@send S' af g₁ w₁ es v' z' aj ak ag hk he=>
   have ah:=hk.chan an hc
   have hp:ci (S? gs i ph) J.c f?=[]:=by
    refine i3 λj x hx=>?_;obtain⟨_,rfl⟩|⟨ay,hx⟩:=hC gs i j x hx
    exact hM _ _;by_cases hj:j=0;subst hj;rw[h0]at hx;cases hx;exact al J W S n _ _ _ _ B ap;exact(h.2 j x o! hx).offers J.c
   have ab:=i5 (sl:=sl) hg (by rwa[ad]) (by
    intro cc aq;simp only[m8,Zm,q!,or_false]at aq;subst aq
    exact ways_send_none ah i! hp)
   let ⟨v0,fr',cs',e,V⟩:=ag.3;let ⟨f0,az,_,_,_,_,_,_,_,av,_⟩:=V.6;refine⟨_,_,_,n4 ρ i<|.kK J af S' n v',ab,h.step hi O ac ak hk he av ⟨h1,⟨s,r,ah⟩,g₁,z',q?,ag⟩ q? (by rw[B];rfl) (by rw[B];rfl) (by rw[B];rfl) i! (by simp[O])<|C6 _,uP O (by rw[B];exact .kK aj),uM (by rw[B];rfl),i!,.inl ⟨?_,Y _ (by rw[B];rfl)⟩,λ_ _ _ _ _ x=>(by rw[n0]at x;cases x;exact al J W S n _ _ _ _ B ap),λj hj=>n3 _ _ hj⟩;rwa[Zd o!]
end
section
open Conc
open ConcN (upd upd_same upd_ne)
variable {f g C:w?}{i I:Ren}{l:P?}{o p:F?}
structure oJ(P:P?) where
 Up:Machine->cg->Prop
 Fin:Machine->Stepped×Array MemOp->cg->Prop
 back:∀M t,Fin M (cM P M) t->Up M t
 next:∀M M' ops t,Up M' (t++ops)->Fin M (.next M',ops) t
def uu{u:List MemOp}(J:∀op∈u,op.4.touch?=x?):∀{t said},¬cS said t->¬cS said (t++u.toArray):=by
 induction u with
 |nil=>simpa using h|cons x u O=>intro t said h;have:t++(x::u).toArray=(t++#[x])++u.toArray:=i!;rw[this];apply O (λop B=>J op<|by simp[B]);refine hQ h (λop B=>by simp at B;rw[B]) λi a _ op B b hb _=>?_;simp at B;subst B;rw[J op i!]at hb;cases hb
def Co.at{ρ gs w t}(h:Co l o f p ρ I C gs w t)(d):Co l o f p ρ I C gs (w.at d) t:=by refine⟨h.1.at d,λi g B J=>?_,h.3,h.4,h.5,h.6,h.7,h.8,h.9,h.10,h.11,h.12,h.13,h.14,h.f0,h.ff,h.cx,h.sz,h.os,h.kn,h.pd.same (λ_=>rfl) q?,h.22⟩;have:=(h.2 i g B J).rely (w₁:=w.at d) (u:=#[]) (λ_ _ _ _ _=>rfl) (λ_ _=>rfl) (Zu _) q? i!;simpa using this
def Co.awake{ρ gs w t}(h:Co l o f p ρ I C gs w t){a}(O:gs[0]?=y? a)(U:a.3=.running\/a.3=.blocked\/a.3=.finished):∀g∈gs,i7 g:=by
 intro g V;obtain⟨i,J,rfl⟩:=b5.1 V;obtain rfl|B:=ZJ i
 have:=by simpa[Z1 J]using O
 rw[this];exact awake_of U;exact awake_of (h.2 i _ B<|Z1 J).status
def turn{Z:oJ l}{a}{K:Nat->Option (uj×Nat)}{N}(B:a.3=.running)
  (hm:∀ρ O w sl U d t,Co l o f p ρ I C O (w.at d) t->(∀j,(ρ j).sum=K j)->O[0]?=y? a->O.size=N->Z.2 (g8 O w sl) (cA l (g8 O (w.at d) U) 0) t) :
  ∀ρ O w sl t,Co l o f p ρ I C O w t->(∀j,(ρ j).sum=K j)->O[0]?=y? a->O.size=N->Z.1 (g8 O w sl) t:=by
 intro ρ O w sl t h hK W Y;have V:=h.acc;rw[Y]at V;revert hK O w sl t;induction V with
 |intro ρ _ ih=>
  intro O w sl t h hK W Y;let ⟨i,g,d,U,hi,hg,ac⟩:=hY (P:=l) (w:=w) (sl:=sl) (h.awake W<|.inl B) ⟨0,a,W,B⟩;apply Z.back _ _;rw[ac];obtain rfl|aa:=ZJ i
  exact hm ρ O w sl U d t (h.at d) hK W Y;obtain⟨gs',w',ops,ρ',hr,ad,ae,ab,af,hz,_,_⟩:=(h.at d).other (sl:=U) aa hi hg W λJ mi S n _ _ _ _ _ _=>gv (by rw[B];simp) ..;rw[hr];refine Z.4 _ _ _ _<|ih ρ' (Y▸ae) gs' w' U _ ad (λj=>(ab j).trans<|hK j) ?_<|af.trans Y;obtain⟨x,_⟩|x:=hz
  exact x;rw[x,i0 _<|.inl B]
def Co.Zbr{Pd:F?}{ρ gs gs' w w₁ t i g₁ J mi S n s r s' r' v z}{u:List MemOp}(h:Co l o f Pd ρ I C gs w t)(hi:0<i)(ac:ρ i=.kK J mi S n v)(aj:gs[i]?=y? (parked g₁ #[hL J.c v z] .send))(hc:w.1[J.c]?=y? (.chan 0 #[] f? s r f?))
  (af:w₁={w with heap:=S? w.1 J.c<|.chan 0 #[] f? s' r' f?}) (hu:∀op∈u,op.4.touch?=x?) (ap:∀op∈u,op.4≠.mark .disable/\op.4≠.mark .enable)
  (aq:gs'.size=gs.size) (ak:gs'[i]?=y? (gy g₁ undef)) (ar:∀j,0<j->j≠i->gs'[j]?=gs[j]?) :
  ∃aa,Co l o f Pd (n4 ρ i<|.act J aa S<|n+1) I C gs' w₁<|t++u.toArray:=by
 subst af;have az:=(AI.1 aj).1;have U:w.1.size<=(S? w.1 J.c<|.chan 0 #[] f? s' r' f?).size:=i!;have ag:∃a b x s y t,w.1[J.c]?=y? (.chan a b x s y t):=⟨_,_,_,_,_,_,hc⟩;have al:=h.2 i _ hi aj;rw[ac]at al;let ⟨au,_,g0,z0,eg,am⟩:=al
 have e0:g0=g₁\/gy g0 undef=gy g₁ undef:=by obtain⟨v0,fr',cs',e',_⟩:=am.3;subst e';refine .inr ?_;have:=congrArg (λg:Goroutine=>gy g undef) eg;exact this.symm
 let ⟨aa,a0,hb,hl,ab⟩:=am.done;have ah:(ρ i).vf=y? J:=by rw[ac];rfl
 have an:(ρ i).vh=y? mi:=by rw[ac];rfl
 refine⟨aa,?_⟩
 have kj:∀j,(n4 ρ i (.act J aa S<|n+1) j).vf=(ρ j).vf:=λj=>by by_cases e:j=i;subst e;rw[n0,ac];rfl;rw[n3 _ _ e]
 have kc:∀j,(n4 ρ i (.act J aa S<|n+1) j).chan=(ρ j).chan:=λj=>by by_cases e:j=i;subst e;rw[n0,ac];rfl;rw[n3 _ _ e]
 have kr:∀j Y,(n4 ρ i (.act J aa S<|n+1) j).vh=y? Y->∃V,(ρ j).vh=y? V/\Y.1=V.1/\Y.3=V.3:=λj Y hx=>by by_cases e:j=i;subst e;rw[n0]at hx;cases hx;exact⟨mi,an,hb,hl⟩;rw[n3 _ _ e]at hx;exact⟨Y,hx,q?,q?⟩
 have kl:∀j Y,(n4 ρ i (.act J aa S<|n+1) j).live=y? Y->∃V,(ρ j).live=y? V/\Y.1=V.1/\Y.3=V.3:=λj Y hx=>by by_cases e:j=i;subst e;rw[n0]at hx;cases hx;exact⟨mi,by rw[ac];rfl,hb,hl⟩;rw[n3 _ _ e]at hx;exact⟨Y,hx,q?,q?⟩
 have O:∀op∈u.toArray,op∈u:=λop B=>by simpa using B
 refine⟨h.1.rely (mD h.1 ag) U q?,λj x ao hx=>?_,λj hj=>?_,λj Y W=>?_,λj k m1 m2 ai h1 h2=>?_,λj k J1 J2 ai h1 h2=>h.6 j k J1 J2 ai (by rwa[<-kj])<|by rwa[<-kj],h.7.mute λop B=>hu op<|O op B,λj Y W=>?_,λj J' ad p a ha hb=>?_,λp a b ha hb=>?_,h.11.append λop B=>ap op<|O op B,?_,λsaid=>uu hu<|h.13 said,λb hb=>?_,h.f0,λj Y W r b hr hb=>?_,λj J' ad=>h.cx j J'<|by rwa[<-kj],ZE h.sz U,h.os,h.kn.app (λj Y r b W hx=>?_) (λop B a b ha _ _=>by rw[hu op<|O op B]at ha;cases ha),h.pd.app kj (λc av _=>Zd<|(h.pd c av).2.2.1 i J ah) (λop B a c ha _ _=>by rw[hu op<|O op B]at ha;cases ha),h.22.same kj⟩;by_cases e:j=i;subst e;rw[ak]at hx;cases hx;rw[n0,<-e0.elim (λe=>by rw[e]) id];obtain⟨fr,cs,e,ae⟩:=ab.3;exact⟨au,⟨s',r',by simp[lA hc]⟩,ab.1,ab.2,⟨fr,cs,e,ae.rely (mD ae.5 ag) U q?⟩,ab.4⟩;rw[n3 _ _ e];rw[ar j ao e]at hx;refine(h.2 j x ao hx).rely (λY W=>?_) (λJ' ad=>?_) U q? λop B _=>hu op<|O op B;obtain⟨a4,aw⟩:=h.wr W;exact mD aw ag;exact Zd<|h.6 i j J J' (qs e) ah ad;rw[n3 _ _ (by intro rfl;obtain x|x:=hj<;>omega)];exact h.3 j (by rwa[<-aq]);obtain⟨V,h1,h2,h3⟩:=kr j Y W;have:=h.4 j V h1;unfold rh at this⊢;rwa[h2,h3];obtain⟨ax,a1,a2,a3⟩:=kr j m1 h1;obtain⟨ay,b1,b2,b3⟩:=kr k m2 h2;have:=h.5 j k ax ay ai a1 b1;unfold rh at this⊢;rwa[a2,a3,b2,b3];obtain⟨V,h1,h2,h3⟩:=kl j Y W;have:=(h.8 j V h1).mute λop B=>hu op<|O op B;unfold qx at this⊢;rwa[h2,h3];rw[kc]at ad;obtain⟨_,h1⟩|⟨op,h1,_,h3⟩:=eQ ha
 exact h.9 j J' ad p a h1 hb;rw[hu op<|O op h1]at h3;cases h3;obtain⟨_,h1⟩|⟨op,h1,_,h3⟩:=eQ ha
 exact AT (h.10 p a b h1 hb) U;rw[hu op<|O op h1]at h3;cases h3;refine(h.12.mono λj hj=>?_).app λop B=>.inl<|hu op<|O op B;by_cases e:j=i;subst e;rw[n0];simp[fQ.sum];rwa[n3 _ _ e];obtain⟨h1,h2⟩:=h.14 b hb;refine⟨AT h1 U,?_⟩;rw[<-h2];exact Zd (by intro rfl;exact h.cx i J ah hb);obtain⟨V,h1,h2,h3⟩:=kr j Y W;rw[h2]at hr;rw[h3];exact h.ff j V h1 r b hr hb;by_cases e:j=i;subst e;rw[an]at W;cases W;exact⟨j,aa,r,by rw[n0];rfl,by rwa[hb]⟩;exact⟨j,Y,r,by rwa[n3 _ _ e],hx⟩
def Co.hear{Pd:F?}{ρ wl gs gs' w t i J mi S q fn pos}(h:Co l o C Pd ρ I wl gs w t)(hi:0<i)(O:ρ i=.ended f? J mi S q)(af:gs'.size=gs.size)(ag:∀j,0<j->gs'[j]?=gs[j]?) :
  Co l o C Pd (n4 ρ i<|.ended t? J mi S q) I wl gs' w (t++#[{g:=0,fn,pos,act:=.recvClosed J.c}]):=by
 have U:∀op∈(#[{g:=0,fn,pos,act:=.recvClosed J.c}]:Array MemOp),op.4.touch?=x?:=by intro op B;simp at B;subst B;rfl
 have key:∀{α:Type}(f:fQ->α),f _=f _->∀j,f (n4 ρ i (.ended t? J mi S q) j)=f (ρ j):=λf hf j=>by by_cases e:j=i;subst e;rwa[n0];rw[n3 _ _ e]
 have kr:=key fQ.vh (by rw[O];rfl);have kj:=key fQ.vf (by rw[O];rfl);obtain⟨gi,_,ad,ah⟩:=h.get (by rw[O];simp);have ai:=(AI.1 ad).1;rw[O]at ah
 have hh:nf<|t++#[{g:=0,fn,pos,act:=.recvClosed J.c}]:=h.11.append λop B=>by simp at B;subst B;simp
 have hrel:=λj x hj V=>(h.2 j x hj V).rely (λ_ _ _ _ _=>rfl) (λ_ _=>rfl) (Zu _) q? λop B _=>U op B
 refine⟨h.1,λj x ae V=>?_,λj hj=>?_,λj m' aa=>h.4 j m'<|by rwa[<-kr],λj k m1 m2 ab W h2=>h.5 j k m1 m2 ab (by rwa[<-kr])<|by rwa[<-kr],λj k J1 J2 ab W h2=>h.6 j k J1 J2 ab (by rwa[<-kj])<|by rwa[<-kj],h.7.mute U,λj m' aa=>(h.8 j m'<|by rwa[<-key fQ.live (by rw[O];rfl)]).mute U,λj J' ac p a Y hb=>?_,λp a b Y hb=>?_,hh,?_,λsaid=>by
  have:=uu (u:=[{g:=0,fn,pos,act:=.recvClosed _}]) (by simpa using U)<|h.13 said
  simpa using this,h.14,h.f0,λj m' aa=>h.ff j m'<|by rwa[<-kr],λj J' ac=>h.cx j J'<|by rwa[<-kj],h.sz,h.os,h.kn.app (λj m' r b aa V=>⟨j,m',r,by rwa[kr],V⟩) (λop B a b Y _ _=>by rw[U op B]at Y;cases Y),h.pd.app kj (λ_ _ _=>rfl) (λop B a c Y _ _=>by rw[U op B]at Y;cases Y),h.22.same kj⟩
 rw[ag j ae]at V;have:=hrel j x ae V;by_cases e:j=i;subst e;rw[n0];rwa[O]at this;rwa[n3 _ _ e];rw[n3 _ _ (by obtain x|x:=hj<;>omega)];exact h.3 j (by rwa[<-af]);rw[key fQ.chan (by rw[O];rfl)]at ac;obtain⟨_,W⟩|⟨op,W,_,h3⟩:=eQ Y
 exact h.9 j J' ac p a W hb;rw[U op W]at h3;cases h3;obtain⟨_,W⟩|⟨op,W,_,h3⟩:=eQ Y
 exact h.10 p a b W hb;rw[U op W]at h3;cases h3;obtain⟨_,_,_,_,_,pc,y,g1,g2,g3,g4⟩:=hrel i gi o! ad |> λx=>by rwa[O]at x
 refine((h.12.app λop B=>.inl<|U op B).join hh (r:={g:=0,fn,pos,act:=.recvClosed _}) (pr:=t.size) g1 g2 g3 i! q? q? g4).mono λj V=>?_;rw[n3 _ _ V.2];exact V.1
end
section
open Conc
open ConcN (upd upd_same upd_ne)
variable {f:P?}{g:Nat}{l o:w?}
structure zl(P:P?)(a:Goroutine)(cases:Array CommCase)(chans:Nat->Option Nat)(K:Nat->Option (uj×Nat)):Prop where
 run:a.3=.running
 step:∀w,bM P true a w=.comm a cases true .select w #[]
 ZbU:∀w,bM P true {parked a cases .select with status:=.running} w=.comm a cases true .select w #[]
 cs:∀(k:Nat)cc,cases[k]?=some cc->∃z,cc=⟨.chan (chans k),none,z⟩
 Zdf:∀k k' c,k<cases.size->k'<cases.size->chans k=some c->chans k'=some c->k=k'
 own:∀k c,k<cases.size->chans k=some c->∃i J n,K i=some (J,n)/\J.c=c
 some_:∃k c,k<cases.size/\chans k=some c
 flat:∀i J n,K i=some (J,n)->∀v∈J.L,∀(m:Ren)v',VR m v v'->v'=v
def zl.get{a cases B K}(h:zl f a cases B K)(J:g<cases.size):∃z,cases[g]?=y? ⟨.chan<|B g,x?,z⟩:=by obtain⟨z,O⟩:=h.4 g _<|Z1 J;exact⟨z,by rw[Z1 J,O]⟩
def zl.offers{a cases B K}(h:zl f a cases B K){c}(Y:g<cases.size)(hc:B g=y? c):g9 (parked a cases .select) c f?=[g]:=by
 obtain⟨z,hz⟩:=h.get Y
 have J:∀m:Nat,cases.zipIdx.1[m]?=(cases[m]?).map λx=>(x,m):=by simp
 have:=filter_map_one (id:CommCase×Nat->CommCase×Nat) (λ(U,_)=>U.2.isSome==f?&&(match U.1 with|.chan (y? r')=>r'==c|_=>f?)) _ g _ (by rw[J,hz];rfl) (by simp[hc]) (λm x hm O=>by
  rw[J]at O
  cases e:cases[m]? with
  |none=>rw[e]at O;cases O
  |some y=>
   rw[e]at O;simp only[N!,m?]at O;subst O;obtain⟨z',rfl⟩:=h.4 m y e;have V:=(AI.1 e).1
   cases W:B m with
   |none=>simp|some U=>
    have:U≠c:=by intro rfl;exact hm<|h.5 m g U V Y W hc
    simp[this])
 simp only[List.map_id]at this;exact congrArg _ this
def zl.J6{a cases B K}(h:zl f a cases B K){c}(V:∀k,k<cases.size->B k≠y? c):g9 (parked a cases .select) c f?=[]:=by
 have:(cases.zipIdx.1.filter λ(J,_)=>J.2.isSome==f?&&(match J.1 with|.chan (y? r')=>r'==c|_=>f?))=[]:=by
  rw[List.filter_eq_nil_iff];intro⟨cc,k⟩ hm;have e:=by simpa using Array.mem_zipIdx_iff_getElem?.1 (ZQ.1 hm)
  obtain⟨W,rfl⟩:=h.4 k cc e;have O:=(AI.1 e).1
  cases U:B k with
  |none=>simp|some J=>
   have:J≠c:=by intro rfl;exact V k O U
   simp[this]
 exact congrArg _ this
def At.Oo{t i g r}(h:At f l t i g r)(c):g9 g c t?=[]\/∃J m S n v,r=.kK J m S n v/\J.c=c/\g9 g c t?=[0]:=by
 cases r with
 |quit q=>exact .inl<|gv (by obtain x|x:=Lv.status h<;>rw[x]<;>simp) ..|ended B J m S q=>exact .inl<|gv (by obtain x|x:=h.1.status<;>rw[x]<;>simp) ..|act J m S n=>obtain⟨_,_,h⟩:=h;obtain⟨fr,cs,rfl,_⟩:=h.3;exact .inl (gv (by simp[G]) ..)
 |kK J m S n v=>obtain⟨_,_,O,z,rfl,_⟩:=h;rw[hR];by_cases e:J.c=c;exact .inr ⟨_,_,_,_,_,q?,e,by rw[if_pos e]⟩;exact .inl (by rw[if_neg e])
 |start J m S k=>exact .inl<|gv (by rw[h.2.2.2.2.2.2.status];simp) ..
def fQ.AH{r:fQ}{J}(h:r.sum=y? (J,g)):r.vf=y? J:=by
 cases r with
 |quit q=>cases h
 |ended B O m S q=>cases B<;>first|(cases h;rfl)|cases h
 |act=>cases h;rfl
 |kK=>cases h;rfl
 |start=>cases h;rfl
def Co.ways{qW:F?}{Pd:F?}{ρ m gs w t}(h:Co f qW l Pd ρ m o gs w t){i J n}(V:(ρ i).sum=y? (J,n))(z) :
  (∃m S v,ρ i=.kK J m S n v/\bS w (S? gs 0 ph) (gz J.c z)=[.partner i 0]/\im w J.c f?)\/(∃m S q,ρ i=.ended f? J m S q/\n=l? J.L/\bS w (S? gs 0 ph) (gz J.c z)=[.closed]/\im w J.c t?)\/(((∃m S,ρ i=.act J m S n)\/∃m S k,ρ i=.start J m S k)/\bS w (S? gs 0 ph) (gz J.c z)=[]/\im w J.c f?):=by
 obtain⟨g,hi,hg,U⟩:=h.get λe=>by rw[e]at V;cases V
 have W:=fQ.AH V
 have B:(∀m S n v,ρ i≠.kK J m S n v)->ci (S? gs 0 ph) J.c t?=[]:=by
  intro ac;refine i3 λj x hx=>?_;obtain⟨_,rfl⟩|⟨hj,hx⟩:=hC gs 0 j x hx
  exact hM ..;rcases(h.2 j x o! hx).Oo _ with e|⟨J',m',S',n',v',e,ec,_⟩
  exact e;by_cases ab:j=i;subst ab;rw[e]at W;cases W;exact absurd e<|ac _ _ _ _;exact absurd ec.symm<|h.6 i j J J' (qs ab) W (by rw[e];rfl)
 cases O:ρ i with
 |quit q=>rw[O]at V;cases V
 |ended hd J' m' S q=>
  rw[O]at V U
  cases hd with
  |true=>cases V
  |false=>cases V;obtain⟨_,_,_,_,⟨s,r,Y⟩,_⟩:=U;refine .inr (.inl ⟨m',S,q,q?,q?,?_,s,r,Y⟩);simp[bS,gz,Y,B (by rw[O];simp)]
 |act J' m' S n'=>rw[O]at V U;cases V;obtain⟨_,⟨s,r,Y⟩,_⟩:=U;refine .inr (.inr ⟨.inl ⟨m',S,q?⟩,?_,s,r,Y⟩);simp[bS,gz,Y,B (by rw[O];simp)]
 |start J' m' S k=>rw[O]at V U;cases V;obtain⟨_,⟨s,r,Y⟩,_⟩:=U;refine .inr (.inr ⟨.inr ⟨m',S,k,q?⟩,?_,s,r,Y⟩);simp[bS,gz,Y,B (by rw[O];simp)]
 |kK J' m' S n' v=>
  rw[O]at V;cases V;have aa:=U;rw[O]at aa;obtain⟨_,⟨s,r,Y⟩,g0,z0,rfl,_⟩:=aa;refine .inl ⟨m',S,v,q?,?_,s,r,Y⟩
  have hp:ci (S? gs 0 ph) J.c t?=[(i,0)]:=by
   rw[i2 (j:=i) (by rwa[Zd o!]) λj x hj hx=>?_];rw[hR,if_pos rfl];rfl;obtain⟨_,rfl⟩|⟨ad,hx⟩:=hC gs 0 j x hx
   exact hM ..;rcases(h.2 j x o! hx).Oo _ with e|⟨J2,m2,S2,n2,v2,e,ec,_⟩
   exact e;exact absurd ec.symm<|h.6 i j J J2 (qs hj) W (by rw[e];rfl)
  simp[bS,gz,Y,hp]
def A4{B sl a cases i k c cap s r}{J:V?}{tm v z g Sa es}(hi:B[i]?=y? g)(h:bM f (i==0) g l=.comm Sa #[hL c v z] t? .send o es)(hc:o.1[c]?=y? (.chan cap J f? s r tm))(aa:0<i)(h0:B[0]?=y? (parked a cases .select))(hp:ci (S? B i ph) c f?=[(0,k)])(hk:∃cc,cases[k]?=y? cc/\cc.2=x?) :
  cA f (g8 B l sl) i=(.next<|g8 (S? (S? B 0<|a.finishComm f cases .select k v t?) i<|gy Sa undef) {o with heap:=S? o.1 c<|.chan cap J f? (s+1) (r+1) tm} sl,
   oA i g.1.1 g.1.place es++[{g:=i,fn:=Sa.1.1,pos:=Sa.1.place,act:=.send c s},{g:=0,fn:=a.1.1,pos:=a.1.place,act:=.recv c r cap},{g:=i,fn:=Sa.1.1,pos:=Sa.1.place,act:=.sendDone c s},{g:=0,fn:=a.1.1,pos:=a.1.place,act:=.recvDone c r}].toArray):=by
 rw[ip hi h];have U:(0)≠i:=o!;have O:=stand_get U h0;have V:(S? B i ph).getD 0 default=parked a cases .select:=by rw[By,O];rfl
 let ⟨cc,W,Y⟩:=hk;simp[bP,bS,hL,hc,hp,choose,k5,rz,bind,k9,pure,g8,ie f _ O q? k v,V,set_stand2,finishComm_parked,W,Y,parked];rfl
end
section
open Conc
open ConcN (upd upd_same upd_ne)
variable {f g l i:Nat}
def Ug{K:Nat->Option (uj×Nat)}{ρ:Nat->fQ}{r x}(B:∀j,(ρ j).sum=K j)(J:r.sum=x)(j):(n4 ρ i r j).sum=n4 K i x j:=by by_cases e:j=i;subst e;rwa[n0,n0];rw[n3 _ _ e,n3 _ _ e];exact B j
def ER{c r cap f f' p p'}:∀op∈([{g:=i,fn:=f,pos:=p,act:=.send c l},{g:=0,fn:=f',pos:=p',act:=.recv c r cap},{g:=i,fn:=f,pos:=p,act:=.sendDone c l},{g:=0,fn:=f',pos:=p',act:=.recvDone c r}]:List MemOp),op.4.touch?=x?:=by intro op B;simp only[Zm,q!,or_false]at B;obtain rfl|rfl|rfl|rfl:=B<;>rfl
def Bz{c r cap f f' p p'}:∀op∈([{g:=i,fn:=f,pos:=p,act:=.send c l},{g:=0,fn:=f',pos:=p',act:=.recv c r cap},{g:=i,fn:=f,pos:=p,act:=.sendDone c l},{g:=0,fn:=f',pos:=p',act:=.recvDone c r}]:List MemOp),op.4≠.mark .disable/\op.4≠.mark .enable:=by intro op B;simp only[Zm,q!,or_false]at B;obtain rfl|rfl|rfl|rfl:=B<;>simp
def UQ(ρ:Nat->fQ)(cases:Array CommCase)(B:Nat->Option Nat)(K:Nat->Option (uj×Nat)):Prop:=
 ∀k c,k<cases.size->B k=y? c->∃i J n,K i=y? (J,n)/\J.c=c/\((∃m S,ρ i=.act J m S n)\/∃m S k,ρ i=.start J m S k)
def select{P}{qW:F?}{w0}{Pd:F?}{m wl a cases O K}{Z:oJ P}(hS:zl P a cases O K)
  (hv:∀(k i)J n v,k<cases.size->O k=y? J.c->K i=y? (J,n)->J.L[n]?=y? v->∀ρ V w sl t,Co P qW w0 Pd ρ m wl V w t->(∀j,(ρ j).sum=n4 K i (y? (J,n+1)) j)->V[0]?=y? (a.finishComm P cases .select k v t?)->V.size=f->Z.1 (g8 V w sl) t)
  (he:∀(k i)J z,cases[k]?=y? (gz J.c z)->O k=y? J.c->K i=y? (J,l? J.L)->∀ρ V w sl t,Co P qW w0 Pd ρ m wl V w t->(∀j,(ρ j).sum=n4 K i x? j)->V[0]?=y? (a.finishComm P cases .select k z f?)->V.size=f->Z.1 (g8 V w sl) t) :
  ∀ρ V w sl t,Co P qW w0 Pd ρ m wl V w t->(∀j,(ρ j).sum=K j)->V[0]?=y? a->V.size=f->Z.1 (g8 V w sl) t:=by
 have key:∀ρ,Acc (Nu (jQ P) f) ρ->∀V w sl t,Co P qW w0 Pd ρ m wl V w t->(∀j,(ρ j).sum=K j)->V.size=f->((∃a',V[0]?=y? a'/\a'.3=.running/\∀w,bM P t? a' w=.comm a cases t? .select w #[])\/(V[0]?=y? (parked a cases .select)/\UQ ρ cases O K))->Z.1 (g8 V w sl) t:=by
  intro ρ aJ;induction aJ with
  |intro ρ _ ih=>
   have hB:∀V w sl t,Co P qW w0 Pd ρ m wl V w t->(∀j,(ρ j).sum=K j)->V.size=f->V[0]?=y? (parked a cases .select)->UQ ρ cases O K->Z.1 (g8 V w sl) t:=by
    intro V w sl t h hK hN h0 hW
    have au:∃(i:Nat)(g:Goroutine),V[i]?=y? g/\g.3=.running:=by
     obtain⟨k,c,W,hc⟩:=hS.7;obtain⟨i,J,n,U,_,hr⟩:=hW k c W hc;obtain⟨g,hi,hg,ad⟩:=h.get λe=>by obtain⟨_,_,x⟩|⟨_,_,_,x⟩:=hr<;>rw[e]at x<;>cases x
     refine⟨i,g,hg,?_⟩;obtain⟨_,_,x⟩|⟨_,_,_,x⟩:=hr
     rw[x]at ad;obtain⟨_,_,ad⟩:=ad;obtain⟨fr,cs,rfl,_⟩:=ad.3;rfl;rw[x]at ad;exact ad.2.2.2.2.2.2.status
    let ⟨i,g,d,ae,hi,hg,ay⟩:=hY (P:=P) (w:=w) (sl:=sl) (h.awake h0<|.inr<|.inl q?) au;apply Z.back _ _;rw[ay]
    have ab:0<i:=by
     obtain rfl|ab:=ZJ i
     rw[h0]at hi;cases hi;cases hg;exact ab
    have aU:(i==0)=f?:=j!;have al:=(AI.1 hi).1;have B:=h.at d;by_cases az:∃J mi S n g₁ cs w₁ es,ρ i=.act J mi S n/\bM P f? g (w.at d)=.comm g₁ cs t? .send w₁ es/\g9 (parked a cases .select) J.c f?≠[];let ⟨J,mi,S,n,g₁,cs,w₁,es,ac,av,aV⟩:=az;have ad:=B.2 i g ab hi;rw[ac]at ad;obtain⟨aw,⟨s,r,hc⟩,a5⟩:=ad
    have aK:¬J.3 S:=by intro a9;obtain⟨hn,fr,ps,a',ty,cs',rfl,hm,hd,hq,bg⟩:=a5.stands aw a9;rw[closing hm hd hq hc]at av;cases av
    have aL:=a5.EL aw aK;rw[av]at aL
    cases aL with
    |@send S' aM _ _ _ v' z' bh aW af W aX=>
     have a0:(ρ i).live=y? mi:=by rw[ac];rfl
     let ⟨bi,aY⟩:=B.wr<|fQ.qf a0;have ao:=W.chan aY hc
     obtain⟨k,aA,aN⟩:∃k,k<cases.size/\O k=y? J.c:=by apply ZX;intro ap;exact aV<|hS.J6 λk W hc=>ap ⟨k,W,hc⟩
     let ⟨zk,ag⟩:=hS.get aA
     have hp:ci (S? V i ph) J.c f?=[(0,k)]:=by
      rw[i2 (j:=0) (by rwa[Zd o!]) λj x hj hx=>?_];rw[hS.offers aA aN];rfl;obtain⟨_,rfl⟩|⟨_,hx⟩:=hC V i j x hx
      exact hM _ _;exact(B.2 j x o! hx).offers J.c
     have aq:=A4 (sl:=ae) hi (by rwa[aU]) ao ab h0 hp ⟨_,ag,q?⟩;rw[aq];apply Z.next _ _ _ _;obtain⟨v0,fr',cs',e,aO⟩:=af.3;obtain⟨f0,bj,_,_,_,_,_,_,_,aZ,_⟩:=aO.6
     have h1:Co P qW w0 Pd (n4 ρ i<|.kK J aM S' n v') m wl (S? V i<|parked g₁ #[hL J.c v' z'] .send) w₁<|t++oA i g.1.1 g.1.place es:=
      B.step ab al a0 aW W aX aZ ⟨aw,⟨s,r,ao⟩,g₁,z',q?,af⟩ q? (by rw[ac];rfl) (by rw[ac];rfl) (by rw[ac];rfl) i! (by simp[al]) (C6 _)
     let ⟨ba,h2⟩:=h1.Zbr (gs':=S? (S? V 0<|a.finishComm P cases .select k v' t?) i<|gy g₁ undef) (g₁:=g₁) (z:=z') (u:=[{g:=i,fn:=g₁.frame.fn,pos:=g₁.frame.place,act:=.send J.c s},{g:=0,fn:=a.1.1,pos:=a.1.place,act:=.recv J.c r 0},{g:=i,fn:=g₁.1.1,pos:=g₁.1.place,act:=.sendDone J.c s},{g:=0,fn:=a.1.1,pos:=a.1.place,act:=.recvDone J.c r}]) ab (n0 _ _ _) (by simp[al]) ao (s':=s+1) (r':=r+1) q? ER Bz i! (by simp[al]) (λj hj a4=>by rw[Zd<|qs a4,Zd o!,Zd<|qs a4])
     let ⟨v1,aP,aB⟩:=af.value aw;have U:K i=y? (J,n):=by rw[<-hK i,ac];rfl
     have ev:=hS.8 i J n U v1 (W! aP) _ _ aB;subst ev;rw[<-bA];refine hv k i J n v' aA aN U aP _ _ _ ae _ h2 (λj=>?_) (by rw[Zd o!,ZR o!]) (by simp[hN]);by_cases ej:j=i;subst ej;rw[n0,n0];rfl;rw[n3 _ _ ej,n3 _ _ ej,n3 _ _ ej];exact hK j
    let ⟨gs',w',ops,ρ',hr,ai,aC,aj,aD,hz,bc,aE⟩:=B.other (sl:=ae) ab hi hg h0 λJ mi S n g₁ cs w₁ es h1 h2=>ZX λh3=>az ⟨J,mi,S,n,g₁,cs,w₁,es,h1,h2,h3⟩;rw[hr];refine Z.4 _ _ _ _<|ih ρ' (hN▸aC) gs' w' ae _ ai (λj=>(aj j).trans<|hK j) (aD.trans hN) ?_
    have a6:(∀k c,k<cases.size->O k=y? c->¬im w' c t?)->UQ ρ' cases O K:=by
     intro ak k c W hc;obtain⟨Y,J,n,U,aa,aF⟩:=hW k c W hc;refine⟨Y,J,n,U,aa,?_⟩;obtain⟨m1,S1,v1,e,_⟩|⟨m1,S1,q1,e,_,_,kO⟩|⟨e,_⟩:=ai.ways ((aj Y).trans<|(hK Y).trans U) undef
     by_cases ei:Y=i;subst ei;have:=bc J m1 S1 n v1 e;rw[aa,hS.offers W hc]at this;cases this;rw[aE Y ei]at e;obtain⟨_,_,x⟩|⟨_,_,_,x⟩:=aF<;>rw[e]at x<;>cases x
     exact absurd (aa▸kO)<|ak k c W hc;exact e
    have a1:(∀j,(ρ' j).chan=(ρ j).chan)->∀k c,k<cases.size->O k=y? c->¬im w' c t?:=by
     intro ax k c W hc kO;obtain⟨Y,J,n,U,aa,aF⟩:=hW k c W hc
     have aQ:(ρ' Y).chan=y? J:=by rw[ax];obtain⟨_,_,x⟩|⟨_,_,_,x⟩:=aF<;>rw[x]<;>rfl
     let ⟨s1,r1,kO⟩:=kO;obtain⟨m1,S1,v1,e,_,s2,r2,hx⟩|⟨m1,S1,q1,e,_,_,_⟩|⟨e,_,s2,r2,hx⟩:=ai.ways ((aj Y).trans<|(hK Y).trans U) undef
     rw[aa,kO]at hx;cases hx;rw[e]at aQ;cases aQ;rw[aa,kO]at hx;cases hx
    obtain⟨hx,ax⟩|hx:=hz
    exact .inr ⟨hx,a6<|a1 ax⟩;by_cases kO:∃k c,k<cases.size/\O k=y? c/\im w' c t?;let ⟨k,c,W,hc,s1,r1,kO⟩:=kO;refine .inl ⟨{parked a cases _ with status:=.running},?_,rfl,hS.3⟩;rw[hx];obtain⟨zk,ag⟩:=hS.get W;rw[hc]at ag
    have a7:(cases.any λc:CommCase=>match c.1 with
      |.chan (y? r)=>(w'.1[r]? matches y? (.chan _ _ t? ..))
      |_=>f?)=t?:=by
     rw[Array.any_eq_true];refine⟨k,W,?_⟩
     have:cases[k]=⟨.chan<|y? c,x?,zk⟩:=by rw[Z1 W]at ag;exact o7 ag
     simp[this,kO]
    unfold q4;simp only[parked];exact congrArg y?<|if_pos a7;have ak:∀k c,k<cases.size->O k=y? c->¬im w' c t?:=λk c W hc hx=>kO ⟨k,c,W,hc,hx⟩;refine .inr ⟨?_,a6 ak⟩;rw[hx]
    have a7:(cases.any λc:CommCase=>match c.1 with
      |.chan (y? r)=>(w'.1[r]? matches y? (.chan _ _ t? ..))
      |_=>f?)=f?:=by
     rw[Array.any_eq_false];intro k W;obtain⟨zk,ag⟩:=hS.get W
     have e:cases[k]=⟨.chan<|O k,x?,zk⟩:=by rw[Z1 W]at ag;exact o7 ag
     cases am:O k with
     |none=>rw[am]at e;simp[e]|some c=>
      rw[am]at e;let ⟨Y,J,n,U,aa⟩:=hS.6 k c W am;have no:=ak k c W am;obtain⟨_,_,_,_,_,s2,r2,hx⟩|⟨_,_,_,_,_,_,hx⟩|⟨_,_,s2,r2,hx⟩:=ai.ways ((aj Y).trans<|(hK Y).trans U) undef
      rw[aa]at hx;simp[e,hx];exact absurd (aa▸hx) no;rw[aa]at hx;simp[e,hx]
    unfold q4;simp only[parked];exact congrArg y? (if_neg<|by rwa[n8])
   intro V w sl t h hK hN ay;obtain⟨a',h0,an,a2⟩|⟨h0,hW⟩:=ay
   obtain⟨i,g,d,ae,hi,hg,ay⟩:=hY (P:=P) (w:=w) (sl:=sl) (h.awake h0<|.inl an) ⟨0,a',h0,an⟩;apply Z.back _ _;rw[ay];have B:=h.at d;obtain rfl|ab:=ZJ i
   obtain rfl:g=a':=by rw[h0]at hi;exact(o7 hi).symm
   have al:=(AI.1 hi).1;have av:bM P (0==0) g _=.comm a cases t? _ (w.at d) #[]:=a2 _;have e0:oA 0 g.1.1 g.1.place #[]=#[]:=by rw[hO];simp
   have made:∀cc∈cases,i4 (w.at d) cc=f?:=by
    intro cc ah;obtain⟨k,W,rfl⟩:=b5.1 ah;obtain⟨z,hz⟩:=hS.4 k _<|Z1 W;rw[hz]
    cases am:O k with
    |none=>rfl|some c=>obtain⟨Y,J,n,U,aa⟩:=hS.6 k c W am;obtain⟨cl,s,r,hx⟩:=B.is<|fQ.AH<|(hK Y).trans U;rw[aa]at hx;simp[i4,hx]
   have one:∀(k:Nat)cc,cases[k]?=y? cc->(bS (w.at d) (S? V 0 ph) cc=[])\/∃i J n,O k=y? J.c/\K i=y? (J,n)/\(∃z,cc=gz J.c z)/\((∃m S v,ρ i=.kK J m S n v/\bS (w.at d) (S? V 0 ph) cc=[.partner i 0]/\im (w.at d) J.c f?)\/(∃m S q,ρ i=.ended f? J m S q/\n=l? J.L/\bS (w.at d) (S? V 0 ph) cc=[.closed]/\im (w.at d) J.c t?)):=by
    intro k cc ah;have W:=(AI.1 ah).1;obtain⟨z,rfl⟩:=hS.4 k cc ah
    cases am:O k with
    |none=>exact .inl rfl|some c=>
     let ⟨Y,J,n,U,aa⟩:=hS.6 k c W am;subst aa;obtain⟨m1,S1,v1,x1,x2,x3⟩|⟨m1,S1,q1,x1,x2,x3,x4⟩|⟨_,x2,_⟩:=B.ways ((hK Y).trans U) z
     exact .inr ⟨Y,J,n,q?,U,⟨z,q?⟩,.inl ⟨m1,S1,v1,x1,x2,x3⟩⟩;exact .inr ⟨Y,J,n,q?,U,⟨z,q?⟩,.inr ⟨m1,S1,q1,x1,x2,x3,x4⟩⟩;exact .inl x2
   by_cases ar:∃(k:Nat)(cc:CommCase),cases[k]?=y? cc/\bS (w.at d) (S? V 0 ph) cc≠[]
   rcases DL (sl:=ae) hi av made (λk cc ah=>by
    obtain x|⟨Y,J,n,_,_,⟨z,rfl⟩,⟨m1,S1,v1,_,x2,s,r,x3⟩|⟨m1,S1,q1,_,_,x3,s,r,x4⟩⟩:=one k cc ah
    exact .inl x;exact .inr (.inr ⟨J.c,z,_,_,_,_,_,_,_,_,q?,x3,x2⟩)
    exact .inr (.inl ⟨J.c,z,_,_,_,_,_,q?,x4,x3⟩)) ar with⟨k,c,z,d',W,hw,aq⟩|⟨k,c,z,d',j,q,cap,s,r,bk,cl,tm,W,ax,hw,aq⟩
   obtain x|⟨Y,J,n,aG,U,⟨z',ez⟩,⟨m1,S1,v1,_,x2,_⟩|⟨m1,S1,q1,ac,hn,_,_⟩⟩:=one k _ W
   rw[x]at hw;cases hw;rw[x2]at hw;cases hw;have ec:c=J.c:=by simp[gz]at ez;exact ez.1
   subst ec
   have aH:0<Y:=by obtain⟨_,x,_,_⟩:=B.get (by rw[ac];simp);exact x
   rw[aq,e0,bs];apply Z.next _ _ _ _;have hh:=(B.at d').hear (gs':=S? V 0<|a.finishComm P cases .select k z f?) (fn:=a.1.1) (pos:=a.1.place) aH ac i!<|λj hj=>Zd o!;subst hn;exact he k Y J z W aG U _ _ _ ae _ hh (Ug hK q?) (by simp[al])<|u! hN;obtain x|⟨Y,J,n,aG,U,⟨z',ez⟩,⟨m1,S1,v1,ac,x2,s2,r2,hx⟩|⟨m1,S1,q1,ac,hn,x2,_⟩⟩:=one k _ W
   rw[x]at hw;cases hw;have ec:c=J.c:=by simp[gz]at ez;exact ez.1
   subst ec;rw[x2]at hw;obtain⟨rfl,rfl⟩:Y=j/\0=q:=by simpa using hw
   have a8:=hx;rw[a8]at ax;cases ax;obtain⟨gi,aH,aR,ad⟩:=B.get (by rw[ac];simp);rw[ac]at ad;obtain⟨aw,_,g0,z0,rfl,af⟩:=ad;have aI:(S? V 0 ph)[Y]?=y? (parked g0 #[hL J.c v1 z0] .send):=by rwa[Zd o!]
   have bd:c4 (S? V 0 ph) Y 0=v1:=by simp[c4,aI,parked,hL]
   have be:=ie P _ aI q? 0 undef;have bf:(S? V 0 ph).getD Y default=parked g0 #[hL J.c v1 z0] .send:=by rw[By,aI];rfl
   rw[aq,e0,bs,bd,be,bf];apply Z.next _ _ _ _;obtain⟨v2,aS,aB⟩:=af.value aw;have ev:=hS.8 Y J n U v2 (W! aS) _ _ aB;subst ev
   let ⟨ba,hh⟩:=(B.at d').Zbr (gs':=(S? (S? (S? V 0 ph) Y ((parked g0 #[hL J.c v1 z0] .send).finishComm P #[hL J.c v1 z0] .send (0:Nat) undef (((#[hL J.c v1 z0])[0]?.map (·.2.isNone)).getD f?))) 0<|a.finishComm P cases .select k v1 t?)) (u:=[{g:=Y,fn:=g0.frame.fn,pos:=g0.frame.place,act:=.send J.c s},{g:=0,fn:=a.1.1,pos:=a.1.place,act:=.recv J.c r 0},{g:=Y,fn:=g0.1.1,pos:=g0.1.place,act:=.sendDone J.c s},{g:=0,fn:=a.1.1,pos:=a.1.place,act:=.recvDone J.c r}]) aH ac aR a8 (s':=s+1) (r':=r+1) q? ER Bz i! (by
    rw[Zd o!,ZR<|by simpa using(AI.1 aR).1]
    rfl) (λj hj a4=>by
    rw[Zd o!,Zd<|qs a4,Zd o!])
   exact hv k Y J n v1 (AI.1 W).1 aG U aS _ _ _ ae _ hh (Ug hK q?) (by simp[al])<|u! hN;rw[x2]at hw;cases hw;have a3:∀(k:Nat)cc,cases[k]?=y? cc->bS _ _ cc=[]:=λk cc ah=>ZX λhx=>ar ⟨k,cc,ah,hx⟩
   have aq:=i5 (sl:=ae) hi av (λcc ah=>by
    obtain⟨k,W,rfl⟩:=b5.1 ah
    exact⟨made _<|Array.getElem_mem W,a3 k _<|Z1 W⟩)
   rw[aq,e0];apply Z.next _ _ _ _;rw[b9]
   have aT:Co P qW w0 Pd ρ m wl (S? V 0<|parked a cases .select) (w.at d) t:=by refine⟨B.1,λi g hi hg=>B.2 i g hi<|by rwa[Zd o!]at hg,λi hi=>B.3 i<|u! hi,B.4,B.5,B.6,B.7,B.8,B.9,B.10,B.11,B.12,B.13,B.14,B.f0,B.ff,B.cx,B.sz,B.os,B.kn,B.pd,B.22⟩
   refine hB _ _ _ _ aT hK (u! hN) (by simp[al]) λk c W hc=>?_;obtain⟨Y,J,n,U,aa⟩:=hS.6 k c W hc;refine⟨Y,J,n,U,aa,?_⟩;obtain⟨zk,ag⟩:=hS.get W;have ap:=a3 k _ ag;rw[hc,<-aa]at ap;obtain⟨_,_,_,_,x2,_⟩|⟨_,_,_,_,_,x3,_⟩|⟨x,_⟩:=B.ways ((hK Y).trans U) zk
   rw[show(⟨.chan<|y? J.c,x?,zk⟩)=gz J.c zk from rfl,x2]at ap;cases ap;rw[show(⟨.chan<|y? J.c,x?,zk⟩)=gz J.c zk from rfl,x3]at ap;cases ap;exact x;let ⟨gs',w',ops,ρ',hr,ai,aC,aj,aD,hz,_,_⟩:=B.other (sl:=ae) ab hi hg h0 λJ mi S n _ _ _ _ _ _=>gv (by rw[an];simp) _ _;rw[hr];refine Z.4 _ _ _ _<|ih ρ' (hN▸aC) gs' w' ae _ ai (λj=>(aj j).trans<|hK j) (aD.trans hN)<|.inl ⟨a',?_,an,a2⟩;obtain⟨x,_⟩|x:=hz
   exact x;rw[x,i0 _<|.inl an];exact hB V w sl t h hK hN h0 hW
 intro ρ V w sl t h hK h0 hN;exact key ρ (hN▸h.acc) V w sl t h hK hN<|.inl ⟨a,h0,hS.1,hS.2⟩
end
