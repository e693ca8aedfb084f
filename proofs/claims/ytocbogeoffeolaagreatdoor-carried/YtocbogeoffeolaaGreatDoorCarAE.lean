import GoSem.Step
import Derived.Conc.Events
import Derived.Laws.Tables
import Derived.MapKept
import Derived.Conc.Listed
import Derived.DyingOn
set_option linter.all false
set_option maxHeartbeats 8000000
set_option maxRecDepth 1000000
open Array renaming getElem?_setIfInBounds_ne->ax,getElem?_eq_some_iff->ay,getElem?_toList->az,mapM_eq_mapM_toList->a0,filter->a1,getElem?_modify->a2,range->a3,toList_map->a4,length_toList->a5,forIn_toList->a6,foldl_toList->a7,empty_append->a8,mem_append->a9,isEmpty->aA,all_eq_true_iff_forall_mem->aB,map->aC,mem_toList_iff->aD,toList_zipIdx->aE,toList_filter->aF,toList_append->aG,append_assoc->aH,toList_push->aI,mem_flatMap->aJ,toList_zip->aK,all_toList->aL,replicate->aM
open Go renaming TypeId->aN,tryRecover->aO,doReturn->aP,zeroValue->aQ,seen->aR,stepG->aS,underlying->aT,endThrow->aU,boundsPanic->aV,runtimePanic->aW,FuncId->aX,unwind->aY,callDeferred->aZ,newRow->ba,yielded->bc,loadCellsFrom->bd,storeCells->be,sizeOf->bf,findLabel->bg,loadBytes->bh,loadCells->bi,dieOf->bj,resolve->bk,gotoIn->bm,exitTo->bn,execOp->bo,askRoom->bp,typeInfo->bq,goexitEntry->br,sameAddr->bs,newObj->bt,mayBeOne->bu,nilAhead->bv,markStringish->bw,typeStr->bx,results->bz,movedPointer->b0,behindNumber->b1,method->b3,variablesAt->b4,movedNumber->b5,undef->b6,fieldPlace->b7,elemOf->b8,byteOf->b9
open Go.Instr renaming sameBits->bA,sameNow->bB,fill->bC,endRound->bD,findNow->bE,takeDeferred->bF,findAsking->bG,beginRound->bH,checkKey->bI,findKey->bJ,keyThatStays->bK,deferInRound->bL,sliceBounds->bM,sliceBound->bN,getLoop->bO,extract->bP,yield->bQ,makeInterface->bR,next->bS,typeAssert->bT,entryStore->bU,buildSlice->bV,mapUpdate->bW,makeSlice->bX,enterLoop->bY,sureAddr->bZ,mapEntry->cd,makeFunc->ce,makeChan->cf,storeAt->cg,sliceAt->ci,makeMap->cj,indexAt->ck,fieldAt->cl,endLoop->cm,lookup->cp,loadAt->cq,slice->cr,range->cu,panic->cv,index->cw,field->cx,entry->cy,build->cz,alloc->c0,box->c3
open Go.Op renaming operands->c4,equal->c5,maxDepth->c6,twoPlaces->c7,eqGuardIn->c8,stringOp->c9,intArith->cA,intBits->cB,equalIn->cC,addrMod->cD,intDiv->cE,intCmp->cF,unary->cG,shift->cH
open Go.stepG renaming apply->cI,exec->cJ
open Go.GStep renaming after->cK
open Go.Sem renaming run->cL,runT_fst->cM,runT->cN,run_bind'->cO,bind_assoc'->cP
open Go.Builtin renaming zeroCells->cQ,unsafeAdd_->cR,append_->cS,clear_->cT,copy_->cU,min_->cV,max_->cW,len_->cX,cap_->cY,unsafeString_->cZ,holdsCells->db,firstCells->dc,mayShare->dd,lenOf->dg,min2->di,max2->dj
open Bool renaming and_eq_true->dk,eq_iff_iff->dq,false_eq_true->dr
open Nat renaming le_trans->ee,le_refl->eg,le_succ_of_le->ei,lt_of_lt_of_le->ej,lt_of_succ_le->ek,le_of_succ_le->en,le_of_not_lt->er,le_succ->ev
open Go.Frame renaming eval->ey,pos->ez,round->e8,raise->eC,enter->fa,catches->fb,finish->fd,oper?->ff
open List renaming getElem?_zip_eq_some->fk,mem_iff_getElem?->fm,all_eq_true->fB,forIn_cons->ga,mapM_cons->gc,mem_cons->gd,mem_map->ge
open Option.some renaming injEq->gg,inj->gi
open Option renaming getD_some->gj,map_some->gn,bind_some->gs
open Go.Call renaming operands->gt
open Go.World renaming freeze->gv,frozen?->gx,noCell->gy,cell?->gz
open Go.Conv renaming bytesToString->g8,stringToBytes->g9,runesToString->gA
open Go.Extern.SlicesOverlaps renaming overlaps->gB
open Go.Extern.Bytes renaming loadBytes->hj,bytesOf->h9
open Std.Legacy.Range renaming forIn_eq_forIn_range'->hB
open Go.GStep.go renaming injEq->hC
open Ne renaming symm->hH
open Go.Region renaming wanted->hI,schedule->hJ
namespace Go.Proofs.YtocbogeoffeolaaGreatDoor
section
variable {α β:Type}
inductive dT{α β:Type}(R:α->β->Prop):List α->List β->Prop
 |nil:dT R [] []|cons {a b l l'}:R a b->dT R l l'->dT R (a::l) (b::l')
def dT.mono{R S:α->β->Prop}(h:∀a b,R a b->S a b):∀{l:List α}{l':List β},dT R l l'->dT S l l'
 |_,_,.nil=>.nil|_,_,.cons a b=>.cons (h _ _ a) (dT.mono h b)
def dT.length{R:α->β->Prop}:∀{l:List α}{l':List β},dT R l l'->l.length=l'.length
 |_,_,.nil=>rfl|_,_,.cons _ b=>by simp[dT.length b]
def dT.append{R:α->β->Prop}:∀{l l₂:List α}{l' B:List β},dT R l l'->dT R l₂ B->dT R (l++l₂) (l'++B)
 |_,_,_,_,.nil,h=>h|_,_,_,_,.cons a b,h=>.cons a (dT.append b h)
def dT.get{R:α->β->Prop}:∀{l:List α}{l':List β},dT R l l'->∀{i:Nat}{a:α},l[i]?=some a->∃b,l'[i]?=some b/\R a b
 |_,_,.nil,i,a,h=>by simp at h
 |_,_,.cons (b:=b) x y,0,a,h=>⟨b,by simp,by simp at h;exact h▸x⟩
 |_,_,.cons x y,i+1,a,h=>by simpa using dT.get y (by simpa using h)
def dT.get_none{R:α->β->Prop}{l:List α}{l':List β}(h:dT R l l'){i:Nat}(hi:l[i]?=none):l'[i]?=none:=by
 rw[List.getElem?_eq_none_iff]at hi⊢;rw[<-h.length];exact hi
def dT.Ir{R:α->β->Prop}:∀{l:List α}{l':List β},l.length=l'.length->(∀(i:Nat)a b,l[i]?=some a->l'[i]?=some b->R a b)->dT R l l'
 |[],[],_,_=>.nil|a::l,b::l',h,g=>.cons (g 0 a b (by simp) (by simp)) (dT.Ir (by simpa using h) λi x y B O=>g (i+1) x y (by simpa using B) (by simpa using O))|[],b::l',h,_=>by simp at h
 |a::l,[],h,_=>by simp at h
def dT.take{R:α->β->Prop}:∀(n:Nat){l:List α}{l':List β},dT R l l'->dT R (l.take n) (l'.take n)
 |0,_,_,_=>by simpa using .nil
 |n+1,_,_,.nil=>by simpa using .nil
 |n+1,_,_,.cons a b=>by simpa using .cons a (dT.take n b)
def dT.drop{R:α->β->Prop}:∀(n:Nat){l:List α}{l':List β},dT R l l'->dT R (l.drop n) (l'.drop n)
 |0,_,_,h=>by simpa using h
 |n+1,_,_,.nil=>by simpa using .nil
 |n+1,_,_,.cons a b=>by simpa using dT.drop n b
def dT.set{R:α->β->Prop}:∀{l:List α}{l':List β},dT R l l'->∀(i:Nat){a:α}{b:β},R a b->dT R (l.set i a) (l'.set i b)
 |_,_,.nil,_,_,_,_=>by simpa using .nil
 |_,_,.cons x y,0,_,_,h=>by simpa using .cons h y
 |_,_,.cons x y,i+1,_,_,h=>by simpa using .cons x (dT.set y i h)
def dT.map{γ δ:Type}{R:α->β->Prop}{S:γ->δ->Prop}{f:α->γ}{g:β->δ}(h:∀a b,R a b->S (f a) (g b)):∀{l:List α}{l':List β},dT R l l'->dT S (l.map f) (l'.map g)
 |_,_,.nil=>.nil|_,_,.cons a b=>.cons (h _ _ a) (dT.map h b)
def dT.refl{R:α->α->Prop}:∀{l:List α},(∀a∈l,R a a)->dT R l l
 |[],_=>.nil|a::l,h=>.cons (h a (by simp)) (dT.refl λx B=>h x (by simp[B]))
structure Ren where
 blk:Nat->Option Nat
 ch:Nat->Option Nat
 loose:Nat->Prop
 ok:Oper->Prop
 fF:aX->Prop
 iq:Prop
 dead:Nat->Prop
 dm:Nat->Nat
 sW:Nat->Nat->Option Value
 lz:Nat->Option Obj
 G:Nat
 po:∀r r',blk r=some r'->(r<G↔r'<G)
 inj:∀r s t,blk r=some t->blk s=some t->r=s
 vF:∀r s t,ch r=some t->ch s=some t->r=s
structure Ren.Le(m m':Ren):Prop where
 blk:∀r r',m.blk r=some r'->m'.blk r=some r'
 ch:∀r r',m.ch r=some r'->m'.ch r=some r'
 loose:∀r r',m.blk r=some r'->(m'.loose r↔m.loose r)
 less:∀r,m'.loose r->m.loose r
 ok:m'.ok=m.ok
 fF:m'.fF=m.fF
 iq:m'.iq=m.iq
 G:m'.G=m.G
 dead:m'.dead=m.dead
 dm:m'.dm=m.dm
 sW:m'.sW=m.sW
def Ren.Le.refl(m:Ren):m.Le m:=⟨λ_ _ h=>h,λ_ _ h=>h,λ_ _ _=>Iff.rfl,λ_ h=>h,rfl,rfl,rfl,rfl,rfl,rfl,rfl⟩
def Ren.Le.trans{m m' B:Ren}(h:m.Le m')(h':m'.Le B):m.Le B:=
 ⟨λr r' x=>h'.blk r r' (h.blk r r' x),λr r' x=>h'.ch r r' (h.ch r r' x),λr r' x=>(h'.loose r r' (h.blk r r' x)).trans (h.loose r r' x),λr x=>h.less r (h'.less r x),h'.ok.trans h.ok,h'.fF.trans h.fF,h'.iq.trans h.iq,h'.G.trans h.G,h'.dead.trans h.dead,h'.dm.trans h.dm,h'.sW.trans h.sW⟩
inductive AR(m:Ren):Addr->Addr->Prop
 |mk {b b' o s}:m.blk b=some b'->AR m ⟨b,o,s⟩ ⟨b',o,s⟩
def AR.blk{m:Ren}{a a':Addr}(h:AR m a a'):m.blk a.block=some a'.block:=by cases h;assumption
def AR.off{m:Ren}{a a':Addr}(h:AR m a a'):a'.off=a.off:=by cases h;rfl
def AR.spot{m:Ren}{a a':Addr}(h:AR m a a'):a'.spot=a.spot:=by cases h;rfl
def AR.mono{m m':Ren}(h:m.Le m'){a a':Addr}(x:AR m a a'):AR m' a a':=by cases x with|mk hb=>exact .mk (h.blk _ _ hb)
def AR.add{m:Ren}{a a':Addr}(h:AR m a a')(n:Nat):AR m (a.add n) (a'.add n):=by
 cases h with
 |mk hb=>unfold Addr.add;split<;>exact .mk hb
def AR.eq_iff{m:Ren}{a a' b b':Addr}(h:AR m a a')(h':AR m b b'):(a=b↔a'=b'):=by
 cases h with
 |mk hb=>cases h' with
  |mk B=>
   constructor;intro e;cases e;rw[hb]at B;cases B;rfl;intro e;cases e;have:=m.inj _ _ _ hb B;subst this;rfl
def AR.sf{m:Ren}{a a' b b':Addr}(h:AR m a a')(h':AR m b b'):(a.block=b.block↔a'.block=b'.block):=by
 cases h with
 |mk hb=>cases h' with
  |mk B=>
   constructor;intro e;subst e;rw[hb]at B;cases B;rfl;intro e;subst e;exact m.inj _ _ _ hb B
inductive NS(m:Ren):Fn->Fn->Prop
 |func (f):m.fF f->NS m (.func f) (.func f)|yield {l l'}:m.blk l=some l'->NS m (.yield l) (.yield l')
def NS.mono{m m':Ren}(h:m.Le m'){a a':Fn}(x:NS m a a'):NS m' a a':=by
 cases x with
 |func f B=>exact .func f (h.fF▸B)|yield hb=>exact .yield (h.blk _ _ hb)
def QJ:Value->Prop
 |.pointer (some _)|.slice (some _) _ _|.map (some _)|.chan (some _)|.iface ..|.float ..|.complex ..|.tuple _|.func (.func _) _ _|.func (.yield _) _ _|.func (.methodOf _ _) _ _|.func (.via ..) _ _=>True|_=>False
inductive VR(m:Ren):Value->Value->Prop
 |fV (v):QJ v->VR m (.tuple #[]) v|bool (b):VR m (.bool b) (.bool b)|int (k n):VR m (.int k n) (.int k n)|string (s):VR m (.string s) (.string s)|gR:VR m (.pointer none) (.pointer none)|ptr {a a'}:AR m a a'->VR m (.pointer (some a)) (.pointer (some a'))|fE (l c):VR m (.slice none l c) (.slice none l c)|slice {a a'} (l c):AR m a a'->VR m (.slice (some a) l c) (.slice (some a') l c)|mQ:VR m (.map none) (.map none)|map {r r'}:m.blk r=some r'->VR m (.map (some r)) (.map (some r'))|gone {r}:m.dead r->VR m (.map (some r)) (.map (some (m.dm r)))|je:VR m (.chan none) (.chan none)|chan {r r'}:m.ch r=some r'->VR m (.chan (some r)) (.chan (some r'))|func {fn fn' f f' c c'}:NS m fn fn'->f.size=f'.size->(∀i(h:i<f.size)(h':i<f'.size),VR m f[i] f'[i])->c.size=c'.size->(∀i(h:i<c.size)(h':i<c'.size),VR m c[i] c'[i])->VR m (.func fn f c) (.func fn' f' c')|nilFunc:VR m .nilFunc .nilFunc|iface (t) {v v'}:VR m v v'->VR m (.iface t v) (.iface t v')|nilIface:VR m .nilIface .nilIface|agg {c c'}:c.size=c'.size->(∀i(h:i<c.size)(h':i<c'.size),VR m c[i] c'[i])->VR m (.agg c) (.agg c')|tuple {c c'}:c.size=c'.size->(∀i(h:i<c.size)(h':i<c'.size),VR m c[i] c'[i])->VR m (.tuple c) (.tuple c')|ri {lf n f c}:lf.size=f.size->(∀i(h:i<lf.size)(h':i<f.size),VR m lf[i] f[i])->(∀t w,f[0]?=some (.iface t w)->∃x,lf[0]?=some (.iface t x))->VR m (.func (.method "") lf #[.func (.method n) f c]) (.func (.method n) f c)
def VR.mono{m m':Ren}(h:m.Le m'){v v':Value}(x:VR m v v'):VR m' v v':=by
 induction x with
 |fV v Y=>exact .fV v Y|ri B _ U O=>exact .ri B O U|bool|int|string|gR|fE|mQ|je|nilFunc|nilIface=>constructor|ptr W=>exact .ptr (W.mono h)|slice l c W=>exact .slice l c (W.mono h)|map hb=>exact .map (h.blk _ _ hb)|gone hd=>rw[<-h.dm];exact .gone (h.dead▸hd)|chan hb=>exact .chan (h.ch _ _ hb)|func hf B _ U _ i1 i2=>exact .func (hf.mono h) B i1 U i2|iface t _ O=>exact .iface t O|agg B _ O=>exact .agg B O|tuple B _ O=>exact .tuple B O
def eD(m:Ren)(c c':Array Value):Prop:=dT (VR m) c.toList c'.toList
def eD.mono{m m':Ren}(h:m.Le m'){c c':Array Value}(x:eD m c c'):eD m' c c':=dT.mono (λ_ _=>VR.mono h) x
def eD.size{m:Ren}{c c':Array Value}(h:eD m c c'):c.size=c'.size:=by simpa using dT.length h
def eD.il{m:Ren}{c c':Array Value}(O:c.size=c'.size)(h:∀i(h:i<c.size)(h':i<c'.size),VR m c[i] c'[i]):eD m c c':=by
 refine dT.Ir (by simpa using O) λi a b B hb=>?_;simp only[az]at B hb;obtain⟨U,rfl⟩:=ay.1 B;obtain⟨W,rfl⟩:=ay.1 hb;exact h i U W
def eD.idx{m:Ren}{c c':Array Value}(x:eD m c c'):∀i(h:i<c.size)(h':i<c'.size),VR m c[i] c'[i]:=by
 intro i h h';obtain⟨b,hb,B⟩:=dT.get x (i:=i) (a:=c[i]) (by simp[h]);simp only[az,Array.getElem?_eq_getElem h',gg]at hb;exact hb▸B
def VR.MO{m:Ren}{c c':Array Value}(h:eD m c c'):VR m (.agg c) (.agg c'):=.agg h.size h.idx
def VR.l7{m:Ren}{c c':Array Value}(h:eD m c c'):VR m (.tuple c) (.tuple c'):=.tuple h.size h.idx
def VR.Ly{m:Ren}{fn B:Fn}{f f' c c':Array Value}(O:NS m fn B)(h:eD m f f')(h':eD m c c'):VR m (.func fn f c) (.func B f' c'):=.func O h.size h.idx h'.size h'.idx
def VR.undef(m:Ren):VR m undef undef:=.fV _ trivial
def eD.get{m:Ren}{c c':Array Value}(h:eD m c c'){i:Nat}{v:Value}(B:c[i]?=some v):∃v',c'[i]?=some v'/\VR m v v':=by simpa using dT.get h (i:=i) (a:=v) (by simpa using B)
def eD.get_none{m:Ren}{c c':Array Value}(h:eD m c c'){i:Nat}(B:c[i]?=none):c'[i]?=none:=by simpa using dT.get_none h (i:=i) (by simpa using B)
def eD.getD{m:Ren}{c c':Array Value}(h:eD m c c')(i:Nat):VR m (c.getD i b6) (c'.getD i b6):=by
 simp only[Array.getD_eq_getD_getElem?]
 cases O:c[i]? with
 |none=>rw[h.get_none O];exact .undef m|some v=>obtain⟨v',B,U⟩:=h.get O;simp only[B,gj];exact U
def eD.push{m:Ren}{c c':Array Value}(h:eD m c c'){v v':Value}(B:VR m v v'):eD m (c.push v) (c'.push v'):=by
 unfold eD;simp only[aI];exact dT.append h (.cons B .nil)
def eD.append{m:Ren}{c c' d d':Array Value}(h:eD m c c')(h':eD m d d'):eD m (c++d) (c'++d'):=by
 unfold eD;simp only[aG];exact dT.append h h'
def eD.extract{m:Ren}{c c':Array Value}(h:eD m c c')(i j:Nat):eD m (c.extract i j) (c'.extract i j):=by
 unfold eD;simp only[Array.toList_extract,List.extract_eq_take_drop];exact dT.take _ (dT.drop _ h)
def eD.set{m:Ren}{c c':Array Value}(h:eD m c c')(i:Nat){v v':Value}(B:VR m v v'):eD m (c.setIfInBounds i v) (c'.setIfInBounds i v'):=by
 unfold eD;simp only[Array.toList_setIfInBounds];exact dT.set h i B
def eD.nil(m:Ren):eD m #[] #[]:=dT.nil
def eD.one{m:Ren}{v v':Value}(h:VR m v v'):eD m #[v] #[v']:=dT.cons h dT.nil
def Plain:Value->Prop
 |.bool _|.int _ _|.string _|.pointer none|.slice none _ _|.map none|.chan none|.nilFunc|.nilIface=>True|_=>False
def VR.plain{m:Ren}:∀{v:Value},Plain v->VR m v v:=by
 intro v h;match v,h with
 |.bool _,_=>constructor|.int ..,_=>constructor|.string _,_=>constructor|.pointer none,_=>constructor|.slice none ..,_=>constructor|.map none,_=>constructor|.chan none,_=>constructor|.nilFunc,_=>constructor|.nilIface,_=>constructor
def VR.cells{m:Ren}{v v':Value}(h:VR m v v'):eD m v.cells v'.cells:=by
 cases h with
 |fV v B=>
  have:v'.cells=#[v']:=by cases v'<;>first|rfl|exact B.elim
  rw[this];exact eD.one (.fV _ B)
 |ri a b c=>exact eD.one (.ri a b c)|agg O hi=>exact eD.il O hi|bool|int|string|gR|fE|mQ|je|nilFunc|nilIface=>exact eD.one (by constructor)|ptr h=>exact eD.one (.ptr h)|slice l c h=>exact eD.one (.slice l c h)|map h=>exact eD.one (.map h)|gone h=>exact eD.one (.gone h)|chan h=>exact eD.one (.chan h)|func a b c d e=>exact eD.one (.func a b c d e)|iface t h=>exact eD.one (.iface t h)|tuple a b=>exact eD.one (.tuple a b)
def eD.replicate{m:Ren}{v v':Value}(n:Nat)(h:VR m v v'):eD m (aM n v) (aM n v'):=by
 refine eD.il (by simp) λi B O=>?_;simpa using h
def eD.refl{m:Ren}{c:Array Value}(h:∀v∈c.toList,VR m v v):eD m c c:=dT.refl h
variable {m':Ren}
def vW:Operand->Prop
 |.tmp _=>True|.const v=>Plain v|_=>False
def fR(ok:Oper->Prop):Code->Prop
 |.skip|.exit _|.label _|.goto _|.ret=>True|.region _ ops _=>∀o∈ops.toList,ok o|.seq a b=>fR ok a/\fR ok b|.cond c a b=>vW c/\fR ok a/\fR ok b|.block _ c|.loop c|.scope c=>fR ok c|.rangeFunc f _ a b=>vW f/\fR ok a/\fR ok b|.refuse _=>False
structure xm(m:Ren)(l l':Loop):Prop where
 state:l.state=l'.state
 pending:l.pending=l'.pending
 US:∀c,l.pending=some c->fR m.ok c
 fn:l.fn=l'.fn
 tmps:eD m l.tmps l'.tmps
 params:l.params=l'.params
 assign:l.assign=l'.assign
 body:l.body=l'.body
 Ul:fR m.ok l.assign
 xH:fR m.ok l.body
 defers:m.blk l.defers=some l'.defers
def Vq(m:Ren)(f f':Fn)(c c':Array Value):Prop:=(NS m f f'/\eD m c c')\/(f=.method ""/\∃n,f'=.method n)
def Vq.mono{m:Ren}(h:m.Le m'){f f':Fn}{c c':Array Value}(x:Vq m f f' c c'):Vq m' f f' c c':=x.imp (λy=>⟨y.1.mono h,y.2.mono h⟩) id
inductive TR(m:Ren):Target->Target->Prop
 |fn {f f' c c'}:Vq m f f' c c'->TR m (.fn f c) (.fn f' c')|nil:TR m .nil .nil|builtin (a t c):m.iq->TR m (.builtin .close a t c) (.builtin .close a t c)|mark {r} (a t c):m.dead r->TR m (.collected r) (.builtin .close a t c)|collected {r r'}:m.blk r=some r'->TR m (.collected r) (.collected r')
structure DR(m:Ren)(d d':Deferred):Prop where
 target:TR m d.target d'.target
 args:eD m d.args d'.args
structure tX(m:Ren)(e e':MapEntry):Prop where
 key:VR m e.key e'.key
 val:VR m e.val e'.val
 born:e'.born=e.born
inductive OR(m:Ren):Obj->Obj->Prop
 |cells {c c'} (e f f'):eD m c c'->OR m (.cells c e f) (.cells c' e f')|map {es es'} (clock):dT (tX m) es.toList es'.toList->OR m (.map es clock) (.map es' clock)|number {a a'} (l):AR m a a'->OR m (.number a l) (.number a' l)|stringIter (s p):OR m (.stringIter s p) (.stringIter s p)|gm (a b c):OR m (.mapIter none a b c) (.mapIter none a b c)|mapIter {r r'} (a b c):m.blk r=some r'->OR m (.mapIter (some r) a b c) (.mapIter (some r') a b c)|loop {l l'}:xm m l l'->OR m (.loop l) (.loop l')|fe:OR m (.deferred none) (.deferred none)|deferred {ds ds'}:dT (DR m) ds ds'->OR m (.deferred (some ds)) (.deferred (some ds'))
def TR.mono{m:Ren}(h:m.Le m'){a a':Target}(x:TR m a a'):TR m' a a':=by
 cases x with
 |fn B=>exact .fn (B.mono h)|nil=>exact .nil|builtin a t c hm=>exact .builtin a t c (h.iq▸hm)|mark a t c O=>exact .mark a t c (h.dead▸O)|collected hb=>exact .collected (h.blk _ _ hb)
def DR.mono{m:Ren}(h:m.Le m'){a a':Deferred}(x:DR m a a'):DR m' a a':=⟨x.target.mono h,x.args.mono h⟩
def tX.mono{m:Ren}(h:m.Le m'){a a':MapEntry}(x:tX m a a'):tX m' a a':=⟨x.key.mono h,x.val.mono h,x.born⟩
def xm.mono{m:Ren}(h:m.Le m'){a a':Loop}(x:xm m a a'):xm m' a a':=
 ⟨x.state,x.pending,λc B=>h.ok▸x.US c B,x.fn,x.tmps.mono h,x.params,x.assign,x.body,h.ok▸x.Ul,h.ok▸x.xH,h.blk _ _ x.defers⟩
def OR.mono{m:Ren}(h:m.Le m'){a a':Obj}(x:OR m a a'):OR m' a a':=by
 cases x with
 |cells e f f' B=>exact .cells e f f' (B.mono h)|map clock O=>exact .map clock (dT.mono (λ_ _ y=>y.mono h) O)|number l U=>exact .number l (U.mono h)|stringIter s p=>exact .stringIter s p|gm a b c=>exact .gm a b c|mapIter a b c hb=>exact .mapIter a b c (h.blk _ _ hb)|loop W=>exact .loop (W.mono h)|fe=>exact .fe|deferred Y=>exact .deferred (dT.mono (λ_ _ y=>y.mono h) Y)
def ep(P:Program){α:Type}:Sem α->Prop
 |.pure _=>False|.load _ _ _=>False|.store _ _ (.agg _) _=>True|.store _ _ (.tuple _) _=>True|.store _ _ _ _=>False|.new _ k=>∀r,ep P (k r)|.shape _ k=>∀r,ep P (k r)|.freeze _ _ k=>ep P k|.frozen _ k=>∀r,ep P (k r)|.getObj _ k=>∀r,ep P (k r)|.setObj _ _ k=>ep P k|.choose _ k=>∀r,ep P (k r)|.sys _ k=>∀r,ep P (k r)|.program k=>ep P (k P)|.mark _ k=>ep P k|.halt (.unsupported (.initOrder _))=>False|.halt (.unsupported _)=>True|.halt (.stuck _)=>True|.halt (.throw _)=>True|.halt _=>False
def gf{α:Type}:Sem α->Prop
 |.pure _=>True|.load _ _ k=>∀v,gf (k v)|.store _ _ _ k=>gf k|.new _ k=>∀r,gf (k r)|.shape _ k=>∀r,gf (k r)|.freeze _ _ k=>gf k|.frozen _ k=>∀r,gf (k r)|.getObj _ k=>∀r,gf (k r)|.setObj _ _ k=>gf k|.choose _ _=>False|.sys _ k=>∀r,gf (k r)|.program k=>∀P,gf (k P)|.mark _ k=>gf k|.halt _=>True
def Qz:Mark->Prop
 |.noRoom|.extern _=>True|_=>False
inductive dx(P:Program){α β:Type}(RA:Ren->α->β->Prop):Ren->Sem α->Sem β->Prop
 |dA {m s s'}:ep P s->dx P RA m s s'|pure {m a b}:RA m a b->dx P RA m (.pure a) (.pure b)|load {m a a' k k'}:AR m a a'->(∀v v',VR m v v'->dx P RA m (k v) (k' v'))->dx P RA m (.load .plain a k) (.load .plain a' k')|store {m a a' v v' k k'}:AR m a a'->VR m v v'->dx P RA m k k'->dx P RA m (.store .plain a v k) (.store .plain a' v' k')|new {m o o' k k'}:OR m o o'->(∀e c f,o=.cells e c f->∃e',o'=.cells e' c f)->(∀m' r r',m.Le m'->m'.blk r=some r'->¬m'.loose r->dx P RA m' (k r) (k' r'))->dx P RA m (.new o k) (.new o' k')|qn {m c b x s r t c' b' x' s' r' t' k k'}:m.iq->(∀m' i i',m.Le m'->m'.ch i=some i'->dx P RA m' (k i) (k' i'))->dx P RA m (.new (.chan c b x s r t) k) (.new (.chan c' b' x' s' r' t') k')|shape {m r r' k k'}:m.blk r=some r'->(∀x,dx P RA m (k x) (k' x))->dx P RA m (.shape r k) (.shape r' k')|freeze {m a a' n k k'}:AR m a a'->¬m.loose a.block->dx P RA m k k'->dx P RA m (.freeze a n k) (.freeze a' n k')|frozen {m a a' k k'}:AR m a a'->¬m.loose a.block->(∀x,dx P RA m (k x) (k' x))->dx P RA m (.frozen a k) (.frozen a' k')|getObj {m r r' k k'}:m.blk r=some r'->(∀o o',OR m o o'->dx P RA m (k o) (k' o'))->dx P RA m (.getObj r k) (.getObj r' k')|setObj {m r r' o o' k k'}:m.blk r=some r'->OR m o o'->(∀c e f,o≠.cells c e f)->dx P RA m k k'->dx P RA m (.setObj r o k) (.setObj r' o' k')|choose {m q k k'}:(∀n,dx P RA m (k n) (k' n))->dx P RA m (.choose q k) (.choose q k')|env {m k k'}:(∀r,dx P RA m (k r) (k' r))->dx P RA m (.sys .env k) (.sys .env k')|program {m k k'}:dx P RA m (k P) (k' P)->dx P RA m (.program k) (.program k')|mark {m x k k'}:Qz x->dx P RA m k k'->dx P RA m (.mark x k) (.mark x k')|gone {m r k s'}:m.dead r->dx P RA m (.getObj r k) s'|panic {m v v'}:VR m v v'->dx P RA m (.halt (.panic v)) (.halt (.panic v'))
section
variable {P:Program} {α β γ δ:Type}
def ep.bind{s:Sem α}{f:α->Sem γ}(h:ep P s):ep P (s.bind f):=by
 induction s with
 |pure a=>exact h.elim|load m a k B=>exact h.elim|store m a v k B=>cases v<;>exact h
 |new o k B=>exact λv=>B v (h v)|shape r k B=>exact λv=>B v (h v)|freeze a n k B=>exact B h|frozen a k B=>exact λv=>B v (h v)|getObj r k B=>exact λv=>B v (h v)|setObj r o k B=>exact B h|choose q k B=>exact λv=>B v (h v)|sys c k B=>exact λv=>B v (h v)|program k B=>exact B P h|mark m k B=>exact B h|halt x=>cases x<;>first|exact h|(rename_i u;cases u<;>exact h)
def dx.bind{RA:Ren->α->β->Prop}{RB:Ren->γ->δ->Prop}{m:Ren}{s:Sem α}{s':Sem β}{f:α->Sem γ}{f':β->Sem δ}
  (h:dx P RA m s s') (O:∀m' a b,m.Le m'->RA m' a b->dx P RB m' (f a) (f' b)):dx P RB m (s.bind f) (s'.bind f'):=by
 induction h with
 |dA hd=>exact .dA hd.bind|pure hr=>exact O _ _ _ (.refl _) hr|load U _ B=>exact .load U λv v' hv=>B v v' hv O|store U hv _ B=>exact .store U hv (B O)|new ho hc _ B=>exact .new ho hc λm' r r' hl hb hn=>B m' r r' hl hb hn λW a b Y hr=>O W a b (hl.trans Y) hr|qn hm _ B=>exact .qn hm λm' i i' hl hb=>B m' i i' hl hb λW a b Y hr=>O W a b (hl.trans Y) hr|shape hb _ B=>exact .shape hb λx=>B x O|freeze U hn _ B=>exact .freeze U hn (B O)|frozen U hn _ B=>exact .frozen U hn λx=>B x O|getObj hb _ B=>exact .getObj hb λo o' ho=>B o o' ho O|setObj hb ho hc _ B=>exact .setObj hb ho hc (B O)|choose _ B=>exact .choose λn=>B n O|env _ B=>exact .env λn=>B n O|program _ B=>exact .program (B O)|mark hm _ B=>exact .mark hm (B O)|gone hd=>exact .gone hd|panic hv=>exact .panic hv
def dx.mono{RA RB:Ren->α->β->Prop}{m:Ren}{s:Sem α}{s':Sem β}(h:dx P RA m s s')(O:∀m' a b,m.Le m'->RA m' a b->RB m' a b):dx P RB m s s':=by
 induction h with
 |dA hd=>exact .dA hd|pure x=>exact .pure (O _ _ _ (.refl _) x)|load U _ B=>exact .load U λv v' hv=>B v v' hv O|store U hv _ B=>exact .store U hv (B O)|new ho hc _ B=>exact .new ho hc λm' r r' hl hb hn=>B m' r r' hl hb hn λW a b Y x=>O W a b (hl.trans Y) x|qn hm _ B=>exact .qn hm λm' i i' hl hb=>B m' i i' hl hb λW a b Y x=>O W a b (hl.trans Y) x|shape hb _ B=>exact .shape hb λx=>B x O|freeze U hn _ B=>exact .freeze U hn (B O)|frozen U hn _ B=>exact .frozen U hn λx=>B x O|getObj hb _ B=>exact .getObj hb λo o' ho=>B o o' ho O|setObj hb ho hc _ B=>exact .setObj hb ho hc (B O)|choose _ B=>exact .choose λn=>B n O|env _ B=>exact .env λn=>B n O|program _ B=>exact .program (B O)|mark hm _ B=>exact .mark hm (B O)|gone hd=>exact .gone hd|panic hv=>exact .panic hv
end
def inside(f:Nat×Nat)(o:Nat):Prop:=f.1<=o/\o<f.2
def oL:Value->Prop
 |.agg _|.tuple _=>True|_=>False
def Wj(m:Ren)(w w':World):Prop:=∀r o v,m.sW r o=some v->∃r',m.blk r=some r'/\∀c e f c' B f' x,w.heap[r]?=some (.cells c e f)->w'.heap[r']?=some (.cells c' B f')->c[o]?=some x->oL x->c'[o]?=some v
structure WR(m:Ren)(w w':World):Prop where
 obj:∀r r',m.blk r=some r'->∃o o',w.heap[r]?=some o/\w'.heap[r']?=some o'/\OR m o o'
 fz:∀r r' c e f c' e' f',m.blk r=some r'->w.heap[r]?=some (.cells c e f)->w'.heap[r']?=some (.cells c' e' f')->¬m.loose r->f'=f
 all:∀r r' c e f c' e' f',m.blk r=some r'->w.heap[r]?=some (.cells c e f)->w'.heap[r']?=some (.cells c' e' f')->m.loose r->∀o,o<c.size->inside f o
 NQ:∀r r',m.ch r=some r'->r<w.heap.size/\r'<w'.heap.size
 NM:m.G<=w.heap.size
 Ld:m.G<=w'.heap.size
 os:w'.os=w.os
 lz:∀r o,m.lz r=some o->w.heap[r]?=some o/\∃c b x s y t,o=.chan c b x s y t
 lk:∀r r',m.blk r=some r'->m.loose r->∃c e f,w.heap[r]?=some (.cells c e f)
 dead:∀r,m.dead r->m.blk r=none/\∃c e f,w.heap[r]?=some (.cells c e f)
 sW:Wj m w w'
def Al(w w':World):Prop:=∀i q,w'.tape (w'.drawn+i) q=w.tape (w.drawn+i) q
def py(m:Ren)(e:Event):Prop:=
 match e.loc with
 |.cell a'=>e.sync=false/\∃a,AR m a a'/\(e.write=true->¬m.loose a.block)
 |.obj r'=>e.sync=false/\∃r,m.blk r=some r'/\¬m.loose r|.mark k=>Qz k|.output=>True|_=>False
structure fI(m dz:Ren)(w w₁:World):Prop where
 old:∀r',r'<w.heap.size->(∀r,m.blk r≠some r')->w₁.heap[r']?=w.heap[r']?
 size:w.heap.size<=w₁.heap.size
 fresh:∀r',w.heap.size<=r'->r'<w₁.heap.size->(∃r,dz.blk r=some r')\/(∃r,dz.ch r=some r')
 news:∀r r',dz.blk r=some r'->m.blk r=some r'\/w.heap.size<=r'
 Vf:∀r r',dz.ch r=some r'->m.ch r=some r'\/w.heap.size<=r'
 tape:w₁.tape=w.tape
 output:w₁.output=w.output
 os:w₁.os=w.os
 mT:¬m.iq->dz.ch=m.ch
 lz:dz.lz=m.lz
 still:∀r r',m.blk r=some r'->m.loose r->w₁.heap[r']?=w.heap[r']?
def fI.refl(m:Ren)(w:World):fI m m w w:=⟨λ_ _ _=>rfl,eg _,λr' h h'=>absurd h' (by omega),λ_ _ h=>.inl h,λ_ _ h=>.inl h,rfl,rfl,rfl,λ_=>rfl,rfl,λ_ _ _ _=>rfl⟩
def py.mono{m:Ren}(h:m.Le m'){e:Event}(x:py m e):py m' e:=by
 unfold py at x⊢;split<;>simp_all only;obtain⟨_,a,B,O⟩:=x;exact⟨trivial,a,B.mono h,λU=>by rw[h.loose _ _ B.blk];exact O U⟩;obtain⟨_,a,B,W⟩:=x;exact⟨trivial,a,h.blk _ _ B,λy=>W ((h.loose _ _ B).1 y)⟩
def fI.trans{m dz m₂:Ren}{w w₁ B:World}(W:m.Le dz)(O:dz.Le m₂)(h:fI m dz w w₁)(h':fI dz m₂ w₁ B):fI m m₂ w B:=by
 refine⟨λr' U hn=>?_,ee h.size h'.size,λr' U Y=>?_,λr r' hb=>?_,λr r' hb=>?_,h'.tape.trans h.tape,h'.output.trans h.output,h'.os.trans h.os,λhm=>(h'.mT (by rw[W.iq];exact hm)).trans (h.mT hm),h'.lz.trans h.lz,λr r' hb hx=>(h'.still r r' (W.blk _ _ hb) ((W.loose _ _ hb).2 hx)).trans (h.still r r' hb hx)⟩;rw[h'.old r' (ej U h.size) λr hb=>?_,h.old r' U hn];rcases h.news r r' hb with x|x
 exact hn r x;omega;by_cases hc:r'<w₁.heap.size;rcases h.fresh r' U hc with⟨r,x⟩|⟨r,x⟩
 exact .inl ⟨r,O.blk _ _ x⟩;exact .inr ⟨r,O.ch _ _ x⟩;exact h'.fresh r' (by omega) Y;rcases h'.news r r' hb with x|x
 exact h.news r r' x;exact .inr (ee h.size x);rcases h'.Vf r r' hb with x|x
 exact h.Vf r r' x;exact .inr (ee h.size x)
section
variable {m:Ren} {w w':World}
def WR.lt(h:WR m w w'){r r':Nat}(hb:m.blk r=some r'):r<w.heap.size/\r'<w'.heap.size:=by
 obtain⟨o,o',B,O,_⟩:=h.obj r r' hb;exact⟨(ay.1 B).1,(ay.1 O).1⟩
def WR.cell(h:WR m w w'){a a':Addr}(B:AR m a a'){v:Value}(hv:w.cell? a=some v):∃v',w'.cell? a'=some v'/\VR m v v':=by
 cases B with
 |@mk b b' o s hb=>
 obtain⟨x,x',O,U,W⟩:=h.obj b b' hb;unfold gz at hv⊢;simp only[O,U]at hv⊢
 cases W with
 |cells e f f' Y=>
  simp only at hv⊢;split at hv
  cases hv;rename_i hs;rw[if_neg hs];exact Y.get hv
 |_=>cases hv
def WR.O8(h:WR m w w'){a a':Addr}(B:AR m a a')(W:w.cell? a=none)(P:Program)(b:Bool):∃y,w.farLoad P a b=.error (.stuck y):=by
 cases B with
 |@mk b b' o s hb=>
 obtain⟨x,x',O,Y,U⟩:=h.obj b b' hb;unfold World.farLoad gy;simp only[O];cases U<;>exact⟨_,rfl⟩
def WR.KT(h:WR m w w'){a a':Addr}(B:AR m a a')(W:w.cell? a=none)(P:Program)(v:Value)(b:Bool):∃y,w.farStore P a v b=.error (.stuck y):=by
 cases B with
 |@mk b b' o s hb=>
 obtain⟨x,x',O,Y,U⟩:=h.obj b b' hb;unfold World.farStore gy;simp only[O];cases U<;>exact⟨_,rfl⟩
end
variable {a':Addr} {es:Array Event} {h:Array Obj} {r r':Nat} {o o':Obj} {P:Program} {al:Prop}
def kE:Halt->Prop
 |.unsupported (.initOrder _)=>False|.unsupported _=>True|.stuck _=>True|.throw _=>True|_=>False
def ep.run{s:Sem α}(h:ep P s):∀w:World,∃x w₁,s.run P w=.halt x w₁/\kE x:=by
 induction s with
 |pure a=>exact h.elim|load m a k B=>exact h.elim|store m a v k B=>
  intro w;cases v<;>first|exact h.elim|exact⟨_,_,rfl,trivial⟩
 |new o k B=>exact λw=>B _ (h _) _|shape r k B=>exact λw=>B _ (h _) _|freeze a n k B=>exact λw=>B h _|frozen a k B=>exact λw=>B _ (h _) _|getObj r k B=>
  intro w;simp only[cL];split;exact⟨_,_,rfl,trivial⟩;exact B _ (h _) _;exact⟨_,_,rfl,trivial⟩
 |setObj r o k B=>
  intro w;simp only[cL];split;exact⟨_,_,rfl,trivial⟩;exact B h _;exact⟨_,_,rfl,trivial⟩
 |choose q k B=>
  intro w;simp only[cL];split;exact B _ (h _) _;exact B _ (h _) _
 |sys c k B=>exact λw=>B _ (h _) _|program k B=>exact λw=>B P h _|mark m k B=>exact λw=>B h _|halt x=>
  intro w;refine⟨x,w,rfl,?_⟩;cases x<;>first|exact h.elim|trivial|(rename_i u;cases u<;>first|exact h.elim|trivial)
def Ren.ext(m:Ren)(r r':Nat)(_h:m.blk r=none)(h':∀s,m.blk s≠some r')(O:r<m.G↔r'<m.G):Ren where
 blk:=λs=>if s=r then some r' else m.blk s
 ch:=m.ch
 loose:=λs=>if s=r then False else m.loose s
 ok:=m.ok
 fF:=m.fF
 iq:=m.iq
 dead:=m.dead
 dm:=m.dm
 sW:=m.sW
 lz:=m.lz
 G:=m.G
 po:=λa b B=>by
  by_cases ea:a=r
  .simp[ea]at B;subst B;rw[ea];exact O
  .simp[ea]at B;exact m.po _ _ B
 inj:=λa b t B hb=>by
  by_cases ea:a=r<;>by_cases eb:b=r
  .rw[ea,eb]
  .simp[ea,eb]at B hb;subst B;exact absurd hb (h' _)
  .simp[ea,eb]at B hb;subst hb;exact absurd B (h' _)
  .simp[ea,eb]at B hb;exact m.inj _ _ _ B hb
 vF:=m.vF
def Ren.tE(m:Ren)(r r':Nat)(_h:m.ch r=none)(h':∀s,m.ch s≠some r'):Ren where
 blk:=m.blk
 ch:=λs=>if s=r then some r' else m.ch s
 loose:=m.loose
 ok:=m.ok
 fF:=m.fF
 iq:=m.iq
 dead:=m.dead
 dm:=m.dm
 sW:=m.sW
 lz:=m.lz
 G:=m.G
 po:=m.po
 inj:=m.inj
 vF:=λa b t B hb=>by
  by_cases ea:a=r<;>by_cases eb:b=r
  .rw[ea,eb]
  .simp[ea,eb]at B hb;subst B;exact absurd hb (h' _)
  .simp[ea,eb]at B hb;subst hb;exact absurd B (h' _)
  .simp[ea,eb]at B hb;exact m.vF _ _ _ B hb
def Ren.vO{m:Ren}(h:m.blk r=none)(h':∀s,m.blk s≠some r')(O:r<m.G↔r'<m.G):m.Le (m.ext r r' h h' O):=by
 refine⟨λs s' B=>?_,λ_ _ x=>x,λs s' B=>?_,λs B=>?_,rfl,rfl,rfl,rfl,rfl,rfl,rfl⟩;have:s≠r:=λe=>by rw[e,h]at B;cases B
 simp[Ren.ext,this,B];have:s≠r:=λe=>by rw[e,h]at B;cases B
 simp[Ren.ext,this];by_cases e:s=r;simp[Ren.ext,e]at B;simpa[Ren.ext,e]using B
def Ren.yj{m:Ren}(h:m.ch r=none)(h':∀s,m.ch s≠some r'):m.Le (m.tE r r' h h'):=by
 refine⟨λ_ _ x=>x,λs s' B=>?_,λs s' B=>Iff.rfl,λ_ h=>h,rfl,rfl,rfl,rfl,rfl,rfl,rfl⟩;have:s≠r:=λe=>by rw[e,h]at B;cases B
 simp[Ren.tE,this,B]
section
variable {m:Ren} {w w':World}
def WR.gQ(h:WR m w w'):m.blk w.heap.size=none:=by
 cases hb:m.blk _ with
 |none=>rfl|some r'=>have:=(h.lt hb).1;omega
def WR.mq(h:WR m w w'):∀s,m.blk s≠some w'.heap.size:=λs hb=>by have:=(h.lt hb).2;omega
def WR.qx(h:WR m w w'):m.ch w.heap.size=none:=by
 cases hb:m.ch _ with
 |none=>rfl|some r'=>have:=(h.NQ _ _ hb).1;omega
def WR.nT(h:WR m w w'):∀s,m.ch s≠some w'.heap.size:=λs hb=>by have:=(h.NQ _ _ hb).2;omega
def WR.Tq(h:WR m w w'):w.heap.size<m.G↔w'.heap.size<m.G:=⟨λx=>absurd h.NM (by omega),λx=>absurd h.Ld (by omega)⟩
def eU(B:r<h.size):(h.push o)[r]?=h[r]?:=by
 rw[Array.getElem?_push];have:r≠h.size:=by omega
 simp[this]
def jY(x:h[r]?=some o):r<h.size:=(ay.1 x).1
def iU{x:Obj}(B:h[r]?=some x):(h.push o)[r]?=some x:=by rw[eU (jY B)];exact B
def WR.push(h:WR m w w')(ho:OR m o o')(hc:∀e c f,o=.cells e c f->∃e',o'=.cells e' c f) :
  WR (m.ext w.heap.size w'.heap.size h.gQ h.mq h.Tq) {w with heap:=w.heap.push o} {w' with heap:=w'.heap.push o'}:=by
 have O:=Ren.vO h.gQ h.mq h.Tq
 have key:∀r r',(m.ext _ _ h.gQ h.mq h.Tq).blk r=some r'->(r=w.heap.size/\r'=w'.heap.size)\/(m.blk r=some r'/\r<w.heap.size/\r'<w'.heap.size):=by
  intro r r' hb;by_cases e:r=w.heap.size;simp[Ren.ext,e]at hb;exact .inl ⟨e,hb.symm⟩;simp[Ren.ext,e]at hb;exact .inr ⟨hb,h.lt hb⟩
 refine⟨λr r' hb=>?_,λr r' c e f c' e' f' hb U W hn=>?_,λr r' c e f c' e' f' hb U W hl=>?_,λr r' hb=>?_,by simp;have:=h.NM;first|exact ei this|exact this,by simp;have:=h.Ld;first|exact ei this|exact this,h.os,λr o hr=>⟨iU (h.lz r o hr).1,(h.lz r o hr).2⟩,λr r' hb hl=>?_,λr hr=>⟨?_,?_⟩,λr i v hv=>?_⟩;rcases key r r' hb with⟨rfl,rfl⟩|⟨B,Y,l2⟩
 exact⟨o,o',by simp,by simp,ho.mono O⟩;obtain⟨x,x',g1,g2,g3⟩:=h.obj r r' B;exact⟨x,x',by rw[eU Y];exact g1,by rw[eU l2];exact g2,g3.mono O⟩;rcases key r r' hb with⟨rfl,rfl⟩|⟨B,Y,l2⟩
 simp at U W;obtain⟨y,hy⟩:=hc _ _ _ U;rw[hy]at W;cases W;rfl;simp only[eU Y,eU l2]at U W;refine h.fz r r' _ _ _ _ _ _ B U W λhl=>hn ((O.loose r r' B).2 hl);rcases key r r' hb with⟨rfl,rfl⟩|⟨B,Y,l2⟩
 simp[Ren.ext]at hl;simp only[eU Y,eU l2]at U W;exact h.all r r' _ _ _ _ _ _ B U W ((O.loose r r' B).1 hl);have:=h.NQ r r' hb;simp;omega;rcases key r r' hb with⟨rfl,rfl⟩|⟨B,Y,l2⟩
 simp[Ren.ext]at hl;obtain⟨c,e,f,hx⟩:=h.lk r r' B ((O.loose r r' B).1 hl);exact⟨c,e,f,iU hx⟩;obtain⟨U,c,e,f,hx⟩:=h.dead r hr;have:=Nat.ne_of_lt (jY hx);simp[Ren.ext,this,U];obtain⟨U,c,e,f,hx⟩:=h.dead r hr;exact⟨c,e,f,iU hx⟩;obtain⟨r',hb,hp⟩:=h.sW r i v hv;refine⟨r',O.blk _ _ hb,λc e f c' e' f' x g1 g2=>?_⟩;obtain⟨Y,l2⟩:=h.lt hb;simp only[eU Y,eU l2]at g1 g2;exact hp c e f c' e' f' x g1 g2
def WR.Qf(h:WR m w w')(o o':Obj):WR (m.tE w.heap.size w'.heap.size h.qx h.nT) {w with heap:=w.heap.push o} {w' with heap:=w'.heap.push o'}:=by
 have aa:=Ren.yj h.qx h.nT;refine⟨λr r' hb=>?_,λr r' c e f c' e' f' hb B W hn=>?_,λr r' c e f c' e' f' hb B W hl=>?_,λr r' hb=>?_,by simp;have:=h.NM;first|exact ei this|exact this,by simp;have:=h.Ld;first|exact ei this|exact this,h.os,λr o Y=>⟨iU (h.lz r o Y).1,(h.lz r o Y).2⟩,λr r' hb hl=>by obtain⟨c,e,f,hx⟩:=h.lk r r' hb hl;exact⟨c,e,f,iU hx⟩,λr Y=>by obtain⟨B,c,e,f,hx⟩:=h.dead r Y;exact⟨B,c,e,f,iU hx⟩,λr i v hv=>?_⟩;obtain⟨O,U⟩:=h.lt (show m.blk r=some r' from hb);obtain⟨x,x',g1,g2,g3⟩:=h.obj r r' hb;exact⟨x,x',by rw[eU O];exact g1,by rw[eU U];exact g2,g3.mono aa⟩;obtain⟨O,U⟩:=h.lt (show m.blk r=some r' from hb);simp only[eU O,eU U]at B W;exact h.fz r r' _ _ _ _ _ _ hb B W hn;obtain⟨O,U⟩:=h.lt (show m.blk r=some r' from hb);simp only[eU O,eU U]at B W;exact h.all r r' _ _ _ _ _ _ hb B W hl;by_cases e:r=w.heap.size;simp[Ren.tE,e]at hb;subst hb;simp[e];simp[Ren.tE,e]at hb;have:=h.NQ r r' hb;simp;omega;obtain⟨r',hb,hp⟩:=h.sW r i v hv;refine⟨r',hb,λc e f c' e' f' x g1 g2=>?_⟩;obtain⟨O,U⟩:=h.lt hb;simp only[eU O,eU U]at g1 g2;exact hp c e f c' e' f' x g1 g2
def WR.turn(h:WR m w w')(hb:m.blk r=some r')(ho:OR m o o')
  (hf:∀c e f c' U f',o=.cells c e f->o'=.cells c' U f'->(¬m.loose r->f'=f)/\(m.loose r->∀i,i<c.size->inside f i)) (aa:m.loose r->∃c e f,o=.cells c e f)
  (ab:∀c e f c' U f',o=.cells c e f->o'=.cells c' U f'->∀i x v,m.sW r i=some v->c[i]?=some x->oL x->c'[i]?=some v) :
  WR m {w with heap:=w.heap.setIfInBounds r o} {w' with heap:=w'.heap.setIfInBounds r' o'}:=by
 obtain⟨l1,l2⟩:=h.lt hb
 have key:∀s s',m.blk s=some s'->(s=r/\s'=r')\/(s≠r/\s'≠r'):=by
  intro s s' B;by_cases e:s=r;subst e;rw[hb]at B;cases B;exact .inl ⟨rfl,rfl⟩;exact .inr ⟨e,λU=>e (m.inj _ _ _ (U▸B) hb)⟩
 refine⟨λs s' B=>?_,λs s' c e f c' U f' B O W hn=>?_,λs s' c e f c' U f' B O W hl=>?_,λs s' B=>by simpa using h.NQ s s' B,by simpa using h.NM,by simpa using h.Ld,h.os,λs x B=>?_,λs s' B hl=>?_,λs B=>?_,λs i v hv=>?_⟩;rcases key s s' B with⟨rfl,rfl⟩|⟨n1,n2⟩
 exact⟨o,o',by simp[l1],by simp[l2],ho⟩;obtain⟨x,x',g1,Y,g3⟩:=h.obj s s' B;exact⟨x,x',by rw[ax (hH n1)];exact g1,by rw[ax (hH n2)];exact Y,g3⟩;rcases key s s' B with⟨rfl,rfl⟩|⟨n1,n2⟩
 simp[l1,l2]at O W;exact(hf _ _ _ _ _ _ O W).1 hn;simp only[ax (hH n1),ax (hH n2)]at O W;exact h.fz s s' _ _ _ _ _ _ B O W hn;rcases key s s' B with⟨rfl,rfl⟩|⟨n1,n2⟩
 simp[l1,l2]at O W;exact(hf _ _ _ _ _ _ O W).2 hl;simp only[ax (hH n1),ax (hH n2)]at O W;exact h.all s s' _ _ _ _ _ _ B O W hl;obtain⟨g1,Y⟩:=h.lz s x B;refine⟨?_,Y⟩
 have:r≠s:=by
  rintro rfl;obtain⟨y,y',k1,_,k3⟩:=h.obj r r' hb;obtain⟨c,b,x',s',z,t,rfl⟩:=Y;rw[g1]at k1;cases k1;cases k3
 rw[ax this];exact g1;rcases key s s' B with⟨rfl,rfl⟩|⟨n1,n2⟩
 obtain⟨c,e,f,rfl⟩:=aa hl;exact⟨c,e,f,by simp[l1]⟩;obtain⟨c,e,f,hx⟩:=h.lk s s' B hl;exact⟨c,e,f,by simpa only[ax (hH n1)]using hx⟩;obtain⟨O,c,e,f,hx⟩:=h.dead s B;have:r≠s:=by rintro rfl;rw[hb]at O;cases O
 exact⟨O,c,e,f,by simpa only[ax this]using hx⟩;obtain⟨s',B,hp⟩:=h.sW s i v hv;refine⟨s',B,λc e f c' U f' x g1 Y=>?_⟩;rcases key s s' B with⟨rfl,rfl⟩|⟨n1,n2⟩
 simp[l1,l2]at g1 Y;exact λg3 g4=>ab _ _ _ _ _ _ g1 Y i x v hv g3 g4;simp only[ax (hH n1),ax (hH n2)]at g1 Y;exact hp c e f c' U f' x g1 Y
def qB(h:Array Obj)(r:Nat)(f:Obj->Obj)(o:Obj)(O:h[r]?=some o):h.modify r f=h.setIfInBounds r (f o):=by
 apply Array.ext_getElem?;intro i;obtain⟨B,U⟩:=ay.1 O;by_cases e:r=i;subst e;rw[a2];simp[B,U];rw[a2];simp[e]
def WR.setCell(h:WR m w w'){a:Addr}(ha:AR m a a'){v v':Value}(hv:VR m v v')(ab:¬oL v):WR m (w.setCell a v) (w'.setCell a' v'):=by
 cases ha with
 |@mk b b' o s hb=>
 obtain⟨x,x',U,W,ho⟩:=h.obj b b' hb;unfold World.setCell;simp only[qB _ _ _ _ U,qB _ _ _ _ W]
 cases ho with
 |cells e f f' hc=>
  refine h.turn hb (.cells e f f' ?_) (λc e f c' e' f' e1 e2=>?_) (λ_=>⟨_,_,_,rfl⟩) ?_;split;exact hc;exact hc.set _ hv
  cases e1;cases e2;refine⟨λY=>h.fz b b' _ _ _ _ _ _ hb U W Y,λO i hi=>h.all b b' _ _ _ _ _ _ hb U W O i ?_⟩;revert hi;split<;>simp;intro c1 e1 f1 c2 e2 f2 q1 q2 i x u hu B Y;cases q1;cases q2;obtain⟨b2,aa,hp⟩:=h.sW b i u hu;rw[hb]at aa;cases aa;revert B;split;exact λB=>hp _ _ _ _ _ _ x U W B Y;intro B;by_cases e:o=i;subst e;rw[Array.getElem?_setIfInBounds]at B;simp at B;exact absurd (B.2▸Y) ab;rw[ax e]at B⊢;exact hp _ _ _ _ _ _ x U W B Y
 |map clock he=>exact h.turn hb (.map clock he) (nofun) (λO=>(by obtain⟨c,e,f,B⟩:=h.lk _ _ hb O;rw[U]at B;cases B)) (nofun)|number l B=>exact h.turn hb (.number l B) (nofun) (λO=>(by obtain⟨c,e,f,B⟩:=h.lk _ _ hb O;rw[U]at B;cases B)) (nofun)|stringIter s p=>exact h.turn hb (.stringIter s p) (nofun) (λO=>(by obtain⟨c,e,f,B⟩:=h.lk _ _ hb O;rw[U]at B;cases B)) (nofun)|gm x y z=>exact h.turn hb (.gm x y z) (nofun) (λO=>(by obtain⟨c,e,f,B⟩:=h.lk _ _ hb O;rw[U]at B;cases B)) (nofun)|mapIter x y z hm=>exact h.turn hb (.mapIter x y z hm) (nofun) (λO=>(by obtain⟨c,e,f,B⟩:=h.lk _ _ hb O;rw[U]at B;cases B)) (nofun)|loop O=>exact h.turn hb (.loop O) (nofun) (λO=>(by obtain⟨c,e,f,B⟩:=h.lk _ _ hb O;rw[U]at B;cases B)) (nofun)|fe=>exact h.turn hb .fe (nofun) (λO=>(by obtain⟨c,e,f,B⟩:=h.lk _ _ hb O;rw[U]at B;cases B)) (nofun)|deferred hd=>exact h.turn hb (.deferred hd) (nofun) (λO=>(by obtain⟨c,e,f,B⟩:=h.lk _ _ hb O;rw[U]at B;cases B)) (nofun)
def WR.freeze(h:WR m w w'){a:Addr}(ha:AR m a a')(hn:¬m.loose a.block)(n:Nat):WR m (w.freeze a n) (w'.freeze a' n):=by
 cases ha with
 |@mk b b' o s hb=>
 obtain⟨x,x',U,Y,ho⟩:=h.obj b b' hb;unfold gv;split
 .exact h
 simp only[qB _ _ _ _ U,qB _ _ _ _ Y]
 cases ho with
 |cells e f f' hc=>
  have ef:=h.fz b b' _ _ _ _ _ _ hb U Y hn;subst ef;refine h.turn hb (.cells e _ _ hc) (λc e f c' e' f' e1 e2=>?_) (λ_=>⟨_,_,_,rfl⟩) ?_
  cases e1;cases e2;exact⟨λ_=>rfl,λO=>absurd O hn⟩;intro c1 e1 f1 c2 e2 f2 q1 q2 i x u hu B aa;cases q1;cases q2;obtain⟨b2,W,hp⟩:=h.sW b i u hu;rw[hb]at W;cases W;exact hp _ _ _ _ _ _ x U Y B aa
 |map clock he=>exact h.turn hb (.map clock he) (nofun) (λO=>(by obtain⟨c,e,f,B⟩:=h.lk _ _ hb O;rw[U]at B;cases B)) (nofun)|number l B=>exact h.turn hb (.number l B) (nofun) (λO=>(by obtain⟨c,e,f,B⟩:=h.lk _ _ hb O;rw[U]at B;cases B)) (nofun)|stringIter s p=>exact h.turn hb (.stringIter s p) (nofun) (λO=>(by obtain⟨c,e,f,B⟩:=h.lk _ _ hb O;rw[U]at B;cases B)) (nofun)|gm x y z=>exact h.turn hb (.gm x y z) (nofun) (λO=>(by obtain⟨c,e,f,B⟩:=h.lk _ _ hb O;rw[U]at B;cases B)) (nofun)|mapIter x y z hm=>exact h.turn hb (.mapIter x y z hm) (nofun) (λO=>(by obtain⟨c,e,f,B⟩:=h.lk _ _ hb O;rw[U]at B;cases B)) (nofun)|loop O=>exact h.turn hb (.loop O) (nofun) (λO=>(by obtain⟨c,e,f,B⟩:=h.lk _ _ hb O;rw[U]at B;cases B)) (nofun)|fe=>exact h.turn hb .fe (nofun) (λO=>(by obtain⟨c,e,f,B⟩:=h.lk _ _ hb O;rw[U]at B;cases B)) (nofun)|deferred hd=>exact h.turn hb (.deferred hd) (nofun) (λO=>(by obtain⟨c,e,f,B⟩:=h.lk _ _ hb O;rw[U]at B;cases B)) (nofun)
def WR.draw(h:WR m w w')(a b:Nat):WR m {w with drawn:=a} {w' with drawn:=b}:=⟨h.obj,h.fz,h.all,h.NQ,h.NM,h.Ld,h.os,h.lz,h.lk,h.dead,h.sW⟩
def Al.draw(h:Al w w'):Al {w with drawn:=w.drawn+1} {w' with drawn:=w'.drawn+1}:=λi q=>by
 have:=h (i+1) q;have B:w'.drawn+1+i=w'.drawn+(i+1):=by omega
 have O:w.drawn+1+i=w.drawn+(i+1):=by omega
 simp only[B,O];exact this
def WR.shape(h:WR m w w')(hb:m.blk r=some r'):w'.shape? r'=w.shape? r:=by
 obtain⟨x,x',B,O,U⟩:=h.obj r r' hb;unfold World.shape?;simp only[B,O];cases U<;>try rfl
 rename_i W;simp[W.size]
def WR.frozen(h:WR m w w'){a:Addr}(U:AR m a a')(W:¬m.loose a.block):w'.frozen? a'=w.frozen? a:=by
 cases U with
 |@mk b b' o s hb=>
 obtain⟨x,x',B,O,Y⟩:=h.obj b b' hb;unfold gx;simp only[B,O];cases Y<;>try rfl
 rw[h.fz b b' _ _ _ _ _ _ hb B O W]
end
def iL{α β:Type}(RA:Ren->α->β->Prop)(al:Prop)(m:Ren)(w':World)(es:Array Event)(r:Result β×Array Event):Result α->Prop
 |.ok a w₁=>∃dz b B es₁,r=(.ok b B,es++es₁)/\m.Le dz/\RA dz a b/\WR dz w₁ B/\(al->Al w₁ B)/\fI m dz w' B/\∀e∈es₁,py dz e|.halt (.panic v) w₁=>∃dz v' B es₁,r=(.halt (.panic v') B,es++es₁)/\m.Le dz/\VR dz v v'/\WR dz w₁ B/\(al->Al w₁ B)/\fI m dz w' B/\∀e∈es₁,py dz e|.halt x _=>kE x
def iL.ahead{RA:Ren->α->β->Prop}{al₁:Prop}{m dz:Ren}{w' O:World}{es₁:Array Event}{r:Result β×Array Event}{q:Result α}
  (ha:al->al₁) (hl:m.Le dz) (hk:fI m dz w' O) (he:∀e∈es₁,py dz e) (h:iL RA al₁ dz O (es++es₁) r q):iL RA al m w' es r q:=by
 unfold iL at h⊢;split;obtain⟨m₂,b,U,B,h1,W,h3,h4,Y,h5,h6⟩:=h;refine⟨m₂,b,U,es₁++B,by rw[h1,aH],hl.trans W,h3,h4,λx=>Y (ha x),hk.trans hl W h5,λe hx=>?_⟩;rcases a9.1 hx with x|x
 exact(he e x).mono W;exact h6 e x;obtain⟨m₂,b,U,B,h1,W,h3,h4,Y,h5,h6⟩:=h;refine⟨m₂,b,U,es₁++B,by rw[h1,aH],hl.trans W,h3,h4,λx=>Y (ha x),hk.trans hl W h5,λe hx=>?_⟩;rcases a9.1 hx with x|x
 exact(he e x).mono W;exact h6 e x;rename_i x y hx;cases x<;>first|exact h|exact absurd rfl (hx _)
def fI.cell{m:Ren}{w':World}(hb:m.blk r=some r')(O:¬m.loose r)(o:Obj):fI m m w' {w' with heap:=w'.heap.setIfInBounds r' o}:=
 ⟨λx _ U=>by
   have B:r'≠x:=λe=>U r (e▸hb);rw[ax B],by simp,λr' h h'=>absurd h' (by simpa using h),λ_ _ h=>.inl h,λ_ _ h=>.inl h,rfl,rfl,rfl,λ_=>rfl,rfl,λs s' W B=>by
   have:r'≠s':=λe=>O (m.inj _ _ _ (e▸W) hb▸B)
   rw[ax this]⟩
def fI.modify{m:Ren}{w':World}(hb:m.blk r=some r')(O:¬m.loose r)(f:Obj->Obj):fI m m w' {w' with heap:=w'.heap.modify r' f}:=
 ⟨λx _ U=>by
   have B:¬r'=x:=λe=>U r (e▸hb);rw[a2];simp[B],by simp,λr' h h'=>absurd h' (by simpa using h),λ_ _ h=>.inl h,λ_ _ h=>.inl h,rfl,rfl,rfl,λ_=>rfl,rfl,λs s' W B=>by
   have:r'≠s':=λe=>O (m.inj _ _ _ (e▸W) hb▸B)
   rw[a2];simp[this]⟩
def jL{RA:Ren->α->β->Prop}{m:Ren}{w':World}{r:Result β×Array Event}{q:Result α}{e:Event}
  (B:py m e) (h:iL RA al m w' (es.push e) r q):iL RA al m w' es r q:=
 iL.ahead (es₁:=#[e]) id (.refl m) (.refl m w') (by simpa using B) (by simpa using h)
def dx.run{RA:Ren->α->β->Prop}{m:Ren}{s:Sem α}{s':Sem β}(h:dx P RA m s s') :
  ∀(w w':World)(es:Array Event),WR m w w'->(Al w w'\/gf s)->iL RA (Al w w') m w' es (s'.runT P w' es) (s.run P w):=by
 induction h with
 |dA hd=>
  intro w w' es O B;obtain⟨x,w₁,hr,hh⟩:=hd.run w;rw[hr];cases x<;>first|exact hh|exact hh.elim
 |pure hr=>
  intro w w' es O B;exact⟨_,_,w',#[],by simp[cN],.refl _,hr,O,id,.refl _ _,by simp⟩
 |@load m a a' k k' ha _ U=>
  intro w w' es O B;simp only[cL,cN]
  cases hc:w.cell? a with
  |some v=>
   obtain⟨v',ah,hv⟩:=O.cell ha hc;simp only[ah];exact jL (e:=⟨.cell a',false,false⟩) ⟨rfl,a,ha,by simp⟩ (U v v' hv w w' _ O (B.imp id λx=>x v))
  |none=>
   obtain⟨y,hy⟩:=O.O8 ha hc P (Mode.plain==.atomic);simp only[hy];trivial
 |@store m a a' v v' k k' ha hv _ U=>
  intro w w' es O B;by_cases h1:∃c,v=.agg c
  .obtain⟨c,rfl⟩:=h1;simp only[cL];trivial
  by_cases h2:∃c,v=.tuple c
  .obtain⟨c,rfl⟩:=h2;simp only[cL];trivial
  have ai:∀c,v'≠.agg c:=λc e=>by subst e;cases hv<;>first|exact h1 ⟨_,rfl⟩|exact h2 ⟨_,rfl⟩
  have aj:∀c,v'≠.tuple c:=λc e=>by subst e;cases hv<;>first|exact h1 ⟨_,rfl⟩|exact h2 ⟨_,rfl⟩
  have e1:(Sem.store Mode.plain a v k).run P w=match w.cell? a with
    |some _=>if w.frozen? a then .halt (.unsupported (.unsafePointer "a write to bytes that a string shares")) w else k.run P (w.setCell a v)|none=>match w.farStore P a v (Mode.plain==.atomic)with
     |.ok (w,_)=>k.run P w|.error h=>.halt h w:=by
   rw[cL];rfl;exact λc e=>h1 ⟨c,e⟩;exact λc e=>h2 ⟨c,e⟩
  have e2:(Sem.store Mode.plain a' v' k').runT P w' es=match w'.cell? a' with
    |some _=>if w'.frozen? a' then(.halt (.unsupported (.unsafePointer "a write to bytes that a string shares")) w',es)else k'.runT P (w'.setCell a' v') (es.push ⟨.cell a',true,Mode.plain==.atomic⟩)|none=>match w'.farStore P a' v' (Mode.plain==.atomic)with
     |.ok (w,aa)=>k'.runT P w (es++aa.toArray.map (⟨.cell ·,true,Mode.plain==.atomic⟩))|.error h=>(.halt h w',es):=by
   rw[cN];rfl;exact ai;exact aj
  have ag:¬oL v:=by
   intro ak;cases v<;>first|exact ak.elim|exact h1 ⟨_,rfl⟩|exact h2 ⟨_,rfl⟩
  rw[e1,e2]
  cases hc:w.cell? a with
  |none=>
   obtain⟨y,hy⟩:=O.KT ha hc P v (Mode.plain==.atomic);simp only[hy];trivial
  |some u=>
   obtain⟨u',am,_⟩:=O.cell ha hc;simp only[am];by_cases hf:w.frozen? a=true
   .simp only[hf,if_true];trivial
   have ad:¬m.loose a.block:=by
    intro hl
    cases ha with
    |@mk b b' o s hb=>
    obtain⟨x,x',g1,g2,ho⟩:=O.obj b b' hb;unfold gz at hc;simp only[g1]at hc
    cases ho with
    |cells e f f' au=>
     simp only at hc;split at hc
     cases hc;have an:=(ay.1 hc).1;have:=O.all b b' _ _ _ _ _ _ hb g1 g2 hl o an;apply hf;unfold gx;simp only[g1];simpa[inside]using this
    |_=>cases hc
   have ao:w'.frozen? a'=false:=by rw[O.frozen ha ad];simpa using hf
   simp only[hf,ao,if_false,dr];have ap:(Mode.plain==Mode.atomic)=false:=rfl;rw[ap];refine iL.ahead (es₁:=#[⟨.cell a',true,false⟩]) (al₁:=Al (w.setCell a v) (w'.setCell a' v')) (λh=>h) (.refl _) ?_ ?_ (by simpa using U (w.setCell a v) _ _ (O.setCell ha hv ag) B)
   cases ha with
   |mk hb=>exact fI.modify hb ad _
   simp only[List.mem_toArray,gd,List.not_mem_nil,or_false,forall_eq];exact⟨rfl,a,ha,λ_=>ad⟩
 |@new m o o' k k' ho hc _ U=>
  intro w w' es O B;simp only[cL,cN];have ab:=Ren.vO O.gQ O.mq O.Tq;have ac:(m.ext w.heap.size w'.heap.size O.gQ O.mq O.Tq).blk w.heap.size=some w'.heap.size:=by simp[Ren.ext]
  refine iL.ahead (es₁:=#[]) (al₁:=Al {w with heap:=w.heap.push o} {w' with heap:=w'.heap.push o'}) (λh=>h) ab ?_ (by simp) (by simpa using U _ _ _ ab ac (by simp[Ren.ext]) {w with heap:=w.heap.push o} _ _ (O.push ho hc) (B.imp id λx=>x _));refine⟨λr' hr hn=>eU hr,by simp,λr' h h'=>.inl ⟨w.heap.size,?_⟩,λr r' hb=>?_,λ_ _ h=>.inl h,rfl,rfl,rfl,λ_=>rfl,rfl,λr r' hb _=>eU (O.lt hb).2⟩;have:r'=w'.heap.size:=by simp at h';omega
  rw[this];exact ac;by_cases e:r=w.heap.size;simp[Ren.ext,e]at hb;exact .inr (by omega);simp[Ren.ext,e]at hb;exact .inl hb
 |@qn m c b x s r t c' b' x' s' r' t' k k' aq _ U=>
  intro w w' es O B;simp only[cL,cN];have ab:=Ren.yj O.qx O.nT;have ac:(m.tE w.heap.size w'.heap.size O.qx O.nT).ch w.heap.size=some w'.heap.size:=by simp[Ren.tE]
  refine iL.ahead (es₁:=#[]) (al₁:=Al {w with heap:=w.heap.push (.chan c b x s r t)} {w' with heap:=w'.heap.push (.chan c' b' x' s' r' t')}) (λh=>h) ab ?_ (by simp) (by simpa using U _ _ _ ab ac {w with heap:=w.heap.push _} _ _ (O.Qf _ _) (B.imp id λx=>x _));refine⟨λr' hr hn=>eU hr,by simp,λr' h h'=>.inr ⟨w.heap.size,?_⟩,λ_ _ h=>.inl h,λr r' hb=>?_,rfl,rfl,rfl,λhn=>absurd aq hn,rfl,λr r' hb _=>eU (O.lt hb).2⟩;have:r'=w'.heap.size:=by simp at h';omega
  rw[this];exact ac;by_cases e:r=w.heap.size;simp[Ren.tE,e]at hb;exact .inr (by omega);simp[Ren.tE,e]at hb;exact .inl hb
 |shape hb _ U=>
  intro w w' es O B;simp only[cL,cN,O.shape hb];exact U _ w w' es O (B.imp id λx=>x _)
 |@freeze m a a' n k k' ha hn _ U=>
  intro w w' es O B;simp only[cL,cN];refine iL.ahead (es₁:=#[]) (al₁:=Al (w.freeze a n) (w'.freeze a' n)) (λh=>by unfold gv;split<;>exact h) (.refl _) ?_ (by simp) (by simpa using U _ _ _ (O.freeze ha hn _) (B.imp (λh=>by unfold gv;split<;>exact h) λx=>x))
  cases ha with
  |mk hb=>
   unfold gv;split;exact .refl _ _;exact fI.modify hb hn _
 |frozen ha hn _ U=>
  intro w w' es O B;simp only[cL,cN,O.frozen ha hn];exact U _ w w' es O (B.imp id λx=>x _)
 |getObj hb _ U=>
  intro w w' es O B;obtain⟨x,x',h1,h2,ho⟩:=O.obj _ _ hb;simp only[cL,cN,h1,h2];rcases Classical.em (Ren.loose _ _)with W|W
  .obtain⟨c,e,f,hx⟩:=O.lk _ _ hb W;rw[h1]at hx;cases hx;trivial
  have Y:py _ ⟨.obj _,false,false⟩:=⟨rfl,_,hb,W⟩
  cases ho with
  |cells=>trivial|map clock he=>exact jL Y (U _ _ (.map clock he) w w' _ O (B.imp id λx=>x _))|number l hx=>exact jL Y (U _ _ (.number l hx) w w' _ O (B.imp id λx=>x _))|stringIter s p=>exact jL Y (U _ _ (.stringIter s p) w w' _ O (B.imp id λx=>x _))|gm a b c=>exact jL Y (U _ _ (.gm a b c) w w' _ O (B.imp id λx=>x _))|mapIter a b c hm=>exact jL Y (U _ _ (.mapIter a b c hm) w w' _ O (B.imp id λx=>x _))|loop hl=>exact jL Y (U _ _ (.loop hl) w w' _ O (B.imp id λx=>x _))|fe=>exact jL Y (U _ _ .fe w w' _ O (B.imp id λx=>x _))|deferred hd=>exact jL Y (U _ _ (.deferred hd) w w' _ O (B.imp id λx=>x _))
 |@setObj m r r' o o' k k' hb ho hc _ U=>
  intro w w' es O B;obtain⟨x,x',h1,h2,hx⟩:=O.obj _ _ hb;have ar:o'.isChan=false:=by cases ho<;>rfl
  rcases Classical.em (m.loose r)with W|W
  .obtain⟨c,e,f,hy⟩:=O.lk _ _ hb W;simp only[cL,hy];trivial
  have ae:=O.turn hb ho (λc e f c' e' f' e1 _=>absurd e1 (hc c e f)) (λh=>absurd h W) (λc e f c' e' f' e1 _=>absurd e1 (hc c e f))
  have fin:iL RA (Al w w') m w' es (k'.runT P {w' with heap:=w'.heap.setIfInBounds r' o'} (es.push ⟨.obj r',true,o'.isChan⟩)) (k.run P {w with heap:=w.heap.setIfInBounds r o}):=by
   rw[ar];exact iL.ahead (es₁:=#[⟨.obj r',true,false⟩]) (al₁:=Al {w with heap:=w.heap.setIfInBounds r o} {w' with heap:=w'.heap.setIfInBounds r' o'}) (λh=>h) (.refl _) (fI.cell hb W _) (by simpa using⟨rfl,_,hb,W⟩) (by simpa using U _ _ _ ae B)
  simp only[cL,cN,h1,h2];cases hx<;>first|trivial|exact fin
 |choose _ U=>
  intro w w' es O B;rcases B with af|B
  simp only[cL,cN];split;exact U _ w w' es O (.inl af);have:=af 0;simp only[Nat.add_zero]at this;rw[this];refine iL.ahead (es₁:=#[]) (λh=>h.draw) (.refl _) ?_ (by simp) (by simpa using U _ {w with drawn:=w.drawn+1} _ _ (O.draw _ _) (.inl af.draw));exact⟨λ_ _ _=>rfl,eg _,λr' h h'=>absurd h' (by simpa using h),λ_ _ h=>.inl h,λ_ _ h=>.inl h,rfl,rfl,rfl,λ_=>rfl,rfl,λ_ _ _ _=>rfl⟩;exact B.elim
 |gone hd=>
  intro w w' es O B;obtain⟨_,c,e,f,hx⟩:=O.dead _ hd;simp only[cL,hx];trivial
 |env _ U=>
  intro w w' es O B;have e:∀x:World,x.sys .env=(.strings _,x):=λ_=>rfl;simp only[cL,cN,e,O.os];exact jL (e:=⟨.output,true,false⟩) trivial (U _ w w' _ O (B.imp id λx=>x _))
 |program _ U=>exact λw w' es O B=>U w w' es O (B.imp id λx=>x P)|@mark m x k k' hm _ U=>exact λw w' es O B=>jL (e:=⟨.mark x,false,true⟩) hm (U w w' _ O B)|panic hv=>
  intro w w' es O B;exact⟨_,_,w',#[],by simp[cN],.refl _,hv,O,id,.refl ..,by simp⟩
inductive lG(P:Program){α β:Type}(RA:Ren->α->β->Prop):Ren->Sem α->Sem β->Prop
 |base {m s s'}:dx P RA m s s'->lG P RA m s s'|bind {γ δ:Type} {RC:Ren->γ->δ->Prop} {m} {s:Sem γ} {s':Sem δ} {f:γ->Sem α} {f':δ->Sem β}:dx P RC m s s'->(∀m' a b,m.Le m'->RC m' a b->lG P RA m' (f a) (f' b))->lG P RA m (s.bind f) (s'.bind f')|U9 {m q k s'}:(∀n,gf (k n))->(∀n,dx P RA m (k n) s')->lG P RA m (.choose q k) s'
def UQ{α β:Type}(RA:Ren->α->β->Prop)(m:Ren)(w':World)(es:Array Event)(r:Result β×Array Event)(q:Result α):Prop:=iL RA False m w' es r q
def iL.Tt{RA:Ren->α->β->Prop}{m:Ren}{w':World}{r:Result β×Array Event}{q:Result α}(h:iL RA al m w' es r q):UQ RA m w' es r q:=
 iL.ahead (es₁:=#[]) (nofun) (.refl m) (.refl m w') (by simp) (by simpa using h)
def lG.run{RA:Ren->α->β->Prop}{m:Ren}{s:Sem α}{s':Sem β}(h:lG P RA m s s') :
  ∀(w w':World)(es:Array Event),WR m w w'->Al w w'->UQ RA m w' es (s'.runT P w' es) (s.run P w):=by
 induction h with
 |base h=>exact λw w' es U O=>(h.run w w' es U (.inl O)).Tt|@bind γ δ RC m s s' f f' h _ ih=>
  intro w w' es U O;have W:=h.run w w' es U (.inl O);rw[cO,Sem.runT_bind']
  cases hr:s.run P w with
  |ok a w₁=>
   rw[hr]at W;obtain⟨dz,b,B,es₁,e1,Y,e3,e4,e5,e6,e7⟩:=W;rw[e1];exact iL.ahead (es₁:=es₁) (nofun) Y e6 e7 (ih dz a b Y e3 w₁ B _ e4 (e5 O))
  |halt x w₁=>
   rw[hr]at W
   cases x with
   |panic v=>
    obtain⟨dz,b,B,es₁,e1,Y,e3,e4,e5,e6,e7⟩:=W;rw[e1];exact⟨dz,b,B,es₁,rfl,Y,e3,e4,nofun,e6,e7⟩
   |_=>exact W
 |U9 hd h=>
  intro w w' es U O;simp only[cL];split;exact((h _).run w w' es U (.inl O)).Tt;exact((h _).run _ w' es (U.draw ..) (.inr (hd _))).Tt
variable {a:Addr} {c c':Array Value} {γ δ:Type} {t:aN} {v v' x x':Value}
structure mJ(P:Program):Prop where
 zero:∀t i v,P.info? t=some i->i.zero=some v->∀m,VR m v v
 VT:∀t i,P.info? t=some i->i.methods.find? (·.name == "")=none
def xV{α:Type}:Ren->α->α->Prop:=λ_ a b=>a=b
def yR{α β:Type}:Ren->α->β->Prop:=λ_ _ _=>True
section
variable {P:Program} {m:Ren}
def dF{RA:Ren->α->β->Prop}{RB:Ren->γ->δ->Prop}{s:Sem α}{s':Sem β}{f:α->Sem γ}{f':β->Sem δ}
  (h:dx P RA m s s') (B:∀m' a b,m.Le m'->RA m' a b->dx P RB m' (f a) (f' b)):dx P RB m (s >>= f) (s' >>= f'):=dx.bind h B
def dJ{RA:Ren->α->β->Prop}{c:Prop}[Decidable c]{s t:Sem α}{s' t':Sem β}(h:c->dx P RA m s s')(h':¬c->dx P RA m t t') :
  dx P RA m (if c then s else t) (if c then s' else t'):=by
 split;exact h ‹_›;exact h' ‹_›
def gZ{RB:Ren->γ->δ->Prop}{f:Program->Sem γ}{f':Program->Sem δ}(h:dx P RB m (f P) (f' P)):dx P RB m (program >>= f) (program >>= f'):=.program h
def dB{RB:Ren->γ->δ->Prop}{f:TypeDesc->Sem γ}{f':TypeDesc->Sem δ}(h:∀d,P.underlying t=some d->dx P RB m (f d) (f' d)) :
  dx P RB m (aT t >>= f) (aT t >>= f'):=by
 refine .program ?_;show dx P RB m ((match P.underlying t with|some d=>pure d|none=>stuck _) >>= f) ((match P.underlying t with|some d=>pure d|none=>stuck _) >>= f')
 cases B:P.underlying t with
 |none=>exact .dA trivial|some d=>exact h d B
def dS{RB:Ren->γ->δ->Prop}{f:TypeInfo->Sem γ}{f':TypeInfo->Sem δ}(h:∀d,P.info? t=some d->dx P RB m (f d) (f' d)) :
  dx P RB m (bq t >>= f) (bq t >>= f'):=by
 refine .program ?_;show dx P RB m ((match P.info? t with|some d=>pure d|none=>stuck _) >>= f) ((match P.info? t with|some d=>pure d|none=>stuck _) >>= f')
 cases B:P.info? t with
 |none=>exact .dA trivial|some d=>exact h d B
def eM{RB:Ren->γ->δ->Prop}{f:Nat->Sem γ}{f':Nat->Sem δ}(h:∀n,dx P RB m (f n) (f' n)):dx P RB m (bf t >>= f) (bf t >>= f'):=by
 refine .program ?_;show dx P RB m (((match P.info? t with|some d=>pure d|none=>stuck _) >>= λi=>pure _) >>= f) (((match P.info? t with|some d=>pure d|none=>stuck _) >>= λi=>pure _) >>= f')
 cases B:P.info? t with
 |none=>exact .dA trivial|some d=>exact h _
def fQ(B:mJ P){RB:Ren->γ->δ->Prop}{f:Value->Sem γ}{f':Value->Sem δ}(h:∀v,VR m v v->dx P RB m (f v) (f' v)) :
  dx P RB m (aQ t >>= f) (aQ t >>= f'):=by
 refine .program ?_;show dx P RB m (((match P.info? t with|some d=>pure d|none=>stuck _) >>= λi=>match i.zero with|some v=>pure v|none=>unsupported _) >>= f) (((match P.info? t with|some d=>pure d|none=>stuck _) >>= λi=>match i.zero with|some v=>pure v|none=>unsupported _) >>= f')
 cases O:P.info? t with
 |none=>exact .dA trivial|some d=>
  show dx P RB m ((match d.zero with|some v=>pure v|none=>unsupported _) >>= f) ((match d.zero with|some v=>pure v|none=>unsupported _) >>= f')
  cases U:d.zero with
  |none=>exact .dA trivial|some v=>exact h v (B.zero t d v O U m)
def Ht{RB:Ren->γ->δ->Prop}{f:Bool->Sem γ}{f':Bool->Sem δ}(h:∀b,dx P RB m (f b) (f' b)):dx P RB m (isAgg t >>= f) (isAgg t >>= f'):=by
 refine .program ?_;show dx P RB m (((match P.underlying t with|some d=>pure d|none=>stuck _) >>= λx=>match x with|.struct _|.array .. => pure true|_=>pure false) >>= f) (((match P.underlying t with|some d=>pure d|none=>stuck _) >>= λx=>match x with|.struct _|.array .. => pure true|_=>pure false) >>= f')
 cases B:P.underlying t with
 |none=>exact .dA trivial|some d=>cases d<;>exact h _
def DW{RB:Ren->γ->δ->Prop}{f:Value->Sem γ}{f':Value->Sem δ}(B:AR m a a')(h:∀v v',VR m v v'->dx P RB m (f v) (f' v')) :
  dx P RB m (load a >>= f) (load a' >>= f'):=.load B h
def O6{RB:Ren->γ->δ->Prop}{f:Unit->Sem γ}{f':Unit->Sem δ}(B:AR m a a')(O:VR m v v')(h:dx P RB m (f ()) (f' ())) :
  dx P RB m (store a v >>= f) (store a' v' >>= f'):=.store B O h
def fS{RB:Ren->γ->δ->Prop}{f:Obj->Sem γ}{f':Obj->Sem δ}(hb:m.blk r=some r')(h:∀o o',OR m o o'->dx P RB m (f o) (f' o')) :
  dx P RB m (getObj r >>= f) (getObj r' >>= f'):=.getObj hb h
def jR{RB:Ren->γ->δ->Prop}{f:Unit->Sem γ}{f':Unit->Sem δ}(hb:m.blk r=some r')(B:OR m o o')(O:∀c e f,o≠.cells c e f)(h:dx P RB m (f ()) (f' ())) :
  dx P RB m (setObj r o >>= f) (setObj r' o' >>= f'):=.setObj hb B O h
def ql(hb:m.blk r=some r')(B:OR m o o')(O:∀c e f,o≠.cells c e f):dx P yR m (setObj r o) (setObj r' o'):=.setObj hb B O (.pure trivial)
def gJ{RB:Ren->γ->δ->Prop}{q:Question}{f:Nat->Sem γ}{f':Nat->Sem δ}(h:∀n,dx P RB m (f n) (f' n)):dx P RB m (choose q >>= f) (choose q >>= f'):=.choose h
def jO{RB:Ren->γ->δ->Prop}{f:Option (aN×Nat)->Sem γ}{f':Option (aN×Nat)->Sem δ}(hb:m.blk r=some r')(h:∀x,dx P RB m (f x) (f' x)) :
  dx P RB m (shape r >>= f) (shape r' >>= f'):=.shape hb h
def nw{RB:Ren->γ->δ->Prop}{f:Bool->Sem γ}{f':Bool->Sem δ}(B:AR m a a')(O:¬m.loose a.block)(h:∀x,dx P RB m (f x) (f' x)) :
  dx P RB m (frozen a >>= f) (frozen a' >>= f'):=.frozen B O h
def Te:RuntimeError->Prop
 |.bounds ..|.error _|.plain _|.nilDeref=>True|_=>False
def fC{RA:Ren->α->β->Prop}{e:RuntimeError}(h:Te e):dx P RA m (aW e) (aW e):=by
 refine .program ?_;cases e<;>first|exact h.elim|skip
 .exact .panic (.iface _ (.MO (.refl λv B=>by
   simp at B
   rcases B with rfl|rfl|rfl|rfl<;>constructor)))
 all_goals exact .panic (.iface _ (.string _))
def dV{RB:Ren->γ->δ->Prop}{e:RuntimeError}{f:α->Sem γ}{f':β->Sem δ}(h:Te e):dx P RB m (aW e >>= f) (aW e >>= f'):=
 dF (RA:=λ_ _ _=>False) (fC h) nofun
def pL{RA:Ren->α->β->Prop}{k:IntKind}{x y:Int}{c:BoundsCode}:dx P RA m (aV k x y c) (aV k x y c):=by
 refine dJ (λ_=>?_) (λ_=>?_);exact dx.choose λn=>fC (e:=.bounds _ y _ c) trivial;exact fC (e:=.bounds _ y _ c) trivial
def yK{RB:Ren->γ->δ->Prop}{f:IntKind×Int->Sem γ}{f':IntKind×Int->Sem δ}(B:VR m x x')(h:∀k n,x=.int k n->dx P RB m (f (k,n)) (f' (k,n))) :
  dx P RB m (asIntOf x >>= f) (asIntOf x' >>= f'):=by
 cases B<;>first|exact h _ _ rfl|exact .dA trivial
def jI{RB:Ren->γ->δ->Prop}{f:Int->Sem γ}{f':Int->Sem δ}(B:VR m x x')(h:∀n,dx P RB m (f n) (f' n)) :
  dx P RB m (asInt x >>= f) (asInt x' >>= f'):=by
 cases B<;>first|exact h _|exact .dA trivial
def My{RB:Ren->γ->δ->Prop}{f:Bool->Sem γ}{f':Bool->Sem δ}(B:VR m x x')(h:∀b,dx P RB m (f b) (f' b)) :
  dx P RB m (asBool x >>= f) (asBool x' >>= f'):=by
 cases B<;>first|exact h _|exact .dA trivial
def PR{RB:Ren->γ->δ->Prop}{f f':Array Value->_}(B:VR m x x')(h:∀c c',eD m c c'->dx P RB m (f c:Sem γ) (f' c':Sem δ)) :
  dx P RB m (asAgg x >>= f) (asAgg x' >>= f'):=by
 cases B<;>first|exact h _ _ (.il ‹_› ‹_›)|exact .dA trivial
def CU{RB:Ren->γ->δ->Prop}{f:Addr->Sem γ}{f':Addr->Sem δ}(B:VR m x x')(h:∀a a',AR m a a'->dx P RB m (f a) (f' a')) :
  dx P RB m (asAddr x >>= f) (asAddr x' >>= f'):=by
 cases B<;>first|exact h _ _ ‹_›|exact .dA trivial|exact dV (e:=.nilDeref) trivial
def mG{RB:Ren->γ->δ->Prop}{f:Addr->Sem γ}{f':Addr->Sem δ}(B:VR m x x')(h:∀a a',AR m a a'->dx P RB m (f a) (f' a')) :
  dx P RB m (bZ x >>= f) (bZ x' >>= f'):=by
 cases B<;>first|exact h _ _ ‹_›|exact .dA trivial
def qX(O:AR m a a'):∀(n i:Nat)(acc B:Array Value),eD m acc B->dx P eD m (bd a i n acc) (bd a' i n B)
 |0,_,_,_,h=>.pure h|n+1,i,_,_,h=>DW (O.add i) λv v' U=>qX O n _ _ _ (h.push U)
def wR(B:AR m a a')(n:Nat):dx P eD m (bi a n) (bi a' n):=qX B n 0 _ _ (.nil m)
def lT(B:AR m a a'):∀{vs vs':List Value}(i:Nat),dT (VR m) vs vs'->dx P yR m (be a vs i) (be a' vs' i)
 |_,_,_,.nil=>by unfold be;exact .pure trivial
 |_,_,i,.cons O h=>O6 (B.add i) O (lT B _ h)
def Ch(B:AR m a a'):dx P VR m (loadVar t a) (loadVar t a'):=by
 refine Ht λb=>dJ (λ_=>?_) (λ_=>.load B λ_ _ O=>.pure O);refine eM λn=>dF (wR B n) λm' c c' _ U=>.pure (.MO U)
def Kj(O:AR m a a')(B:VR m v v'):dx P yR m (storeVar t a v) (storeVar t a' v'):=by
 refine eM λn=>?_;rw[<-B.cells.size];split;exact .dA trivial;exact lT O 0 B.cells
def Iy(m:Ren)(a a':Addr):Prop:=AR m a a'/\¬m.loose a.block
def qc{e:aN}(h:eD m c c'):dx P Iy m (ba e c) (ba e c'):=by
 refine .new (.cells e _ _ h) (λx y z B=>by cases B;exact⟨_,rfl⟩) λm' r r' U hb O=>.pure ⟨.mk hb,O⟩
def zo{e:aN}(h:VR m v v'):dx P Iy m (newVar e v) (newVar e v'):=qc h.cells
def mM(h:eD m c c')(off:Nat):dx P VR m (part t c off) (part t c' off):=by
 refine Ht λb=>dJ (λ_=>?_) (λ_=>?_);exact eM λn=>.pure (.MO (h.extract ..))
 cases O:c[off]? with
 |none=>exact .dA trivial|some v=>obtain⟨v',B,U⟩:=h.get O;rw[B];exact .pure U
end
end
section
variable {a':Addr} {ps ps':Array (Nat×Value)} {c:BoundsCode} {n:Nat} {h h' l l' x x':Option Value} {α β γ δ:Type} {t:aN} {i i' v v':Value}
section
variable {P:Program} {m:Ren}
def Rw(B:mJ P){e:aN}:dx P VR m (c0 e true (.tuple #[])) (c0 e true (.tuple #[])):=by
 exact fQ B λv O=>dF (zo O) λm' a a' _ h=>.pure (.ptr h.1)
def Uu{e:aN}(B:VR m v v'):dx P VR m (c3 e v) (c3 e v'):=dF (zo B) λm' a a' _ h=>.pure (.ptr h.1)
def CG(off:Nat):∀{l l':List Value}(n:Nat){c c':Array Value},dT (VR m) l l'->eD m c c'->
  eD m ((l.zipIdx n).foldl (λcs (x:Value×Nat)=>cs.setIfInBounds (off+x.2) x.1) c) ((l'.zipIdx n).foldl (λcs (x:Value×Nat)=>cs.setIfInBounds (off+x.2) x.1) c')
 |_,_,_,_,_,.nil,h=>by simpa using h
 |_,_,n,_,_,.cons B O,h=>by
  simp only[List.zipIdx_cons,List.foldl_cons];exact CG off _ O (h.set _ B)
def KF(m:Ren)(x y:Nat×Value):Prop:=x.1=y.1/\VR m x.2 y.2
def De(place:Nat->Option (Nat×Nat)):∀{ps ps':List (Nat×Value)}{c c' r:Array Value},dT (KF m) ps ps'->eD m c c'->bC place c ps=some r->∃r',bC place c' ps'=some r'/\eD m r r'
 |_,_,c,c',r,.nil,h,e=>by
  simp only[bC,gg]at e⊢
  exact⟨c',rfl,e▸h⟩
 |_,_,c,c',r,.cons (a:=(i,v)) (b:=(i',v')) B hl,h,e=>by
  obtain⟨hi,B⟩:=B
  subst hi;simp only[bC]at e⊢
  cases O:place i with
  |none=>rw[O]at e;cases e
  |some x=>
   obtain⟨off,size⟩:=x;rw[O]at e;simp only at e⊢;have U:=B.cells.size;rw[<-U,<-h.size];split at e
   cases e;rename_i W;rw[if_neg W];refine De place hl ?_ e;have:=CG off 0 B.cells h;rw[<-a7,<-a7,aE,aE];exact this
def xZ{z:Array Value}(h:eD m z z)(n:Nat):eD m ((a3 n).map (z[· % z.size]!)) ((a3 n).map (z[· % z.size]!)):=by
 refine .refl λv B=>?_;simp only[a4,ge]at B;obtain⟨i,_,rfl⟩:=B;by_cases hi:i % z.size<z.size;rw[getElem!_pos z _ hi];exact h.idx _ hi hi;rw[getElem!_neg z _ hi];exact .bool _
def BU{Q:Ren->β->β->Prop}(hm:∀m m' a b,m.Le m'->Q m a b->Q m' a b)(g:α->Sem β)(B:∀m x,dx P Q m (g x) (g x)):∀(l:List α)(m:Ren),dx P (λm=>dT (Q m)) m (l.mapM g) (l.mapM g)
 |[],m=>.pure .nil|x::l,m=>by
  simp only[gc];exact dF (B m x) λm' a b _ h=>dF (BU hm g B l m') λO c d U W=>.pure (.cons (hm _ _ _ _ U h) W)
def dT.eq:∀{l l':List α},dT (λa b=>a=b) l l'->l=l'
 |_,_,.nil=>rfl|_,_,.cons rfl h=>by rw[dT.eq h]
def JD{B:Array Field}:dx P xV m (B.mapM (λx=>do pure (x.offset,<-bf x.type))) (B.mapM (λx=>do pure (x.offset,<-bf x.type))):=by
 rw[a0];refine dF (BU (Q:=xV) (λ_ _ _ _ _ h=>h) _ (λm x=>eM λn=>.pure rfl) _ m) λm' a b _ h=>.pure ?_;exact congrArg _ (dT.eq h)
def RY(hP:mJ P)(h:dT (KF m) ps.toList ps'.toList):dx P VR m (cz t ps) (cz t ps'):=by
 refine fQ hP λz hz=>dB λd hd=>?_
 have hf:∀m',m.Le m'->∀place,dx P VR m' (match bC place z.cells ps.toList with|some cells=>pure (.agg cells)|_=>stuck "build: a part of the wrong size") (match bC place z.cells ps'.toList with|some cells=>pure (.agg cells)|_=>stuck "build: a part of the wrong size"):=by
  intro m' B place
  cases W:bC place .. with
  |none=>exact .dA trivial|some r=>
   obtain⟨r',O,U⟩:=De place (h.mono λ_ _ x=>⟨x.1,x.2.mono B⟩) (hz.cells.mono B) W;rw[O];exact .pure (.MO U)
 have Y:∀m',m.Le m'->∀place,dx P VR m' (match bC place z.cells ps.toList with|some cells=>pure (.agg cells)|_=>stuck "build: no such field, or a part of the wrong size") (match bC place z.cells ps'.toList with|some cells=>pure (.agg cells)|_=>stuck "build: no such field, or a part of the wrong size"):=by
  intro m' B place
  cases W:bC place .. with
  |none=>exact .dA trivial|some r=>
   obtain⟨r',O,U⟩:=De place (h.mono λ_ _ x=>⟨x.1,x.2.mono B⟩) (hz.cells.mono B) W;rw[O];exact .pure (.MO U)
 cases d<;>first|exact .dA trivial|skip
 exact eM λn=>hf m (.refl m) _;refine dF JD λm' a b B aa=>?_;cases aa;exact Y m' B _
def Es(W:mJ P)(h:dT (KF m) ps.toList ps'.toList):dx P VR m (bV t n ps) (bV t n ps'):=by
 refine dB λd hd=>?_;cases d<;>first|exact .dA trivial|skip
 rename_i elem;dsimp only;refine eM λsize=>?_;split
 .exact .dA trivial
 have fin:∀z,eD m z z->dx P VR m
   (match bC (λi=>some (i*size,size)) ((a3 (n*size)).map (z[· % z.size]!)) ps.toList with|some cells=>(do pure (.slice (some (<-ba elem cells)) n n))|_=>stuck "buildSlice: a part of the wrong size")
   (match bC (λi=>some (i*size,size)) ((a3 (n*size)).map (z[· % z.size]!)) ps'.toList with|some cells=>(do pure (.slice (some (<-ba elem cells)) n n))|_=>stuck "buildSlice: a part of the wrong size"):=by
  intro z B
  cases Y:bC .. with
  |none=>exact .dA trivial|some r=>
   obtain⟨r',O,U⟩:=De _ h (xZ B _) Y;rw[O];exact dF (qc U) λm' a a' _ ha=>.pure (.slice _ _ ha.1)
 split;exact fin _ (.nil m);exact fQ W λz B=>fin _ B.cells
def PP{a a':Value}(h:VR m a a'):dx P VR m (cq t a) (cq t a'):=mG h λ_ _ B=>Ch B
def NJ{a a':Value}(h:VR m a a')(B:VR m v v'):dx P yR m (cg t a v) (cg t a' v'):=mG h λ_ _ O=>Kj O B
def rU{RB:Ren->γ->δ->Prop}{a:Addr}{f:Unit->Sem γ}{f':Unit->Sem δ}(B:AR m a a')(h:dx P RB m (f ()) (f' ())):dx P RB m (noView a >>= f) (noView a' >>= f'):=by
 refine dx.shape B.blk λx=>?_
 cases x with
 |some y=>exact h|none=>
  refine dx.getObj B.blk λo o' O=>?_;cases O<;>exact h
def nL{a:Addr}(B:AR m a a'):dx P xV m (b9 a) (b9 a'):=by
 unfold b9;rw[B.spot,B.off]
 cases O:a.spot with
 |some s=>exact .pure rfl|none=>
  refine gZ (rU B (jO B.blk λx=>?_))
  cases x with
  |none=>exact .dA trivial|some y=>
   refine dJ (λ_=>.pure rfl) (λ_=>?_);split;exact .pure rfl;exact .dA trivial
def Pt{a:Addr}(U:AR m a a')(c b:Nat):dx P AR m (partAt a c b) (partAt a' c b):=by
 cases U with
 |mk hb=>
 refine dF (nL (.mk hb)) λm' x y O h=>?_;cases h;refine dF (nL (.mk (O.blk _ _ hb))) λW x' y' B h=>?_;cases h;refine .pure ?_;split<;>exact .mk (B.blk _ _ (O.blk _ _ hb))
def Ew{a:Addr}(B:AR m a a')(f:Field):dx P AR m (b7 a f) (b7 a' f):=by
 exact eM λn=>dJ (λ_=>Pt B ..) (λ_=>.pure (B.add _))
def Mw{s:aN}{x x':Value}(h:VR m x x')(f:Nat):dx P VR m (cl s x f) (cl s x' f):=by
 refine dB λd W=>?_;cases d<;>first|exact .dA trivial|skip
 rename_i B;dsimp only
 cases B[f]? with
 |none=>exact .dA trivial|some O=>exact mG h λa a' U=>dF (Ew U O) λm' b b' _ hb=>.pure (.ptr hb)
def Na{x x':Value}(h:VR m x x')(hi:VR m i i'):dx P VR m (ck t x i) (ck t x' i'):=by
 refine yK hi λk n _=>dB λd U=>?_
 have fin:∀(len:Nat)(elem:aN)(B:Bool){a a':Addr},AR m a a'->dx P VR m
   (if 0<=n/\n<len then(do pure (.pointer (some (a.add (n.toNat*(<-bf elem))))))else if B=true then unsupported (.noEntry "op/indexAddr.an index out of range at an array of length 0 or 1 (ledger 616)")else aV k n len .index)
   (if 0<=n/\n<len then(do pure (.pointer (some (a'.add (n.toNat*(<-bf elem))))))else if B=true then unsupported (.noEntry "op/indexAddr.an index out of range at an array of length 0 or 1 (ledger 616)")else aV k n len .index):=by
  intro len elem B a a' O;exact dJ (λ_=>eM λs=>.pure (.ptr (O.add _))) (λ_=>dJ (λ_=>.dA trivial) (λ_=>pL))
 cases d<;>first|exact .dA trivial|skip
 cases h with
 |fE l c=>exact dB λd2 _=>pL|slice l c O=>exact dB λd2 _=>fin l _ _ O|_=>exact .dA trivial
 exact mG h λa a' O=>dB λd2 _=>fin _ _ _ O
def Ae{RB:Ren->γ->δ->Prop}{k:IntKind}{x y:Int}{f:α->Sem γ}{f':β->Sem δ}:dx P RB m (aV k x y c >>= f) (aV k x y c >>= f'):=
 dF (RA:=λ_ _ _=>False) pL nofun
def Bn{RB:Ren->γ->δ->Prop}(h:VR m v v'){y:Nat}{f:Nat->Sem γ}{f':Nat->Sem δ}(B:∀n,dx P RB m (f n) (f' n)) :
  dx P RB m (bN v y c >>= f) (bN v' y c >>= f'):=by
 cases h with
 |int k n=>
  have e:bN (.int k n) y c=if 0<=n/\n<=y then pure _ else aV k n y c:=rfl
  rw[e];split;exact B _;exact Ae
 |_=>exact .dA trivial
inductive lX{α β:Type}(R:α->β->Prop):Option α->Option β->Prop
 |none:lX R none none|some {a b}:R a b->lX R (some a) (some b)
def lX.mono{R S:α->β->Prop}(h:∀a b,R a b->S a b){o:Option α}{o':Option β}(x:lX R o o'):lX S o o':=by
 cases x with
 |none=>exact .none|some B=>exact .some (h _ _ B)
def jC{RB:Ren->γ->δ->Prop}{b:Bool}{len cap:Nat}(B:lX (VR m) l l')(O:lX (VR m) h h')(U:lX (VR m) x x'){f:Nat×Nat×Nat->Sem γ}{f':Nat×Nat×Nat->Sem δ}(W:∀n,dx P RB m (f n) (f' n)) :
  dx P RB m (bM b len cap l h x >>= f) (bM b len cap l' h' x' >>= f'):=by
 unfold bM
 cases U<;>cases O<;>cases B<;>simp only[bind_assoc,pure_bind] <;>
  repeat first|exact W _|exact .dA trivial|refine Bn (by assumption) λ_=>?_
def Se(Y:VR m v v')(O:lX (VR m) l l')(U:lX (VR m) h h')(W:lX (VR m) x x'):dx P VR m (cr t v l h x) (cr t v' l' h' x'):=by
 refine dB λd hd=>?_;cases d<;>first|exact .dA trivial|skip
 cases Y<;>first|exact .dA trivial|skip
 have ex:x.isSome=x'.isSome:=by cases W<;>rfl
 dsimp only;rw[ex];split;exact .dA trivial;exact jC O U .none λn=>.pure (.string _)
 exact CU Y λa a' B=>dB λd2 _=>by
  cases d2<;>first|exact .dA trivial|skip
  refine jC O U W λn=>eM λs=>.pure ?_;split;exact .slice _ _ B;exact .slice _ _ (B.add _)
 cases Y<;>first|exact .dA trivial|skip
 refine jC O U W λn=>eM λs=>.pure ?_;split<;>exact .fE ..
 rename_i B;refine jC O U W λn=>eM λs=>.pure ?_;split;exact .slice _ _ B;exact .slice _ _ (B.add _)
def NA(B:VR m v v')(O:lX (VR m) l l')(U:lX (VR m) h h')(W:lX (VR m) x x'):dx P VR m (ci t v l h x) (ci t v' l' h' x'):=by
 refine dB λd hd=>?_;cases d<;>first|exact Se B O U W|skip
 refine mG B λa a' Y=>jC O U W λn=>eM λs=>.pure ?_;split;exact .slice _ _ Y;exact .slice _ _ (Y.add _)
def RQ(B:VR m v v')(f:Nat):dx P VR m (cx t v f) (cx t v' f):=by
 refine dB λd W=>?_;cases d<;>first|exact .dA trivial|skip
 rename_i O;dsimp only
 cases O[f]? with
 |none=>exact .dA trivial|some Y=>exact PR B λc c' U=>mM U _
def Sj(B:VR m v v')(hi:VR m i i'):dx P VR m (cw t v i) (cw t v' i'):=by
 refine yK hi λk n _=>dB λd W=>?_;cases d<;>first|exact .dA trivial|skip
 cases B<;>first|exact .dA trivial|skip
 dsimp only;split;exact .pure (.int ..);exact pL
 cases B<;>first|exact .dA trivial|skip
 rename_i O U;exact dJ (λ_=>eM λs=>mM (.il O U) _) (λ_=>pL)
def Ma(B:VR m v v')(i:Nat):dx P VR m (bP v i) (bP v' i):=by
 cases B<;>first|exact .dA trivial|skip
 rename_i O U;unfold bP;dsimp only
 cases W:(_:Array Value)[i]? with
 |none=>exact .dA trivial|some u=>obtain⟨u',Y,hr⟩:=(eD.il O U).get W;rw[Y];exact .pure hr
def xR(B:VR m v v'):dx P VR m (bR t v) (bR t v'):=by
 refine dB λd O=>?_;cases d<;>first|exact .dA trivial|exact .pure (.iface _ B)
def MU{r r':Option Value}(h:lX (VR m) r r'):dx P VR m (cj t r) (cj t r'):=by
 have fin:dx P VR m .. :=
  dx.new (.map 0 .nil) (nofun) λm' i i' O hb _=>.pure (.map hb)
 cases h with
 |none=>exact fin|some B=>
  refine dB λd U=>?_;cases d<;>first|exact .dA trivial|exact jI B λn=>fin
def kP{RB:Ren->γ->δ->Prop}{f:Unit->Sem γ}{f':Unit->Sem δ}(h:dx P RB m (f ()) (f' ())):dx P RB m (bp n >>= f) (bp n >>= f'):=by
 unfold bp;split;exact dx.mark trivial h;exact h
def G7(O:mJ P){l l' c c':Value}(U:VR m l l')(W:VR m c c'):dx P VR m (bX t l c) (bX t l' c'):=by
 refine dB λd hd=>?_;cases d<;>first|exact .dA trivial|skip
 rename_i elem;refine jI U λln=>jI W λcn=>dS λti _=>?_
 have fin:∀{a b:Nat}{x y:Nat},dx P VR m
   (do bp a;let n <-bf elem;if b*n=0 then(do let zero <-pure #[];let r <-ba elem (aC (λx=>zero[x % zero.size]!) (a3 (b*n)));pure (Value.slice (some r) x y))else(do let z <-aQ elem;let zero <-pure z.cells;let r <-ba elem (aC (λx=>zero[x % zero.size]!) (a3 (b*n)));pure (Value.slice (some r) x y)))
   (do bp a;let n <-bf elem;if b*n=0 then(do let zero <-pure #[];let r <-ba elem (aC (λx=>zero[x % zero.size]!) (a3 (b*n)));pure (Value.slice (some r) x y))else(do let z <-aQ elem;let zero <-pure z.cells;let r <-ba elem (aC (λx=>zero[x % zero.size]!) (a3 (b*n)));pure (Value.slice (some r) x y))):=by
  refine kP (eM λn=>dJ (λ_=>?_) (λ_=>fQ O λz Y=>?_));exact dF (RA:=Iy) (qc (xZ (z:=#[]) (.nil m) _)) λm' r r' _ B=>dx.pure (VR.slice _ _ B.1);exact dF (RA:=Iy) (qc (xZ Y.cells _)) λm' r r' _ B=>dx.pure (VR.slice _ _ B.1)
 refine dJ (λ_=>dJ (λ_=>?_) (λ_=>dJ (λ_=>?_) (λ_=>gJ λn=>?_))) (λ_=>fin)
 all_goals exact dV (e:=.error _) trivial
def JM{f:aX}(B:m.fF f){a a' b b':Array Value}(O:eD m a a')(hb:eD m b b'):dx P VR m (ce (.func f) a b) (ce (.func f) a' b'):=.pure (.Ly (.func f B) O hb)
def Jz(hm:m.iq){s s':Value}(B:VR m s s'):dx P VR m (cf t s) (cf t s'):=by
 refine jI B λn=>dB λd O=>?_;cases d<;>first|exact .dA trivial|skip
 refine dS λU _=>dJ (λ_=>dV (e:=.plain _) trivial) (λ_=>?_);exact dx.qn hm λm' i i' _ hb=>.pure (.chan hb)
def Sq(O:VR m v v'):dx P VR m (cu t v) (cu t v'):=by
 refine dB λd W=>?_
 have fin:∀{o o':Obj},OR m o o'->(∀e c f,o≠.cells e c f)->dx P VR m (do pure (.pointer (some ⟨<-bt o,0,none⟩))) (do pure (.pointer (some ⟨<-bt o',0,none⟩))):=by
  intro o o' B U;exact dx.new B (λe c f h=>absurd h (U e c f)) λm' i i' _ hb _=>.pure (.ptr (.mk hb))
 cases d<;>first|exact .dA trivial|skip
 cases O<;>first|exact .dA trivial|exact fin (.stringIter ..) (nofun)
 cases O<;>first|exact .dA trivial|skip
 exact fin (.gm ..) (nofun)
 rename_i hb;refine fS hb λo o' B=>?_;cases B<;>first|exact .dA trivial|exact fin (.mapIter _ _ _ hb) (nofun)
 exact .gone ‹_›
def Gx{RB:Ren->γ->δ->Prop}{f:aN->Sem γ}{f':aN->Sem δ}(h:∀n,dx P RB m (f n) (f' n)):dx P RB m (b8 t >>= f) (b8 t >>= f'):=by
 unfold b8;simp only[bind_assoc];refine dB λd B=>?_;cases d<;>first|exact .dA trivial|exact h _
def I5{RA:Ren->α->β->Prop}:dx P RA m (aW .panicNil) (aW .panicNil):=by
 refine .program ?_;refine Gx λn=>dF (RA:=Iy) (zo (.MO (.nil m))) λm' r r' _ B=>.panic (.iface _ (.ptr B.1))
def Rc(B:VR m v v'):dx P VR m (cv v) (cv v'):=by
 cases B<;>first|exact .dA trivial|exact .panic (.iface _ ‹_›)|skip
 refine dx.env λr=>?_;cases r<;>first|exact .dA trivial|skip
 refine dx.program ?_;exact dJ (λ_=>.panic .nilIface) (λ_=>I5)
end
variable {a b b':Addr} {σ:Type}
def oh(P:Program):Nat->aN->Bool
 |0,_=>true|d+1,t=>match P.underlying t with
  |some (.pointer _)|some .unsafePointer|some (.interface _)=>false|some (.struct B)=>B.all λf=>oh P d f.type|some (.array _ e)=>oh P d e|_=>true
def gL(m:Ren):Prop:=∀r,¬m.loose r
def gL.mono{m m':Ren}(h:m.Le m')(x:gL m):gL m':=λr B=>x r (h.less r B)
section
variable {P:Program} {m:Ren}
def wQ{RB:Ren->γ->δ->Prop}(O:gL m)(B:AR m a a'){f:Bool->Sem γ}{f':Bool->Sem δ}(h:∀b,dx P RB m (f b) (f' b)):dx P RB m (stringish a >>= f) (stringish a' >>= f'):=by
 refine nw B (O _) λx=>?_;cases x;refine jO B.blk λy=>?_
 cases y with
 |none=>exact h _|some z=>exact nw (.mk B.blk) (O _) λb=>h b
 exact h _
def za{RB:Ren->γ->δ->Prop}(B:gL m)(O:AR m a a')(hb:AR m b b'){f:Bool->Sem γ}{f':Bool->Sem δ}(h:∀b,dx P RB m (f b) (f' b)):dx P RB m (bu a b >>= f) (bu a' b' >>= f'):=by
 unfold bu;simp only[bind_assoc];exact wQ B O λsa=>wQ B hb λU=>jO O.blk λx=>jO hb.blk λy=>h _
def AH(O:gL m)(B:AR m a a')(hb:AR m b b'):dx P xV m (bs a b) (bs a' b'):=by
 unfold bs;have U:(a.block==b.block)=(a'.block==b'.block):=by rw[dq];simp only[beq_iff_eq];exact B.sf hb
 have W:(a==b)=(a'==b'):=by rw[dq];simp only[beq_iff_eq];exact B.eq_iff hb
 rw[U,W];refine dJ (λ_=>.pure rfl) (λ_=>?_);refine nw B (O _) λx=>?_;exact nw hb (O _) λy=>dJ (λ_=>.dA trivial) (λ_=>rU B (rU hb (za O B hb λx=>dJ (λ_=>gJ λn=>.pure rfl) (λ_=>.pure rfl))))
def dZ{RB:Ren->γ->δ->Prop}(B:AR m a a'){f:Addr×Bool->Sem γ}{f':Addr×Bool->Sem δ}(h:∀p O l,AR m p O->dx P RB m (f (p,l)) (f' (O,l))) :
  dx P RB m (b1 a >>= f) (b1 a' >>= f'):=by
 refine jO B.blk λx=>?_
 cases x with
 |some y=>exact h _ _ _ B|none=>
  refine fS B.blk λo o' U=>?_
  cases U with
  |number l W=>exact h _ _ _ W|_=>exact h _ _ _ B
def qI{f f':α->σ->Sem (ForInStep σ)}:∀(l:List α)(s:σ)(m':Ren),m.Le m'->(∀m' a s,a∈l->m.Le m'->dx P xV m' (f a s) (f' a s))->dx P xV m' (forIn l s f) (forIn l s f')
 |[],s,m',_,_=>.pure rfl|a::l,s,m',W,h=>by
  simp only[ga];refine dF (h m' a s (by simp) W) λB x y O U=>?_;cases U
  cases x with
  |done b=>exact .pure rfl|yield b=>exact qI l b B (W.trans O) λY a s ha=>h Y a s (by simp[ha])
def pj{f f':α->σ->Sem (ForInStep σ)}(xs:Array α)(s:σ)(h:∀m' a s,a∈xs.toList->m.Le m'->dx P xV m' (f a s) (f' a s)):dx P xV m (forIn xs s f) (forIn xs s f'):=by
 rw[<-a6,<-a6];exact qI _ s m (.refl m) h
def pa{f f':Nat->σ->Sem (ForInStep σ)}(n:Nat)(s:σ)(h:∀m' a s,m.Le m'->dx P xV m' (f a s) (f' a s)):dx P xV m (forIn [:n] s f) (forIn [:n] s f'):=by
 rw[hB,hB];exact qI _ s m (.refl m) λB a s _=>h B a s
def N'{RB:Ren->γ->δ->Prop}{t:aN}{f:String->Sem γ}{f':String->Sem δ}(h:∀n,dx P RB m (f n) (f' n)):dx P RB m (bx t >>= f) (bx t >>= f'):=by
 unfold bx;simp only[bind_assoc];refine dS λB _=>?_;split;exact .dA trivial;exact h _
def UB(B:AR m a a')(hb:AR m b b'):(a==b)=(a'==b'):=by rw[dq];simp only[beq_iff_eq];exact B.eq_iff hb
def pI:∀(d:Nat)(m:Ren)(t:aN){x x' y y':Value},m.G=P.globals.size->VR m x x'->VR m y y'->gL m\/oh P d t=true->dx P xV m (cC d t x y) (cC d t x' y')
 |0,m,t,_,_,_,_,_,_,_,_=>.dA trivial
 |d+1,m,t,x,x',y,y',hG,W,O,B=>by
  unfold cC
  refine dB λde hd=>?_
  cases de with
  |bool=>cases W<;>first|exact .dA trivial|(cases O<;>first|exact .dA trivial|exact .pure rfl)
  |string=>cases W<;>first|exact .dA trivial|(cases O<;>first|exact .dA trivial|exact .pure rfl)
  |int k=>
   cases W with
   |int k n=>
    cases O with
    |int k' n'=>exact dJ (λ_=>.pure rfl) (λ_=>.dA trivial)
    |ptr ha=>
     cases n with
     |ofNat n=>cases n<;>first|exact .pure rfl|exact .dA trivial
     |negSucc n=>exact .dA trivial
    |_=>exact .dA trivial
   |ptr ha=>
    cases O with
    |int k' n'=>
     cases n' with
     |ofNat n=>cases n<;>first|exact .pure rfl|exact .dA trivial
     |negSucc n=>exact .dA trivial
    |ptr hb=>
     refine dZ ha λp p' l hp=>dZ hb λq q' l' hq=>gZ ?_
     have e1:(p.block==q.block)=(p'.block==q'.block):=by rw[dq];simp only[beq_iff_eq];exact hp.sf hq
     have e2:(p==q)=(p'==q'):=by rw[dq];simp only[beq_iff_eq];exact hp.eq_iff hq
     have e3:decide (p.block<P.globals.size)=decide (p'.block<P.globals.size):=by rw[<-hG];exact decide_eq_decide.2 (m.po _ _ hp.blk)
     rw[e1,e2,e3];refine dJ (λ_=>?_) (λ_=>dS λti _=>?_);refine dF (nL hp) λm' x y Y h=>?_;cases h;refine dF (nL (hq.mono Y)) λad x' y' Y h=>?_;cases h;exact .pure rfl;split;exact dJ (λ_=>.pure rfl) (λ_=>.dA trivial);exact .dA trivial
    |_=>exact .dA trivial
   |gR=>exact .dA trivial|_=>cases O<;>exact .dA trivial
  |pointer e=>
   cases W with
   |gR=>cases O<;>first|exact .dA trivial|exact .pure rfl
   |ptr ha=>
    cases O with
    |gR=>exact .pure rfl|ptr hb=>
     rcases B with B|B
     refine eM λn=>dJ (λ_=>AH B ha hb) (λ_=>?_);rw[UB ha hb];exact dJ (λ_=>.pure rfl) (λ_=>gJ λn=>.pure rfl);simp[oh,hd]at B
    |_=>exact .dA trivial
   |_=>exact .dA trivial
  |interface ms=>
   cases W with
   |nilIface=>cases O<;>first|exact .dA trivial|exact .pure rfl
   |iface tx ab=>
    cases O with
    |nilIface=>exact .pure rfl|iface ty ac=>
     rcases B with B|B
     refine dJ (λ_=>.pure rfl) (λae=>dS λti _=>dJ (λ_=>gZ (gZ ?_)) (λ_=>pI d m tx hG ab ac (.inl B)));dsimp only;exact dJ (λ_=>.dA trivial) (λ_=>N' λn=>fC (e:=.error _) trivial);simp[oh,hd]at B
    |_=>exact .dA trivial
   |_=>exact .dA trivial
  |struct fs=>
   cases W<;>first|exact .dA trivial|(cases O<;>first|exact .dA trivial|skip)
   rename_i h1 h2 c c' h3 h4
   have aa:∀f∈fs.toList,gL m\/oh P d f.type=true:=by
    intro f hf;rcases B with B|B
    exact .inl B;right;simp only[oh,hd,aB]at B;exact B f (by simpa using hf)
   refine gZ ?_;dsimp only;refine dJ (λ_=>.dA trivial) (λ_=>?_);refine dF (RA:=xV) (pj _ _ λm' f s hf Y=>dJ (λ_=>?_) (λ_=>.pure rfl)) λm' a b _ U=>?_;refine dF (mM ((eD.il h1 h2).mono Y) _) λm1 u u' l1 hu=>dF (mM ((eD.il h3 h4).mono (Y.trans l1)) _) λm2 v v' l2 hv=>?_;have l3:=(Y.trans l1).trans l2;refine dF (pI d m2 _ (by rw[l3.G,hG]) (hu.mono l2) hv ((aa f hf).imp (λx=>x.mono l3) id)) λm3 a b _ U=>?_;cases U;exact dJ (λ_=>.pure rfl) (λ_=>.pure rfl)
   cases U;obtain⟨o,_⟩:=a;cases o<;>exact .pure rfl
  |array n e=>
   cases W<;>first|exact .dA trivial|(cases O<;>first|exact .dA trivial|skip)
   rename_i h1 h2 c c' h3 h4
   have aa:gL m\/oh P d e=true:=by
    rcases B with B|B
    exact .inl B;right;simpa only[oh,hd]using B
   refine eM λsz=>?_;refine dF (RA:=xV) (pa _ _ λm' i s Y=>?_) λm' a b _ U=>?_;refine dF (mM ((eD.il h1 h2).mono Y) _) λm1 u u' l1 hu=>dF (mM ((eD.il h3 h4).mono (Y.trans l1)) _) λm2 v v' l2 hv=>?_;have l3:=(Y.trans l1).trans l2;refine dF (pI d m2 _ (by rw[l3.G,hG]) (hu.mono l2) hv (aa.imp (λx=>x.mono l3) id)) λm3 a b _ U=>?_;cases U;exact dJ (λ_=>.pure rfl) (λ_=>.pure rfl)
   cases U;obtain⟨o,_⟩:=a;cases o<;>exact .pure rfl
  |slice e=>cases W<;>first|exact .dA trivial|(cases O<;>first|exact .dA trivial|exact .pure rfl)
  |map k e=>cases W<;>first|exact .dA trivial|(cases O<;>first|exact .dA trivial|exact .pure rfl)
  |func a b c=>cases W<;>first|exact .dA trivial|(cases O<;>first|exact .dA trivial|exact .pure rfl)
  |unsafePointer=>
   rcases B with B|B
   cases W<;>first|exact .dA trivial|(cases O<;>first|exact .dA trivial|exact .pure rfl|exact AH B ‹_› ‹_›)
   simp[oh,hd]at B
  |chan a b=>
   cases W<;>first|exact .dA trivial|(cases O<;>first|exact .dA trivial|exact .pure rfl|skip)
   rename_i r r' h1 s s' h2;refine .pure ?_;show((some r==some s)=(some r'==some s'));rw[dq];simp only[beq_iff_eq,gg];constructor;intro e;subst e;rw[h1]at h2;cases h2;rfl;intro e;subst e;exact m.vF _ _ _ h1 h2
  |_=>cases W<;>exact .dA trivial
end
variable {d:TypeDesc} {a a' b b' k k' x x':Value}
def qT(P:Program):Nat->aN->Bool
 |0,_=>true|d+1,t=>match P.underlying t with
  |some (.interface _)=>false|some (.struct B)=>B.all λf=>qT P d f.type|some (.array _ e)=>qT P d e|_=>true
section
variable {P:Program} {m:Ren}
def nX(b:Bool):∀(n:Nat)(m:Ren)(t:aN){v v':Value},VR m v v'->qT P n t=true->dx P yR m (bI b n t v) (bI b n t v')
 |0,m,t,_,_,_,_=>.dA trivial|n+1,m,t,v,v',hv,B=>by
  refine dB λd O=>?_
  cases d with
  |interface ms=>simp[qT,O]at B|struct fs=>
   simp only[qT,O,aB]at B;cases hv<;>first|exact .dA trivial|skip
   rename_i U W;refine(dF (RA:=xV) (pj _ _ λm' f s hf Y=>dJ (λ_=>?_) (λ_=>.pure rfl)) λ_ _ _ _ _=>.pure trivial);refine dF (mM ((eD.il U W).mono Y) _) λm1 u u' l1 hu=>dF (nX b n m1 _ hu (B f (by simpa using hf))) λ_ _ _ _ _=>.pure rfl
  |array l e=>
   simp only[qT,O]at B;cases hv<;>first|exact .dA trivial|skip
   rename_i U W;refine(dF (RA:=xV) (pa _ _ λm' i s Y=>eM λsz=>?_) λ_ _ _ _ _=>.pure trivial);refine dF (mM ((eD.il U W).mono Y) _) λm1 u u' l1 hu=>dF (nX b n m1 _ hu B) λ_ _ _ _ _=>.pure rfl
  |_=>exact .pure trivial
def Ka(m:Ren):Option (Nat×Value)->Option (Nat×Value)->Prop:=lX λx y=>y.1=x.1/\VR m x.2 y.2
def uJ(U:∀m',m.Le m'->gL m'\/oh P c6 t=true)(W:m.G=P.globals.size)(Y:VR m k k'):∀{es es':List MapEntry}(i:Nat)(m':Ren),m.Le m'->dT (tX m) es es'->dx P Ka m' (bG t k es i) (bG t k' es' i)
 |_,_,_,m',_,.nil=>by unfold bG;exact .pure .none
 |_,_,i,m',B,.cons he h=>by
  refine dF (pI _ m' t (by rw[B.G,W]) (Y.mono B) (he.key.mono B) (U m' B)) λm2 a b l2 O=>?_;cases O;exact dJ (λ_=>.pure (.some ⟨rfl,he.val.mono (B.trans l2)⟩)) (λ_=>uJ U W Y _ m2 (B.trans l2) h)
def Ny(B:VR m k k')(O:VR m x x')(b:Bool)(h:bB d k x=some b):bB d k' x'=some b:=by
 cases d with
 |bool=>
  cases B with
  |bool c=>cases O with|bool e=>exact h|_=>cases h
  |_=>cases h
 |int j=>
  cases B with
  |int c n=>cases O with|int e U=>exact h|_=>cases h
  |_=>cases h
 |string=>
  cases B with
  |string c=>cases O with|string e=>exact h|_=>cases h
  |_=>cases h
 |_=>cases h
def Eu(W:P.underlying t=some d)(O:VR m k k')(U:VR m x x')(h:bB d k x=none){b:Bool}(h':bB d k' x'=some b):ep P (c5 t k x):=by
 have key:∀{γ:Type}(f:TypeDesc->Sem γ),ep P (f d)->ep P (aT t >>= f):=by
  intro γ f Y;show ep P ((match P.underlying t with|some d=>pure d|none=>stuck _) >>= f);rw[W];exact Y
 cases d with
 |bool=>
  cases O with
  |bool c=>cases U with
   |bool e=>cases h
   |fV v B=>exact key _ trivial|_=>cases h'
  |fV v B=>exact key _ trivial|_=>cases h'
 |int j=>
  cases O with
  |int c n=>cases U with
   |int e n'=>rw[show bB .. = some b from h']at h;cases h
   |fV v B=>exact key _ trivial|_=>cases h'
  |fV v B=>exact key _ (by cases x<;>trivial)|_=>cases h'
 |string=>
  cases O with
  |string c=>cases U with
   |string e=>cases h
   |fV v B=>exact key _ trivial|_=>cases h'
  |fV v B=>exact key _ trivial|_=>cases h'
 |_=>cases h'
def GG(B:P.underlying t=some d)(h:bB d k x=some false)(f:Bool->Sem γ)(O:ep P (f false)):ep P (c5 t k x >>= f):=by
 have key:∀(g:TypeDesc->Sem Bool),g d=pure false->ep P ((aT t >>= g) >>= f):=by
  intro g U;show ep P (((match P.underlying t with|some d=>pure d|none=>stuck _) >>= g) >>= f);rw[B];show ep P (g d >>= f);rw[U];exact O
 match d,k,x,h with
 |.bool,.bool a,.bool b,h=>exact key _ (by simp only[bB,gg]at h;simp[h])|.string,.string a,.string b,h=>exact key _ (by simp only[bB,gg]at h;simp[h])|.int j,.int k a,.int k' b,h=>
  refine key _ ?_;simp only[bB]at h;split at h;simp only[gg]at h;rename_i e;simp[e,h]
  cases h
def C0(B:P.underlying t=some d)(O:VR m k k'):∀{es es':List MapEntry}(i:Nat),dT (tX m) es es'->
  (∀r,bE d k es i=some r->∃r',bE d k' es' i=some r'/\Ka m r r')/\(bE d k es i=none->bE d k' es' i=none\/∀j,ep P (bG t k es j))
 |_,_,i,.nil=>by
  exact⟨λr h=>by cases h;exact⟨_,rfl,.none⟩,nofun⟩
 |e::es,e'::es',i,.cons U h=>by
  obtain⟨W,Y⟩:=C0 B O _ h
  unfold bE
  cases hs:bB d k _ with
  |some b=>
   rw[Ny O U.key b hs]
   cases b with
   |true=>exact⟨λr h=>by cases h;exact⟨_,rfl,.some ⟨rfl,U.val⟩⟩,nofun⟩|false=>
    refine⟨W,λhn=>(Y hn).imp id λhD j=>?_⟩;exact GG B hs _ (hD _)
  |none=>
   refine⟨(nofun),λ_=>?_⟩
   cases aa:bB d k' _ with
   |none=>exact .inl rfl|some b=>
    refine .inr λj=>?_;exact(Eu B O U.key hs aa).bind
def vP(U:gL m\/oh P c6 t=true)(W:m.G=P.globals.size)(B:VR m k k'){es es':List MapEntry}(h:dT (tX m) es es'):dx P Ka m (bJ t k es) (bJ t k' es'):=by
 refine dB λd Y=>?_;obtain⟨h1,h2⟩:=C0 Y B 0 h
 cases O:bE d k es 0 with
 |some r=>
  obtain⟨r',e,hr⟩:=h1 r O;rw[e];exact .pure hr
 |none=>
  rcases h2 O with e|hD
  rw[e];exact uJ (λm' hl=>U.imp (λx=>x.mono hl) id) W B 0 m (.refl m) h;exact .dA (hD 0)
def NU(Y:mJ P)(hG:m.G=P.globals.size)(hK:∀k e,P.underlying t=some (.map k e)->qT P 10000 k=true/\(gL m\/oh P c6 k=true)){i i':Value}(hx:VR m x x')(hi:VR m i i')(b:Bool):dx P VR m (cp t x i b) (cp t x' i' b):=by
 refine dB λd hd=>?_;cases d<;>first|exact .dA trivial|skip
 rename_i k e;obtain⟨U,W⟩:=hK k e hd
 have fin:∀{es es':Array MapEntry},dT (tX m) es.toList es'.toList->dx P VR m
   (do bI es.isEmpty 10000 k i;match <-bJ k i es.toList with|some (_,v)=>(do let y <-pure (v,true);match y with|(v,ok)=>pure (if b=true then .tuple #[v,.bool ok]else v))|none=>(do let z <-aQ e;let y <-pure (z,false);match y with|(v,ok)=>pure (if b=true then .tuple #[v,.bool ok]else v)))
   (do bI es'.isEmpty 10000 k i';match <-bJ k i' es'.toList with|some (_,v)=>(do let y <-pure (v,true);match y with|(v,ok)=>pure (if b=true then .tuple #[v,.bool ok]else v))|none=>(do let z <-aQ e;let y <-pure (z,false);match y with|(v,ok)=>pure (if b=true then .tuple #[v,.bool ok]else v))):=by
  intro es es' h
  have he:es.isEmpty=es'.isEmpty:=by
   have:=h.length;simp only[a5]at this;simp[aA,this]
  rw[he];refine dF (nX _ _ m _ hi U) λm1 _ _ B _=>dF (vP (W.imp (λx=>x.mono B) id) (by rw[B.G,hG]) (hi.mono B) (h.mono λ_ _ x=>x.mono B)) λm2 r r' l2 hr=>?_
  have pr:∀(m':Ren)(v v':Value)(o:Bool),VR m' v v'->VR m' (if b=true then .tuple #[v,.bool o]else v) (if b=true then .tuple #[v',.bool o]else v'):=by
   intro m' v v' o O;split;exact .l7 (.cons O (.cons (.bool _) .nil));exact O
  cases hr with
  |none=>exact fQ Y λz hz=>.pure (pr _ _ _ _ hz)|some O=>exact .pure (pr _ _ _ _ O.2)
 cases hx<;>first|exact .dA trivial|skip
 exact fin .nil
 rename_i hb;refine fS hb λo o' ho=>?_;cases ho<;>first|exact .dA trivial|exact fin ‹_›
 exact .gone ‹_›
def GD:∀(n:Nat)(a b:Value),bA n a b=true->a=b:=by
 intro n;induction n with
 |zero=>
  intro a b h;unfold bA at h;split at h;rw[eq_of_beq h];simp only[dk,beq_iff_eq]at h;rw[h.1,h.2];simp only[dk,beq_iff_eq]at h;rw[h.1,h.2];simp only[dk,beq_iff_eq]at h;rw[h.1.1,h.1.2,h.2];rw[(Go.MapKept.bytes_beq ..).1 h];rw[eq_of_beq h];rw[eq_of_beq h];rfl;rename_i e;cases e;rename_i e;cases e
  cases h
 |succ n B=>
  intro a b h;unfold bA at h;split at h;rw[eq_of_beq h];simp only[dk,beq_iff_eq]at h;rw[h.1,h.2];simp only[dk,beq_iff_eq]at h;rw[h.1,h.2];simp only[dk,beq_iff_eq]at h;rw[h.1.1,h.1.2,h.2];rw[(Go.MapKept.bytes_beq ..).1 h];rw[eq_of_beq h];rw[eq_of_beq h];rfl;rename_i e;cases e;simp only[dk,beq_iff_eq]at h;rw[h.1,B _ _ h.2];rename_i x y e;cases e;simp only[dk,beq_iff_eq,fB]at h
  have:=by
   apply Array.ext h.1;intro i O U;refine B _ _ (h.2 (x[i],y[i]) ?_);rw[fm];exact⟨i,by simp[fk,O,U]⟩
  rw[this]
  cases h
def sq(Y:VR m a a')(hb:VR m b b'):(∀p q,a=.pointer p->b=.pointer q->∃B O,a'=.pointer B/\b'=.pointer O/\(p==q)=(B==O))/\(∀p q,a=.chan p->b=.chan q->∃B O,a'=.chan B/\b'=.chan O/\(p==q)=(B==O)):=by
 constructor;intro p q U W;subst U W
 cases Y with
 |gR=>cases hb with
  |gR=>exact⟨_,_,rfl,rfl,rfl⟩|ptr h=>exact⟨_,_,rfl,rfl,rfl⟩
 |ptr h=>cases hb with
  |gR=>exact⟨_,_,rfl,rfl,rfl⟩|ptr h'=>exact⟨_,_,rfl,rfl,by rw[dq];simp only[beq_iff_eq,gg];exact h.eq_iff h'⟩
 intro p q U W;subst U W
 cases Y with
 |je=>cases hb with
  |je=>exact⟨_,_,rfl,rfl,rfl⟩|chan h=>exact⟨_,_,rfl,rfl,rfl⟩
 |chan h=>cases hb with
  |je=>exact⟨_,_,rfl,rfl,rfl⟩|chan h'=>
   refine⟨_,_,rfl,rfl,?_⟩;rw[dq];simp only[beq_iff_eq,gg];constructor;intro e;subst e;rw[h]at h';cases h';rfl;intro e;subst e;exact m.vF _ _ _ h h'
def Ib:∀(n:Nat){a b a' b':Value},VR m a a'->VR m b b'->bA n a b=true->bA n a' b'=true:=by
 intro n;induction n with
 |zero=>
  intro a b a' b' B hb h;unfold bA at h;split at h
  cases B;cases hb;simpa[bA]using h
  cases B;cases hb;simpa[bA]using h
  cases B
  cases B
  cases B;cases hb;simpa[bA]using h;obtain⟨W,Y,rfl,rfl,e⟩:=(sq B hb).1 _ _ rfl rfl;rw[e]at h;simpa[bA]using h;obtain⟨W,Y,rfl,rfl,e⟩:=(sq B hb).2 _ _ rfl rfl;rw[e]at h;simpa[bA]using h
  cases B;cases hb;rfl;rename_i e;cases e;rename_i e;cases e
  cases h
 |succ n ih=>
  intro a b a' b' B hb h;unfold bA at h;split at h
  cases B;cases hb;simpa[bA]using h
  cases B;cases hb;simpa[bA]using h
  cases B
  cases B
  cases B;cases hb;simpa[bA]using h;obtain⟨W,Y,rfl,rfl,e⟩:=(sq B hb).1 _ _ rfl rfl;rw[e]at h;simpa[bA]using h;obtain⟨W,Y,rfl,rfl,e⟩:=(sq B hb).2 _ _ rfl rfl;rw[e]at h;simpa[bA]using h
  cases B;cases hb;rfl;rename_i e;cases e
  cases B with
  |iface t h1=>cases hb with
   |iface u h2=>
    simp only[dk,beq_iff_eq]at h;simp only[bA,dk,beq_iff_eq];exact⟨h.1,ih h1 h2 h.2⟩
  rename_i x y e;cases e
  cases B with
  |agg s1 h1=>cases hb with
   |agg s2 h2=>
    simp only[dk,beq_iff_eq,fB]at h;simp only[bA,dk,beq_iff_eq,fB];refine⟨by rw[<-s1,<-s2];exact h.1,λp hp=>?_⟩;rw[fm]at hp;obtain⟨i,hi⟩:=hp;simp only[fk,az]at hi;obtain⟨g1,g2⟩:=hi;obtain⟨k1,e1⟩:=ay.1 g1;obtain⟨k2,e2⟩:=ay.1 g2;have O:i<x.size:=by rw[s1];exact k1
    have U:i<y.size:=by rw[s2];exact k2
    rw[<-e1,<-e2];refine ih (h1 i O k1) (h2 i U k2) (h.2 (x[i],y[i]) ?_);rw[fm];exact⟨i,by simp[fk,O,U]⟩
  cases h
def yU{δ:Type}{RB:Ren->γ->δ->Prop}(B:VR m a a')(hb:VR m b b'){f:Value->Sem γ}{f':Value->Sem δ}(W:∀v,gf (f v))(h:∀v v',VR m v v'->dx P RB m (f v) (f' v')) :
  lG P RB m (bK a b >>= f) (bK a' b' >>= f'):=by
 unfold bK;by_cases O:bA 10000 a b=true;rw[if_pos O,if_pos (Ib _ B hb O)];exact .base (h _ _ hb);rw[if_neg O];by_cases U:bA 10000 a' b'=true;have e:=GD _ _ _ U;refine lG.U9 (λn=>?_) (λn=>?_);exact W _;show dx P RB m (f _) _;split;exact h _ _ hb;exact h _ _ (e▸B);rw[if_neg U];refine .base (dx.choose λn=>?_);show dx P RB m (f _) (f' _);split;exact h _ _ hb;exact h _ _ B
end
variable {es es':Array MapEntry} {mp mp':Value}
section
variable {P:Program} {m:Ren}
def gf.bind{s:Sem α}{f:α->Sem β}(h:gf s)(O:∀a,gf (f a)):gf (s.bind f):=by
 induction s with
 |pure a=>exact O a|load m a k B=>exact λv=>B v (h v)|store m a v k B=>exact B h|new o k B=>exact λv=>B v (h v)|shape r k B=>exact λv=>B v (h v)|freeze a n k B=>exact B h|frozen a k B=>exact λv=>B v (h v)|getObj r k B=>exact λv=>B v (h v)|setObj r o k B=>exact B h|choose q k B=>exact h.elim|sys c k B=>exact λv=>B v (h v)|program k B=>exact λv=>B v (h v)|mark m k B=>exact B h|halt x=>trivial
def lG.map{RA:Ren->α->β->Prop}{RB:Ren->γ->δ->Prop}{s:Sem α}{s':Sem β}{g:α->γ}{g':β->δ}(h:lG P RA m s s')(U:∀m' a b,m.Le m'->RA m' a b->RB m' (g a) (g' b)) :
  lG P RB m (s.bind λa=>.pure (g a)) (s'.bind λb=>.pure (g' b)):=by
 induction h with
 |base h=>exact .base (h.bind λm' a b B O=>.pure (U m' a b B O))|bind h _ ih=>
  rw[cP,cP];exact .bind h λm' a b B O=>ih m' a b B O λW c d Y aa=>U W c d (B.trans Y) aa
 |U9 hd h=>exact .U9 (λn=>(hd n).bind λ_=>trivial) λn=>(h n).bind λm' a b B O=>.pure (U m' a b B O)
def oO{RC:Ren->γ->δ->Prop}{RA:Ren->α->β->Prop}{s:Sem γ}{s':Sem δ}{f:γ->Sem α}{f':δ->Sem β}(h:dx P RC m s s')(B:∀m' a b,m.Le m'->RC m' a b->lG P RA m' (f a) (f' b)):lG P RA m (s >>= f) (s' >>= f'):=.bind h B
def uu{t:aN}:dx P (λ_ a b=>a=b/\P.underlying t=some a) m (aT t) (aT t):=by
 have:=dB (P:=P) (m:=m) (t:=t) (RB:=λ_ a b=>a=b/\P.underlying t=some a) (f:=pure) (f':=pure) λd B=>.pure ⟨rfl,B⟩;simpa using this
def Io{r r':Nat}(hb:m.blk r=some r'):dx P OR m (getObj r) (getObj r'):=.getObj hb λ_ _ h=>.pure h
def AA(h:dT (tX m) es.toList es'.toList)(i:Nat){f f':MapEntry->MapEntry}(hf:∀e W,tX m e W->tX m (f e) (f' W)):dT (tX m) (es.modify i f).toList (es'.modify i f').toList:=by
 refine dT.Ir (by simpa using h.length) λj a b B hb=>?_;simp only[az,a2]at B hb;by_cases e:i=j;simp only[e,if_true,Option.map_eq_some_iff]at B hb;obtain⟨x,hx,rfl⟩:=B;obtain⟨y,Y,rfl⟩:=hb;obtain⟨z,O,U⟩:=h.get (i:=j) (a:=x) (by simpa using hx);simp only[az]at O;rw[O]at Y;cases Y;exact hf _ _ U;simp only[e,if_false]at B hb;obtain⟨z,O,U⟩:=h.get (i:=j) (a:=a) (by simpa using B);simp only[az]at O;rw[O]at hb;cases hb;exact U
def uO(h:dT (tX m) es.toList es'.toList){e B:MapEntry}(O:tX m e B):dT (tX m) (es.push e).toList (es'.push B).toList:=by
 simp only[aI];exact h.append (.cons O .nil)
def Cu(h:dT (tX m) es.toList es'.toList)(i:Nat):lX (tX m) es[i]? es'[i]?:=by
 cases B:es[i]? with
 |none=>
  have:=h.get_none (i:=i) (by simpa using B);simp only[az]at this;rw[this];exact .none
 |some x=>
  obtain⟨y,O,U⟩:=h.get (i:=i) (a:=x) (by simpa using B);simp only[az]at O;rw[O];exact .some U
def np{c:Nat}:∀x y z,Obj.map es c≠.cells x y z:=nofun
def Hz(hG:m.G=P.globals.size){t:aN}(hK:∀k e,P.underlying t=some (.map k e)->qT P 10000 k=true/\(gL m\/oh P c6 k=true))(hm:VR m mp mp')(W:VR m k k')(hv:VR m v v') :
  lG P yR m (bW t mp k v) (bW t mp' k' v'):=by
 refine oO uu λm1 d d' l1 hd=>?_;obtain⟨rfl,hd⟩:=hd;cases d<;>first|exact .base (.dA trivial)|skip
 rename_i kt et;obtain⟨ac,ad⟩:=hK kt et hd;have hm:=hm.mono l1;cases hm<;>first|exact .base (.dA trivial)|exact .base (fC (e:=.plain _) trivial)|skip
 case map.gone=>exact .base (.gone ‹_›)
 rename_i r r' hb;refine oO (Io hb) λm2 o o' l2 ho=>?_;have ae:=l2.blk _ _ hb;cases ho<;>first|exact .base (.dA trivial)|skip
 rename_i es es' clock Y;have aa:=l1.trans l2;refine oO (nX _ _ m2 _ (W.mono aa) ac) λm3 _ _ l3 _=>?_;have U:=aa.trans l3;refine oO (vP (ad.imp (λx=>x.mono U) id) (by rw[U.G,hG]) (W.mono U) (Y.mono λ_ _ x=>x.mono l3)) λm4 a b l4 af=>?_;have B:=U.trans l4;have O:=Y.mono λ_ _ x=>x.mono (l3.trans l4);have ab:=(l3.trans l4).blk _ _ ae
 cases af with
 |none=>exact .base (ql ab (.map _ (uO O ⟨W.mono B,hv.mono B,rfl⟩)) np)|some hx=>
  rename_i x y;obtain⟨i,u⟩:=x;obtain⟨i',u'⟩:=y;obtain⟨hi,_⟩:=hx;subst hi;refine yU ?_ (W.mono B) (λ_=>trivial) λq q' hq=>ql ab (.map _ (AA O _ λe e' he=>⟨hq,hv.mono B,he.born⟩)) np;have:=Cu O i';revert this;generalize es[i']?=p;generalize es'[i']?=p';intro hp
  cases hp with
  |none=>exact W.mono B|some he=>exact he.key
def IE(hP:mJ P)(hG:m.G=P.globals.size){t:aN}(hK:∀k e,P.underlying t=some (.map k e)->qT P 10000 k=true/\(gL m\/oh P c6 k=true))(hm:VR m mp mp')(Y:VR m k k') :
  lG P VR m (cd t mp k) (cd t mp' k'):=by
 refine oO uu λm1 d d' l1 hd=>?_;obtain⟨rfl,hd⟩:=hd;cases d<;>first|exact .base (.dA trivial)|skip
 rename_i kt et;obtain⟨ad,ae⟩:=hK kt et hd;have hm:=hm.mono l1;cases hm<;>first|exact .base (.dA trivial)|exact .base (fC (e:=.plain _) trivial)|skip
 case map.gone=>exact .base (.gone ‹_›)
 rename_i r r' hb;refine oO (Io hb) λm2 o o' l2 ho=>?_;have af:=l2.blk _ _ hb;cases ho<;>first|exact .base (.dA trivial)|skip
 rename_i es es' clock aa;have ab:=l1.trans l2;refine oO (nX _ _ m2 _ (Y.mono ab) ad) λm3 _ _ l3 _=>?_;have O:=ab.trans l3;refine oO (vP (ae.imp (λx=>x.mono O) id) (by rw[O.G,hG]) (Y.mono O) (aa.mono λ_ _ x=>x.mono l3)) λm4 a b l4 ag=>?_;have U:=O.trans l4;have B:=aa.mono λ_ _ x=>x.mono (l3.trans l4);have ac:=(l3.trans l4).blk _ _ af
 cases ag with
 |none=>exact .base (fQ hP λz hz=>jR ac (.map _ (uO B ⟨Y.mono U,hz,rfl⟩)) np (.pure (.l7 (.cons hz (.cons (.int ..) .nil)))))|some hx=>
  rename_i x y;obtain⟨i,u⟩:=x;obtain⟨i',u'⟩:=y;obtain⟨hi,hu⟩:=hx;subst hi;have hg:=Cu B i';refine yU ?_ (Y.mono U) (λ_=>trivial) λq q' hq=>jR ac (.map _ (AA B _ λe e' W=>⟨hq,W.val,W.born⟩)) np (.pure (.l7 (.cons hu (.cons ?_ .nil))));revert hg;generalize es[i']?=p;generalize es'[i']?=p';intro hp
  cases hp with
  |none=>exact Y.mono U|some W=>exact W.key
  revert hg;generalize es[i']?=p;generalize es'[i']?=p';intro hp
  cases hp with
  |none=>exact .int ..|some W=>rw[gn,gn,W.born];exact .int ..
def M1{es es':List MapEntry}(h:dT (tX m) es es')(p:Nat->Bool):es.findIdx? (λe=>p e.born)=es'.findIdx? (λe=>p e.born):=by
 induction h with
 |nil=>rfl|cons B _ O=>simp only[List.findIdx?_cons,B.born,O]
def Dy{t:aN}{s s':Value}(hm:VR m mp mp')(U:VR m s s')(W:VR m v v'):dx P yR m (bU t mp s v) (bU t mp' s' v'):=by
 cases hm<;>first|exact .dA trivial|skip
 case gone=>exact .gone ‹_›
 rename_i r r' hb;refine fS hb λo o' Y=>?_;cases Y<;>first|exact .dA trivial|skip
 rename_i es es' clock B;refine jI U λn=>?_
 have e:es.findIdx? (λe=>e.born==n)=es'.findIdx? (λe=>e.born==n):=by
  have:=M1 B (λb=>b==n);obtain⟨a⟩:=es;obtain⟨a'⟩:=es';simpa using this
 rw[e];split;exact ql hb (.map _ (AA B _ λe e' O=>⟨O.key,W,O.born⟩)) np;exact .dA trivial
def TP{es es':List MapEntry}(h:dT (tX m) es es')(p:Nat->Bool):lX (tX m) (es.find? λe=>p e.born) (es'.find? λe=>p e.born):=by
 induction h with
 |nil=>exact .none|cons B _ O=>
  simp only[List.find?_cons,B.born];split;exact .some B;exact O
def QS{i:Value}(h:VR m i i'):dx P VR m (cy i) (cy i'):=by
 cases h<;>first|exact .dA trivial|skip
 rename_i Y
 cases Y with
 |@mk b b' o s hb=>
 cases o<;>first|exact .dA trivial|skip
 refine fS hb λo o' O=>?_;cases O<;>first|exact .dA trivial|skip
 rename_i r r' x y z hm;dsimp only
 cases y.back? with
 |none=>exact .dA trivial|some B=>
  refine fS hm λo o' O=>?_;cases O<;>first|exact .dA trivial|skip
  rename_i es es' clock U;dsimp only;split;exact .dA trivial;have:=TP U (λb=>b==B);simp only[Array.find?_toList]at this;revert this;generalize es.find? _=p;generalize es'.find? _=p';intro hp
  cases hp with
  |none=>exact .dA trivial|some W=>exact .pure (.l7 (.cons W.key (.cons W.val .nil)))
def zP{es es':List MapEntry}(h:dT (tX m) es es')(p:Nat->Bool):dT (tX m) (es.filter λe=>p e.born) (es'.filter λe=>p e.born):=by
 induction h with
 |nil=>exact .nil|cons B _ O=>
  simp only[List.filter_cons,B.born];split;exact .cons B O;exact O
def Vo{es es':List MapEntry}(h:dT (tX m) es es')(p:Nat->Bool):es.all (λe=>p e.born)=es'.all (λe=>p e.born):=by
 induction h with
 |nil=>rfl|cons B _ O=>simp only[List.all_cons,B.born,O]
def JX(aR:Array Nat)(B:Nat)(es:Array MapEntry):Array (Option MapEntry):=
 (if(a1 (λx=>decide (x.born<B)) (a1 (λe=>!aR.contains e.born) es)).isEmpty=true then #[none]else #[]) ++
  aC some (a1 (λx=>decide (x.born<B)) (a1 (λe=>!aR.contains e.born) es)++a1 (λx=>decide (x.born ≥ B)) (a1 (λe=>!aR.contains e.born) es))
def TI(aR:Array Nat)(B:Nat)(h:dT (tX m) es.toList es'.toList):dT (lX (tX m)) (JX aR B es).toList (JX aR B es').toList:=by
 have O:=zP h (λb=>!aR.contains b);have U:=zP O (λb=>decide (b<B));have W:=zP O (λb=>decide (b ≥ B));unfold JX
 have e:(a1 (λx=>decide (x.born<B)) (a1 (λe=>!aR.contains e.born) es)).isEmpty=(a1 (λx=>decide (x.born<B)) (a1 (λe=>!aR.contains e.born) es')).isEmpty:=by
  have:=U.length;simp only[<-aF,a5]at this;simp only[aA,this]
 rw[e];simp only[aG,a4,aF];refine dT.append ?_ (dT.map (λa b h=>.some h) (dT.append U W));split;exact .cons .none .nil;exact .nil
def Tz{i:Value}(h:VR m i i')(b:Bool)(t:aN):dx P VR m (bS i b t) (bS i' b t):=by
 unfold bS;cases h<;>first|exact .dA trivial|skip
 rename_i ha
 cases ha with
 |@mk c c' o s hb=>
 cases o<;>first|exact .dA trivial|skip
 dsimp only;refine fS hb λo o' U=>?_;cases U<;>cases b<;>first|exact .dA trivial|skip
 dsimp only;refine dJ (λ_=>jR hb (.stringIter _ _) (λ_ _ _ h=>by cases h) (.pure (.l7 (.cons (.bool _) (.cons (.int ..) (.cons (.int ..) .nil)))))) (λ_=>.pure (.l7 (.one (.bool _))));exact .pure (.l7 (.one (.bool _)))
 rename_i r r' B aR last hm;refine fS hm λo o' U=>?_;cases U<;>first|exact .dA trivial|skip
 rename_i es es' clock O;have Y:=O.length;simp only[a5]at Y;have e1:es.isEmpty=es'.isEmpty:=by simp only[aA,Y]
 have e2:es.all (λx=>decide (x.born ≥ last))=es'.all (λx=>decide (x.born ≥ last)):=by
  have:=Vo O (λb=>decide (b ≥ last));rw[<-aL,<-aL];exact this
 dsimp only;rw[e1,e2];refine dJ (λ_=>.dA trivial) (λ_=>?_)
 change dx P VR m (choose (.mapNext (JX aR B es).size) >>= λn=>match (JX aR B es)[n]? with
   |some (some e)=>(do setObj c _;pure _)
   |some none=>pure _|none=>stuck _)
  (choose _ >>= λn=>match (JX aR B es')[n]? with
    |some (some e)=>(do setObj c' _;pure _)
    |some none=>pure _|none=>stuck _)
 have hc:=TI aR B O;have e3:=by simpa using hc.length
 rw[e3];refine gJ λn=>?_
 cases hn:(JX aR B es)[n]? with
 |none=>exact .dA trivial|some x=>
  obtain⟨y,hy,hr⟩:=hc.get (i:=n) (a:=x) (by simpa using hn);simp only[az]at hy;rw[hy]
  cases hr with
  |none=>exact .pure (.l7 (.one (.bool _)))|some W=>
   dsimp only;rw[W.born];exact jR hb (.mapIter _ _ _ hm) (nofun) (.pure (.l7 (.cons (.bool _) (.cons W.key (.cons W.val .nil)))))
end
variable {a':Addr} {r r':Nat} {y y':Value}
section
variable {P:Program} {m:Ren}
def Ej(U:mJ P)(W:VR m x x')(t u:aN):dx P VR m (bT x t u true) (bT x' t u true):=by
 have B:dx P VR m (do pure (.tuple #[<-aQ u,.bool false])) _:=
  fQ U λz Y=>.pure (.l7 (.cons Y (.cons (.bool _) .nil)))
 refine dB λd hd=>?_
 cases W with
 |nilIface=>cases d<;>exact B
 |iface s O=>
  cases d
  case interface ms=>
   refine dS λti _=>?_
   cases Instr.missingMethod ms _ with
   |none=>exact .pure (.l7 (.cons (.iface _ O) (.cons (.bool _) .nil)))|some _=>exact B
  all_goals exact dJ (λ_=>.pure (.l7 (.cons O (.cons (.bool _) .nil)))) (λ_=>B)
 |_=>cases d<;>exact .dA trivial
def A8(op:BinOp)(k:IntKind)(a b:Int):dx P VR m (cA op k a b) (cA op k a b):=by
 cases op<;>first|exact .dA trivial|exact .pure (.int ..)
def CA(op:BinOp)(k:IntKind)(a b:Int):dx P VR m (cB op k a b) (cB op k a b):=by
 cases op<;>first|exact .dA trivial|exact .pure (.int ..)
def O9(op:BinOp)(a b:Int):dx P VR m (cF op a b) (cF op a b):=by
 cases op<;>first|exact .dA trivial|exact .pure (.bool _)
def Ql(op:BinOp)(k:IntKind)(a b:Int):dx P VR m (cE op k a b) (cE op k a b):=by
 refine dJ (λ_=>fC (e:=.error _) trivial) (λ_=>?_);cases op<;>first|exact .dA trivial|exact .pure (.int ..)
def Ll(op:BinOp)(k j:IntKind)(a b:Int):dx P VR m (cH op k a j b) (cH op k a j b):=by
 refine dJ (λ_=>fC (e:=.error _) trivial) (λ_=>?_);cases op<;>first|exact .dA trivial|exact .pure (.int ..)
def J0(op:BinOp)(a b:ByteArray):dx P VR m (c9 op a b) (c9 op a b):=by
 cases op<;>first|exact .dA trivial|exact .pure (.bool _)|exact dJ (λ_=>.dA trivial) (λ_=>.pure (.string _))
def RD(op:UnOp)(h:VR m x x'):dx P VR m (cG op x) (cG op x'):=by
 cases h<;>cases op<;>first|exact .dA trivial|exact .pure (.bool _)|skip
 rename_i k n;show dx P VR m (cA .sub k 0 n) _;exact A8 ..;rename_i k n;show dx P VR m (cB .xor k _ n) _;exact CA ..
def PT{γ δ:Type}{RB:Ren->γ->δ->Prop}(hb:m.blk r=some r'){f:Option (Addr×aN)->Sem γ}{f':Option (Addr×aN)->Sem δ}(h:dx P RB m (f none) (f' none)):dx P RB m (viewAt r >>= f) (viewAt r' >>= f'):=by
 refine jO hb λx=>?_
 cases x with
 |some y=>exact h|none=>
  refine fS hb λo o' B=>?_;cases B<;>exact h
def V7(m:Ren)(v v':Value):Prop:=∃a a',v=.pointer (some a)/\v'=.pointer (some a')/\AR m a a'
def rX{a:Array aN}{t:aN}(U:VR m x x')(O:VR m y y'):dx P V7 m (cR a t #[x,y]) (cR a t #[x',y']):=by
 cases U<;>first|exact .dA trivial|skip
 refine jI O λn=>?_;dsimp only;split;exact .dA trivial;split<;>exact .dA trivial
 rename_i B;refine jI O λn=>?_;dsimp only;split;refine PT B.blk ?_;exact .pure ⟨_,_,rfl,rfl,B⟩;split;exact .dA trivial;refine jO B.blk λz=>?_
 cases z with
 |none=>exact .dA trivial|some z=>
  refine gZ ?_
  cases B with
  |mk hb=>
  dsimp only;split;exact .pure ⟨_,_,rfl,rfl,.mk hb⟩;exact .dA trivial
def J6(hb:m.blk r=some r'):dx P (λm=>lX λx y=>AR m x.1 y.1/\y.2=x.2) m (numberAt r) (numberAt r'):=by
 refine jO hb λx=>?_
 cases x with
 |some y=>exact .pure .none|none=>
  refine fS hb λo o' B=>?_
  cases B with
  |number l O=>exact .pure (.some ⟨O,rfl⟩)|_=>exact .pure .none
def IB{a:Addr}(B:AR m a a')(l:Bool):dx P VR m (asNumber a l) (asNumber a' l):=
 dx.new (.number l B) (nofun) λm' r r' _ hb _=>.pure (.ptr (.mk hb))
def jx{t:aN}(O:VR m x x')(B:VR m y y'):dx P VR m (b5 t x y) (b5 t x' y'):=by
 refine dB λd hd=>?_;dsimp only;split;exact .dA trivial
 cases O with
 |ptr U=>
  refine dZ U λp p' l W=>?_;refine dF (rX (.ptr W) B) λm' v v' hl Y=>?_;obtain⟨b,b',rfl,rfl,hb⟩:=Y;exact IB hb l
 |gR=>exact(rX (a:=#[]) (t:=t) .gR B).mono λm' v v' _ h=>by obtain⟨b,b',rfl,rfl,hb⟩:=h;exact .ptr hb
 |_=>exact .dA trivial
def rn{t:aN}(O:VR m x x')(U:VR m y y'):dx P VR m (b0 t x y) (b0 t x' y'):=by
 have fin:∀m',m.Le m'->dx P VR m' (cR #[] t _) _:=λm' B=>(rX (O.mono B) (U.mono B)).mono λm' v v' _ h=>by obtain⟨b,b',rfl,rfl,hb⟩:=h;exact .ptr hb
 cases O with
 |ptr W=>
  refine dF (J6 W.blk) λm' o o' B Y=>?_
  cases Y with
  |none=>exact fin m' B|some _=>exact .dA trivial
 |fV v hv=>exact .dA trivial|_=>exact fin m (.refl m)
def wH{t:aN}(y:Value):ep P (c5 t (.tuple #[]) y):=by
 show ep P ((match P.underlying t with|some d=>pure d|none=>stuck _) >>= _)
 cases P.underlying t with
 |none=>trivial|some d=>cases d<;>first|trivial|(cases y<;>trivial)
def wV{t:aN}(x:Value):ep P (c5 t x (.tuple #[])):=by
 show ep P ((match P.underlying t with|some d=>pure d|none=>stuck _) >>= _)
 cases P.underlying t with
 |none=>trivial|some d=>cases d<;>first|trivial|(cases x<;>first|trivial|(rename_i a;cases a<;>trivial)|(cases b<;>first|trivial|(cases c<;>trivial))|(rename_i a b c;cases a<;>trivial))
def Fp(U:m.G=P.globals.size){a b b':Addr}(B:AR m a a')(hb:AR m b b'):dx P xV m (c7 a b) (c7 a' b'):=by
 refine gZ ?_
 have W:(a.block != b.block)=(a'.block != b'.block):=by
  have:(a.block==b.block)=(a'.block==b'.block):=by rw[dq];simp only[beq_iff_eq];exact B.sf hb
  simp only[bne,this]
 have Y:decide (a.block ≥ P.globals.size)=decide (a'.block ≥ P.globals.size):=by
  have:=m.po _ _ B.blk;rw[U]at this;exact decide_eq_decide.2 ⟨λh=>er λx=>absurd (this.2 x) (by omega),λh=>er λx=>absurd (this.1 x) (by omega)⟩
 rw[W,Y];refine dJ (λ_=>.dA trivial) (λ_=>?_);refine dF (nL B) λm' x y O h=>?_;cases h;refine dF (nL (hb.mono O)) λaa x' y' O h=>?_;cases h;exact .pure rfl
def vT{k:IntKind}{a:Addr}(B:AR m a a')(n:Int):dx P VR m (cD k a n) (cD k a' n):=by
 refine jO B.blk λx=>?_
 cases x with
 |none=>exact .dA trivial|some y=>
  refine dS λO _=>?_;refine dJ (λ_=>.dA trivial) (λ_=>?_);refine dF (nL B) λm' x y U h=>?_;cases h;exact .pure (.int ..)
def KE(O:m.G=P.globals.size){t:aN}(U:gL m\/oh P c6 t=true)(W:VR m x x')(Y:VR m y y'):dx P VR m (do pure (.bool (<-c5 t x y))) (do pure (.bool (<-c5 t x' y')))/\dx P VR m (do pure (.bool (!(<-c5 t x y)))) (do pure (.bool (!(<-c5 t x' y')))):=by
 have h:=pI (P:=P) _ m t O W Y U;constructor;exact dF h λm' a b _ B=>by cases B;exact .pure (.bool _)
 exact dF h λm' a b _ B=>by cases B;exact .pure (.bool _)
def ND(op:BinOp)(t:aN)(k k':IntKind)(a b:Int):dx P VR m (binOp op t (.int k a) (.int k' b)) (binOp op t (.int k a) (.int k' b)):=by
 cases op
 case shl=>exact Ll .shl k k' a b
 case shr=>exact Ll .shr k k' a b
 all_goals
  refine dJ (λ_=>.dA trivial) (λ_=>?_)
  first|exact A8 ..|exact Ql ..|exact CA ..|exact O9 ..
def DU(op:BinOp)(W:m.G=P.globals.size){t:aN}(hE:op=.eql\/op=.neq->gL m\/oh P c6 t=true)(Y:VR m x x')(O:VR m y y'):dx P VR m (binOp op t x y) (binOp op t x' y'):=by
 have heq:op=.eql->dx P VR m (do pure (.bool (<-c5 t x y))) (do pure (.bool (<-c5 t x' y'))):=λe=>(KE W (hE (.inl e)) Y O).1;have hne:op=.neq->dx P VR m (do pure (.bool (!(<-c5 t x y)))) (do pure (.bool (!(<-c5 t x' y')))):=λe=>(KE W (hE (.inr e)) Y O).2
 have B:∀(z:Value),y=.tuple #[]->op=.eql\/op=.neq->x=z->dx P VR m (binOp op t x y) (binOp op t x' y'):=by
  intro z e1 e2 e3;subst e1;refine .dA ?_;rcases e2 with rfl|rfl
  cases x<;>exact(wV _).bind
  cases x<;>exact(wV _).bind
 cases Y with
 |fV v U=>
  refine .dA ?_;cases op
  case eql=>exact(wH _).bind
  case neq=>exact(wH _).bind
  all_goals(cases y<;>trivial)
 |int k a=>
  cases O with
  |int k' b=>exact ND op t k k' a b|fV v U=>cases op<;>first|exact .dA trivial|exact B _ rfl (.inl rfl) rfl|exact B _ rfl (.inr rfl) rfl
  |gR=>cases op<;>first|exact .dA trivial|exact heq rfl|exact hne rfl|exact jx .gR (.int _ _)
  |ptr hb=>
   cases op
   case add=>exact jx (.ptr hb) (.int _ _)
   case and=>exact dZ hb λp p' l hp=>vT hp _
   all_goals first|exact .dA trivial|exact heq rfl|exact hne rfl
  |_=>cases op<;>first|exact .dA trivial|exact heq rfl|exact hne rfl
 |string a=>
  cases O with
  |string b=>
   have e:∀op,binOp op t (.string a) (.string b)=c9 op a b:=λop=>by cases op<;>rfl
   rw[e];exact J0 _ a b
  |fV v U=>cases op<;>first|exact .dA trivial|exact B _ rfl (.inl rfl) rfl|exact B _ rfl (.inr rfl) rfl
  |_=>cases op<;>first|exact .dA trivial|exact heq rfl|exact hne rfl
 |gR=>
  cases O with
  |fV v U=>cases op<;>first|exact .dA trivial|exact B _ rfl (.inl rfl) rfl|exact B _ rfl (.inr rfl) rfl
  |int k n=>
   cases op
   case add=>
    refine dB λd hd=>?_;exact dJ (λ_=>rn .gR (.int _ _)) (λ_=>jx .gR (.int _ _))
   case sub=>exact jx .gR (.int _ _)
   all_goals first|exact .dA trivial|exact heq rfl|exact hne rfl
  |_=>cases op<;>first|exact .dA trivial|exact heq rfl|exact hne rfl
 |ptr ha=>
  cases O with
  |fV v U=>cases op<;>first|exact .dA trivial|exact B _ rfl (.inl rfl) rfl|exact B _ rfl (.inr rfl) rfl
  |int k n=>
   cases op
   case add=>
    refine dB λd hd=>?_;exact dJ (λ_=>rn (.ptr ha) (.int _ _)) (λ_=>jx (.ptr ha) (.int _ _))
   case sub=>exact jx (.ptr ha) (.int _ _)
   case rem=>exact dZ ha λp p' l hp=>vT hp _
   case and=>exact dZ ha λp p' l hp=>vT hp _
   all_goals first|exact .dA trivial|exact heq rfl|exact hne rfl
  |ptr hb=>
   have two:∀(f:Nat×Nat->Sem Value),(∀m' p,dx P VR m' (f p) (f p))->∀{a a' b b':Addr},AR m a a'->AR m b b'->dx P VR m (c7 a b >>= f) (c7 a' b' >>= f):=
    λf hf a a' b b' h1 h2=>dF (Fp W h1 h2) λm' p q _ aa=>by cases aa;exact hf m' p
   cases op
   case eql=>exact heq rfl
   case neq=>exact hne rfl
   case sub=>exact dZ ha λp p' l hp=>dZ hb λq q' l' hq=>two _ (λm' p=>.pure (.int _ _)) hp hq
   case lss=>exact dZ ha λp p' l hp=>dZ hb λq q' l' hq=>two _ (λm' p=>.pure (.bool _)) hp hq
   case leq=>exact dZ ha λp p' l hp=>dZ hb λq q' l' hq=>two _ (λm' p=>.pure (.bool _)) hp hq
   case gtr=>exact dZ ha λp p' l hp=>dZ hb λq q' l' hq=>two _ (λm' p=>.pure (.bool _)) hp hq
   case geq=>exact dZ ha λp p' l hp=>dZ hb λq q' l' hq=>two _ (λm' p=>.pure (.bool _)) hp hq
   all_goals exact .dA trivial
  |_=>cases op<;>first|exact .dA trivial|exact heq rfl|exact hne rfl
 |_=>
  cases op
  case eql=>exact heq rfl
  case neq=>exact hne rfl
  all_goals(cases O<;>exact .dA trivial)
end
variable {a:Addr}
section
variable {P:Program} {m:Ren}
def xO{RB:Ren->γ->δ->Prop}(B:AR m a a')(O:¬m.loose a.block){f:Unit->Sem γ}{f':Unit->Sem δ}(h:dx P RB m (f ()) (f' ())):dx P RB m (bw a >>= f) (bw a' >>= f'):=by
 refine jO B.blk λx=>?_
 cases x with
 |none=>exact h|some y=>exact dx.freeze (.mk B.blk) O h
def Cq(s:ByteArray):eD m (s.data.map λb=>Value.int .u8 b.toNat) (s.data.map λb=>Value.int .u8 b.toNat):=by
 refine .refl λv B=>?_;simp only[a4,ge]at B;obtain⟨i,_,rfl⟩:=B;exact .int ..
def xT{e:aN}{s:ByteArray}:dx P VR m (g9 e s) (g9 e s):=by
 refine gJ λcap=>?_;refine dF (RA:=Iy) (qc ((Cq s).append (.replicate _ (.int ..)))) λm' a a' _ B=>?_;exact xO B.1 B.2 (.pure (.slice _ _ B.1))
def FP{c c':List Value}(h:dT (VR m) c c'):∀(s:ByteArray),dx P xV m
  (forIn c s λc s=>match c with|.int .u8 n=>pure (ForInStep.yield (s.push (UInt8.ofNat n.toNat)))|_=>(do stuck "bytesToString: byte expected";pure (ForInStep.yield s)))
  (forIn c' s λc s=>match c with|.int .u8 n=>pure (ForInStep.yield (s.push (UInt8.ofNat n.toNat)))|_=>(do stuck "bytesToString: byte expected";pure (ForInStep.yield s))):=by
 induction h with
 |nil=>intro s;exact .pure rfl|cons B _ O=>
  intro s;simp only[ga]
  cases B with
  |int k n=>cases k<;>first|exact .dA trivial|exact O _
  |_=>exact .dA trivial
def xA(O:VR m x x'):dx P VR m (g8 x) (g8 x'):=by
 cases O<;>first|exact .dA trivial|exact .pure (.string _)|skip
 rename_i l c U;refine dF (wR U l) λm' c c' _ W=>?_;rw[<-a6,<-a6];exact dF (FP W _) λm' a b _ B=>by cases B;exact .pure (.string _)
def Dx{RB:Ren->γ->δ->Prop}(U:AR m a a'){f:Array Value->Sem γ}{f':Array Value->Sem δ}(h:∀c c',eD m c c'->dx P RB m (f c) (f' c')):dx P RB m (bi a n >>= f) (bi a' n >>= f'):=by
 have key:∀(n i:Nat)(acc B:Array Value),eD m acc B->dx P RB m (bd a i n acc >>= f) (bd a' i n B >>= f'):=by
  intro n;induction n with
  |zero=>intro i acc B O;exact h _ _ O|succ n W=>intro i acc B O;exact dx.load (U.add i) λv v' Y=>W _ _ _ (O.push Y)
 exact key n 0 _ _ (.nil m)
def eB{RB:Ren->γ->δ->Prop}{size:Nat}(B:VR m x x'){f:Array Value->Sem γ}{f':Array Value->Sem δ}(h:∀c c',eD m c c'->dx P RB m (f c) (f' c')):dx P RB m (dc size n x >>= f) (dc size n x' >>= f'):=by
 cases B<;>first|exact .dA trivial|exact Dx ‹_› h|exact h _ _ (Cq _)|exact h _ _ (.nil m)
def pT{RB:Ren->γ->δ->Prop}(B:VR m x x'){f:Nat->Sem γ}{f':Nat->Sem δ}(h:∀n,dx P RB m (f n) (f' n)):dx P RB m (dg x >>= f) (dg x' >>= f'):=by
 cases B<;>first|exact .dA trivial|exact h _
def rP{z:Array Value}(h:eD m z z)(n:Nat):eD m (cQ z n) (cQ z n):=xZ h _
def mC{α:Type}{size sLen:Nat}{base:Option Addr}{f:Bool->Sem α}(h:∀b,ep P (f b)):ep P (dd size sLen n base x >>= f):=by
 have hold:∀(a:Addr)(k:Nat)(g:Bool->Sem α),(∀b,ep P (g b))->ep P (db a k >>= g):=by
  intro a k g B;intro r
  cases r with
  |none=>exact B _|some y=>exact B _
 have tail:∀b:Bool,ep P ((match x with|.slice (some b) .. =>(do pure (!(<-db b (n*size)) || base.any (·.block==b.block)))|_=>pure false) >>= f):=by
  intro _
  cases x with
  |slice a l c=>
   cases a with
   |none=>exact h _|some a=>
    simp only[bind_assoc];exact hold a _ _ λb=>h _
  |_=>exact h _
 unfold dd
 cases base with
 |none=>exact tail true|some a=>
  simp only[bind_assoc];refine hold a _ _ λb=>?_;intro r;show ep P ((if(!(b && !r))=true then pure true else _) >>= f);split;exact h _;exact tail true
def KZ(B:mJ P){RB:Ren->γ->δ->Prop}{elem:aN}{size:Nat}{f:Array Value->Sem γ}{f':Array Value->Sem δ}(h:∀c c',eD m c c'->dx P RB m (f c) (f' c')) :
  dx P RB m ((if n*size=0 then pure #[]else do pure (cQ (<-aQ elem).cells n)) >>= f) ((if n*size=0 then pure #[]else do pure (cQ (<-aQ elem).cells n)) >>= f'):=by
 split;exact h _ _ (.nil m);simp only[bind_assoc];exact fQ B λz O=>h _ _ (rP O.cells _)
def QM(hP:mJ P){ats:Array aN}{t:aN}{args args':Array Value}(h:eD m args args'):dx P VR m (cS ats t args) (cS ats t args'):=by
 unfold cS
 cases ats[0]? with
 |none=>exact .dA trivial|some st=>
 cases h0:args[0]? with
 |none=>exact .dA trivial|some s=>
 cases h1:args[1]? with
 |none=>exact .dA trivial|some x=>
 obtain⟨s',ad,hs⟩:=h.get h0;obtain⟨x',ae,hx⟩:=h.get h1;rw[ad,ae];refine dB λd hd=>?_;cases d<;>first|exact .dA trivial|skip
 rename_i elem
 have W:∀{base U:Option Addr}{sLen aa size:Nat}{c c':Array Value}{k:Nat},lX (AR m) base U->eD m c c'->dx P VR m
   (match base with|some a=>(do let r <-be (a.add (sLen*size)) c.toList;pure (Value.slice base k aa))|_=>pure (Value.slice base k aa))
   (match U with|some a=>(do let r <-be (a.add (sLen*size)) c'.toList;pure (Value.slice U k aa))|_=>pure (Value.slice U k aa)):=by
  intro base U sLen aa size c c' k hb O
  cases hb with
  |none=>exact .pure (.fE _ _)|some ha=>exact dF (lT (ha.add _) 0 O) λm' _ _ hl _=>.pure (.slice _ _ (ha.mono hl))
 have B:∀{old ab new ac:Array Value}{k cap q:Nat},eD m old ab->eD m new ac->dx P VR m
   (do let z <-aQ elem;let a <-ba elem (old++new++cQ z.cells q);pure (Value.slice (some a) k cap))
   (do let z <-aQ elem;let a <-ba elem (ab++ac++cQ z.cells q);pure (Value.slice (some a) k cap)):=by
  intro old ab new ac k cap q ho hn;exact fQ hP λz hz=>dF (RA:=Iy) (qc ((ho.append hn).append (rP hz.cells _))) λm' a a' _ ha=>.pure (.slice _ _ ha.1)
 cases hs<;>first|exact .dA trivial|skip
 rename_i l c;have hs:VR m (.slice none l c) (.slice none l c):=.fE l c;refine eM λsize=>?_;dsimp only
 cases ats[1]? with
 |none=>
  refine pT hx λn=>?_;refine dJ (λ_=>?_) (λ_=>?_);exact eB hx λc c' O=>W (sLen:=l) (size:=size) .none O;refine dS λY _=>dJ (λ_=>dV (e:=.error _) trivial) (λ_=>?_);refine dS λY _=>dJ (λ_=>?_) (λ_=>?_);exact .dA (ep.bind (mC λb=>by cases b<;>trivial));refine gJ λq=>dS λY _=>kP ?_;exact eB hs λo o' ho=>eB hx λc c' O=>B ho O
 |some xt=>
  refine dB λd2 _=>?_
  cases d2 with
  |int kk=>
   refine jI hx λnn=>?_;refine dJ (λ_=>dV (e:=.error _) trivial) (λ_=>?_);refine dS λY _=>dJ (λ_=>gJ λ_=>dV (e:=.error _) trivial) (λ_=>?_);refine dJ (λ_=>?_) (λ_=>?_);exact KZ hP λc c' O=>W (sLen:=l) (size:=size) .none O;refine dS λY _=>dJ (λ_=>dV (e:=.error _) trivial) (λ_=>?_);refine dS λY _=>dJ (λ_=>?_) (λ_=>?_);exact dV (e:=.error _) trivial;refine gJ λq=>dS λY _=>kP ?_;exact eB hs λo o' ho=>KZ hP λc c' O=>B ho O
  |_=>
   refine pT hx λn=>?_;refine dJ (λ_=>?_) (λ_=>?_);exact eB hx λc c' O=>W (sLen:=l) (size:=size) .none O;refine dS λY _=>dJ (λ_=>dV (e:=.error _) trivial) (λ_=>?_);refine dS λY _=>dJ (λ_=>?_) (λ_=>?_);exact .dA (ep.bind (mC λb=>by cases b<;>trivial));refine gJ λq=>dS λY _=>kP ?_;exact eB hs λo o' ho=>eB hx λc c' O=>B ho O
 rename_i a a' l c ha;have hs:VR m (.slice (some a) l c) (.slice (some a') l c):=.slice l c ha;refine eM λsize=>?_;dsimp only
 cases ats[1]? with
 |none=>
  refine pT hx λn=>?_;refine dJ (λ_=>?_) (λ_=>?_);exact eB hx λc c' O=>W (sLen:=l) (size:=size) (.some ha) O;refine dS λY _=>dJ (λ_=>dV (e:=.error _) trivial) (λ_=>?_);refine dS λY _=>dJ (λ_=>?_) (λ_=>?_);exact .dA (ep.bind (mC λb=>by cases b<;>trivial));refine gJ λq=>dS λY _=>kP ?_;exact eB hs λo o' ho=>eB hx λc c' O=>B ho O
 |some xt=>
  refine dB λd2 _=>?_
  cases d2 with
  |int kk=>
   refine jI hx λnn=>?_;refine dJ (λ_=>dV (e:=.error _) trivial) (λ_=>?_);refine dS λY _=>dJ (λ_=>gJ λ_=>dV (e:=.error _) trivial) (λ_=>?_);refine dJ (λ_=>?_) (λ_=>?_);exact KZ hP λc c' O=>W (sLen:=l) (size:=size) (.some ha) O;refine dS λY _=>dJ (λ_=>dV (e:=.error _) trivial) (λ_=>?_);refine dS λY _=>dJ (λ_=>?_) (λ_=>?_);exact dV (e:=.error _) trivial;refine gJ λq=>dS λY _=>kP ?_;exact eB hs λo o' ho=>KZ hP λc c' O=>B ho O
  |_=>
   refine pT hx λn=>?_;refine dJ (λ_=>?_) (λ_=>?_);exact eB hx λc c' O=>W (sLen:=l) (size:=size) (.some ha) O;refine dS λY _=>dJ (λ_=>dV (e:=.error _) trivial) (λ_=>?_);refine dS λY _=>dJ (λ_=>?_) (λ_=>?_);exact .dA (ep.bind (mC λb=>by cases b<;>trivial));refine gJ λq=>dS λY _=>kP ?_;exact eB hs λo o' ho=>eB hx λc c' O=>B ho O
end
variable {ats:Array aN} {args args':Array Value}
section
variable {P:Program} {m:Ren}
def Ud(h:eD m args args'):dx P VR m (cU ats t args) (cU ats t args'):=by
 unfold cU
 cases ats[0]? with
 |none=>exact .dA trivial|some st=>
 cases Y:args[0]? with
 |none=>exact .dA trivial|some s=>
 cases h1:args[1]? with
 |none=>exact .dA trivial|some x=>
 obtain⟨s',O,hs⟩:=h.get Y;obtain⟨x',U,B⟩:=h.get h1;rw[O,U];refine dB λd hd=>?_;cases d<;>first|exact .dA trivial|skip
 cases hs<;>first|exact .dA trivial|skip
 exact pT B λn=>eM λsz=>eB B λc c' W=>.pure (.int ..)
 rename_i ha;exact pT B λn=>eM λsz=>eB B λc c' W=>dF (lT ha 0 W) λm' _ _ _ _=>.pure (.int ..)
def sG(P:Program)(t:aN):Bool:=match P.underlying t with|some (.chan ..)=>false|_=>true
def UH(B:∀t,ats[0]?=some t->sG P t=true)(h:eD m args args'):dx P VR m (cY ats t args) (cY ats t args'):=by
 unfold cY
 cases U:ats[0]? with
 |none=>exact .dA trivial|some st=>
 cases W:args[0]? with
 |none=>exact .dA trivial|some s=>
 obtain⟨s',O,Y⟩:=h.get W;rw[O];have B:=B st U;refine dB λd hd=>?_;cases d<;>first|exact .dA trivial|exact .pure (.int ..)|skip
 refine dB λd2 _=>?_;cases d2<;>first|exact .dA trivial|exact .pure (.int ..)
 cases Y<;>first|exact .dA trivial|exact .pure (.int ..)
 simp[sG,hd]at B
def Vl(B:∀t,ats[0]?=some t->sG P t=true)(h:eD m args args'):dx P VR m (cX ats t args) (cX ats t args'):=by
 unfold cX
 cases ht:ats[0]? with
 |none=>exact .dA trivial|some st=>
 cases h0:args[0]? with
 |none=>exact .dA trivial|some s=>
 obtain⟨s',O,U⟩:=h.get h0;rw[O];have B:=B st ht;refine dB λd hd=>?_
 cases d with
 |array n e=>exact .pure (.int ..)|pointer e=>
  refine dB λd2 _=>?_;cases d2<;>first|exact .dA trivial|exact .pure (.int ..)
 |string=>cases U<;>first|exact .dA trivial|exact .pure (.int ..)
 |slice e=>cases U<;>first|exact .dA trivial|exact .pure (.int ..)
 |map k e=>
  cases U<;>first|exact .dA trivial|exact .pure (.int ..)|skip
  case gone=>exact .gone ‹_›
  rename_i hb;refine fS hb λo o' ho=>?_;cases ho<;>first|exact .dA trivial|skip
  rename_i W;have Y:=W.length;simp only[a5]at Y;dsimp only;rw[Y];exact .pure (.int ..)
 |chan a b=>simp[sG,hd]at B|_=>exact .dA trivial
def Rj(U:mJ P)(h:eD m args args'):dx P VR m (cT ats t args) (cT ats t args'):=by
 have fin:∀m',dx P VR m' .. := λm'=>.pure (.undef m');unfold cT
 cases ht:ats[0]? with
 |none=>exact .dA trivial|some st=>
 cases W:args[0]? with
 |none=>exact .dA trivial|some s=>
 obtain⟨s',B,Y⟩:=h.get W;rw[B];refine dB λd O=>?_
 cases Y with
 |mQ=>exact fin m|fE l c=>exact fin m|map hb=>
  refine fS hb λo o' ho=>?_;cases ho<;>first|exact .dA trivial|exact jR hb (.map _ .nil) np (fin m)
 |gone O=>exact .gone O|slice l c ha=>
  cases l with
  |zero=>exact fin m|succ l=>
   cases d<;>first|exact .dA trivial|skip
   exact fQ U λz hz=>dF (lT ha 0 (rP hz.cells _)) λm' _ _ _ _=>fin m'
 |_=>exact .dA trivial
def Tk(O:VR m x x')(B:VR m y y'):dx P VR m (dj x y) (dj x' y'):=by
 cases O with
 |int k n=>cases B<;>first|exact .dA trivial|exact .pure (.int ..)
 |string s=>
  cases B with
  |string t=>exact .pure (.string _)|_=>exact .dA trivial
 |ptr U=>exact .dA trivial|_=>cases B<;>exact .dA trivial
def T6(O:VR m x x')(B:VR m y y'):dx P VR m (di x y) (di x' y'):=by
 cases O with
 |int k n=>cases B<;>first|exact .dA trivial|exact .pure (.int ..)
 |string s=>
  cases B with
  |string t=>exact .pure (.string _)|_=>exact .dA trivial
 |ptr U=>exact .dA trivial|_=>cases B<;>exact .dA trivial
def zV{g:Value->Value->Sem Value}(U:∀m x x' y y',VR m x x'->VR m y y'->dx P VR m (g x y) (g x' y')):∀{l l':List Value}{m:Ren}{x x':Value},dT (VR m) l l'->VR m x x'->dx P VR m (l.foldlM g x) (l'.foldlM g x')
 |_,_,m,_,_,.nil,B=>.pure B|_,_,m,_,_,.cons W h,B=>by
  exact dF (U m _ _ _ _ B W) λm' a b Y O=>zV U (h.mono λ_ _ z=>z.mono Y) O
def Uw(h:eD m args args'):dx P VR m (cW ats t args) (cW ats t args'):=by
 unfold cW;unfold eD at h;revert h;generalize args.toList=l;generalize args'.toList=l';intro h
 cases h with
 |nil=>exact .dA trivial|cons B h=>exact zV (λm x x' y y'=>Tk) h B
def Vh(h:eD m args args'):dx P VR m (cV ats t args) (cV ats t args'):=by
 unfold cV;unfold eD at h;revert h;generalize args.toList=l;generalize args'.toList=l';intro h
 cases h with
 |nil=>exact .dA trivial|cons B h=>exact zV (λm x x' y y'=>T6) h B
def wU:∀(n:Nat){a a':Addr}(acc:ByteArray),AR m a a'->dx P xV m (bh a acc n) (bh a' acc n)
 |0,_,_,_,_=>.pure rfl|n+1,a,a',acc,B=>by
  unfold bh;refine DW B λv v' O=>?_
  cases O with
  |int k x=>cases k<;>first|exact .dA trivial|exact wU n _ (B.add 1)
  |_=>exact .dA trivial
def Bj{γ δ:Type}{RB:Ren->γ->δ->Prop}{a a':Addr}(B:AR m a a'){u:aN}{n:Nat}{f:Bool->Sem γ}{f':Bool->Sem δ}(h:∀b,dx P RB m (f b) (f' b)):dx P RB m (b4 a u n >>= f) (b4 a' u n >>= f'):=by
 refine gZ (jO B.blk λx=>?_);rw[B.off];cases x<;>exact h _
def Aq(Y:gL m)(hx:VR m x x')(U:VR m y y'):dx P VR m (cZ ats t #[x,y]) (cZ ats t #[x',y']):=by
 cases hx<;>first|exact .dA trivial|skip
 refine jI U λn=>?_
 cases ats[0]? with
 |none=>exact .dA trivial|some pt=>
  refine dJ (λ_=>dV (e:=.error _) trivial) (λ_=>dJ (λ_=>.dA trivial) (λ_=>dJ (λ_=>.pure (.string _)) (λ_=>fC (e:=.error _) trivial)))
 rename_i B;refine jI U λn=>?_
 cases ats[0]? with
 |none=>exact .dA trivial|some pt=>
  refine dJ (λ_=>dV (e:=.error _) trivial) (λ_=>dJ (λ_=>.dA trivial) (λ_=>dJ (λ_=>.pure (.string _)) (λ_=>?_)));refine Gx λet=>Bj B λb=>dJ (λ_=>?_) (λ_=>.dA trivial);refine dF (wU _ _ B) λm' s s' W O=>?_;cases O;exact dx.freeze (B.mono W) (Y.mono W _) (.pure (.string _))
def Eo(P:Program)(s d:aN):Bool:=match P.underlying s,P.underlying d with
 |some (.int _),some (.int _)=>true|some .string,some (.slice e)=>(match P.underlying e with|some (.int .u8)=>true|_=>false)
 |some (.slice e),some .string=>(match P.underlying e with|some (.int .u8)=>true|_=>false)
 |_,_=>false
def Mh{s d:aN}(ho:Eo P s d=true)(O:VR m x x'):dx P VR m (convert s d x) (convert s d x'):=by
 unfold Eo at ho;unfold convert;refine dB λd1 Y=>dB λd2 h2=>?_;rw[Y,h2]at ho;cases d1<;>cases d2<;>first|(simp at ho;done)|skip
 cases O<;>first|exact .dA trivial|exact .pure (.int _ _)
 .rename_i e;cases O<;>first|exact .dA trivial|skip
  refine dB λd3 B=>?_;simp only[B]at ho;cases d3<;>first|exact .dA trivial|skip
  rename_i k;cases k<;>first|exact .dA trivial|exact xT|(simp at ho;done)
 rename_i e
 have W:P.underlying e=some (.int .u8):=by
  simp only at ho;revert ho
  cases P.underlying e with
  |none=>intro ho;cases ho
  |some d3=>
   cases d3<;>intro ho<;>first|(cases ho;done)|skip
   rename_i k;cases k<;>first|(cases ho;done)|rfl
 have fin:∀{y y':Value},VR m y y'->dx P VR m (aT e >>= λd=>match d with|.int .u8=>g8 y|.int .i32=>gA y|_=>stuck "Convert: a slice of what to string?") (aT e >>= λd=>match d with|.int .u8=>g8 y'|.int .i32=>gA y'|_=>stuck "Convert: a slice of what to string?"):=by
  intro y y' hy;refine dB λd3 B=>?_;rw[W]at B;cases B;exact xA hy
 cases O with
 |int k n=>exact .pure (.string _)|string s=>exact .pure (.string _)|fV v hv=>
  refine .dA ?_;show ep P ((match P.underlying e with|some d=>pure d|none=>stuck _) >>= _);rw[W];trivial
 |fE l c=>exact fin (.fE l c)|slice l c U=>exact fin (.slice l c U)|bool b=>exact fin (.bool b)|gR=>exact fin .gR|ptr U=>exact fin (.ptr U)|mQ=>exact fin .mQ|map hb=>exact fin (.map hb)|gone hb=>exact fin (.gone hb)|je=>exact fin .je|chan hb=>exact fin (.chan hb)|func a b c d e=>exact fin (.func a b c d e)|ri a b c=>exact fin (.ri a b c)|nilFunc=>exact fin .nilFunc|iface t h=>exact fin (.iface t h)|nilIface=>exact fin .nilIface|agg a b=>exact fin (.agg a b)|tuple a b=>exact fin (.tuple a b)
end
end
section
variable {args args':Array Value} {m':Ren} {α:Type}
structure CN(m:Ren)(c c':CommCase):Prop where
 chan:VR m c.chan c'.chan
 send:lX (VR m) c.send c'.send
 zero:VR m c.zero c'.zero
def KW(c:Array CommCase)(b:Bool)(s:CommShape):Prop:=b=true/\s=.send/\∃ch v z,c=#[{chan:=ch,send:=some v,zero:=z}]
inductive gW(P:Program)(m:Ren):Go.Next->Go.Next->Prop
 |value {v v'}:VR m v v'->gW P m (.value v) (.value v')|skip:gW P m .skip .skip|enter {f a a'}:m.fF f->(∃fn c,P.funcs[f]?=some fn/\fn.body=some c)->eD m a a'->gW P m (.enter f a) (.enter f a')|round {l l' f t t' a b}:m.blk l=some l'->eD m t t'->fR m.ok a->fR m.ok b->gW P m (.round l f t a b) (.round l' f t' a b)|defer {d d'}:DR m d d'->gW P m (.defer d) (.defer d')|recover:gW P m .recover .recover|spawn {d d'}:m.iq->DR m d d'->gW P m (.spawn d) (.spawn d')|comm {c c'} (b s):m.iq\/KW c b s->dT (CN m) c.toList c'.toList->gW P m (.comm c b s) (.comm c' b s)
section
variable {P:Program} {m:Ren}
def Kr(O:gL m){ps rs:Array aN}(h:eD m args args'):dx P VR m (gB ps rs args) (gB ps rs args'):=by
 obtain⟨l⟩:=args;obtain⟨l'⟩:=args';unfold eD at h;simp only at h
 cases h with
 |nil=>exact .dA trivial|cons U h=>
 cases h with
 |nil=>cases U<;>exact .dA trivial
 |cons W h=>
 cases h with
 |cons hz h=>cases U<;>first|exact .dA trivial|(cases W<;>exact .dA trivial)
 |nil=>
 cases U<;>first|exact .dA trivial|(cases W<;>first|exact .dA trivial|skip)
 all_goals
  unfold gB;dsimp only;cases ps[0]?<;>first|exact .dA trivial|skip
  refine dB λd hd=>?_;cases d<;>first|exact .dA trivial|skip
  refine eM λsz=>?_
  first|exact .pure (.bool _)|skip
 rename_i a a' la ca B b b' lb cb hb st e;have Y:(a.block==b.block)=(a'.block==b'.block):=by rw[dq];simp only[beq_iff_eq];exact B.sf hb
 have e0:(a.block != b.block)=(a'.block != b'.block):=by simp only[bne,Y]
 dsimp only;rw[Y,e0,B.off,hb.off];refine dJ (λ_=>.pure (.bool _)) (λ_=>?_);refine nw B (O _) λx=>nw hb (O _) λy=>dJ (λ_=>.dA trivial) (λ_=>dJ (λ_=>?_) (λ_=>.pure (.bool _)));exact rU B (rU hb (za O B hb λx=>dJ (λ_=>gJ λn=>.pure (.bool _)) (λ_=>.pure (.bool _))))
def ur:∀(n:Nat){a a':Addr}(acc:ByteArray),AR m a a'->dx P xV m (hj a n acc) (hj a' n acc)
 |0,_,_,_,_=>.pure rfl|n+1,a,a',acc,B=>by
  unfold hj;refine DW B λv v' O=>?_
  cases O with
  |int k x=>cases k<;>first|exact .dA trivial|exact ur n _ (B.add 1)
  |_=>exact .dA trivial
def CE{x x':Value}(B:VR m x x'):dx P xV m (h9 x) (h9 x'):=by
 cases B<;>first|exact .dA trivial|exact .pure rfl|exact ur _ _ ‹_›
def NE(h:eD m args args'):dx P VR m (Extern.BytealgCompare.compare args) (Extern.BytealgCompare.compare args'):=by
 obtain⟨l⟩:=args;obtain⟨l'⟩:=args'
 cases h with
 |nil=>exact .dA trivial|cons U h=>
 cases h with
 |nil=>exact .dA trivial|cons W h=>
 cases h with
 |cons hz h=>exact .dA trivial|nil=>
 refine dF (CE U) λm' a b O B=>?_;cases B;refine dF (CE (W.mono O)) λY a b O B=>?_;cases B;exact .pure (.int ..)
def nJ(P:Program)(m:Ren)(f:aX):Prop:=
 ∃fn,P.funcs[f]?=some fn/\fn.name≠ "runtime.NumGoroutine"/\
  ((∃c,fn.body=some c/\fR m.ok c)\/(fn.body=none/\Extern.findNext fn=none/\∃e,Extern.find fn=some e/\∀m' args args',m.Le m'->eD m' args args'->dx P VR m' (e args) (e args')))
def nJ.mono(h:m.Le m'){f:aX}(x:nJ P m f):nJ P m' f:=by
 obtain⟨fn,U,W,Y⟩:=x;refine⟨fn,U,W,?_⟩;rcases Y with⟨c,B,h5⟩|⟨B,h5,e,h6,h7⟩
 exact .inl ⟨c,B,h.ok▸h5⟩;exact .inr ⟨B,h5,e,h6,λO a a' hl=>h7 O a a' (h.trans hl)⟩
def Jx{f:aX}(U:m.fF f)(W:nJ P m f)(h:eD m args args'):dx P (gW P) m (callFunc f args) (callFunc f args'):=by
 obtain⟨fn,O,Y,h3⟩:=W;refine gZ ?_;rw[O];dsimp only;have e2:(fn.name == "runtime.NumGoroutine")=false:=by simpa using Y
 rw[e2];rcases h3 with⟨c,B,h5⟩|⟨B,h5,e,h6,h7⟩
 rw[B];exact .pure (.enter U ⟨fn,c,O,B⟩ h);rw[B,h5,h6];refine dx.mark trivial ?_;show dx P _ m (e args >>= λv=>pure _) (e args' >>= λv=>pure _);exact dF (h7 m args args' (.refl m) h) λm' v v' _ hv=>dx.pure (gW.value hv)
structure ug(P:Program)(m:Ren):Prop where
 prog:mJ P
 G:m.G=P.globals.size
 calls:∀f,m.fF f->nJ P m f
 T4:P.follows .rangeFuncRecover=true
def ug.mono(h:m.Le m')(x:ug P m):ug P m':=⟨x.prog,h.G.trans x.G,λf B=>(x.calls f (h.fF▸B)).mono h,x.T4⟩
def RM{l l':Nat}(O:m.blk l=some l')(h:eD m args args'):dx P (gW P) m (bQ l args) (bQ l' args'):=by
 unfold bQ bO;simp only[bind_assoc];refine fS O λo o' W=>?_;cases W<;>first|exact .dA trivial|skip
 rename_i p p' B;have e:∀(q:Loop)(k:Loop->Sem Go.Next),(pure q >>= k)=k q:=λq k=>rfl;simp only[e];rw[<-B.params,<-h.size,<-B.fn,<-B.assign,<-B.body];refine dJ (λ_=>.dA trivial) (λ_=>.pure (.round O ?_ B.Ul B.xH))
 have key:∀(ps:List Tmp){l l':List Value}{t t':Array Value},dT (VR m) l l'->eD m t t'->eD m ((ps.zip l).foldl (λtmps x=>tmps.setIfInBounds x.1 x.2) t) ((ps.zip l').foldl (λtmps x=>tmps.setIfInBounds x.1 x.2) t'):=by
  intro ps;induction ps with
  |nil=>simpa using U|cons p ps Y=>
   intro l l' t t' O U
   cases O with
   |nil=>simpa using U|cons hv O=>simpa using Y O (U.set p hv)
 have:=key p.params.toList h B.tmps;rw[<-a7,<-a7,aK,aK];exact this
def Pq(O:mJ P)(t:aN)(x:Value)(k:aX×Value->Sem α):ep P (program >>= λp=>b3 (p.types.size+Made.depth) t x "" >>= k):=by
 unfold b3 bq
 cases hi:P.info? t with
 |none=>
  show ep P ((((match P.info? t with|some i=>pure i|none=>stuck _) >>= _) >>= _));rw[hi];trivial
 |some i=>
  have U:=O.VT t i hi;show ep P ((((match P.info? t with|some i=>pure i|none=>stuck _) >>= _) >>= _));rw[hi];have W:∀{β:Type}(B:TypeInfo->Sem β),((match some i with|some i=>pure i|none=>stuck "no such type") >>= B)=B i:=λ_=>rfl;rw[W];simp only[U];trivial
def S8(O:mJ P)(t:aN)(x:Value)(k:Option Bool->Sem α):ep P (program >>= λp=>bv (p.types.size+Made.depth) t x "" >>= k):=by
 unfold bv bq
 cases hi:P.info? t with
 |none=>
  show ep P ((((match P.info? t with|some i=>pure i|none=>stuck _) >>= _) >>= _));rw[hi];trivial
 |some i=>
  have U:=O.VT t i hi;show ep P ((((match P.info? t with|some i=>pure i|none=>stuck _) >>= _) >>= _));rw[hi];have W:∀{β:Type}(B:TypeInfo->Sem β),((match some i with|some i=>pure i|none=>stuck "no such type") >>= B)=B i:=λ_=>rfl;rw[W];simp only[U];trivial
def rH(U:ug P m){t t':Target}(W:TR m t t')(Y:∀b x y z,t≠.builtin b x y z)(h:eD m args args'):dx P (gW P) m (invoke t args) (invoke t' args'):=by
 cases W with
 |nil=>exact fC (e:=.nilDeref) trivial|collected _=>exact .dA trivial|mark _ _ _ _=>exact .dA trivial|builtin x y z hm=>exact absurd rfl (Y _ x y z)|fn B=>
  rcases B with⟨B,hc⟩|⟨rfl,n,rfl⟩
  cases B with
  |func f B=>exact Jx B (U.calls f B) (h.append hc)|yield hl=>exact RM hl h
  unfold invoke
  cases ha:args[0]? with
  |none=>exact .dA trivial|some x=>
   obtain⟨x',O,hx⟩:=h.get ha;rw[O]
   cases hx with
   |nilIface=>exact fC (e:=.nilDeref) trivial|iface t hv=>exact .dA (Pq U.prog t ..)|_=>exact .dA trivial
def dQ(fF:aX->Prop)(gl:Nat->Prop):Operand->Prop
 |.tmp _=>True|.const v=>Plain v|.global g=>gl g|.func f=>fF f
def vh(P:Program)(st:Bool)(ats:Array aN)(n:Nat):Builtin->Prop
 |.append|.clear|.copy|.max|.min|.recover=>True|.cap|.len=>∀t,ats[0]?=some t->sG P t=true|.unsafeString=>st=true/\n=2|.close=>True|_=>False
def Q5(P:Program)(st:Bool)(t:aN):Prop:=∀k e,P.underlying t=some (.map k e)->qT P 10000 k=true/\(st=true\/oh P c6 k=true)
def isNil:Operand->Bool
 |.const (.pointer none)|.const .nilIface=>true|_=>false
def U8(P:Program)(st:Bool)(t:aN)(y:Operand):Prop:=st=true\/oh P c6 t=true\/(isNil y=true/\∀d,P.underlying t=some d->(∃e,d=.pointer e)\/(∃e,d=.interface e))
def OkOp(P:Program)(fF:aX->Prop)(gl:Nat->Prop)(st:Bool)(op:Op):Prop:=
 (∀x∈op.operands.toList,dQ fF gl x)/\match op with
 |.move _|.assign _|.pick ..|.alloc _|.box ..|.build ..|.buildSlice ..|.load ..|.store ..|.nilCheck _|.unOp ..|.makeInterface ..|.makeMap ..|.makeSlice ..|.slice ..|.fieldAddr ..|.field ..|.indexAddr ..|.index ..|.entryStore ..|.range ..|.next ..|.entry _|.extract ..|.panic _|.send .. => True|.select .. => False|.makeChan .. => False|.binOp o t _ y _=>o=.eql\/o=.neq->U8 P st t y|.convert s d _=>Eo P s d=true|.makeFunc (.func f) _ _=>fF f|.lookup t ..|.mapUpdate t ..|.mapEntry t .. => Q5 P st t|.typeAssert _ _ _ ok=>ok=true|.call c=>match c.callee with
  |.value _=>True|.builtin b=>vh P st c.argTypes c.args.size b/\b≠.close|.invoke .. => False
 |.go c=>False/\match c.callee with
  |.value _=>True|_=>False
 |.defer c=>match c.callee with
  |.value _=>True|.builtin b=>b=.close/\False|_=>False
 |_=>False
end
variable {fF:aX->Prop} {gl:Nat->Prop} {ρ ρ':Operand->Value} {t:aN} {x x' y:Value}
section
variable {P:Program} {m:Ren}
def oE:∀(d:Nat)(m:Ren)(t:aN){x x' y y':Value},VR m x x'->VR m y y'->dx P xV m (c8 d t x y) (c8 d t x' y')
 |0,m,t,_,_,_,_,_,_=>.dA trivial
 |d+1,m,t,x,x',y,y',W,Y=>by
  unfold c8
  refine dB λde hd=>?_
  cases de with
  |interface ms=>
   cases W with
   |nilIface=>cases Y with
    |fV v B=>cases y'<;>first|exact .pure rfl|exact B.elim
    |_=>exact .pure rfl
   |fV v B=>cases x'<;>first|exact .pure rfl|exact B.elim
   |_=>exact .pure rfl
  |struct fs=>
   cases W with
   |agg h1 h2=>
    cases Y with
    |agg h3 h4=>
     refine dF (RA:=xV) (pj _ _ λm' f s hf U=>dJ (λ_=>?_) (λ_=>.pure rfl)) λm' a b _ O=>?_
     .refine dF (mM ((eD.il h1 h2).mono U) _) λm1 u u' l1 hu=>dF (mM ((eD.il h3 h4).mono (U.trans l1)) _) λm2 v v' l2 B=>?_
      refine dF (oE d m2 _ (hu.mono l2) B) λm3 a b _ O=>?_
      cases O
      exact dJ (λ_=>.pure rfl) (λ_=>.pure rfl)
     .cases O
      obtain⟨o,_⟩:=a
      cases o<;>exact .pure rfl
    |fV v B=>cases y'<;>first|exact .pure rfl|exact B.elim
    |_=>exact .pure rfl
   |fV v B=>cases x'<;>first|exact .pure rfl|exact B.elim
   |_=>exact .pure rfl
  |array n e=>
   cases W with
   |agg h1 h2=>
    cases Y with
    |agg h3 h4=>
     refine eM λsz=>?_;refine dF (RA:=xV) (pa _ _ λm' i s U=>?_) λm' a b _ O=>?_;refine dF (mM ((eD.il h1 h2).mono U) _) λm1 u u' l1 hu=>dF (mM ((eD.il h3 h4).mono (U.trans l1)) _) λm2 v v' l2 B=>?_;refine dF (oE d m2 _ (hu.mono l2) B) λm3 a b _ O=>?_;cases O;exact dJ (λ_=>.pure rfl) (λ_=>.pure rfl)
     cases O;obtain⟨o,_⟩:=a;cases o<;>exact .pure rfl
    |fV v B=>cases y'<;>first|exact .pure rfl|exact B.elim
    |_=>exact .pure rfl
   |fV v B=>cases x'<;>first|exact .pure rfl|exact B.elim
   |_=>exact .pure rfl
  |_=>exact .pure rfl
def NI(op:BinOp)(t:aN)(p q:Operand){y':Value}(W:VR m x x')(U:VR m y y'):dx P yR m (eqGuard op t p q x y) (eqGuard op t p q x' y'):=by
 refine dJ (λ_=>.pure trivial) (λ_=>?_)
 cases W with
 |nilIface=>
  cases U with
  |nilIface=>
   refine dJ (λ_=>.pure trivial) (λ_=>?_);refine dF (oE _ m t .nilIface .nilIface) λm' a b _ B=>?_;cases B;exact dJ (λ_=>.dA trivial) (λ_=>.pure trivial)
  |fV v O=>cases y'<;>first|exact .pure trivial|exact O.elim
  |_=>exact .pure trivial
 |agg Y h2=>
  cases U with
  |agg h3 h4=>
   refine gZ (gZ (dJ (λ_=>.pure trivial) (λ_=>?_)));refine dF (oE _ m t (.agg Y h2) (.agg h3 h4)) λm' a b _ B=>?_;cases B;exact dJ (λ_=>.dA trivial) (λ_=>.pure trivial)
  |fV v O=>cases y'<;>first|exact .pure trivial|exact O.elim
  |_=>exact .pure trivial
 |fV v O=>cases x'<;>first|exact .pure trivial|exact O.elim
 |_=>exact .pure trivial
def Ik(B:∀d,P.underlying t=some d->(∃e,d=.pointer e)\/(∃e,d=.interface e))(O:VR m x x')(U:y=.pointer none\/y=.nilIface):dx P xV m (c5 t x y) (c5 t x' y):=by
 refine dB λd h=>?_;rcases B d h with⟨e,rfl⟩|⟨e,rfl⟩<;>rcases U with rfl|rfl<;>cases O<;>first|exact .dA trivial|exact .pure rfl
def GO(op:BinOp)(Y:op=.eql\/op=.neq)(hd:∀d,P.underlying t=some d->(∃e,d=.pointer e)\/(∃e,d=.interface e))(hx:VR m x x')(O:y=.pointer none\/y=.nilIface):dx P VR m (binOp op t x y) (binOp op t x' y):=by
 have h:=Ik hd hx O
 have U:∀z,binOp .eql t z y=(do pure (.bool (<-c5 t z y))):=by
  intro z;rcases O with rfl|rfl<;>cases z<;>rfl
 have W:∀z,binOp .neq t z y=(do pure (.bool (!(<-c5 t z y)))):=by
  intro z;rcases O with rfl|rfl<;>cases z<;>rfl
 rcases Y with rfl|rfl
 rw[U,U];exact dF h λm' a b _ B=>by cases B;exact .pure (.bool _)
 rw[W,W];exact dF h λm' a b _ B=>by cases B;exact .pure (.bool _)
def kO(B:∀x,dQ fF gl x->VR m (ρ x) (ρ' x)){a:Array Operand}(h:∀x∈a.toList,dQ fF gl x):eD m (a.map ρ) (a.map ρ'):=by
 unfold eD;simp only[a4];generalize a.toList=l at h;induction l with
 |nil=>exact .nil|cons x l O=>exact .cons (B x (h x (by simp))) (O λy U=>h y (by simp[U]))
def A2(B:∀x,dQ fF gl x->VR m (ρ x) (ρ' x)){o:Option Operand}(h:∀x,o=some x->dQ fF gl x):lX (VR m) (o.map ρ) (o.map ρ'):=by
 cases o with
 |none=>exact .none|some x=>exact .some (B x (h x rfl))
def Fj(B:∀x,dQ fF gl x->VR m (ρ x) (ρ' x)){a:Array (Nat×Operand)}(h:∀x∈a.toList.map (·.2),dQ fF gl x) :
  dT (KF m) (a.map λ(i,x)=>(i,ρ x)).toList (a.map λ(i,x)=>(i,ρ' x)).toList:=by
 simp only[a4];generalize a.toList=l at h;induction l with
 |nil=>exact .nil|cons x l O=>exact .cons ⟨rfl,B _ (h _ (by simp))⟩ (O λy U=>h y (by simp only[List.map_cons,gd];exact .inr U))
def IZ(hP:mJ P)(hx:VR m x x'){a:Operand}(e:ρ a=x)(e':ρ' a=x'){d:Option Tmp}{p:String}{af:Array Edge}{g:Option (Nat×Bool)} :
  dx P (gW P) m (bo ρ ⟨d,.nilCheck a,t,p,af,g⟩) (bo ρ' ⟨d,.nilCheck a,t,p,af,g⟩):=by
 unfold bo;dsimp only;rw[e,e']
 cases hx with
 |gR=>exact fC (e:=.nilDeref) trivial|nilIface=>exact fC (e:=.nilDeref) trivial|nilFunc=>exact fC (e:=.nilDeref) trivial|@ri lf n f c U W Y=>
  dsimp only;have hA:eD m lf f:=eD.il U W
  cases O:lf[0]? with
  |none=>
   rw[hA.get_none O];exact .pure (.value (.ri U W Y))
  |some y=>
   obtain⟨y',aa,hy⟩:=hA.get O;rw[aa]
   have ab:∀t u,y'=.iface t u->∃z,y=.iface t z:=λt u e=>by
    obtain⟨z,hz⟩:=Y t u (by rw[aa,e]);rw[O]at hz;exact⟨z,gi hz⟩
   cases hy with
   |nilIface=>exact fC (e:=.nilDeref) trivial|iface t B=>exact .dA (S8 hP t _ _)|fV v B=>
    have:∀t u,y'≠.iface t u:=λt u e=>by obtain⟨z,hz⟩:=ab t u e;cases hz
    cases y'<;>first|exact B.elim|exact absurd rfl (this _ _)|exact .pure (.value (.ri U W Y))
   |_=>exact .pure (.value (.ri U W Y))
 |func hf U W Y h4=>cases hf<;>exact .pure (.value (.func (by first|exact .func _ ‹_›|exact .yield ‹_›) U W Y h4))
 |fV v B=>cases x'<;>first|exact .pure (.value (.fV _ B))|exact B.elim|(rename_i q;cases q<;>first|exact .pure (.value (.fV _ B))|exact B.elim)|(rename_i q _ _;cases q<;>first|exact .pure (.value (.fV _ B))|exact B.elim|exact .dA trivial)
 |bool b=>exact .pure (.value (.bool b))|int k n=>exact .pure (.value (.int k n))|string s=>exact .pure (.value (.string s))|ptr O=>exact .pure (.value (.ptr O))|fE l c=>exact .pure (.value (.fE l c))|slice l c O=>exact .pure (.value (.slice l c O))|mQ=>exact .pure (.value .mQ)|map h=>exact .pure (.value (.map h))|gone h=>exact .pure (.value (.gone h))|je=>exact .pure (.value .je)|chan h=>exact .pure (.value (.chan h))|iface t h=>exact .pure (.value (.iface t h))|agg a b=>exact .pure (.value (.agg a b))|tuple a b=>exact .pure (.value (.tuple a b))
def pC{f f':Value}(hf:VR m f f'){a a':Array Value}(B:eD m a a'):dx P (λm d d'=>DR m d d'/\∀b x y z,d.target≠.builtin b x y z) m (Deferred.ofValue f a) (Deferred.ofValue f' a'):=by
 cases hf<;>first|exact .dA trivial|skip
 rename_i O U Y W h4;exact .pure ⟨⟨.fn (.inl ⟨O,.il W h4⟩),(eD.il U Y).append B⟩,nofun⟩;exact .pure ⟨⟨.nil,B⟩,nofun⟩;rename_i W U Y;exact .pure ⟨⟨.fn (.inr ⟨rfl,_,rfl⟩),(eD.il W U).append B⟩,nofun⟩
def tT{α β:Type}{Q:Ren->β->β->Prop}(hm:∀m m' a b,m.Le m'->Q m a b->Q m' a b){g g':α->Sem β}:∀(l:List α)(m:Ren),(∀x∈l,∀m',m.Le m'->dx P Q m' (g x) (g' x))->dx P (λm=>dT (Q m)) m (l.mapM g) (l.mapM g')
 |[],m,_=>.pure .nil|x::l,m,O=>by
  simp only[gc];exact dF (O x (by simp) m (.refl m)) λm' a b B h=>dF (tT hm l m' λy U W Y=>O y (by simp[U]) W (B.trans Y)) λaa c d B hc=>.pure (.cons (hm _ _ _ _ B h) hc)
def CN.mono{m m':Ren}(h:m.Le m'){a b:CommCase}(x:CN m a b):CN m' a b:=⟨x.chan.mono h,x.send.mono λ_ _ y=>y.mono h,x.zero.mono h⟩
end
section
variable {P:Program} {m:Ren}
def sS{s s':Sem Value}(h:dx P VR m s s'):lG P (gW P) m (do pure (.value (<-s))) (do pure (.value (<-s'))):=.base (dF h λ_ _ _ _ B=>.pure (.value B))
def VA{s s':Sem Unit}(h:dx P yR m s s'):lG P (gW P) m (do s;pure .skip) (do s';pure .skip):=.base (dF h λ_ _ _ _ _=>.pure .skip)
def Ni(W:ug P m){st:Bool}(O:st=true->gL m){b:Builtin}{ats:Array aN}{t:aN}{cs:Array Bool}{args args':Array Value}(h:eD m args args')(B:vh P st ats args.size b)(hc:b≠.close):lG P (gW P) m (builtin b ats t cs args) (builtin b ats t cs args'):=by
 cases b<;>simp only[vh]at B<;>first|exact B.elim|exact absurd rfl hc|skip
 exact sS (QM W.prog h);exact sS (UH B h);exact sS (Rj W.prog h);exact sS (Ud h);exact sS (Vl B h);exact sS (Uw h);exact sS (Vh h);exact .base (.pure .recover);obtain⟨h1,Y⟩:=B;have U:args'.size=2:=by rw[<-h.size];exact Y
 obtain⟨x,y,rfl⟩:∃x y,args=#[x,y]:=by
  obtain⟨l⟩:=args;match l,Y with
  |[x,y],_=>exact⟨x,y,rfl⟩
 obtain⟨x',y',rfl⟩:∃x y,args'=#[x,y]:=by
  obtain⟨l⟩:=args';match l,U with
  |[x,y],_=>exact⟨x,y,rfl⟩
 cases h with
 |cons hx h=>cases h with
  |cons hy h=>exact sS (Aq (O h1) hx hy)
def Ih(hE:ug P m){st:Bool}(ac:st=true->gL m)(ab:False->m.iq){gl:Nat->Prop}{ρ ρ':Operand->Value}(W:∀x,dQ m.fF gl x->VR m (ρ x) (ρ' x))(ad:∀c,ρ (.const c)=c/\ρ' (.const c)=c)(o:Oper)(ho:OkOp P m.fF gl st o.op):lG P (gW P) m (bo ρ o) (bo ρ' o):=by
 obtain⟨ah,op,ag,pos,after,guard⟩:=o;obtain⟨O,U⟩:=ho;have B:∀x,x∈op.operands.toList->VR m (ρ x) (ρ' x):=λx Y=>W x (O x Y);have aa:∀t,Q5 P st t->∀k e,P.underlying t=some (.map k e)->qT P 10000 k=true/\(gL m\/oh P c6 k=true):=λt h k e hd=>⟨(h k e hd).1,(h k e hd).2.imp ac id⟩
 cases op with
 |move x=>exact .base (.pure (.value (B x (by simp[c4]))))|assign x=>exact .base (.pure (.value (B x (by simp[c4]))))|pick c a b=>
  refine .base (My (B c (by simp[c4])) λt=>.pure (.value ?_));cases t;exact B b (by simp[c4]);exact B a (by simp[c4])
 |alloc e=>exact sS (Rw hE.prog)|box e x=>exact sS (Uu (B x (by simp[c4])))|build t ps=>exact sS (RY hE.prog (Fj W (by simpa[c4]using O)))|buildSlice t n ps=>exact sS (Es hE.prog (Fj W (by simpa[c4]using O)))|load t x=>exact sS (PP (B x (by simp[c4])))|store t x y=>exact VA (NJ (B x (by simp[c4])) (B y (by simp[c4])))|nilCheck x=>exact .base (IZ hE.prog (B x (by simp[c4])) rfl rfl)|binOp o t x y yt=>
  refine sS (dF (NI o t x y (B x (by simp[c4])) (B y (by simp[c4]))) λm' _ _ hl _=>?_);have Y:=(B x (by simp[c4])).mono hl;have hy:=(B y (by simp[c4])).mono hl;by_cases hq:o=.eql\/o=.neq
  .rcases U hq with h|h|⟨h,hd⟩
   exact DU o (hl.G.trans hE.G) (λ_=>.inl ((ac h).mono hl)) Y hy;exact DU o (hl.G.trans hE.G) (λ_=>.inr h) Y hy
   cases y with
   |const c=>
    obtain⟨e1,e2⟩:=ad c;rw[e1,e2]
    have hc:c=.pointer none\/c=.nilIface:=by
     cases c<;>first|cases h;done|exact .inr rfl|skip
     rename_i p;cases p;exact .inl rfl
     cases h
    exact GO o hq hd Y hc
   |_=>cases h
  exact DU o (hl.G.trans hE.G) (λh=>absurd h hq) Y hy
 |unOp o t x=>exact sS (RD o (B x (by simp[c4])))|convert s d x=>exact sS (Mh U (B x (by simp[c4])))|makeInterface t x=>exact sS (xR (B x (by simp[c4])))|makeFunc f a b=>
  cases f<;>simp only at U<;>first|exact U.elim|skip
  exact sS (JM U (kO W λx Y=>O x (by simp[c4];exact .inl (by simpa using Y))) (kO W λx Y=>O x (by simp[c4];exact .inr (by simpa using Y))))
 |makeMap t r=>exact sS (MU (A2 W λx Y=>O x (by simp[c4,Y])))|makeChan t s=>exact sS (Jz (ab U) (B s (by simp[c4])))|makeSlice t l c=>exact sS (G7 hE.prog (B l (by simp[c4])) (B c (by simp[c4])))|slice t x l h mx=>exact sS (NA (B x (by simp[c4])) (A2 W λy hy=>O y (by simp[c4,hy])) (A2 W λy hy=>O y (by simp[c4,hy])) (A2 W λy hy=>O y (by simp[c4,hy])))|fieldAddr t x f=>exact sS (Mw (B x (by simp[c4])) f)|field t x f=>exact sS (RQ (B x (by simp[c4])) f)|indexAddr t x i=>exact sS (Na (B x (by simp[c4])) (B i (by simp[c4])))|index t x i=>exact sS (Sj (B x (by simp[c4])) (B i (by simp[c4])))|lookup t x i b=>exact sS (NU hE.prog hE.G (aa t U) (B x (by simp[c4])) (B i (by simp[c4])) b)|mapUpdate t a b c=>exact(Hz hE.G (aa t U) (B a (by simp[c4])) (B b (by simp[c4])) (B c (by simp[c4]))).map λ_ _ _ _ _=>.skip|mapEntry t a b=>exact(IE hE.prog hE.G (aa t U) (B a (by simp[c4])) (B b (by simp[c4]))).map λ_ _ _ _ h=>.value h|entryStore t a b c=>exact VA (Dy (B a (by simp[c4])) (B b (by simp[c4])) (B c (by simp[c4])))|range t x=>exact sS (Sq (B x (by simp[c4])))|next x b=>exact sS (Tz (B x (by simp[c4])) b _)|entry x=>exact sS (QS (B x (by simp[c4])))|typeAssert x a b c=>
  simp only at U;subst U;exact sS (Ej hE.prog (B x (by simp[c4])) _ _)
 |extract x i=>exact sS (Ma (B x (by simp[c4])) i)|panic x=>exact sS (Rc (B x (by simp[c4])))|send c x=>exact .base (.pure (.comm _ _ (.inr ⟨rfl,rfl,_,_,_,rfl⟩) (.cons ⟨B c (by simp[c4]),.some (B x (by simp[c4])),.undef m⟩ .nil)))|select cs b=>
  refine .base ?_;show dx P (gW P) m (cs.mapM (λs=>do pure {chan:=ρ s.chan,send:=s.send.map ρ,zero:=<-aQ s.elem:CommCase}) >>= λc=>pure (.comm c b .select)) (cs.mapM (λs=>do pure {chan:=ρ' s.chan,send:=s.send.map ρ',zero:=<-aQ s.elem:CommCase}) >>= λc=>pure (.comm c b .select));rw[a0,a0];simp only[map_eq_pure_bind,bind_assoc,pure_bind];refine dF (tT (Q:=CN) (λ_ _ _ _ h x=>x.mono h) cs.toList m λs hs m' hl=>?_) λm' a b' ae af=>.pure (.comm _ _ (.inl (by rw[ae.iq];exact ab U)) af);refine fQ hE.prog λz hz=>.pure ⟨(B s.chan ?_).mono hl,(A2 W λy hy=>O y ?_).mono λ_ _ x=>x.mono hl,hz⟩;simp only[c4,aD,aJ];exact⟨s,by simpa using hs,by simp⟩;simp only[c4,aD,aJ];exact⟨s,by simpa using hs,by simp[hy]⟩
 |call c=>
  obtain⟨callee,args,ats⟩:=c
  cases callee with
  |invoke r n=>exact U.elim|builtin b=>
   have ha:eD m (args.map ρ) (args.map ρ'):=kO W λx Y=>O x (by simp[c4,gt];simpa using Y);exact Ni hE ac ha (by simpa using U.1) U.2
  |value f=>
   have ha:eD m (args.map ρ) (args.map ρ'):=kO W λx Y=>O x (by simp[c4,gt];exact .inr (by simpa using Y));refine .base (dF (pC (B f (by simp[c4,gt])) ha) λm' d d' hl hd=>?_);exact rH (hE.mono hl) hd.1.target hd.2 hd.1.args
 |go c=>
  obtain⟨callee,args,ats⟩:=c
  cases callee with
  |invoke r n=>exact U.2.elim|builtin b=>exact U.2.elim|value f=>
   have ha:eD m (args.map ρ) (args.map ρ'):=kO W λx Y=>O x (by simp[c4,gt];exact .inr (by simpa using Y));exact .base (dF (pC (B f (by simp[c4,gt])) ha) λm' d d' hl hd=>.pure (.spawn (by rw[hl.iq];exact ab U.1) hd.1))
 |defer c=>
  obtain⟨callee,args,ats⟩:=c
  cases callee with
  |invoke r n=>exact U.elim|builtin b=>
   have ha:eD m (args.map ρ) (args.map ρ'):=kO W λx Y=>O x (by simp[c4,gt];simpa using Y);obtain⟨U,hs⟩:=U;subst U;exact .base (.pure (.defer ⟨.builtin _ _ _ (ab hs),ha⟩))
  |value f=>
   have ha:eD m _ _:=kO W λx Y=>O x (by simp[c4,gt];exact .inr (by simpa using Y));exact .base (dF (pC (B f (by simp[c4,gt])) ha) λm' d d' hl hd=>.pure (.defer hd.1))
 |_=>exact U.elim
end
end
section
open Go.Conc
def BQ(y:Code):Code:=.cond (.global 0) y .skip
inductive kh(m:Ren):Item->Item->Prop
 |Ia (y):kh m (.code (BQ y)) (.code y)|mH (y):kh m (.inLoop (BQ y)) (.inLoop y)|code (c):fR m.ok c->kh m (.code c) (.code c)|inBlock (i):kh m (.inBlock i) (.inBlock i)|inLoop (c):fR m.ok c->kh m (.inLoop c) (.inLoop c)|inScope (c):fR m.ok c->kh m (.inScope c) (.inScope c)|inRegion (ops t):(∀o∈ops.toList,m.ok o)->kh m (.inRegion ops t) (.inRegion ops t)|inRangeFunc {l l'}:m.blk l=some l'->kh m (.inRangeFunc l) (.inRangeFunc l')|endRangeFunc {l l'}:m.blk l=some l'->kh m (.endRangeFunc l) (.endRangeFunc l')|beginRound:kh m .beginRound .beginRound
structure SV(m:Ren)(p p':PanicEntry):Prop where
 v:VR m p.v p'.v
 rv:p'.recovered=p.recovered
 ex:p'.goexit=p.goexit
inductive tf(m:Ren):FrameMode->FrameMode->Prop
 |run:tf m .run .run|returning:tf m .returning .returning|panicking {c c'}:dT (SV m) c c'->tf m (.panicking c) (.panicking c')
structure fX(m:Ren)(fr fr':Frame):Prop where
 fn:fr'.fn=fr.fn
 tmps:eD m fr.tmps fr'.tmps
 todo:dT (kh m) fr.todo fr'.todo
 defers:dT (DR m) fr.defers fr'.defers
 mode:tf m fr.mode fr'.mode
 round:lX (λr r'=>m.blk r=some r') fr.roundOf fr'.roundOf
section
variable {m m':Ren}
def kh.mono(h:m.Le m'){a b:Item}(x:kh m a b):kh m' a b:=by
 cases x with
 |Ia y=>exact .Ia y|mH y=>exact .mH y|code c B=>exact .code c (h.ok▸B)|inBlock i=>exact .inBlock i|inLoop c B=>exact .inLoop c (h.ok▸B)|inScope c B=>exact .inScope c (h.ok▸B)|inRegion o t U=>exact .inRegion o t (h.ok▸U)|inRangeFunc O=>exact .inRangeFunc (h.blk _ _ O)|endRangeFunc O=>exact .endRangeFunc (h.blk _ _ O)|beginRound=>exact .beginRound
def SV.mono(h:m.Le m'){a b:PanicEntry}(x:SV m a b):SV m' a b:=⟨x.v.mono h,x.rv,x.ex⟩
def tf.mono(h:m.Le m'){a b:FrameMode}(x:tf m a b):tf m' a b:=by
 cases x with
 |run=>exact .run|returning=>exact .returning|panicking B=>exact .panicking (B.mono λ_ _ y=>y.mono h)
def fX.mono(h:m.Le m'){a b:Frame}(x:fX m a b):fX m' a b:=
 ⟨x.fn,x.tmps.mono h,x.todo.mono λ_ _ y=>y.mono h,x.defers.mono λ_ _ y=>y.mono h,x.mode.mono h,x.round.mono λ_ _ y=>h.blk _ _ y⟩
def fX.eval{fr fr':Frame}(h:fX m fr fr'){gl:Nat->Prop}(B:∀g,gl g->m.blk g=some g)(x:Operand)(O:dQ m.fF gl x):VR m (fr.eval x) (fr'.eval x):=by
 cases x with
 |tmp t=>exact h.tmps.getD t|const v=>exact VR.plain O|global g=>exact .ptr (.mk (B g O))|func f=>exact .Ly (.func f O) (.nil m) (.nil m)
def fX.finish{fr fr':Frame}(h:fX m fr fr'){v v':Value}(hv:VR m v v'):fX m (fr.finish v) (fr'.finish v')/\(fr.finish v).kind=fr.kind/\(fr'.finish v').kind=fr'.kind:=by
 obtain⟨fn,tmps,todo,defers,mode,af,round⟩:=fr;obtain⟨ag,Y,ac,aa,ad,ae,ab⟩:=fr';obtain⟨O,B,h3,U,h5,W⟩:=h
 cases h3 with
 |nil=>exact⟨⟨O,B,.nil,U,h5,W⟩,rfl,rfl⟩|cons hi ht=>
  cases hi with
  |inRegion ops t ho=>
   cases t with
   |nil=>exact⟨⟨O,B,.cons (.inRegion _ _ ho) ht,U,h5,W⟩,rfl,rfl⟩|cons i t=>
    refine⟨⟨O,?_,.cons (.inRegion _ _ ho) ht,U,h5,W⟩,rfl,rfl⟩;show eD m (match (ops[i]?).bind _ with|some d=>tmps.setIfInBounds d v|none=>tmps) (match (ops[i]?).bind _ with|some d=>Y.setIfInBounds d v'|none=>Y)
    cases(ops[i]?).bind _ with
    |none=>exact B|some d=>exact B.set d hv
  |inRangeFunc hl=>exact⟨⟨O,B,.cons (.endRangeFunc hl) ht,U,h5,W⟩,rfl,rfl⟩|beginRound=>exact⟨⟨O,B,ht,U,h5,W⟩,rfl,rfl⟩|Ia y=>exact⟨⟨O,B,.cons (.Ia y) ht,U,h5,W⟩,rfl,rfl⟩|mH y=>exact⟨⟨O,B,.cons (.mH y) ht,U,h5,W⟩,rfl,rfl⟩|code c hc=>exact⟨⟨O,B,.cons (.code c hc) ht,U,h5,W⟩,rfl,rfl⟩|inBlock i=>exact⟨⟨O,B,.cons (.inBlock i) ht,U,h5,W⟩,rfl,rfl⟩|inLoop c hc=>exact⟨⟨O,B,.cons (.inLoop c hc) ht,U,h5,W⟩,rfl,rfl⟩|inScope c hc=>exact⟨⟨O,B,.cons (.inScope c hc) ht,U,h5,W⟩,rfl,rfl⟩|endRangeFunc hl=>exact⟨⟨O,B,.cons (.endRangeFunc hl) ht,U,h5,W⟩,rfl,rfl⟩
def fX.raise{fr fr':Frame}(h:fX m fr fr'){vs vs':List PanicEntry}(U:dT (SV m) vs vs'):fX m (fr.raise vs) (fr'.raise vs')/\(fr.raise vs).kind=fr.kind/\(fr'.raise vs').kind=fr'.kind:=by
 obtain⟨fn,tmps,todo,defers,mode,ac,round⟩:=fr;obtain⟨ad,W,Y,B,aa,ab,O⟩:=fr';obtain⟨h1,h2,h3,h4,h5,h6⟩:=h
 cases h5 with
 |run=>exact⟨⟨h1,h2,h3,h4,.panicking U,h6⟩,rfl,rfl⟩|returning=>exact⟨⟨h1,h2,h3,h4,.panicking U,h6⟩,rfl,rfl⟩|panicking hc=>exact⟨⟨h1,h2,h3,h4,.panicking (U.append hc),h6⟩,rfl,rfl⟩
def DC{P:Program}{f:aX}(Y:nJ P m f)(hb:∃fn c,P.funcs[f]?=some fn/\fn.body=some c){a a':Array Value}(h:eD m a a')(k k':CallKind):fX m (fa P f a k) (fa P f a' k'):=by
 obtain⟨fn,c,U,W⟩:=hb;obtain⟨aa,B,_,h3⟩:=Y;rw[U]at B;cases B
 have hc:fR m.ok c:=by
  rcases h3 with⟨c',O,h5⟩|⟨O,_⟩
  rw[W]at O;cases O;exact h5;rw[W]at O;cases O
 refine⟨rfl,?_,?_,.nil,.run,.none⟩;simp only[fa,U,gn,gj,h.size];exact h.append (.replicate _ (.undef m));simp only[fa,U,gs,W,gj];exact .cons (.code c hc) .nil
end
def JW(k:CallKind):Prop:=k=.normal\/k=.deferred
def door(P:Program):Frame:={fn:=P.funcs.size,tmps:=#[],todo:=[.call {target:=.nil,args:=#[]} false "fmt's door" #[]],defers:=[],mode:=.run,kind:=.normal}
def DX(k:CallKind)(T:List Frame):Prop:=(k=.normal/\∀ps,T=[ps]->ps.mode≠.panicking [br])\/(k=.deferred/\∃ps,T=[ps]/\ps.mode=.panicking [br])
inductive dU(P:Program)(m:Ren)(T:List Frame):List Frame->List Frame->Prop
 |one {fr fr'}:fX m fr fr'->fr.kind=.normal->DX fr'.kind T->fr.roundOf=none->dU P m T (fr::[door P]) (fr'::T)|cons {fr fr' c c' cs cs'}:fX m fr fr'->fr'.kind=fr.kind->JW fr.kind->dU P m T (c::cs) (c'::cs')->dU P m T (fr::c::cs) (fr'::c'::cs')
section
variable {P:Program} {m m':Ren} {T:List Frame}
def dU.mono(h:m.Le m'){l l':List Frame}(x:dU P m T l l'):dU P m' T l l':=by
 induction x with
 |one B O U W=>exact .one (B.mono h) O U W|cons B O U _ Y=>exact .cons (B.mono h) O U Y
def dU.qE{fr fr':Frame}{cs cs':List Frame}(x:dU P m T (fr::cs) (fr'::cs')):fX m fr fr':=by cases x<;>assumption
def dU.set(h:m.Le m'){fr fr' g g':Frame}{cs cs':List Frame}(x:dU P m T (fr::cs) (fr'::cs'))(W:fX m' g g')(k:g.kind=fr.kind)(k':g'.kind=fr'.kind)(Y:g.roundOf=fr.roundOf)(_hn:g.fn=fr.fn):dU P m' T (g::cs) (g'::cs'):=by
 cases x with
 |one hf B O U=>exact .one W (k.trans B) (k'▸O) (Y.trans U)|cons hf B O U=>exact .cons W (by rw[k,k',B]) (k▸O) (U.mono h)
def dU.push{fr fr' g g':Frame}{cs cs':List Frame}(x:dU P m T (fr::cs) (fr'::cs'))(B:fX m g g')(k:g'.kind=g.kind)(O:JW g.kind):dU P m T (g::fr::cs) (g'::fr'::cs'):=.cons B k O x
end
variable {fr fr':Frame} {cs cs':List Frame}
def nE(P:Program)(m:Ren)(T:List Frame)(s':GStep)(w':World)(fr:Frame)(cs:List Frame)(w₁:World):Prop:=
 ∃dz fr' cs' B es,s'=.go (G fr' cs') B es/\m.Le dz/\dU P dz T (fr::cs) (fr'::cs')/\WR dz w₁ B/\fI m dz w' B/\∀e∈es,py dz e
section
variable {P:Program} {m:Ren} {T:List Frame}
def Ub(h:fX m fr fr'):(match fr.todo with|.call _ true _ _::_=>CallKind.wrapped|_=>.normal)=.normal/\(match fr'.todo with|.call _ true _ _::_=>CallKind.wrapped|_=>.normal)=.normal:=by
 have:=h.todo;revert this;generalize fr.todo=l;generalize fr'.todo=l';intro h
 cases h with
 |nil=>exact⟨rfl,rfl⟩|cons hi _=>cases hi<;>exact⟨rfl,rfl⟩
def uy{P:Program}{m:Ren}{T:List Frame}(h:dU P m T (fr::cs) (fr'::cs')) :
  lX (λx y=>VR m x.1 y.1/\dU P m T (fr::x.2) (fr'::y.2)) (aO fr cs) (aO fr' cs'):=by
 have e1:∀(f:Frame)(c:List Frame),f.kind=.normal->aO f c=none:=by
  intro f c hk;unfold aO;rw[hk]
 cases h with
 |one hf h1 B h3=>
  rw[e1 fr _ h1];rcases B with⟨B,_⟩|⟨B,ps,rfl,h4⟩
  rw[e1 fr' _ B];exact .none
  have e2:aO fr' [ps]=none:=by
   unfold aO;simp only[B];rw[h4];rfl
  rw[e2];exact .none
 |cons hf h1 B h3=>
  rename_i c c' cs cs';rcases B with B|B
  rw[e1 fr _ B,e1 fr' _ (h1.trans B)];exact .none;have ac:=h1.trans B
  cases h3 with
  |one O g1 g2 g3=>
   have hm:=O.mode;obtain⟨ak,am,an,ao,ap,aq,ar⟩:=c;obtain⟨ad,ae,af,ag,ah,ai,aj⟩:=c';unfold aO;rw[B,ac]
   cases hm with
   |run=>exact .none|returning=>exact .none|panicking hc=>
    cases hc with
    |nil=>exact .none|cons hp ht=>
     rename_i p p' Y W;obtain⟨v,r,x⟩:=p;obtain⟨v',r',x'⟩:=p';obtain⟨U,aa,ab⟩:=hp;subst aa ab;cases r'<;>cases x'<;>first|exact .none|skip
     exact .some ⟨U,.cons hf h1 (.inr B) (.one ⟨O.fn,O.tmps,O.todo,O.defers,.panicking (.cons ⟨U,rfl,rfl⟩ ht),O.round⟩ g1 g2 g3)⟩
  |cons O g1 g2 g3=>
   have hm:=O.mode;obtain⟨ak,am,an,ao,ap,aq,ar⟩:=c;obtain⟨ad,ae,af,ag,ah,ai,aj⟩:=c';unfold aO;rw[B,ac]
   cases hm with
   |run=>exact .none|returning=>exact .none|panicking hc=>
    cases hc with
    |nil=>exact .none|cons hp ht=>
     rename_i p p' Y W;obtain⟨v,r,x⟩:=p;obtain⟨v',r',x'⟩:=p';obtain⟨U,aa,ab⟩:=hp;subst aa ab;cases r'<;>cases x'<;>first|exact .none|skip
     exact .some ⟨U,.cons hf h1 (.inr B) (.cons ⟨O.fn,O.tmps,O.todo,O.defers,.panicking (.cons ⟨U,rfl,rfl⟩ ht),O.round⟩ g1 g2 g3)⟩
def ft(fr:Frame)(v:Value):(fr.finish v).roundOf=fr.roundOf:=by
 unfold fd;split<;>rfl
def ow(fr:Frame)(v:List PanicEntry):(fr.raise v).roundOf=fr.roundOf:=by
 unfold eC;split<;>rfl
def gX(fr:Frame)(v:Value):(fr.finish v).fn=fr.fn:=by
 unfold fd;split<;>rfl
def um(fr:Frame)(v:List PanicEntry):(fr.raise v).fn=fr.fn:=by
 unfold eC;split<;>rfl
def uV{dz:Ren}{f:aX}{c:Prop}[Decidable c]{es₁:Array Event}(h:∀e∈es₁,py dz e):∀e∈aR P f (if c then #[]else es₁)++#[],py dz e:=by
 intro e B;have:=mem_seen B;split at this;simp at this;exact h e this
def M6(hE:ug P m)(U:dU P m T (fr::cs) (fr'::cs')){s s':Sem Go.Next}(hs:lG P (gW P) m s s'){w w':World}(hw:WR m w w')(ae:Al w w'){fp:Frame}{fq:List Frame}{w₁:World}{es:Array Event}
  (h:cI P true fr cs none s w=.go (G fp fq) w₁ es):nE P m T (cI P true fr' cs' none s' w') w' fp fq w₁:=by
 have hr:=hs.run w w' #[] hw ae;unfold cI at h⊢;simp only[if_true]at h⊢;rcases hrt:s.runT P w #[]with⟨r,ar⟩;have af:s.run P w=r:=by rw[<-cM P s w #[],hrt]
 rw[af]at hr;rw[hrt]at h;have au:=Ub U.qE
 cases r with
 |ok n wn=>
  obtain⟨dz,n',aa,es₁,e1,W,e3,e4,_,e6,e7⟩:=hr;rw[e1];simp only[a8]at h⊢
  have out:∀{X:Array Event}{g g':Frame}{c c':List Frame},dU P dz T (g::c) (g'::c')->cK X (.go {frame:=g,callers:=c,status:=.running,dying:=none} wn)=.go (G fp fq) w₁ es->
    nE P m T (cK (aR P fr'.fn (if(fr'.kind==CallKind.early)=true then #[]else es₁)) (.go {frame:=g',callers:=c',status:=.running,dying:=none} aa)) w' fp fq w₁:=by
   intro X g g' c c' ab hh;simp only[cK,G,hC,Goroutine.mk.injEq]at hh;obtain⟨⟨rfl,rfl,_⟩,rfl,_⟩:=hh;exact⟨dz,g',c',aa,_,rfl,W,ab,e4,e6,uV e7⟩
  cases e3 with
  |value hv=>
   have O:=(U.qE.mono W).finish hv;exact out (U.set W O.1 O.2.1 O.2.2 (ft _ _) (gX _ _)) h
  |skip=>
   have O:=(U.qE.mono W).finish (.undef dz);exact out (U.set W O.1 O.2.1 O.2.2 (ft _ _) (gX _ _)) h
  |enter O ac ha=>
   have ab:=(U.mono W).push (DC ((hE.mono W).calls _ O) ac ha .normal .normal) rfl (.inl rfl);have Y:=U.qE.todo;obtain⟨fn,tm,td,df,md,kd,rd⟩:=fr;obtain⟨ag,ah,ai,aj,ak,am,an⟩:=fr';simp only at Y
   cases Y with
   |nil=>exact out ab h|cons hi _=>cases hi<;>exact out ab h
  |round hl Y ha ac=>
   rename_i l l' f t t' a c;have ao:fX dz (e8 l f t a c .normal) (e8 l' f t' a c .normal):=⟨rfl,Y,.cons (.code _ ha) (.cons .beginRound (.cons (.code _ ac) .nil)),.nil,.run,.some hl⟩;exact out ((U.mono W).push ao rfl (.inl rfl)) h
  |defer hd=>
   have ap:fX dz {fr with defers:=_::fr.defers} {fr' with defers:=_::fr'.defers}:=⟨U.qE.fn,U.qE.tmps.mono W,(U.qE.mono W).todo,.cons hd (U.qE.mono W).defers,(U.qE.mono W).mode,(U.qE.mono W).round⟩;have O:=ap.finish (.undef dz);exact out (U.set W O.1 O.2.1 O.2.2 (ft _ _) (gX _ _)) h
  |recover=>
   have aq:=U.mono W;have Y:=uy aq;have ad:=U.qE.round;obtain⟨fn,tm,td,df,md,kd,rd⟩:=fr;obtain⟨ag,ah,ai,aj,ak,am,an⟩:=fr';simp only at ad
   cases ad with
   |none=>
    dsimp only at h⊢;revert Y h;generalize aO _ _=p;generalize aO _ _=p';intro h Y
    cases Y with
    |none=>
     have O:=(U.qE.mono W).finish (.nilIface (m:=dz));exact out (U.set W O.1 O.2.1 O.2.2 (ft _ _) (gX _ _)) h
    |some hx=>
     rename_i x y;obtain⟨v,c⟩:=x;obtain⟨v',c'⟩:=y;have O:=(U.qE.mono W).finish hx.1;exact out (hx.2.set (.refl dz) O.1 O.2.1 O.2.2 (ft _ _) (gX _ _)) h
   |some av=>
    dsimp only at h⊢;rw[if_pos hE.T4]at h⊢;revert Y h;generalize aO _ _=p;generalize aO _ _=p';intro h Y
    cases Y with
    |none=>
     have O:=(U.qE.mono W).finish (.nilIface (m:=dz));exact out (U.set W O.1 O.2.1 O.2.2 (ft _ _) (gX _ _)) h
    |some hx=>
     rename_i x y;obtain⟨v,c⟩:=x;obtain⟨v',c'⟩:=y;have O:=(U.qE.mono W).finish hx.1;exact out (hx.2.set (.refl dz) O.1 O.2.1 O.2.2 (ft _ _) (gX _ _)) h
  |spawn aw hd=>
   exfalso;dsimp only at h;generalize aR P fr.fn _=X at h;rw[apply_ite (cK X)]at h
   have key:∀(c:Prop)[Decidable c] (A B C:GStep),(if c then A else B)=C->A=C\/B=C:=by
    intro c _ A B C hh;split at hh;exact .inl hh;exact .inr hh
   rcases key _ _ _ _ h with h|h
   simp[aU,bj,cK,G]at h;simp[cK]at h
  |comm bl sh hq hc=>cases h
 |halt x wn=>
  cases x with
  |panic v=>
   obtain⟨dz,v',aa,es₁,e1,W,e3,e4,_,e6,e7⟩:=hr;rw[e1];simp only[a8]at h⊢;have O:=(U.qE.mono W).raise (vs:=[{v,recovered:=false}]) (vs':=[{v:=v',recovered:=false}]) (.cons ⟨e3,rfl,rfl⟩ .nil);obtain⟨⟨rfl,rfl,_⟩,rfl,_⟩:=h;exact⟨dz,_,cs',aa,_,rfl,W,U.set W O.1 O.2.1 O.2.2 (ow ..) (um ..),e4,e6,uV e7⟩
  |unsupported u=>cases u<;>first|exact hr.elim|cases h
  |stuck y=>cases h
  |throw y=>simp[aU,bj,cK,G]at h|_=>exact hr.elim
end
variable {t t':Array Value} {l l':Nat}
section
variable {P:Program} {m:Ren} {T:List Frame}
def A0(id:Nat):∀{k k':List Item},dT (kh m) k k'->lX (dT (kh m)) (bn id k) (bn id k')
 |_,_,.nil=>.none|_,_,.cons hi h=>by
  cases hi with
  |inBlock i=>
   unfold bn;split;exact .some h;exact A0 id h
  |_=>unfold bn;exact A0 id h
def qG{ok:Oper->Prop}(l:Nat):∀(c c':Code),fR ok c->bg c l=some c'->fR ok c'
 |.seq a b,c',h,e=>by
  unfold bg at e
  cases B:bg a l with
  |some r=>
   rw[B]at e;simp only[gg]at e;subst e;exact⟨qG l a r h.1 B,h.2⟩
  |none=>
   rw[B]at e;exact qG l b c' h.2 e
 |.label l',c',h,e=>by
  unfold bg at e;split at e
  cases e;trivial
  cases e
 |.skip,_,_,e|.region ..,_,_,e|.cond ..,_,_,e|.block ..,_,_,e|.loop ..,_,_,e|.rangeFunc ..,_,_,e|.exit ..,_,_,e|.scope ..,_,_,e|.goto ..,_,_,e|.ret,_,_,e|.refuse ..,_,_,e=>by cases e
def Aj(l:Nat):∀{k k':List Item},dT (kh m) k k'->lX (dT (kh m)) (bm l k) (bm l k')
 |_,_,.nil=>.none|_,_,.cons hi h=>by
  cases hi with
  |inScope c B=>
   unfold bm
   cases O:bg c l with
   |none=>exact Aj l h|some r=>exact .some (.cons (.code r (qG l c r B O)) (.cons (.inScope c B) h))
  |_=>unfold bm;exact Aj l h
def mu(ops:Array Oper)(h:eD m t t')(j:Nat):bc ops t' j=bc ops t j:=by
 unfold bc
 cases(ops[j]?).bind _ with
 |none=>rfl|some d=>
  simp only[gs]
  cases O:t[d]? with
  |none=>rw[h.get_none O]|some v=>
   obtain⟨v',B,U⟩:=h.get O;rw[B];cases U<;>first|rfl|skip
   rename_i W;cases v'<;>first|rfl|exact W.elim
def mg{fn:Func}(h:eD m t t'):dx P VR m (bz fn t) (bz fn t'):=by
 unfold bz;rw[a0,a0];simp only[map_eq_pure_bind,bind_assoc,pure_bind];refine dF (tT (Q:=VR) (λ_ _ _ _ h x=>x.mono h) _ m λr _ m' Y=>?_) λm' a c _ U=>?_
 cases r with
 |tmp t=>exact .pure ((h.mono Y).getD t)|cell a t=>exact CU ((h.mono Y).getD a) λp p' hp=>Ch hp
 refine .pure ?_;have B:eD m' .. := U;by_cases O:a.toArray.size=1;have W:c.toArray.size=1:=by rw[<-B.size];exact O
 rw[dif_pos O,dif_pos W];exact B.idx 0 ..;have W:¬c.toArray.size=1:=by rw[<-B.size];exact O
 rw[dif_neg O,dif_neg W];exact .l7 B
def FG{o o':List PanicEntry}(h:dT (SV m) o o'):dT (SV m) (o.dropWhile (!·.goexit)) (o'.dropWhile (!·.goexit)):=by
 induction h with
 |nil=>exact .nil|cons B _ O=>
  simp only[List.dropWhile_cons,B.ex];split;exact O;exact .cons B ‹_›
def J3{fr fr' c c':Frame}{cs cs':List Frame}(hS:dU P m T (fr::c::cs) (fr'::c'::cs'))(hk:fr'.kind=fr.kind)(ho:JW fr.kind)(U:dU P m T (c::cs) (c'::cs')){v v':Value}(hv:VR m v v'){main main':Bool}{w w':World}(hw:WR m w w'){fp:Frame}{fq:List Frame}{w₁:World}{es:Array Event}
  (h:aP P main fr (c::cs) none v w=.go (G fp fq) w₁ es):∃B,aP P main' fr' (c'::cs') none v' w'=.go (G B cs') w'/\dU P m T (fp::fq) (B::cs')/\w₁=w:=by
 unfold aP at h⊢;rw[hk];rcases ho with ho|ho
 rw[ho]at h⊢;obtain⟨⟨rfl,rfl,_⟩,rfl,_⟩:=h;have hf:=U.qE.finish hv;exact⟨_,rfl,U.set (.refl m) hf.1 hf.2.1 hf.2.2 (ft ..) (gX ..),rfl⟩;rw[ho]at h⊢;have hm:=U.qE.mode;obtain⟨ah,ai,aj,ak,ar,am,an⟩:=c;obtain⟨Y,aa,ab,ac,aq,ad,ae⟩:=c'
 have l6:∀{md O},tf m md O->dU P m T (⟨ah,ai,aj,ak,md,am,an⟩::cs) (⟨Y,aa,ab,ac,O,ad,ae⟩::cs'):=λaf=>
  U.set (.refl m) ⟨U.qE.fn,U.qE.tmps,U.qE.todo,U.qE.defers,af,U.qE.round⟩ rfl rfl rfl rfl
 have fin:∀{md O},tf m md O->GStep.go (G ⟨ah,ai,aj,ak,md,am,an⟩ cs) w=.go (G fp fq) w₁ es->∃B,GStep.go (G ⟨Y,aa,ab,ac,O,ad,ae⟩ cs') w'=.go (G B cs') w'/\dU P m T (fp::fq) (B::cs')/\w₁=w:=by
  intro md O af hh;obtain⟨⟨rfl,rfl,_⟩,rfl,_⟩:=hh;exact⟨_,rfl,l6 af,rfl⟩
 cases hm with
 |run=>exact fin .run h|returning=>exact fin .returning h|panicking ao=>
  cases ao with
  |nil=>exact fin (.panicking .nil) h|cons hp ht=>
   rename_i p p' ag W;obtain⟨pv,pr,px⟩:=p;obtain⟨au,ap,av⟩:=p';obtain⟨h1,h2,h3⟩:=hp;subst h2 h3
   cases ap with
   |false=>
    have hp:SV m .. := ⟨h1,rfl,rfl⟩;exact fin (.panicking (.cons hp ht)) h
   |true=>
    have hd:=FG ht;simp only at h⊢;revert hd h;generalize ag.dropWhile _=o;generalize W.dropWhile _=o';intro h hd
    cases hd with
    |nil=>exact fin .returning h|cons hq hr=>exact fin (.panicking (.cons hq hr)) h
def pR{γ δ:Type}{RB:Ren->γ->δ->Prop}(O:m.blk l=some l'){f:Loop->Sem γ}{f':Loop->Sem δ}(h:∀p B,xm m p B->dx P RB m (f p) (f' B)):dx P RB m (bO l >>= f) (bO l' >>= f'):=by
 refine fS O λo o' U=>?_;cases U<;>first|exact .dA trivial|exact h _ _ ‹_›
def nN{l:Loop}:∀x y z,Obj.loop l≠.cells x y z:=nofun
def IP(O:m.blk l=some l'){j:Option Code}(U:∀c,j=some c->fR m.ok c):dx P VR m (bD l j) (bD l' j):=by
 refine pR O λp W B=>jR O (.loop ⟨rfl,rfl,U,B.fn,B.tmps,B.params,B.assign,B.body,B.Ul,B.xH,B.defers⟩) nN (.pure (.bool _))
def DZ(O:m.blk l=some l'):dx P yR m (bH l) (bH l'):=by
 refine pR O λp U B=>jR O (.loop ⟨rfl,B.pending,B.US,B.fn,B.tmps,B.params,B.assign,B.body,B.Ul,B.xH,B.defers⟩) nN ?_;rw[<-B.state];cases p.state<;>first|exact .pure trivial|exact fC (e:=.error _) trivial
def LF(O:m.blk l=some l'):dx P (λm a b=>a=b/\∀c,a=some c->fR m.ok c) m (cm l) (cm l'):=by
 refine pR O λp U B=>?_
 have fin:dx P (λm a b=>a=b/\∀c,a=some c->fR m.ok c) m (do setObj l (.loop {p with state:=.exhausted});pure _) (do setObj l' (.loop {U with state:=.exhausted});pure _):=
  jR O (.loop ⟨rfl,B.pending,B.US,B.fn,B.tmps,B.params,B.assign,B.body,B.Ul,B.xH,B.defers⟩) nN (.pure ⟨B.pending,B.US⟩)
 rw[<-B.state];exact dJ (λ_=>dV (e:=.error _) trivial) (λ_=>fin)
def Au(U:m.blk l=some l'){d d':Deferred}(W:DR m d d'):dx P yR m (bL l d) (bL l' d'):=by
 refine pR U λp p' O=>fS O.defers λo o' Y=>?_
 cases Y with
 |deferred B=>exact ql O.defers (.deferred (.cons W B)) (nofun)|fe=>exact .dA trivial|_=>exact .dA trivial
def yw(O:m.blk l=some l'):dx P (λm=>dT (DR m)) m (bF l) (bF l'):=by
 refine fS O λo o' U=>?_
 cases U with
 |deferred B=>exact jR O .fe (nofun) (.pure B)|_=>exact .dA trivial
def Hy{fn:aX}(W:eD m t t'){ps:Array Tmp}{a c:Code}(Y:fR m.ok a)(hc:fR m.ok c){r r':Option Nat}(hr:lX (λx y=>m.blk x=some y) r r'):dx P (λm x y=>m.blk x.1=some y.1/\dT (DR m) x.2 y.2) m (bY fn t ps a c r) (bY fn t' ps a c r'):=by
 have fin:∀{m':Ren}{q O:Nat}{d d':List Deferred},m.Le m'->m'.blk q=some O->dT (DR m') d d'->dx P (λm x y=>m.blk x.1=some y.1/\dT (DR m) x.2 y.2) m' (do pure (<-bt (.loop {state:=.ready,pending:=none,fn,tmps:=t,params:=ps,assign:=a,body:=c,defers:=q}),d)) (do pure (<-bt (.loop {state:=.ready,pending:=none,fn,tmps:=t',params:=ps,assign:=a,body:=c,defers:=O}),d')):=by
  intro m' q O d d' B hq hd;exact dx.new (.loop ⟨rfl,rfl,(nofun),rfl,W.mono B,rfl,rfl,rfl,B.ok▸Y,B.ok▸hc,hq⟩) (nofun) λaa i i' U hb _=>.pure ⟨hb,hd.mono λ_ _ x=>x.mono U⟩
 cases hr with
 |some hx=>exact pR hx λp p' hp=>fin (.refl m) hp.defers .nil|none=>exact dx.new (.deferred .nil) (nofun) λm' i i' B hb _=>fin B hb (.cons ⟨.collected hb,.nil m'⟩ .nil)
end
variable {X es:Array Event} {fp:Frame} {fq:List Frame} {dz:Ren} {w w' w₁:World}
structure lZ(P:Program)(m:Ren)(gl:Nat->Prop)(st:Bool):Prop where
 env:ug P m
 strict:st=true->gL m
 iq:False->m.iq
 po:∀g,gl g->m.blk g=some g
 ops:∀o,m.ok o->OkOp P m.fF gl st o.op
def lZ.mono{P:Program}{m m':Ren}{gl:Nat->Prop}{st:Bool}(h:m.Le m')(x:lZ P m gl st):lZ P m' gl st:=
 ⟨x.env.mono h,λs=>(x.strict s).mono h,nofun,λg B=>h.blk _ _ (x.po g B),λo O=>h.fF▸x.ops o (h.ok▸O)⟩
def AtClose(fr:Frame):Prop:=fr.mode≠.run/\∃a t c args ds,fr.defers={target:=.builtin .close a t c,args}::ds
section
variable {P:Program} {m:Ren} {T:List Frame} {gl:Nat->Prop} {st:Bool}
def uh{s:GStep}{g:Goroutine}(h:cK X s=.go g w es):∃B,s=.go g w B:=by
 cases s<;>simp[cK]at h;obtain⟨rfl,rfl,_⟩:=h;exact⟨_,rfl⟩
def QU(hl:m.Le dz)(hS:dU P dz T (fr::cs) (fr'::cs'))(hn:cs=[door P]->fr.roundOf=none->False){v v':Value}(hv:VR dz v v'){main':Bool}{B:World}(hw:WR dz w B)(hk:fI m dz w' B){X':Array Event}(W:∀e∈X',py dz e)
  (h:cK X (aP P true fr cs none v w)=.go (G fp fq) w₁ es):nE P m T (cK X' (aP P main' fr' cs' none v' B)) w' fp fq w₁:=by
 obtain⟨aa,h⟩:=uh h
 cases hS with
 |one hf Y h2 U=>exact(hn rfl U).elim|cons hf Y h2 U=>
  obtain⟨O,e1,e2,e3⟩:=J3 (.cons hf Y h2 U) Y h2 U hv (main:=true) (main':=main') hw h;subst e3;rw[e1];exact⟨dz,O,_,B,_,rfl,hl,e2,hw,hk,by simpa using W⟩
def nu{f:aX}{es₁:Array Event}(h:∀e∈es₁,py dz e):∀e∈aR P f es₁,py dz e:=λe B=>h e (mem_seen B)
def still{g g':Frame}(B:WR m w w')(O:dU P m T (g::cs) (g'::cs'))
  (h:GStep.go {frame:=g,callers:=cs,status:=.running,dying:=none} w=.go (G fp fq) w₁ es):nE P m T (GStep.go {frame:=g',callers:=cs',status:=.running,dying:=none} w') w' fp fq w₁:=by
 obtain⟨⟨rfl,rfl,_⟩,rfl,_⟩:=h;exact⟨m,g',cs',w',#[],rfl,.refl m,O,B,.refl m w',by simp⟩
def IQ(h:fX m fr fr'){k k':List Item}(B:dT (kh m) k k'):fX m {fr with todo:=k} {fr' with todo:=k'}:=⟨h.fn,h.tmps,B,h.defers,h.mode,h.round⟩
def Ts(h:fX m fr fr'){k k':FrameMode}(B:tf m k k'):fX m {fr with mode:=k} {fr' with mode:=k'}:=⟨h.fn,h.tmps,h.todo,h.defers,B,h.round⟩
def nE.after{s':GStep}{B:World}(W:m.Le dz)(Y:fI m dz w' B)(hX:∀e∈X,py dz e)(h:nE P dz T s' B fp fq w₁):nE P m T (cK X s') w' fp fq w₁:=by
 obtain⟨m₂,f,c,O,es,rfl,U,h3,h4,h5,h6⟩:=h;refine⟨m₂,f,c,O,X++es,rfl,W.trans U,h3,h4,Y.trans W U h5,λe he=>?_⟩;rcases a9.1 he with x|x
 exact(hX e x).mono U;exact h6 e x
def Nl{ρ ρ':Operand->Value}(U:∀x,dQ m.fF gl x->VR m (ρ x) (ρ' x)){c:Call}(hc:(∀x∈c.operands.toList,dQ m.fF gl x)/\match c.callee with|.value _=>True|.builtin b=>b=.close/\m.iq|_=>False)(t:aN):dx P DR m (bk ρ c t) (bk ρ' c t):=by
 obtain⟨B,O⟩:=hc;obtain⟨callee,args,ats⟩:=c
 cases callee with
 |invoke r n=>exact O.elim|builtin bb=>
  have W:=kO U λx Y=>B x (by simp[gt];simpa using Y);obtain⟨O,aa⟩:=O;subst O;exact .pure ⟨.builtin _ _ _ aa,W⟩
 |value f=>
  have W:=kO U λx Y=>B x (by simp[gt];exact .inr (by simpa using Y));exact(pC (U f (B f (by simp[gt]))) W).mono λ_ _ _ _ h=>h.1
def Mr{r:Nat}(B:m.dead r)(O:WR m w w'):∃x w₁,(bF r).run P w=.halt x w₁:=by
 obtain⟨_,c,e,f,U⟩:=O.dead r B;unfold bF;exact⟨_,_,by simp only[getObj,bind,Sem.bind,cL,U];rfl⟩
def nt(s:GStep):cK #[] s=s:=by cases s<;>simp[cK]
end
variable {P:Program} {m:Ren} {s:Sem Go.Next} {α β:Type}
def tp(w:World)(τ:Nat->Question->Nat):World:={w with tape:=τ}
def Ez{α:Type}:Result α->World
 |.ok _ w=>w|.halt _ w=>w
def zR{α:Type}(P:Program)(s:Sem α)(w:World)(τ:Nat->Question->Nat):Result α->Prop
 |.ok a w₁=>s.run P (tp w τ)=.ok a (tp w₁ τ)|.halt (.panic v) w₁=>s.run P (tp w τ)=.halt (.panic v) (tp w₁ τ)|_=>True
def vN(τ:Nat->Question->Nat)(w w₁:World):Prop:=∀i,w.drawn<=i->i<w₁.drawn->τ i=w.tape i
def SQ{α:Type}(P:Program)(s:Sem α)(w:World):Prop:=
 w.drawn<=(Ez (s.run P w)).drawn/\(Ez (s.run P w)).tape=w.tape/\∀τ,vN τ w (Ez (s.run P w))->zR P s w τ (s.run P w)
def Loc{α:Type}(P:Program)(s:Sem α)(w:World):Prop:=(∃x w₁,s.run P w=.halt x w₁/\kE x)\/SQ P s w
def Loc.step{s:Sem α}{k:Sem α}(h:Loc P k w₁)(e:s.run P w=k.run P w₁)(hd:w₁.drawn=w.drawn)(ht:w₁.tape=w.tape)(O:∀τ,s.run P (tp w τ)=k.run P (tp w₁ τ)):Loc P s w:=by
 rcases h with⟨x,U,W,Y⟩|⟨W,Y,h3⟩
 exact .inl ⟨x,U,e.trans W,Y⟩;refine .inr ⟨by rw[e,<-hd];exact W,by rw[e,Y,ht],λτ B=>?_⟩;rw[e]at B⊢;have:=h3 τ λi a b=>by rw[ht];exact B i (hd▸a) b
 revert this
 cases k.run P w₁ with
 |ok a w2=>intro h;show s.run P _=_;rw[O];exact h|halt x w2=>cases x<;>intro h<;>first|trivial|(show s.run P _=_;rw[O];exact h)
def dx.loc{RA:Ren->α->β->Prop}{s:Sem α}{s':Sem β}(h:dx P RA m s s'):∀(w w':World),WR m w w'->Loc P s w:=by
 induction h with
 |dA hd=>exact λw w' _=>.inl (hd.run w)|pure hr=>exact λw w' _=>.inr ⟨eg _,rfl,λτ _=>rfl⟩|@load m a a' k k' ha _ O=>
  intro w w' B
  cases Y:w.cell? a with
  |some v=>
   obtain⟨v',aj,hv⟩:=B.cell ha Y;refine(O v v' hv w w' B).step (by simp only[cL,Y]) rfl rfl λτ=>?_;have aa:(tp w τ).cell? a=some v:=Y;simp only[cL,aa]
  |none=>
   obtain⟨y,hy⟩:=B.O8 ha Y P (Mode.plain==.atomic);exact .inl ⟨.stuck y,w,by simp only[cL,Y,hy],trivial⟩
 |@store m a a' v v' k k' ha hv _ O=>
  intro w w' B;by_cases U:∃c,v=.agg c
  .obtain⟨c,rfl⟩:=U;exact .inl ⟨.stuck "store: not the value of one cell",w,by simp only[cL],trivial⟩
  by_cases h2:∃c,v=.tuple c
  .obtain⟨c,rfl⟩:=h2;exact .inl ⟨.stuck "store: not the value of one cell",w,by simp only[cL],trivial⟩
  have e1:∀w:World,(Sem.store Mode.plain a v k).run P w=match w.cell? a with
    |some _=>if w.frozen? a then .halt (.unsupported (.unsafePointer "a write to bytes that a string shares")) w else k.run P (w.setCell a v)|none=>match w.farStore P a v (Mode.plain==.atomic)with
     |.ok (w,_)=>k.run P w|.error h=>.halt h w:=by
   intro w;rw[cL];rfl;exact λc e=>U ⟨c,e⟩;exact λc e=>h2 ⟨c,e⟩
  cases Y:w.cell? a with
  |none=>
   obtain⟨y,hy⟩:=B.KT ha Y P v (Mode.plain==.atomic);exact .inl ⟨.stuck y,w,by rw[e1,Y];simp only[hy],trivial⟩
  |some u=>
   by_cases hf:w.frozen? a=true;exact .inl ⟨.unsupported (.unsafePointer "a write to bytes that a string shares"),w,by rw[e1,Y];simp only[hf,if_true],trivial⟩;refine(O (w.setCell a v) _ (B.setCell ha hv λah=>by cases v<;>first|exact ah.elim|exact U ⟨_,rfl⟩|exact h2 ⟨_,rfl⟩)).step (by rw[e1,Y];simp only[hf,if_false,dr]) rfl rfl λτ=>?_;have aa:(tp w τ).cell? a=some u:=Y;have ai:¬(tp w τ).frozen? a=true:=hf;rw[e1,aa];simp only[ai,if_false,dr];rfl
 |@new m o o' k k' ho Y _ O=>
  intro w w' B;have ab:=Ren.vO B.gQ B.mq B.Tq;have ac:(m.ext w.heap.size w'.heap.size B.gQ B.mq B.Tq).blk w.heap.size=some w'.heap.size:=by simp[Ren.ext]
  exact(O _ _ _ ab ac (by simp[Ren.ext]) {w with heap:=w.heap.push o} _ (B.push ho Y)).step rfl rfl rfl λτ=>rfl
 |@qn m c b x s r t c' b' x' s' r' t' k k' ak _ O=>
  intro w w' B;have ab:=Ren.yj B.qx B.nT;have ac:(m.tE w.heap.size w'.heap.size B.qx B.nT).ch w.heap.size=some w'.heap.size:=by simp[Ren.tE]
  exact(O _ _ _ ab ac {w with heap:=w.heap.push (.chan c b x s r t)} _ (B.Qf (.chan c b x s r t) (.chan c' b' x' s' r' t'))).step rfl rfl rfl λτ=>rfl
 |shape hb _ O=>exact λw w' B=>(O _ w w' B).step rfl rfl rfl λτ=>rfl|@freeze m a a' n k k' ha hn _ O=>
  intro w w' B;refine(O (w.freeze a n) _ (B.freeze ha hn n)).step rfl (by unfold gv;split<;>rfl) (by unfold gv;split<;>rfl) λτ=>?_;have:(tp w τ).freeze a n=tp (w.freeze a n) τ:=by unfold gv;split<;>rfl
  simp only[cL,this]
 |frozen ha hn _ O=>exact λw w' B=>(O _ w w' B).step rfl rfl rfl λτ=>rfl|getObj hb _ O=>
  intro w w' B;obtain⟨x,x',U,h2,ho⟩:=B.obj _ _ hb;have W:∀τ,(tp w τ).heap[_]?=some x:=λ_=>U
  cases ho with
  |cells=>exact .inl ⟨.stuck "getObj: a row of cells",w,by simp only[cL,U],trivial⟩|map clock he=>exact(O _ _ (.map clock he) w w' B).step (by simp only[cL,U]) rfl rfl λτ=>by simp only[cL,W]
  |number l hx=>exact(O _ _ (.number l hx) w w' B).step (by simp only[cL,U]) rfl rfl λτ=>by simp only[cL,W]
  |stringIter s p=>exact(O _ _ (.stringIter s p) w w' B).step (by simp only[cL,U]) rfl rfl λτ=>by simp only[cL,W]
  |gm a b c=>exact(O _ _ (.gm a b c) w w' B).step (by simp only[cL,U]) rfl rfl λτ=>by simp only[cL,W]
  |mapIter a b c hm=>exact(O _ _ (.mapIter a b c hm) w w' B).step (by simp only[cL,U]) rfl rfl λτ=>by simp only[cL,W]
  |loop hl=>exact(O _ _ (.loop hl) w w' B).step (by simp only[cL,U]) rfl rfl λτ=>by simp only[cL,W]
  |fe=>exact(O _ _ .fe w w' B).step (by simp only[cL,U]) rfl rfl λτ=>by simp only[cL,W]
  |deferred hd=>exact(O _ _ (.deferred hd) w w' B).step (by simp only[cL,U]) rfl rfl λτ=>by simp only[cL,W]
 |@setObj m r r' o o' k k' hb ho Y _ O=>
  intro w w' B;obtain⟨x,x',U,h2,hx⟩:=B.obj _ _ hb;have W:∀τ,(tp w τ).heap[r]?=some x:=λ_=>U;rcases Classical.em (m.loose r)with ad|ad
  .obtain⟨c,e,f,hy⟩:=B.lk _ _ hb ad;exact .inl ⟨.stuck "setObj: a row of cells",w,by simp only[cL,hy],trivial⟩
  have ae:=B.turn hb ho (λc e f c' e' f' e1 _=>absurd e1 (Y c e f)) (λh=>absurd h ad) (λc e f c' e' f' e1 _=>absurd e1 (Y c e f));have fin:=O {w with heap:=w.heap.setIfInBounds r o} _ ae
  cases hx with
  |cells=>exact .inl ⟨.stuck "setObj: a row of cells",w,by simp only[cL,U],trivial⟩|_=>
   refine fin.step ?_ rfl rfl λτ=>?_;simp only[cL,U];simp only[cL,W];rfl
 |@choose m q k k' _ O=>
  intro w w' B;by_cases hf:q.forced=true;exact(O 0 w w' B).step (by simp only[cL,hf,if_true]) rfl rfl λτ=>by simp only[cL,hf,if_true]
  have e:(Sem.choose q k).run P w=(k (q.cut (w.tape w.drawn q))).run P {w with drawn:=w.drawn+1}:=by simp only[cL,hf,if_false,dr]
  rcases O (q.cut (w.tape w.drawn q)) {w with drawn:=w.drawn+1} w' (B.draw _ w'.drawn)with⟨x,ag,U,h2⟩|⟨U,h2,h3⟩
  exact .inl ⟨x,ag,e.trans U,h2⟩;refine .inr ⟨by rw[e];exact ee (ev _) U,by rw[e,h2],λτ af=>?_⟩;rw[e]at af⊢;have e0:τ w.drawn=w.tape w.drawn:=af _ (eg _) (ek U)
  have e2:(Sem.choose q k).run P (tp w τ)=(k (q.cut (w.tape w.drawn q))).run P (tp {w with drawn:=w.drawn+1} τ):=by
   simp only[cL,hf,if_false,dr];show(k (q.cut (τ w.drawn q))).run P _=_;rw[e0];rfl
  have:=h3 τ λi a b=>af i (en a) b;revert this
  cases(k _).run P _ with
  |ok a w2=>intro h;show(Sem.choose q k).run P _=_;rw[e2];exact h|halt x w2=>cases x<;>intro h<;>first|trivial|(show(Sem.choose q k).run P _=_;rw[e2];exact h)
 |gone hd=>
  intro w w' B;obtain⟨_,c,e,f,hx⟩:=B.dead _ hd;exact .inl ⟨.stuck "getObj: a row of cells",w,by simp only[cL,hx],trivial⟩
 |env _ O=>exact λw w' B=>(O _ w w' B).step rfl rfl rfl λτ=>rfl|program _ O=>exact λw w' B=>(O w w' B).step rfl rfl rfl λτ=>rfl|mark hm _ O=>exact λw w' B=>(O w w' B).step rfl rfl rfl λτ=>rfl|panic hv=>exact λw w' _=>.inr ⟨eg _,rfl,λτ _=>rfl⟩
def align(h:WR m w w'):∃B:World,WR m w B/\Al w B/\B.heap=w'.heap:=by
 refine⟨{w' with tape:=λi q=>w.tape (i-w'.drawn+w.drawn) q},⟨h.obj,h.fz,h.all,h.NQ,h.NM,h.Ld,h.os,h.lz,h.lk,h.dead,h.sW⟩,λi q=>?_,rfl⟩;show w.tape _ q=w.tape _ q;have:w'.drawn+i-w'.drawn+w.drawn=w.drawn+i:=by omega
 rw[this]
def lG.loc{RA:Ren->α->β->Prop}{s:Sem α}{s':Sem β}(h:lG P RA m s s'):∀(w w':World),WR m w w'->Loc P s w:=by
 induction h with
 |base h=>exact h.loc|@bind γ δ RC m s s' f f' h _ ih=>
  intro w w' hw;obtain⟨ab,ac,ad,_⟩:=align hw;have O:=h.run w ab #[] ac (.inl ad);rcases h.loc w w' hw with⟨x,U,W,Y⟩|⟨W,Y,h3⟩
  exact .inl ⟨x,U,by rw[cO,W];rfl,Y⟩
  cases hr:s.run P w with
  |halt x wn=>
   have eb:(s.bind f).run P w=.halt x wn:=by rw[cO,hr];rfl
   rw[hr]at W Y h3 O
   cases x with
   |panic v=>
    refine .inr ⟨by rw[eb];exact W,by rw[eb];exact Y,λτ B=>?_⟩;rw[eb]at B⊢;have:=h3 τ B;show(s.bind f).run P (tp w τ)=_;rw[cO,show s.run P (tp w τ)=.halt (.panic v) (tp wn τ)from this];rfl
   |unsupported u=>cases u<;>first|exact O.elim|exact .inl ⟨_,wn,eb,trivial⟩
   |stuck y=>exact .inl ⟨_,wn,eb,trivial⟩|throw y=>exact .inl ⟨_,wn,eb,trivial⟩|_=>exact O.elim
  |ok a wn=>
   rw[hr]at W Y h3 O;obtain⟨dz,b,ae,es₁,e1,e2,e3,e4,_⟩:=O;have eb:(s.bind f).run P w=(f a).run P wn:=by rw[cO,hr];rfl
   rcases ih dz a b e2 e3 wn ae e4 with⟨x,U,g1,g2⟩|⟨g1,g2,g3⟩
   exact .inl ⟨x,U,eb.trans g1,g2⟩;refine .inr ⟨by rw[eb];exact ee W g1,by rw[eb,g2];exact Y,λτ B=>?_⟩;rw[eb]at B⊢;have ha:=h3 τ λi x y=>B i x (ej y g1);have hb:=g3 τ λi x y=>by rw[show wn.tape=w.tape from Y];exact B i (ee W x) y
   have aa:(s.bind f).run P (tp w τ)=(f a).run P (tp wn τ):=by rw[cO,ha];rfl
   revert hb
   cases(f a).run P wn with
   |ok c w2=>intro h;show(s.bind f).run P _=_;rw[aa];exact h|halt x w2=>cases x<;>intro h<;>first|trivial|(show(s.bind f).run P _=_;rw[aa];exact h)
 |@U9 m q k s' hd h=>
  intro w w' hw;by_cases hf:q.forced=true;exact((h 0).loc w w' hw).step (by simp only[cL,hf,if_true]) rfl rfl λτ=>by simp only[cL,hf,if_true]
  have e:(Sem.choose q k).run P w=(k (q.cut (w.tape w.drawn q))).run P {w with drawn:=w.drawn+1}:=by simp only[cL,hf,if_false,dr]
  rcases(h _).loc _ w' (hw.draw _ _)with⟨x,U,W,Y⟩|⟨W,Y,h3⟩
  exact .inl ⟨x,U,e.trans W,Y⟩;refine .inr ⟨by rw[e];exact ee (ev _) W,by rw[e,Y],λτ B=>?_⟩;rw[e]at B⊢;have e0:=B _ (eg _) (ek W)
  have e2:(Sem.choose q k).run P (tp w τ)=(k (q.cut (w.tape w.drawn q))).run P (tp {w with drawn:=w.drawn+1} τ):=by
   simp only[cL,hf,if_false,dr];show(k (q.cut (τ w.drawn q))).run P _=_;rw[e0];rfl
  have:=h3 τ λi a b=>B i (en a) b;revert this
  cases(k _).run P _ with
  |ok a w2=>intro h;show(Sem.choose q k).run P _=_;rw[e2];exact h|halt x w2=>cases x<;>intro h<;>first|trivial|(show(Sem.choose q k).run P _=_;rw[e2];exact h)
def ya(P:Program)(s:World->GStep)(w:World)(fp:Frame)(fq:List Frame)(w₁:World):Prop:=
 w.drawn<=w₁.drawn/\w₁.tape=w.tape/\∀τ,vN τ w w₁->∃es,s (tp w τ)=.go (G fp fq) (tp w₁ τ) es
def gD{s:Sem α}{r:Result α}(h:s.run P w=r):∃es,s.runT P w #[]=(r,es):=by
 refine⟨(s.runT P w #[]).2,?_⟩;rw[<-h,<-cM P s w _]
def LR(Y:P.follows .rangeFuncRecover=true){fr:Frame}{cs:List Frame}(U:Loc P s w)(ac:∀n O,s.run P w=.ok n O->∃m n',gW P m n n')(ab:∀x O,s.run P w=.halt x O->(∃v,x=.panic v)\/kE x){es:Array Event}
  (h:cI P true fr cs none s w=.go (G fp fq) w₁ es):ya P (cI P true fr cs none s) w fp fq w₁:=by
 rcases hrt:s.runT P w #[]with⟨r,ag⟩;have W:s.run P w=r:=by rw[<-cM P s w #[],hrt]
 unfold cI at h;simp only[if_true]at h;rw[hrt]at h;rcases U with⟨x,af,h1,h2⟩|⟨h1,h2,h3⟩
 rw[W]at h1;subst h1;exfalso
 cases x with
 |unsupported u=>cases u<;>first|exact h2.elim|cases h
 |stuck y=>cases h
 |throw y=>simp[aU,bj,cK,G]at h|_=>exact h2.elim
 rw[W]at h1 h2 h3
 have fin:∀{X:Array Event}{g:Goroutine}{O:World},Ez r=O->cK X (.go g O)=.go (G fp fq) w₁ es->(∀τ,zR P s w τ r->∃X',cI P true fr cs none s (tp w τ)=cK X' (.go g (tp O τ)))->ya P (cI P true fr cs none s) w fp fq w₁:=by
  intro X g O e hh hk;simp only[cK,hC]at hh;obtain⟨rfl,rfl,_⟩:=hh;subst e;refine⟨h1,h2,λτ ad=>?_⟩;obtain⟨X',e⟩:=hk τ (h3 τ ad);exact⟨_,e⟩
 have plain:∀{X:Array Event}{g:Goroutine}{O:World},Ez r=O->cK X (.go g O)=.go (G fp fq) w₁ es->(∀τ es',s.runT P (tp w τ) #[]=(match r with|.ok n w=>.ok n (tp w τ)|.halt x w=>.halt x (tp w τ),es')->∃X',cI P true fr cs none s (tp w τ)=cK X' (.go g (tp O τ)))->(∃n O,r=.ok n O)\/(∃v O,r=.halt (.panic v) O)->ya P (cI P true fr cs none s) w fp fq w₁:=by
  intro X g O e hh hk hr;refine fin e hh λτ U=>?_;rcases hr with⟨n,O,rfl⟩|⟨v,O,rfl⟩
  obtain⟨e',e⟩:=gD U;exact hk τ e' e;obtain⟨e',e⟩:=gD U;exact hk τ e' e
 cases r with
 |ok n O=>
  obtain⟨m,n',hn⟩:=ac n O W
  cases hn with
  |value hv=>exact plain rfl h (λτ es' e=>by unfold cI;simp only[if_true,e];exact⟨_,rfl⟩) (.inl ⟨_,_,rfl⟩)|skip=>exact plain rfl h (λτ es' e=>by unfold cI;simp only[if_true,e];exact⟨_,rfl⟩) (.inl ⟨_,_,rfl⟩)|enter hf ae ha=>exact plain rfl h (λτ es' e=>by unfold cI;simp only[if_true,e];exact⟨_,rfl⟩) (.inl ⟨_,_,rfl⟩)|round U ht ha ae=>exact plain rfl h (λτ es' e=>by unfold cI;simp only[if_true,e];exact⟨_,rfl⟩) (.inl ⟨_,_,rfl⟩)|defer hd=>exact plain rfl h (λτ es' e=>by unfold cI;simp only[if_true,e];exact⟨_,rfl⟩) (.inl ⟨_,_,rfl⟩)|comm bl sh hq hc=>cases h
  |spawn ah hd=>
   exfalso;clear plain fin h1 h2 h3 hrt W;dsimp only at h;generalize aR P fr.fn _=X at h;rw[apply_ite (cK X)]at h
   have key:∀(c:Prop)[Decidable c] (A B C:GStep),(if c then A else B)=C->A=C\/B=C:=by
    intro c _ A B C hh;split at hh;exact .inl hh;exact .inr hh
   rcases key _ _ _ _ h with h|h
   simp[aU,bj,cK,G]at h;simp[cK]at h
  |recover=>
   clear plain;obtain⟨fn,tm,td,df,md,kd,rd⟩:=fr
   cases rd with
   |none=>
    dsimp only at h;revert h;generalize aa:aO _ cs=p;intro h
    cases p with
    |none=>
     refine fin rfl h λτ U=>?_;obtain⟨e',e⟩:=gD U;unfold cI;simp only[if_true,e];rw[aa];exact⟨_,rfl⟩
    |some x=>
     obtain⟨v,c⟩:=x;refine fin rfl h λτ U=>?_;obtain⟨e',e⟩:=gD U;unfold cI;simp only[if_true,e];rw[aa];exact⟨_,rfl⟩
   |some l=>
    dsimp only at h;rw[if_pos Y]at h;revert h;generalize aa:aO _ cs=p;intro h
    cases p with
    |none=>
     refine fin rfl h λτ U=>?_;obtain⟨e',e⟩:=gD U;unfold cI;simp only[if_true,e,Y];rw[aa];exact⟨_,rfl⟩
    |some x=>
     refine fin rfl h λτ U=>?_;obtain⟨e',e⟩:=gD U;unfold cI;simp only[if_true,e,Y];rw[aa];exact⟨_,rfl⟩
 |halt x O=>
  cases x with
  |panic v=>exact plain rfl h (λτ es' e=>by unfold cI;simp only[if_true,e];exact⟨_,rfl⟩) (.inr ⟨_,_,rfl⟩)|stuck y=>cases h
  |throw y=>simp[aU,bj,cK,G]at h|unsupported u=>
   rcases ab _ _ W with⟨v,hv⟩|hv
   cases hv
   cases u<;>first|exact hv.elim|cases h
  |_=>
   rcases ab _ _ W with⟨v,hv⟩|hv
   cases hv;exact hv.elim
def lG.outs{s':Sem Go.Next}(h:lG P (gW P) m s s')(hw:WR m w w'):(∀n B,s.run P w=.ok n B->∃m n',gW P m n n')/\(∀x B,s.run P w=.halt x B->(∃v,x=.panic v)\/kE x):=by
 obtain⟨U,W,Y,_⟩:=align hw;have O:=h.run w U #[] W Y;constructor;intro n B e;rw[e]at O;obtain⟨dz,b,_,_,_,_,e3,_⟩:=O;exact⟨dz,b,e3⟩;intro x B e;rw[e]at O;cases x<;>first|exact .inl ⟨_,rfl⟩|exact .inr O
end
section
open Go.Conc
variable {d':Deferred} {fr fr':Frame} {cs cs':List Frame} {s':Sem Go.Next} {w' w₁:World}
def lD(P:Program)(d:Deferred):Goroutine:={frame:={(default:Frame)with fn:=P.funcs.size,defers:=[d],mode:=.panicking [br]},callers:=[],status:=.running,dying:=none}
inductive pS(P:Program):GStep->Prop
 |go (g c w es):pS P (.go (G g c) w es)|ended (o w es):pS P (.ended o w es)|dies (g w es):Goroutine.dyingOn P g->pS P (.go g w es)|comm (g c k b s w es):pS P (.comm (G g c) k b s w es)|spawn (g c d w es):pS P (.spawn (G g c) (lD P d) w es)
def pS.after{P:Program}{s:GStep}(h:pS P s)(X:Array Event):pS P (cK X s):=by
 cases h with
 |go g c w es=>exact .go ..|ended o w es=>exact .ended ..|dies g w es h=>exact .dies _ _ _ h|comm g c k b s w es=>exact .comm ..|spawn g c d w es=>exact .spawn ..
def tK{P:Program}(fr:Frame)(y:String)(w:World):pS P (aU fr y w):=.dies _ _ _ (dieOf_okD (P:=P) fr [] y false w)
section
variable {P:Program} {m:Ren} {T:List Frame} {gl:Nat->Prop} {st:Bool}
def KO(P:Program)(m:Ren)(T:List Frame)(s':GStep)(w':World)(g:Goroutine)(k:Array CommCase)(b:Bool)(sh:CommShape)(w₁:World):Prop:=
 ∃fr cs dz fr' cs' k' B es,g=G fr cs/\s'=.comm (G fr' cs') k' b sh B es/\(m.iq\/KW k b sh)/\m.Le dz/\dU P dz T (fr::cs) (fr'::cs')/\dT (CN dz) k.toList k'.toList/\WR dz w₁ B/\fI m dz w' B/\∀e∈es,py dz e
def K9(P:Program)(m:Ren)(T:List Frame)(s':GStep)(w':World)(g ch:Goroutine)(w₁:World):Prop:=
 ∃fr cs d dz fr' cs' d' B es,g=G fr cs/\ch=lD P d/\s'=.spawn (G fr' cs') (lD P d') B es/\m.iq/\m.Le dz/\dU P dz T (fr::cs) (fr'::cs')/\DR dz d d'/\WR dz w₁ B/\fI m dz w' B/\∀e∈es,py dz e
def I2(h:fX m fr fr'):fr'.noResult P=fr.noResult P:=by
 have B:=h.todo;unfold Frame.noResult
 have:fr'.oper?=fr.oper?:=by
  unfold ff;revert B;generalize fr.todo=l;generalize fr'.todo=l';intro B
  cases B with
  |nil=>rfl|cons hi _=>
   cases hi with
   |inRegion ops t O=>cases t<;>rfl
   |_=>rfl
 rw[this]
def zf{d:Deferred}(h:DR m d d'):((d'.target matches .nil):Bool)=(d.target matches .nil):=by
 have:=h.target;revert this;generalize d.target=a;generalize d'.target=b;intro x;cases x<;>rfl
def JU{d:Deferred}(h:DR m d d'):d'.args.isEmpty=d.args.isEmpty:=by
 have:=h.args.size;simp[aA,this]
def Kc(ac:P.follows .rangeFuncRecover=true){s:Sem Go.Next}{w:World}(aa:∀n W,s.run P w=.ok n W->∃m n',gW P m n n')(Y:∀x W,s.run P w=.halt x W->(∃v,x=.panic v)\/kE x):pS P (cI P true fr cs none s w):=by
 rcases hrt:s.runT P w _ with⟨r,ad⟩;have U:s.run P w=r:=by rw[<-cM P s w _,hrt]
 unfold cI;rw[hrt];refine pS.after ?_ _
 cases r with
 |ok n W=>
  obtain⟨m,n',hn⟩:=aa n W U
  cases hn with
  |value O=>exact .go ..|skip=>exact .go ..|enter hf ab ha=>exact .go ..|round hl ht ha ab=>exact .go ..|defer hd=>exact .go ..|comm bl sh hq hc=>exact .comm ..|spawn ae hd=>
   have key:∀(c:Prop)[Decidable c] (A B:GStep),pS P A->pS P B->pS P (if c then A else B):=by
    intro c _ A B h1 h2;split;exact h1;exact h2
   exact key _ _ _ (tK ..) (.spawn ..)
  |recover=>
   obtain⟨fn,tm,td,df,md,kd,rd⟩:=fr
   cases rd with
   |none=>
    dsimp only;split<;>exact .go ..
   |some l=>
    dsimp only;split<;>exact .go ..
 |halt x W=>
  cases x with
  |panic v=>exact .go ..|stuck y=>exact .ended ..|throw y=>exact tK ..|unsupported u=>
   rcases Y _ _ U with⟨v,O⟩|O
   cases O
   cases u<;>first|exact O.elim|exact .ended ..
  |_=>
   rcases Y _ _ U with⟨v,O⟩|O
   cases O;exact O.elim
def JH(hE:ug P m)(hS:dU P m T (fr::cs) (fr'::cs')){s:Sem Go.Next}(hs:lG P (gW P) m s s'){w:World}(hw:WR m w w')(Y:Al w w'){g:Goroutine}{k:Array CommCase}{b:Bool}{sh:CommShape}{es:Array Event}
  (h:cI P true fr cs none s w=.comm g k b sh w₁ es):KO P m T (cI P true fr' cs' none s' w') w' g k b sh w₁:=by
 have hr:=hs.run w w' #[] hw Y;have W:=(hs.outs hw).2;unfold cI at h⊢;simp only[if_true]at h⊢;rcases hrt:s.runT P w #[]with⟨r,ab⟩;have O:s.run P w=r:=by rw[<-cM P s w #[],hrt]
 rw[O]at hr;rw[hrt]at h
 cases r with
 |ok n wn=>
  obtain⟨dz,n',aa,es₁,e1,e2,e3,e4,_,e6,e7⟩:=hr;rw[e1];simp only[a8]at h⊢
  cases e3 with
  |comm bl sh hq hc=>
   simp only[cK,GStep.comm.injEq]at h;obtain⟨rfl,rfl,rfl,rfl,rfl,_⟩:=h;exact⟨fr,cs,dz,fr',cs',_,aa,_,rfl,rfl,hq.imp (λx=>e2.iq▸x) id,e2,hS.mono e2,hc,e4,e6,uV e7⟩
  |spawn ac hd=>
   have key:∀(X:Array Event)(c:Prop)[Decidable c] (A B C:GStep),cK X (if c then A else B)=C->(c/\cK X A=C)\/(¬c/\cK X B=C):=by
    intro X c _ A B C hh;split at hh;exact .inl ⟨‹_›,hh⟩;exact .inr ⟨‹_›,hh⟩
   rcases key _ _ _ _ _ h with⟨_,h⟩|⟨hc,h⟩
   simp[aU,bj,cK]at h;simp[cK]at h
  |recover=>
   obtain⟨fn,tm,td,df,md,kd,rd⟩:=fr
   cases rd with
   |none=>
    revert h;generalize aO _ cs=p;intro h;cases p<;>cases h
   |some l=>
    dsimp only at h;rw[if_pos hE.T4]at h;revert h;generalize aO _ cs=p;intro h;cases p<;>cases h
  |_=>cases h
 |halt x wn=>
  cases x with
  |panic v=>cases h
  |stuck y=>cases h
  |throw y=>cases h
  |unsupported u=>
   rcases W _ _ O with⟨v,U⟩|U
   cases U
   cases u<;>first|exact U.elim|cases h
  |_=>
   rcases W _ _ O with⟨v,U⟩|U
   cases U;exact U.elim
def Ii(hE:ug P m)(hS:dU P m T (fr::cs) (fr'::cs')){s:Sem Go.Next}(hs:lG P (gW P) m s s'){w:World}(hw:WR m w w')(aa:Al w w'){g ch:Goroutine}{es:Array Event}
  (h:cI P true fr cs none s w=.spawn g ch w₁ es):K9 P m T (cI P true fr' cs' none s' w') w' g ch w₁:=by
 have hr:=hs.run w w' #[] hw aa;have W:=(hs.outs hw).2;unfold cI at h⊢;simp only[if_true]at h⊢;rcases hrt:s.runT P w #[]with⟨r,af⟩;have O:s.run P w=r:=by rw[<-cM P s w #[],hrt]
 rw[O]at hr;rw[hrt]at h
 cases r with
 |ok n wn=>
  obtain⟨dz,n',ab,es₁,e1,Y,e3,e4,_,e6,e7⟩:=hr;rw[e1];simp only[a8]at h⊢
  cases e3 with
  |comm bl sh hq hc=>cases h
  |spawn ac hd=>
   rename_i d d';dsimp only at h⊢
   have key:∀(X:Array Event)(c:Prop)[Decidable c] (A B C:GStep),cK X (if c then A else B)=C->(c/\cK X A=C)\/(¬c/\cK X B=C):=by
    intro X c _ A B C hh;split at hh;exact .inl ⟨‹_›,hh⟩;exact .inr ⟨‹_›,hh⟩
   rcases key _ _ _ _ _ h with⟨_,h⟩|⟨hc,h⟩
   simp[aU,bj,cK]at h
   have ad:¬((P.follows .goNilFatal&&(d'.target matches .nil)&&d'.args.isEmpty&&fr'.noResult P)=true):=by
    rw[zf hd,JU hd,I2 hS.qE];exact hc
   have hf:=(hS.qE.mono Y).finish (.undef dz);have ae:=hS.set Y hf.1 hf.2.1 hf.2.2 (ft ..) (gX ..);obtain⟨rfl,rfl,rfl,_⟩:=h;exact⟨_,_,d,dz,_,_,d',ab,_,rfl,rfl,(congrArg _ (if_neg ad)).trans rfl,Y.iq▸ac,Y,ae,hd,e4,e6,uV e7⟩
  |recover=>
   obtain⟨fn,tm,td,df,md,kd,rd⟩:=fr
   cases rd with
   |none=>
    revert h;generalize aO _ cs=p;intro h;cases p<;>cases h
   |some l=>
    dsimp only at h;rw[if_pos hE.T4]at h;revert h;generalize aO _ cs=p;intro h;cases p<;>cases h
  |_=>cases h
 |halt x wn=>
  cases x with
  |panic v=>cases h
  |stuck y=>cases h
  |throw y=>cases h
  |unsupported u=>
   rcases W _ _ O with⟨v,U⟩|U
   cases U
   cases u<;>first|exact U.elim|cases h
  |_=>
   rcases W _ _ O with⟨v,U⟩|U
   cases U;exact U.elim
end
inductive jw:GStep->Prop
 |go (g w es):jw (.go g w es)|ended (o w es):jw (.ended o w es)
def jw.after{s:GStep}(h:jw s)(X:Array Event):jw (cK X s):=by
 cases h with
 |go g w es=>exact .go ..|ended o w es=>exact .ended ..
section
variable {P:Program} {m:Ren} {T:List Frame} {gl:Nat->Prop} {st:Bool}
def QP(P:Program)(m:Ren)(T:List Frame)(r r':GStep)(w':World):Prop:=
 (∃dz X X' fr cs fr' cs' s s' w₁ B,r=cK X (cI P true fr cs none s w₁)/\r'=cK X' (cI P true fr' cs' none s' B)/\m.Le dz/\ug P dz/\dU P dz T (fr::cs) (fr'::cs')/\lG P (gW P) dz s s'/\WR dz w₁ B/\Al w₁ B/\fI m dz w' B/\∀e∈X',py dz e)\/jw r
def T0{u:Frame}{d:List Frame}{x:World}{g:Frame}{c:List Frame}{B:World}{e:Array Event}(h:GStep.go {frame:=u,callers:=d,status:=.running,dying:=none} x=.go (G g c) B e):B=x/\∀y,∃O,GStep.go {frame:=u,callers:=d,status:=.running,dying:=none} y=.go (G g c) y O:=by
 simp only[hC]at h;obtain⟨U,rfl,_⟩:=h;exact⟨rfl,λy=>⟨#[],by rw[U]⟩⟩
def DV(fr:Frame)(c:Frame)(cs:List Frame)(v:Value):∀x g d B e,aP P true fr (c::cs) none v x=.go (G g d) B e->B=x/\∀y,∃O,aP P true fr (c::cs) none v y=.go (G g d) y O:=by
 intro x g d B e h;unfold aP at h⊢;cases U:fr.kind<;>rw[U]at h<;>dsimp only at h⊢ <;> simp only[hC]at h<;>obtain⟨W,rfl,_⟩:=h<;>exact⟨rfl,λy=>⟨#[],by rw[W]⟩⟩
def DI(O:dU P m T (fr::cs) (fr'::cs')):∃c B,cs=c::B:=by cases O<;>exact⟨_,_,rfl⟩
def Rx(g:Frame)(c:List Frame)(w:World):pS P (.go {frame:=g,callers:=c,status:=.running,dying:=none} w):=.go g c w _
def B7(fr c:Frame)(cs:List Frame)(v:Value)(w:World):pS P (aP P true fr (c::cs) none v w):=by
 unfold aP;cases fr.kind<;>exact Rx ..
def QP.direct(O:ug P m)(U:dU P m T (fr::cs) (fr'::cs')){s s':Sem Go.Next}(W:lG P (gW P) m s s'){w w':World}(Y:WR m w w')(B:Al w w'):QP P m T (cI P true fr cs none s w) (cI P true fr' cs' none s' w') w':=
 .inl ⟨m,#[],#[],fr,cs,fr',cs',s,s',w,w',(nt _).symm,(nt _).symm,.refl m,O,U,W,Y,B,.refl m w',by simp⟩
def rO(fr c:Frame)(cs:List Frame)(v:Value)(w:World):jw (aP P true fr (c::cs) none v w):=by
 unfold aP;cases fr.kind<;>exact .go ..
def tZ{dz m₂:Ren}(B:dz.Le m₂){X Y:Array Event}(O:∀e∈X,py dz e)(U:∀e∈Y,py m₂ e):∀e∈X++Y,py m₂ e:=λe W=>(a9.1 W).elim (λx=>(O e x).mono B) (U e)
end
variable {k:Array CommCase} {es:Array Event} {b:Bool} {sh:CommShape} {g:Goroutine} {s:Sem Go.Next} {w:World}
def Hk(P:Program)(s:World->GStep)(w:World)(g:Goroutine)(k:Array CommCase)(b:Bool)(sh:CommShape)(w₁:World):Prop:=
 w.drawn<=w₁.drawn/\w₁.tape=w.tape/\∀τ,vN τ w w₁->∃es,s (tp w τ)=.comm g k b sh (tp w₁ τ) es
section
variable {P:Program} {m:Ren} {T:List Frame} {gl:Nat->Prop} {st:Bool}
def VY{r:GStep}(B:jw r)(h:r=.comm g k b sh w es){X:Prop}:X:=by
 rw[h]at B;cases B
def Kw{X:Array Event}{s:GStep}(h:cK X s=.comm g k b sh w es):∃B,s=.comm g k b sh w B:=by
 cases s<;>simp[cK]at h;obtain⟨rfl,rfl,rfl,rfl,rfl,_⟩:=h;exact⟨_,rfl⟩
def zz(Y:P.follows .rangeFuncRecover=true)(ab:∀n W,s.run P w=.ok n W->∃m n',gW P m n n')(aa:∀x W,s.run P w=.halt x W->(∃v,x=.panic v)\/kE x)
  (h:cI P true fr cs none s w=.comm g k b sh w₁ es):g=G fr cs/\s.run P w=.ok (.comm k b sh) w₁:=by
 rcases hrt:s.runT P w _ with⟨r,ac⟩;have O:s.run P w=r:=by rw[<-cM P s w _,hrt]
 unfold cI at h;rw[hrt]at h;rw[O]
 cases r with
 |ok n W=>
  obtain⟨m,n',hn⟩:=ab n W O
  cases hn with
  |comm bl sh hq hc=>
   obtain⟨rfl,rfl,rfl,rfl,rfl,_⟩:=h;exact⟨rfl,rfl⟩
  |spawn ad hd=>
   have key:∀(X:Array Event)(c:Prop)[Decidable c] (A B C:GStep),cK X (if c then A else B)=C->(c/\cK X A=C)\/(¬c/\cK X B=C):=by
    intro X c _ A B C hh;split at hh;exact .inl ⟨‹_›,hh⟩;exact .inr ⟨‹_›,hh⟩
   rcases key _ _ _ _ _ h with⟨_,h⟩|⟨hc,h⟩
   simp[aU,bj,cK]at h;simp[cK]at h
  |recover=>
   obtain⟨fn,tm,td,df,md,kd,rd⟩:=fr
   cases rd with
   |none=>
    revert h;generalize aO _ cs=p;intro h;cases p<;>cases h
   |some l=>
    dsimp only at h;rw[if_pos Y]at h;revert h;generalize aO _ cs=p;intro h;cases p<;>cases h
  |_=>cases h
 |halt x W=>
  cases x with
  |panic v=>cases h
  |stuck y=>cases h
  |throw y=>cases h
  |unsupported u=>
   rcases aa _ _ O with⟨v,U⟩|U
   cases U
   cases u<;>first|exact U.elim|cases h
  |_=>
   rcases aa _ _ O with⟨v,U⟩|U
   cases U;exact U.elim
def Ks(B:P.follows .rangeFuncRecover=true)(hl:Loc P s w)(U:∀n W,s.run P w=.ok n W->∃m n',gW P m n n')(Y:∀x W,s.run P w=.halt x W->(∃v,x=.panic v)\/kE x)
  (h:cI P true fr cs none s w=.comm g k b sh w₁ es):Hk P (cI P true fr cs none s) w g k b sh w₁:=by
 obtain⟨rfl,hr⟩:=zz B U Y h;rcases hl with⟨x,ab,O,h2⟩|⟨O,h2,h3⟩
 rw[hr]at O;cases O;rw[hr]at O h2 h3;refine⟨O,h2,λτ aa=>?_⟩;have h4:=h3 τ aa;obtain⟨e',e⟩:=gD h4;unfold cI;simp only[if_true,e];exact⟨_,rfl⟩
end
end
section
open Go.Conc
variable {k:Array CommCase} {b:Bool} {sh:CommShape} {fp:Frame} {fq:List Frame} {w':World}
structure Q4(P:Program)(r:GStep):Prop where
 go:∀{g c w es},r≠.go (G g c) w es
 outs:pS P r
 plain:jw r
def Q4.after{P:Program}{r:GStep}(h:Q4 P r)(X:Array Event):Q4 P (cK X r):=⟨λe=>(uh e).elim λ_ e=>h.go e,h.outs.after X,h.plain.after X⟩
def Q4.ended{P:Program}(o:Outcome)(w:World)(es:Array Event):Q4 P (.ended o w es):=⟨λe=>(by cases e),.ended ..,.ended ..⟩
def Q4.throw{P:Program}(fr:Frame)(y:String)(w:World):Q4 P (aU fr y w):=⟨nofun,tK ..,.go ..⟩
inductive xP(P:Program)(T:List Frame)(main':Bool)(ok:Prop):Ren->(World->GStep)->(World->GStep)->Prop
 |stay {m f f' g g' cs cs'}:dU P m T (g::cs) (g'::cs')->(∀x,f x=.go (G g cs) x)->(∀x,f' x=.go (G g' cs') x)->xP P T main' ok m f f'|low {m f f' g cs}:(ok->False)->(∀x,f x=.go (G g cs) x)->xP P T main' ok m f f'|bad {m f f'}:(∀x x',WR m x x'->Q4 P (f x))->xP P T main' ok m f f'|app {m f f' fr fr' cs cs' s s'}:ug P m->dU P m T (fr::cs) (fr'::cs')->lG P (gW P) m s s'->(∀x,f x=cI P true fr cs none s x)->(∀x,f' x=cI P true fr' cs' none s' x)->xP P T main' ok m f f'|ret {m f f' fr fr' cs cs' v v'}:dU P m T (fr::cs) (fr'::cs')->(ok->cs=[door P]->fr.roundOf=none->False)->VR m v v'->(∀x,f x=aP P true fr cs none v x)->(∀x,f' x=aP P main' fr' cs' none v' x)->xP P T main' ok m f f'|run {m f f'} {α β:Type} {RA:Ren->α->β->Prop} {t t'} {E:Result α->Array Event->Array Event} {E':Result β->Array Event->Array Event} {K:Result α->GStep} {K':Result β->GStep}:dx P RA m t t'->
   (∀x r es,t.runT P x #[]=(r,es)->f x=cK (E r es) (K r))->(∀x r es,t'.runT P x #[]=(r,es)->f' x=cK (E' r es) (K' r))->(∀dz r es,(∀e∈es,py dz e)->∀e∈E' r es,py dz e)->
   (∀dz a a',m.Le dz->RA dz a a'->xP P T main' ok dz (λw=>K (.ok a w)) (λw=>K' (.ok a' w)))->
   (∀dz v v',m.Le dz->VR dz v v'->xP P T main' ok dz (λw=>K (.halt (.panic v) w)) (λw=>K' (.halt (.panic v') w)))->
   (∀x w,kE x->Q4 P (K (.halt x w)))->xP P T main' ok m f f'
section
variable {P:Program} {m:Ren} {T:List Frame} {gl:Nat->Prop} {st main':Bool} {ok:Prop} {f f':World->GStep}
def xP.out(F:xP P T main' ok m f f')(W:ok):∀{w w':World},WR m w w'->Al w w'->∀{fp:Frame}{fq:List Frame}{w₁:World}{es:Array Event},f w=.go (G fp fq) w₁ es->nE P m T (f' w') w' fp fq w₁:=by
 induction F with
 |stay hg h h'=>intro w w' U B fp fq w₁ es e;rw[h]at e;rw[h'];exact still U hg e|low hn h=>exact(hn W).elim|bad h=>intro w w' U B fp fq w₁ es e;exact absurd e (h w w' U).go|app hE hS hs h h'=>intro w w' U B fp fq w₁ es e;rw[h]at e;rw[h'];exact M6 hE hS hs U B e|ret hS hn hv h h'=>
  intro w w' U B fp fq w₁ es e;have:=QU (main':=main') (X:=#[]) (X':=#[]) (.refl _) hS (hn W) hv U (.refl _ w') (by simp) (by rw[nt,<-h];exact e);rw[nt]at this;rw[h'];exact this
 |@run m f f' α β RA t t' E E' K K' ht h h' hE _ _ Y aa ab=>
  intro w w' U B fp fq w₁ es e;have O:=ht.run w w' #[] U (.inl B);rw[<-cM P _ w _]at O;rcases hrt:t.runT P w _ with⟨r,ad⟩;rw[hrt]at O;rw[h _ _ _ hrt]at e;obtain⟨ae,e⟩:=uh e
  cases r with
  |ok a wn=>
   obtain⟨dz,a',ac,es₁,g1,g2,g3,g4,g5,g6,g7⟩:=O;rw[h' _ _ _ g1];exact nE.after g2 g6 (hE _ _ _ (by simpa using g7)) (aa dz a a' g2 g3 g4 (g5 B) e)
  |halt x wn=>
   cases x with
   |panic v=>
    obtain⟨dz,a',ac,es₁,g1,g2,g3,g4,g5,g6,g7⟩:=O;rw[h' _ _ _ g1];exact nE.after g2 g6 (hE _ _ _ (by simpa using g7)) (ab dz v a' g2 g3 g4 (g5 B) e)
   |_=>refine absurd e (Y _ _ ?_).go;exact O
def Lg(R:World->Array Event->GStep)(s:World->GStep)(w w₁:World):Prop:=
 w.drawn<=w₁.drawn/\w₁.tape=w.tape/\∀τ,vN τ w w₁->∃es,s (tp w τ)=R (tp w₁ τ) es
structure Kind(P:Program)(R:World->Array Event->GStep):Prop where
 off:∀{X s w es},cK X s=R w es->∃e,s=R w e
 on:∀X w es,∃e,cK X (R w es)=R w e
 bad:∀{r w es},Q4 P r->r≠R w es
 go:∀{g c x w es},GStep.go (G g c) x=R w es->w=x/\∀y,∃e,GStep.go (G g c) y=R y e
 ret:∀{fr c cs v x w es},aP P true fr (c::cs) none v x=R w es->w=x/\∀y,∃e,aP P true fr (c::cs) none v y=R y e
 app:∀{fr cs s w w₁ es},Loc P s w->(∀n wn,s.run P w=.ok n wn->∃m n',gW P m n n')->(∀x wn,s.run P w=.halt x wn->(∃v,x=.panic v)\/kE x)->cI P true fr cs none s w=R w₁ es->Lg R (cI P true fr cs none s) w w₁
def xP.loc(F:xP P T main' ok m f f'){R:World->Array Event->GStep}(k:Kind P R):∀{w w':World},WR m w w'->∀{w₁:World}{es:Array Event},f w=R w₁ es->Lg R f w w₁:=by
 induction F with
 |stay _ h _|low _ h=>intro w w' O w₁ es e;rw[h]at e;obtain⟨rfl,q⟩:=k.go e;exact⟨eg _,rfl,λτ _=>by rw[h];exact q _⟩
 |bad h=>intro w w' O w₁ es e;exact absurd e (k.bad (h w w' O))|app hE hS hs h h'=>
  intro w w' O w₁ es e;rw[h]at e;obtain⟨a,b,c⟩:=k.app (hs.loc w w' O) (hs.outs O).1 (hs.outs O).2 e;exact⟨a,b,λτ U=>by rw[h];exact c τ U⟩
 |ret hS hn hv h h'=>
  obtain⟨c,ak,rfl⟩:=DI hS;intro w w' O w₁ es e;rw[h]at e;obtain⟨rfl,q⟩:=k.ret e;exact⟨eg _,rfl,λτ _=>by rw[h];exact q _⟩
 |@run m f f' α β RA t t' E E' K K' ht h h' hE _ _ Y aa ab=>
  intro w w' O w₁ es e;obtain⟨ac,ad,ae,_⟩:=align O;have B:=ht.run w ac #[] ad (.inl ae);have hl:=ht.loc w w' O;obtain⟨am,af⟩:=gD (P:=P) (s:=t) (w:=w) rfl;rw[h _ _ _ af]at e;obtain⟨_,e⟩:=k.off e
  have key:∀{r:Result α}{W:World},Ez r=W->Lg R (λw=>K (match r with|.ok a _=>.ok a w|.halt x _=>.halt x w)) W w₁->(∀τ,zR P t w τ r->t.run P (tp w τ)=match r with|.ok a _=>.ok a (tp W τ)|.halt x _=>.halt x (tp W τ))->t.run P w=r->SQ P t w->Lg R f w w₁:=by
   rintro r W rfl ⟨k1,k2,k3⟩ ag hr ⟨h1,h2,h3⟩;rw[hr]at h1 h2 h3;refine⟨ee h1 k1,k2.trans h2,λτ U=>?_⟩;have ha:=ag τ (h3 τ λi x y=>U i x (ej y k1));obtain⟨an,k4⟩:=k3 τ λi x y=>by rw[h2];exact U i (ee h1 x) y
   obtain⟨ao,ah⟩:=gD ha;have k4:K _=R .. := k4;rw[h _ _ _ ah,k4];exact k.on ..
  rcases hl with⟨q,aj,h1,h2⟩|hl
  rw[h1]at e;exact absurd e (k.bad (Y _ _ h2))
  cases hq:t.run P w with
  |ok a W=>
   rw[hq]at e B;obtain⟨dz,a',ai,es₁,g1,g2,g3,g4,_⟩:=B;exact key (r:=.ok a W) rfl (aa dz a a' g2 g3 g4 e) (λ_ h=>h) hq hl
  |halt x W=>
   rw[hq]at e B
   cases x with
   |panic v=>
    obtain⟨dz,a',ai,es₁,g1,g2,g3,g4,_⟩:=B;exact key (r:=.halt _ W) rfl (ab dz v a' g2 g3 g4 e) (λ_ h=>h) hq hl
   |_=>refine absurd e (k.bad (Y _ _ ?_));exact B
def xP.outs(F:xP P T main' ok m f f'):∀{w w':World},WR m w w'->pS P (f w):=by
 induction F with
 |stay _ h _|low _ h=>intro w w' O;rw[h];exact .go ..|bad h=>exact λO=>(h _ _ O).outs|app hE hS hs h h'=>intro w w' O;rw[h];exact Kc hE.T4 (hs.outs O).1 (hs.outs O).2|ret hS hn hv h h'=>obtain⟨c,af,rfl⟩:=DI hS;intro w w' O;rw[h];exact B7 ..
 |@run m f f' α β RA t t' E E' K K' ht h h' hE _ _ U W Y=>
  intro w w' O;obtain⟨aa,ab,ac,_⟩:=align O;have B:=ht.run w aa #[] ab (.inl ac);obtain⟨ag,ad⟩:=gD (P:=P) (s:=t) (w:=w) rfl;rw[h _ _ _ ad];refine pS.after ?_ _
  cases hq:t.run P w with
  |ok a wn=>rw[hq]at B;obtain⟨dz,a',ae,es₁,g1,g2,g3,g4,_⟩:=B;exact W dz a a' g2 g3 g4
  |halt x wn=>
   rw[hq]at B
   cases x with
   |panic v=>obtain⟨dz,a',ae,es₁,g1,g2,g3,g4,_⟩:=B;exact Y dz v a' g2 g3 g4
   |_=>refine(U _ _ ?_).outs;exact B
def QP.after{dz:Ren}{r r':GStep}{O:World}{X X':Array Event}(W:m.Le dz)(hk:fI m dz w' O)(hX:∀e∈X',py dz e)(h:QP P dz T r r' O):QP P m T (cK X r) (cK X' r') w':=by
 have aa:∀(X Y:Array Event)(s:GStep),cK X (cK Y s)=cK (X++Y) s:=λX Y s=>by cases s<;>simp[cK]
 rcases h with⟨m₂,Y,Y',fr,cs,fr',cs',s,s',w₁,B,rfl,rfl,U,h2,h3,h4,h5,h6,h7,h8⟩|h
 exact .inl ⟨m₂,_,_,fr,cs,fr',cs',s,s',w₁,B,aa ..,aa ..,W.trans U,h2,h3,h4,h5,h6,hk.trans W U h7,tZ U hX h8⟩;exact .inr (h.after _)
def xP.via(F:xP P T main' ok m f f'):∀{w w':World},WR m w w'->Al w w'->QP P m T (f w) (f' w') w':=by
 induction F with
 |stay _ h _|low _ h=>intro w w' U O;rw[h];exact .inr (.go ..)|bad h=>exact λU _=>.inr (h _ _ U).plain|app hE hS hs h h'=>intro w w' U O;rw[h,h'];exact QP.direct hE hS hs U O|ret hS hn hv h h'=>obtain⟨c,ae,rfl⟩:=DI hS;intro w w' U O;rw[h];exact .inr (rO ..)
 |@run m f f' α β RA t t' E E' K K' ht h h' hE _ _ W aa ab=>
  intro w w' U O;have B:=ht.run w w' #[] U (.inl O);obtain⟨af,ac⟩:=gD (P:=P) (s:=t) (w:=w) rfl;rw[h _ _ _ ac]
  cases hq:t.run P w with
  |ok a wn=>
   rw[hq]at B;obtain⟨dz,a',ad,es₁,g1,Y,g3,g4,g5,g6,g7⟩:=B;rw[h' _ _ _ g1];exact QP.after Y g6 (hE _ _ _ (by simpa using g7)) (aa dz a a' Y g3 g4 (g5 O))
  |halt x wn=>
   rw[hq]at B
   cases x with
   |panic v=>
    obtain⟨dz,a',ad,es₁,g1,Y,g3,g4,g5,g6,g7⟩:=B;rw[h' _ _ _ g1];exact QP.after Y g6 (hE _ _ _ (by simpa using g7)) (ab dz v a' Y g3 g4 (g5 O))
   |_=>refine .inr (jw.after (W _ _ ?_).plain _);exact B
def qO{fr fr':Frame}{cs cs':List Frame}(B:fr.roundOf≠none)(U:dU P m T (fr::cs) (fr'::cs')){l l':Nat}(W:m.blk l=some l')(j:Option Code)(Y:∀c,j=some c->fR m.ok c){q O:Outcome}
  (h:∀x,f x=cK (aR P fr.fn ((bD l j).runT P x #[]).2) (match ((bD l j).runT P x #[]).1 with|.ok v w=>aP P true fr cs none v w|.halt _ w=>.ended q w))
  (h':∀x,f' x=cK (aR P fr'.fn ((bD l' j).runT P x #[]).2) (match ((bD l' j).runT P x #[]).1 with|.ok v w=>aP P main' fr' cs' none v w|.halt _ w=>.ended O w)):xP P T main' ok m f f':=
 .run (E:=λ_ es=>aR P _ es) (E':=λ_ es=>aR P _ es) (K:=λr=>match r with|.ok v w=>aP P true fr cs none v w|.halt _ w=>.ended q w) (K':=λr=>match r with|.ok v w=>aP P main' fr' cs' none v w|.halt _ w=>.ended O w) (IP (P:=P) W Y)
  (λx r es e=>by rw[h,e]) (λx r es e=>by rw[h',e]) (λ_ _ _ h=>nu h) (λdz a a' hm ha=>.ret (U.mono hm) (λ_ _ h=>B h) ha (λ_=>rfl) (λ_=>rfl)) (λ_ _ _ _ _=>.bad λ_ _ _=>.ended ..) (λ_ _ _=>.ended ..)
def ns{fr:Frame}{cs:List Frame}{ops:Array Oper}{i:Nat}{t:List Nat}{k:List Item}{o:Oper}(B:fr.todo=.inRegion ops (i::t)::k)(O:ops[i]?=some o)(U:hI o (bc ops fr.tmps)=true)(x:World) :
  cJ P b true fr cs none x=match fr.roundOf,o.op with
   |some l,.defer c=>cI P true fr cs none (do bL l (<-bk fr.eval c o.type);pure .skip) x
   |_,_=>cI P true fr cs none (bo fr.eval o) x:=by
 unfold cJ;simp only[B,O,gn,gj];rw[if_pos U];unfold aS.oper;simp only[ff,B,O];rfl
def LK(hX:lZ P m gl st){fr fr':Frame}{cs cs':List Frame}(hS:dU P m T (fr::cs) (fr'::cs')):xP P T main' ok m (cJ P true true fr cs none) (cJ P main' true fr' cs' none):=by
 have hF:=hS.qE;have ht:=hF.todo;have ad:=hF.round;have ao:=hF.fn;obtain⟨fn,tm,td,df,md,kd,rd⟩:=fr;obtain⟨B,O,ap,Y,ab,aa,U⟩:=fr';simp only at ht ad ao;subst ao;have W:∀{k k':List Item},dT (kh m) k k'->dU P m T (⟨B,tm,k,df,md,kd,rd⟩::cs) (⟨B,O,k',Y,ab,aa,U⟩::cs'):=λhk=>hS.set (.refl m) (IQ hF hk) rfl rfl rfl rfl;have ai:dU P m T (⟨B,tm,td,df,.returning,kd,rd⟩::cs) (⟨B,O,ap,Y,.returning,aa,U⟩::cs'):=hS.set (.refl m) (Ts hF .returning) rfl rfl rfl rfl;have ak:∀x,dQ m.fF gl x->VR m (ey ⟨B,tm,td,df,md,kd,rd⟩ x) (ey ⟨B,O,ap,Y,ab,aa,U⟩ x):=λx hx=>hF.eval hX.po x hx
 cases ht with
 |nil=>
  cases ad with
  |none=>exact .stay ai (λ_=>rfl) (λ_=>rfl)|some hl=>exact qO (by simp) hS hl none (λ_ h=>by cases h) (λ_=>rfl) (λ_=>rfl)
 |cons hi hk=>
  rename_i k k'
  cases hi with
  |Ia y=>exact .bad λ_ _ _=>.ended _ _ _|mH y=>exact .stay (W (.cons (.Ia y) (.cons (.mH y) hk))) (λ_=>rfl) (λ_=>rfl)|inBlock i=>exact .stay (W hk) (λ_=>rfl) (λ_=>rfl)|inScope c hc=>exact .stay (W hk) (λ_=>rfl) (λ_=>rfl)|inLoop c hc=>exact .stay (W (.cons (.code c hc) (.cons (.inLoop c hc) hk))) (λ_=>rfl) (λ_=>rfl)|inRangeFunc hl=>exact .bad λ_ _ _=>.ended _ _ _|beginRound=>
   refine .app hX.env hS (s:=do rd.elim (stuck "beginRound: no round") bH;pure .skip) (s':=do U.elim (stuck "beginRound: no round") bH;pure .skip) ?_ (λ_=>rfl) (λ_=>rfl)
   cases ad with
   |none=>exact .base (.dA trivial)|some hl=>exact VA (DZ hl)
  |endRangeFunc hl=>
   rename_i l l'
   refine .run (LF (P:=P) hl) (E:=λ_ es=>aR P B es) (E':=λ_ es=>aR P B es)
    (K:=λr=>match r with|.ok af w=>.go {frame:=⟨B,tm,(af.map Item.code).toList++k,df,md,kd,rd⟩,callers:=cs,status:=.running,dying:=none} w|.halt (.panic v) w=>.go {frame:=eC ⟨B,tm,.endRangeFunc l::k,df,md,kd,rd⟩ [{v,recovered:=false}],callers:=cs,status:=.running,dying:=none} w|.halt _ w=>.ended (.stuck "range over a function: no such loop" (ez P ⟨B,tm,.endRangeFunc l::k,df,md,kd,rd⟩)) w)
    (K':=λr=>match r with|.ok af w=>.go {frame:=⟨B,O,(af.map Item.code).toList++k',Y,ab,aa,U⟩,callers:=cs',status:=.running,dying:=none} w|.halt (.panic v) w=>.go {frame:=eC ⟨B,O,.endRangeFunc l'::k',Y,ab,aa,U⟩ [{v,recovered:=false}],callers:=cs',status:=.running,dying:=none} w|.halt _ w=>.ended (.stuck "range over a function: no such loop" (ez P ⟨B,O,.endRangeFunc l'::k',Y,ab,aa,U⟩)) w)
    (λx r es e=>by unfold cJ;dsimp only;rw[e];rfl) (λx r es e=>by unfold cJ;dsimp only;rw[e];rfl) (λ_ _ _ h=>nu h) ?_ ?_ ?_
   rintro dz a b hm ⟨rfl,ha⟩;refine .stay (hS.set hm (g:=⟨B,tm,_,df,md,kd,rd⟩) (g':=⟨B,O,_,Y,ab,aa,U⟩) (IQ (hF.mono hm) (dT.append ?_ (hk.mono λ_ _ x=>x.mono hm))) rfl rfl rfl rfl) (λ_=>rfl) (λ_=>rfl)
   cases a with
   |none=>exact .nil|some c=>exact .cons (.code c (ha c rfl)) .nil
   intro dz v v' hm hv;have hf:=(hF.mono hm).raise (vs:=[{v,recovered:=false}]) (vs':=[{v:=v',recovered:=false}]) (.cons ⟨hv,rfl,rfl⟩ .nil);exact .stay (hS.set hm hf.1 hf.2.1 hf.2.2 (ow _ _) (um _ _)) (λ_=>rfl) (λ_=>rfl);intro x w hx;cases x<;>first|exact hx.elim|exact .ended _ _ _
  |inRegion ops t ho=>
   cases t with
   |nil=>exact .stay (W hk) (λ_=>rfl) (λ_=>rfl)|cons i t=>
    have hy:bc ops O=bc ops tm:=funext (mu ops hF.tmps);have hf:=hF.finish (.undef m);have aj:=hS.set (.refl m) hf.1 hf.2.1 hf.2.2 (ft _ _) (gX _ _)
    cases ac:ops[i]? with
    |none=>exact .stay aj (λx=>by unfold cJ;dsimp only;rw[ac];rfl) (λx=>by unfold cJ;dsimp only;rw[ac];rfl)|some o=>
     by_cases ag:hI o (bc ops tm)=true;have ah:hI o (bc ops O)=true:=by rw[hy];exact ag
     have am:=hX.ops o (ho o (by rw[<-az]at ac;exact List.mem_of_getElem? ac));have aq:=Ih hX.env hX.strict hX.iq ak (λc=>⟨rfl,rfl⟩) o am
     cases ad with
     |none=>exact .app hX.env hS aq (λx=>by rw[ns rfl ac ag]) (λx=>by rw[ns rfl ac ah])|some hl=>
      obtain⟨od,oo,ot,op,oa,og⟩:=o;cases oo<;>first|exact .app hX.env hS aq (λx=>ns rfl ac ag x) (λx=>ns rfl ac ah x)|skip
      rename_i c;refine .app hX.env hS (.base ?_) (λx=>ns rfl ac ag x) (λx=>ns rfl ac ah x);refine dF (Nl ak ⟨am.1,?_⟩ _) λm' d d' av hd=>dF (Au (av.blk _ _ hl) hd) λ_ _ _ _ _=>.pure .skip;have h2:=am.2;obtain⟨cc,ca,ct⟩:=c;cases cc<;>first|trivial|exact⟨h2.1,hX.iq h2.2⟩|exact h2.elim
     refine .stay aj (λx=>?_) (λx=>?_)
     all_goals
      unfold cJ;dsimp only;rw[ac];simp only[gn,gj]
      try rw[hy]
      rw[if_neg ag];rfl
  |code c hc=>
   cases c with
   |skip=>exact .stay (W hk) (λ_=>rfl) (λ_=>rfl)|label l=>exact .stay (W hk) (λ_=>rfl) (λ_=>rfl)|ret=>
    cases ad with
    |none=>exact .stay ai (λ_=>rfl) (λ_=>rfl)|some hl=>exact qO (by simp) hS hl (some .ret) (λ_ h=>by cases h;trivial) (λ_=>rfl) (λ_=>rfl)
   |seq x y=>exact .stay (W (.cons (.code x hc.1) (.cons (.code y hc.2) hk))) (λ_=>rfl) (λ_=>rfl)|cond c x y=>
    have hv:=ak c (by have:=hc.1;cases c<;>first|exact this|exact this.elim);generalize hp:ey _ c=p at hv;generalize ae:ey _ c=p' at hv;cases hv<;>first|exact .bad (λx _ _=>by unfold cJ;dsimp only;rw[hp];exact .ended _ _ _)|skip
    rename_i t;refine .stay (W (.cons (.code (if t then x else y) ?_) hk)) (λx=>by unfold cJ;dsimp only;rw[hp];rfl) (λx=>by unfold cJ;dsimp only;rw[ae];rfl);cases t;exact hc.2.2;exact hc.2.1
   |block i x=>exact .stay (W (.cons (.code x hc) (.cons (.inBlock i) hk))) (λ_=>rfl) (λ_=>rfl)|loop x=>exact .stay (W (.cons (.code x hc) (.cons (.inLoop x hc) hk))) (λ_=>rfl) (λ_=>rfl)|scope x=>exact .stay (W (.cons (.code x hc) (.cons (.inScope x hc) hk))) (λ_=>rfl) (λ_=>rfl)|exit i=>
    have he:=A0 i hk;generalize hp:bn i k=p at he;generalize ae:bn i k'=p' at he
    cases he with
    |some an=>exact .stay (W an) (λx=>by unfold cJ;dsimp only;rw[hp];rfl) (λx=>by unfold cJ;dsimp only;rw[ae];rfl)|none=>
     cases ad with
     |none=>exact .bad (λx _ _=>by unfold cJ;dsimp only;rw[hp];exact .ended _ _ _)|some hl=>exact qO (by simp) hS hl (some (.exit i)) (λ_ h=>by cases h;trivial) (λx=>by unfold cJ;dsimp only;rw[hp];rfl) (λx=>by unfold cJ;dsimp only;rw[ae];rfl)
   |goto l=>
    have he:=Aj l hk;generalize hp:bm l k=p at he;generalize ae:bm l k'=p' at he
    cases he with
    |some an=>exact .stay (W an) (λx=>by unfold cJ;dsimp only;rw[hp];rfl) (λx=>by unfold cJ;dsimp only;rw[ae];rfl)|none=>
     cases ad with
     |none=>exact .bad (λx _ _=>by unfold cJ;dsimp only;rw[hp];exact .ended _ _ _)|some hl=>exact qO (by simp) hS hl (some (.goto l)) (λ_ h=>by cases h;trivial) (λx=>by unfold cJ;dsimp only;rw[hp];rfl) (λx=>by unfold cJ;dsimp only;rw[ae];rfl)
   |rangeFunc f ps a x=>
    refine .run (Hy (P:=P) (fn:=B) (ps:=ps) hF.tmps hc.2.1 hc.2.2 ad) (E:=λ_ es=>aR P B es) (E':=λ_ es=>aR P B es)
     (K:=λr=>match r with|.ok (l,mark) w=>cI P true ⟨B,tm,.inRangeFunc l::k,mark++df,md,kd,rd⟩ cs none (do let d <-bk (ey ⟨B,tm,.inRangeFunc l::k,mark++df,md,kd,rd⟩) {callee:=.value f,args:=#[.const (.func (.yield l) #[] #[])],argTypes:=#[]} 0;invoke d.target d.args) w|.halt _ w=>.ended (.stuck "range over a function: no such loop" (ez P ⟨B,tm,.code (.rangeFunc f ps a x)::k,df,md,kd,rd⟩)) w)
     (K':=λr=>match r with|.ok (l,mark) w=>cI P true ⟨B,O,.inRangeFunc l::k',mark++Y,ab,aa,U⟩ cs' none (do let d <-bk (ey ⟨B,O,.inRangeFunc l::k',mark++Y,ab,aa,U⟩) {callee:=.value f,args:=#[.const (.func (.yield l) #[] #[])],argTypes:=#[]} 0;invoke d.target d.args) w|.halt _ w=>.ended (.stuck "range over a function: no such loop" (ez P ⟨B,O,.code (.rangeFunc f ps a x)::k',Y,ab,aa,U⟩)) w)
     (λx r es e=>by unfold cJ;dsimp only;rw[e];rfl) (λx r es e=>by unfold cJ;dsimp only;rw[e];rfl) (λ_ _ _ h=>nu h) ?_ (λ_ _ _ _ _=>.bad λ_ _ _=>.ended _ _ _) (λ_ _ _=>.ended _ _ _)
    rintro dz ⟨l,mk⟩ ⟨l',mk'⟩ hm ⟨ar,aw⟩
    have au:fX dz ⟨B,tm,.inRangeFunc l::k,mk++df,md,kd,rd⟩ ⟨B,O,.inRangeFunc l'::k',mk'++Y,ab,aa,U⟩:=
     ⟨rfl,hF.tmps.mono hm,.cons (.inRangeFunc ar) (hk.mono λ_ _ y=>y.mono hm),aw.append ((hF.mono hm).defers),(hF.mono hm).mode,(hF.mono hm).round⟩
    refine .app (hX.mono hm).env (hS.set hm au rfl rfl rfl rfl) (.base (dF (pC (au.eval (hX.mono hm).po f (by have:=hc.1;cases f<;>first|exact this|exact this.elim)) (by simpa[ey]using eD.one (VR.Ly (NS.yield ar) (.nil dz) (.nil dz)))) λm' d d' hl hd=>?_)) (λ_=>rfl) (λ_=>rfl);exact rH ((hX.mono hm).env.mono hl) hd.1.target hd.2 hd.1.args
   |region i ops d=>
    cases d with
    |false=>exact .stay (W (.cons (.inRegion ops _ hc) hk)) (λ_=>rfl) (λ_=>rfl)|true=>
     refine .run (RA:=xV) (t:=choose (.order B i)) (t':=choose (.order B i)) (E:=λ_ _=>#[]) (E':=λ_ _=>#[])
      (K:=λr=>match r with|.ok t w=>.go {frame:=⟨B,tm,.inRegion ops (hJ (P.follows .mixedOrders) ops t)::k,df,md,kd,rd⟩,callers:=cs,status:=.running,dying:=none} w|.halt _ w=>.ended (.stuck "order" (ez P ⟨B,tm,.code (.region i ops true)::k,df,md,kd,rd⟩)) w)
      (K':=λr=>match r with|.ok t w=>.go {frame:=⟨B,O,.inRegion ops (hJ (P.follows .mixedOrders) ops t)::k',Y,ab,aa,U⟩,callers:=cs',status:=.running,dying:=none} w|.halt _ w=>.ended (.stuck "order" (ez P ⟨B,O,.code (.region i ops true)::k',Y,ab,aa,U⟩)) w)
      (.choose λn=>.pure rfl) (λx r es e=>?_) (λx r es e=>?_) (λ_ _ _ _ e h=>by simp at h) ?_ (λ_ _ _ _ _=>.bad λ_ _ _=>.ended _ _ _) (λ_ _ _=>.ended _ _ _)
     have q:(choose (.order B i)).run P x=r:=by rw[<-cM P _ x #[],e]
     rw[nt,<-q];rfl;have q:(choose (.order B i)).run P x=r:=by rw[<-cM P _ x #[],e]
     rw[nt,<-q];rfl;rintro dz a b hm rfl;exact .stay (hS.set hm (g:=⟨B,tm,_,df,md,kd,rd⟩) (g':=⟨B,O,_,Y,ab,aa,U⟩) (IQ (hF.mono hm) (.cons (.inRegion ops _ (hm.ok▸hc)) (hk.mono λ_ _ y=>y.mono hm))) rfl rfl rfl rfl) (λ_=>rfl) (λ_=>rfl)
   |refuse y=>exact hc.elim
def xP.eq{g g':World->GStep}(F:xP P T main' ok m f f')(h:∀x,g x=f x)(h':∀x,g' x=f' x):xP P T main' ok m g g':=by rw[funext h,funext h'];exact F
def oD(hX:lZ P m gl st){fr fr':Frame}{cs cs':List Frame}(hS:dU P m T (fr::cs) (fr'::cs')){d d':Deferred}(hd:DR m d d')(hn:∀x y z,d.target≠.builtin .close x y z):xP P T main' ok m (aZ P fr cs none d) (aZ P fr' cs' none d'):=by
 have Y:dx P (gW P) m (invoke d.target d.args) (invoke d'.target d'.args):=rH hX.env hd.target (by
  intro bb x y z e;have B:=hd.target;rw[e]at B;revert B;generalize d'.target=t';intro B;cases B
  exact hn x y z e) hd.args
 have O:=hS.qE.mode;have aa:=zf hd
 have ab:((fr'.mode matches .panicking _):Bool)=(fr.mode matches .panicking _):=by
  revert O;generalize fr.mode=q;generalize fr'.mode=q';intro h;cases h<;>rfl
 by_cases hc:((d.target matches .nil)&&(fr.mode matches .panicking _))=true;exact .bad λx _ _=>by rw[show aZ P fr cs none d x=_ from if_pos hc];exact .ended _ _ _
 refine .run Y (E:=λr es=>aR P fr.fn (match r with|.halt .blocked _|.halt .waiting _=>#[]|_=>es)) (E':=λr es=>aR P fr'.fn (match r with|.halt .blocked _|.halt .waiting _=>#[]|_=>es)) (λx r es e=>by rw[show aZ P fr cs none d x=_ from if_neg hc,e];rfl)
  (λx r es e=>by rw[show aZ P fr' cs' none d' x=_ from if_neg λh=>hc ((congr (congrArg and aa) ab).symm.trans h),e];rfl) (λdz r es h=>nu (by split<;>simp_all)) ?_ ?_ ?_
 intro dz a a' hm ha;have W:=hS.mono hm
 cases ha with
 |enter hf U ha=>exact .stay (W.push (DC ((hX.env.mono hm).calls _ hf) U ha .deferred .deferred) rfl (.inr rfl)) (λ_=>rfl) (λ_=>rfl)|round hl B ha U=>
  rename_i l l' f t t' a c;have ac:fX dz (e8 l f t a c .deferred) (e8 l' f t' a c .deferred):=⟨rfl,B,.cons (.code _ ha) (.cons .beginRound (.cons (.code _ U) .nil)),.nil,.run,.some hl⟩;exact .stay (W.push ac rfl (.inr rfl)) (λ_=>rfl) (λ_=>rfl)
 |recover=>
  have B:=uy W;generalize hq:fr.mode=q at O;generalize ad:fr'.mode=q' at O
  cases O with
  |run|panicking=>exact .stay W (λ_=>rfl) (λ_=>rfl)|returning=>
   generalize hp:aO _ cs=p at B;generalize ae:aO _ cs'=p' at B
   cases B with
   |none=>exact .stay W (λ_=>rfl) (λ_=>rfl)|some hx=>exact .stay hx.2 (λ_=>rfl) (λ_=>rfl)
 |_=>exact .stay W (λ_=>rfl) (λ_=>rfl)
 intro dz v v' hm hv;have hf:=(hS.qE.mono hm).raise (vs:=[{v,recovered:=false}]) (vs':=[{v:=v',recovered:=false}]) (.cons ⟨hv,rfl,rfl⟩ .nil);exact .stay (hS.set hm hf.1 hf.2.1 hf.2.2 (ow ..) (um ..)) (λ_=>rfl) (λ_=>rfl);intro x w hx
 cases x with
 |throw y=>exact .throw ..|stuck y=>exact .ended ..|unsupported u=>exact .ended ..|_=>exact hx.elim
def Fy(hX:lZ P m gl st){fr fr':Frame}{cs cs':List Frame}(hS:dU P m T (fr::cs) (fr'::cs'))(hm:fr.mode≠.run)(hn:¬AtClose fr)(O:ok->cs=[door P]->fr.mode≠.run->fr.defers=[]->fr.roundOf=none->False):xP P T main' ok m (aY P true fr cs none) (aY P main' fr' cs' none):=by
 have hF:=hS.qE;have ab:=hF.defers;have U:=hF.mode;have ac:=hF.fn;unfold AtClose at hn;obtain⟨fn,tm,td,df,md,kd,rd⟩:=fr;obtain⟨B,ad,ae,ar,af,ag,ah⟩:=fr';simp only at ab U hm hn O ac;subst ac
 cases ab with
 |cons hd ai=>
  rename_i d d' ds aj;have ak:dU P m T (⟨B,tm,td,ds,md,kd,rd⟩::cs) (⟨B,ad,ae,aj,af,ag,ah⟩::cs'):=hS.set (.refl m) ⟨hF.fn,hF.tmps,hF.todo,ai,U,hF.round⟩ rfl rfl rfl rfl;have ht:=hd.target;obtain⟨dt,da⟩:=d;obtain⟨au,am⟩:=d';simp only at ht
  cases ht with
  |collected an=>
   rename_i r r';refine .run (yw (P:=P) an) (E:=λ_ es=>aR P B es) (E':=λ_ es=>aR P B es) (λx r es e=>by unfold aY;dsimp only;rw[e];dsimp only) (λx r es e=>by unfold aY;dsimp only;rw[e];dsimp only) (λ_ _ _ h=>nu h) (λdz a a' Y ha=>?_) (λ_ _ _ _ _=>.bad λ_ _ _=>?_) (λ_ _ _=>?_)<;>try exact .ended _ _ _
   exact .stay (hS.set Y (g:=⟨B,tm,td,a++ds,md,kd,rd⟩) (g':=⟨B,ad,ae,a'++aj,af,ag,ah⟩) ⟨hF.fn,hF.tmps.mono Y,(hF.mono Y).todo,ha.append (ai.mono λ_ _ x=>x.mono Y),U.mono Y,(hF.mono Y).round⟩ rfl rfl rfl rfl) (λ_=>rfl) (λ_=>rfl)
  |nil=>exact(oD hX ak (d:=⟨.nil,da⟩) (d':=⟨.nil,am⟩) ⟨.nil,hd.args⟩ (λ_ _ _ h=>by cases h)).eq (λ_=>rfl) (λ_=>rfl)|fn hf=>exact(oD hX ak (d:=⟨_,da⟩) (d':=⟨_,am⟩) ⟨.fn hf,hd.args⟩ (λ_ _ _ h=>by cases h)).eq (λ_=>rfl) (λ_=>rfl)|builtin x y z av=>exact absurd ⟨hm,x,y,z,_,_,rfl⟩ hn|mark x y z ao=>
   refine .bad λx _ hw=>?_;obtain⟨q,aq,e1⟩:=Mr (P:=P) ao hw;rw[<-cM P _ x #[]]at e1;unfold aY;dsimp only;rw[e1];exact Q4.after (.ended _ _ _) _
 |nil=>
  cases U with
  |run=>exact absurd rfl hm|returning=>
   cases W:P.funcs[B]? with
   |none=>exact .ret hS (λo e h=>O o e (by simp) rfl h) (hF.tmps.getD 0) (λx=>by unfold aY;dsimp only;rw[W]) (λx=>by unfold aY;dsimp only;rw[W])|some f=>
    refine .run (mg (P:=P) (fn:=f) hF.tmps) (E:=λ_ es=>aR P B es) (E':=λ_ es=>aR P B es) (λx r es e=>by unfold aY;dsimp only;rw[W];dsimp only;rw[e];dsimp only) (λx r es e=>by unfold aY;dsimp only;rw[W];dsimp only;rw[e];dsimp only) (λ_ _ _ h=>nu h)
     (λdz a a' Y ha=>?_) (λ_ _ _ _ _=>.bad λ_ _ _=>?_) (λx _ _=>?_)
    exact .ret (hS.mono Y) (λo e h=>O o e (by simp) rfl h) ha (λ_=>rfl) (λ_=>rfl);exact .ended _ _ _
    cases x<;>exact .ended _ _ _
  |panicking ap=>
   have jP:∀{q q':Frame},fX m q q'->fb P q=false/\fb P q'=false:=by
    intro q q' hq;have:=hq.todo;unfold fb;revert this;generalize q.todo=l;generalize q'.todo=l';intro ht
    cases ht with
    |nil=>constructor <;>(split<;>first|rfl|simp_all)
    |cons hi _=>cases hi <;>(constructor <;>(split<;>first|rfl|simp_all))
   have aa:=jP hF
   cases hS with
   |one hf h1 h2 h3=>exact .low (λo=>O o rfl (by simp) rfl h3) (λx=>by unfold aY;dsimp only;rw[aa.1];rfl)|cons hf h1 h2 h3=>
    have hr:=h3.qE.raise ap;exact .stay (h3.set (.refl m) hr.1 hr.2.1 hr.2.2 (ow ..) (um ..)) (λx=>by unfold aY;rw[aa.1];rfl) (λx=>by unfold aY;rw[aa.2];rfl)
def Hv(hX:lZ P m gl st){fr fr':Frame}{cs cs':List Frame}(W:dU P m T (fr::cs) (fr'::cs'))(hn:¬AtClose fr)(O:ok->cs=[door P]->fr.mode≠.run->fr.defers=[]->fr.roundOf=none->False):xP P T main' ok m (aS P true (G fr cs)) (aS P main' (G fr' cs')):=by
 have B:=W.qE.mode;generalize Y:fr.mode=q at B;generalize U:fr'.mode=q' at B
 cases B with
 |run=>exact(LK hX W).eq (λx=>by unfold aS;simp only[G,Y]) (λx=>by unfold aS;simp only[G,U])|returning|panicking=>exact(Fy hX W (by rw[Y];simp) hn O).eq (λx=>by unfold aS;simp only[G,Y]) (λx=>by unfold aS;simp only[G,U])
def yW(U:lZ P m gl st){fr fr':Frame}{cs cs':List Frame}(W:dU P m T (fr::cs) (fr'::cs'))(Y:¬AtClose fr)(B:cs=[door P]->fr.mode≠.run->fr.defers=[]->fr.roundOf=none->False){w:World}(hw:WR m w w')(O:Al w w'){main':Bool}{w₁:World}{es:Array Event}
  (h:aS P true (G fr cs) w=.go (G fp fq) w₁ es):nE P m T (aS P main' (G fr' cs') w') w' fp fq w₁:=(Hv (ok:=True) U W Y λ_=>B).out trivial hw O h
def ye(B:lZ P m gl st){fr fr':Frame}{cs cs':List Frame}(O:dU P m T (fr::cs) (fr'::cs'))(U:¬AtClose fr):xP P T main' False m (aS P true (G fr cs)) (aS P main' (G fr' cs')):=Hv B O U False.elim
def Sx(B:lZ P m gl st){fr fr':Frame}{cs cs':List Frame}(O:dU P m T (fr::cs) (fr'::cs'))(U:¬AtClose fr){w:World}(W:WR m w w'){w₁:World}{es:Array Event}
  (h:aS P true (G fr cs) w=.go (G fp fq) w₁ es):ya P (aS P true (G fr cs)) w fp fq w₁:=
 (ye (main':=true) B O U).loc (R:=λx es=>.go _ x es) ⟨uh,λ_ _ _=>⟨_,rfl⟩,λh=>h.go,T0,λh=>DV _ _ _ _ _ _ _ _ _ h,λa b c h=>LR B.env.T4 a b c h⟩ W h
def Py(B:lZ P m gl st){fr fr':Frame}{cs cs':List Frame}(O:dU P m T (fr::cs) (fr'::cs'))(U:¬AtClose fr){w:World}(W:WR m w w'):pS P (aS P true (G fr cs) w):=(ye (main':=true) B O U).outs W
def Lq(O:lZ P m gl st){fr fr':Frame}{cs cs':List Frame}(U:dU P m T (fr::cs) (fr'::cs'))(W:¬AtClose fr){w:World}(Y:WR m w w')(B:Al w w'){main':Bool}:QP P m T (aS P true (G fr cs) w) (aS P main' (G fr' cs') w') w':=(ye O U W).via Y B
def uf(hX:lZ P m gl st){fr fr':Frame}{cs cs':List Frame}(hS:dU P m T (fr::cs) (fr'::cs'))(hn:¬AtClose fr){w:World}(hw:WR m w w')(W:Al w w'){main':Bool}{g:Goroutine}{w₁:World}{es:Array Event}
  (h:aS P true (G fr cs) w=.comm g k b sh w₁ es):KO P m T (aS P main' (G fr' cs') w') w' g k b sh w₁:=by
 have hv:=Lq hX hS hn hw W (main':=main');rw[h]at hv;rcases hv with⟨dz,X,X',f,c,f',c',s,s',w2,ae,Y,e2,hl,hE,aa,hs,ab,B,hk,hx⟩|hp
 rw[e2];generalize hr:cI P true f c none s w2=r at Y;cases r<;>simp only[cK,GStep.comm.injEq,reduceCtorEq]at Y;obtain⟨rfl,rfl,rfl,rfl,rfl,_⟩:=Y;obtain⟨ac,ad,m₂,O,U,k',w3,af,rfl,g1,g0,g2,g3,g4,g5,g6,g7⟩:=JH hE aa hs ab B hr;rw[g1];exact⟨ac,ad,m₂,O,U,k',w3,_,rfl,rfl,g0.imp (λx=>hl.iq▸x) id,hl.trans g2,g3,g4,g5,hk.trans hl g2 g6,tZ g2 hx g7⟩
 cases hp
def MD(hX:lZ P m gl st){fr fr':Frame}{cs cs':List Frame}(hS:dU P m T (fr::cs) (fr'::cs'))(hn:¬AtClose fr){w:World}(hw:WR m w w')(W:Al w w'){main':Bool}{g ch:Goroutine}{w₁:World}{es:Array Event}
  (h:aS P true (G fr cs) w=.spawn g ch w₁ es):K9 P m T (aS P main' (G fr' cs') w') w' g ch w₁:=by
 have hv:=Lq hX hS hn hw W (main':=main');rw[h]at hv;rcases hv with⟨dz,X,X',f,c,f',c',s,s',w2,ae,Y,e2,hl,hE,aa,hs,ab,B,hk,hx⟩|hp
 rw[e2];generalize hr:cI P true f c none s w2=r at Y;cases r<;>simp only[cK,GStep.spawn.injEq,reduceCtorEq]at Y;obtain⟨rfl,rfl,rfl,_⟩:=Y;obtain⟨ac,ad,d,m₂,O,U,d',w3,af,rfl,rfl,g1,g0,g2,g3,g4,g5,g6,g7⟩:=Ii hE aa hs ab B hr;rw[g1];exact⟨ac,ad,d,m₂,O,U,d',w3,_,rfl,rfl,rfl,hl.iq▸g0,hl.trans g2,g3,g4,g5,hk.trans hl g2 g6,tZ g2 hx g7⟩
 cases hp
def OK(B:lZ P m gl st){fr fr':Frame}{cs cs':List Frame}(O:dU P m T (fr::cs) (fr'::cs'))(U:¬AtClose fr){w:World}(W:WR m w w'){g:Goroutine}{w₁:World}{es:Array Event}
  (h:aS P true (G fr cs) w=.comm g k b sh w₁ es):Hk P (aS P true (G fr cs)) w g k b sh w₁:=
 (ye (main':=true) B O U).loc (R:=λx es=>.comm g k b sh x es) ⟨Kw,λ_ _ _=>⟨_,rfl⟩,λh e=>VY h.plain e,nofun,λh=>VY (rO ..) h,λa b c h=>Ks B.env.T4 a b c h⟩ W h
end
end
end Go.Proofs.YtocbogeoffeolaaGreatDoor
