import GoSem.Step
import Derived.Conc.Events
import Derived.Laws.Tables
import Derived.MapKept
import Derived.Conc.Listed
import Derived.DyingOn
set_option linter.all false
set_option maxHeartbeats 8000000
set_option maxRecDepth 1000000
open Array renaming getElem?_setIfInBounds_ne->ax,getElem?_eq_some_iff->ay,getElem?_toList->az,mapM_eq_mapM_toList->a0,filter->a1,getElem?_modify->a2,range->a3,toList_map->a4,length_toList->a5,forIn_toList->a6,foldl_toList->a7,empty_append->a8,mem_append->a9,isEmpty->aA,all_eq_true_iff_forall_mem->aB,map->aC,mem_toList_iff->aD,toList_zipIdx->aE,toList_filter->aF,toList_append->aG,append_assoc->aH,toList_push->aI,mem_flatMap->aJ,toList_zip->aK,all_toList->aL,replicate->aM
open Go renaming TypeId->aN,tryRecover->aO,doReturn->aP,zeroValue->aQ,seen->aR,stepG->aS,underlying->aT,endThrow->aU,boundsPanic->aV,runtimePanic->aW,FuncId->aX,unwind->aY,callDeferred->aZ,newRow->ba,yielded->bc,loadCellsFrom->bd,storeCells->be,sizeOf->bf,findLabel->bg,loadBytes->bh,loadCells->bi,dieOf->bj,resolve->bk,gotoIn->bm,exitTo->bn,execOp->bo,askRoom->bp,typeInfo->bq,goexitEntry->br,sameAddr->bs,newObj->bt,mayBeOne->bu,nilAhead->bv,markStringish->bw,typeStr->bx,results->bz,movedPointer->b0,behindNumber->b1,method->b3,variablesAt->b4,movedNumber->b5,undef->b6,fieldPlace->b7,elemOf->b8,byteOf->b9
open Go.Instr renaming sameBits->bA,sameNow->bB,fill->bC,endRound->bD,findNow->bE,takeDeferred->bF,findAsking->bG,beginRound->bH,checkKey->bI,findKey->bJ,keyThatStays->bK,deferInRound->bL,sliceBounds->bM,sliceBound->bN,getLoop->bO,extract->bP,yield->bQ,makeInterface->bR,next->bS,typeAssert->bT,entryStore->bU,buildSlice->bV,mapUpdate->bW,makeSlice->bX,enterLoop->bY,sureAddr->bZ,mapEntry->cd,makeFunc->ce,makeChan->cf,storeAt->cg,sliceAt->ci,makeMap->cj,indexAt->ck,fieldAt->cl,endLoop->cm,lookup->cp,loadAt->cq,slice->cr,range->cu,panic->cv,index->cw,field->cx,entry->cy,build->cz,alloc->c0,box->c3
open Go.Op renaming operands->c4,equal->c5,maxDepth->c6,twoPlaces->c7,eqGuardIn->c8,stringOp->c9,intArith->cA,intBits->cB,equalIn->cC,addrMod->cD,intDiv->cE,intCmp->cF,unary->cG,shift->cH
open Go.stepG renaming apply->cI,exec->cJ
open Go.GStep renaming after->cK
open Go.Sem renaming run->cL,runT_fst->cM,runT->cN,run_bind'->cO,bind_assoc'->cP
open Go.Builtin renaming zeroCells->cQ,unsafeAdd_->cR,append_->cS,clear_->cT,copy_->cU,min_->cV,max_->cW,len_->cX,cap_->cY,unsafeString_->cZ,holdsCells->db,firstCells->dc,mayShare->dd,lenOf->dg,min2->di,max2->dj
open Bool renaming and_eq_true->dk,eq_iff_iff->dr,false_eq_true->ee
open Nat renaming le_trans->eg,le_refl->ei,le_succ_of_le->ej,lt_of_lt_of_le->ek,lt_of_succ_le->en,le_of_succ_le->er,le_of_not_lt->ev,le_succ->ez
open Go.Frame renaming eval->e8,pos->eC,round->fa,raise->fb,enter->fd,catches->ff,finish->fk,oper?->fm
open List renaming getElem?_zip_eq_some->ft,mem_iff_getElem?->fB,all_eq_true->ga,forIn_cons->gc,mapM_cons->gd,mem_cons->ge,mem_map->gg
open Option.some renaming injEq->gi,inj->gj
open Option renaming getD_some->gn,map_some->gs,bind_some->gt
open Go.Call renaming operands->gv
open Go.World renaming freeze->gx,frozen?->gy,noCell->g8,cell?->g9
open Go.Conv renaming bytesToString->gA,stringToBytes->gB,runesToString->hj
open Go.Extern.SlicesOverlaps renaming overlaps->h9
open Go.Extern.Bytes renaming loadBytes->hB,bytesOf->hC
open Std.Legacy.Range renaming forIn_eq_forIn_range'->hH
open Go.GStep.go renaming injEq->hI
open Ne renaming symm->hJ
open Go.Region renaming wanted->hL,schedule->hM
namespace Go.Proofs.YtocbogeoffeolaaGreatDoor
section
variable {α β:Type}
inductive dQ{α β:Type}(R:α->β->Prop):List α->List β->Prop
 |nil:dQ R [] []|cons {a b l l'}:R a b->dQ R l l'->dQ R (a::l) (b::l')
theorem dQ.mono{R S:α->β->Prop}(h:∀a b,R a b->S a b):∀{l:List α}{l':List β},dQ R l l'->dQ S l l'
 |_,_,.nil=>.nil|_,_,.cons a b=>.cons (h _ _ a) (dQ.mono h b)
theorem dQ.length{R:α->β->Prop}:∀{l:List α}{l':List β},dQ R l l'->l.length=l'.length
 |_,_,.nil=>rfl|_,_,.cons _ b=>by simp[dQ.length b]
theorem dQ.append{R:α->β->Prop}:∀{l l₂:List α}{l' B:List β},dQ R l l'->dQ R l₂ B->dQ R (l++l₂) (l'++B)
 |_,_,_,_,.nil,h=>h|_,_,_,_,.cons a b,h=>.cons a (dQ.append b h)
theorem dQ.get{R:α->β->Prop}:∀{l:List α}{l':List β},dQ R l l'->∀{i:Nat}{a:α},l[i]?=some a->∃b,l'[i]?=some b/\R a b
 |_,_,.nil,i,a,h=>by simp at h
 |_,_,.cons (b:=b) x y,0,a,h=>⟨b,by simp,by simp at h;exact h▸x⟩
 |_,_,.cons x y,i+1,a,h=>by simpa using dQ.get y (by simpa using h)
theorem dQ.get_none{R:α->β->Prop}{l:List α}{l':List β}(h:dQ R l l'){i:Nat}(hi:l[i]?=none):l'[i]?=none:=by
 rw[List.getElem?_eq_none_iff]at hi⊢;rw[<-h.length];exact hi
theorem dQ.Hr{R:α->β->Prop}:∀{l:List α}{l':List β},l.length=l'.length->(∀(i:Nat)a b,l[i]?=some a->l'[i]?=some b->R a b)->dQ R l l'
 |[],[],_,_=>.nil|a::l,b::l',h,g=>.cons (g 0 a b (by simp) (by simp)) (dQ.Hr (by simpa using h) λi x y B O=>g (i+1) x y (by simpa using B) (by simpa using O))|[],b::l',h,_=>by simp at h
 |a::l,[],h,_=>by simp at h
theorem dQ.take{R:α->β->Prop}:∀(n:Nat){l:List α}{l':List β},dQ R l l'->dQ R (l.take n) (l'.take n)
 |0,_,_,_=>by simpa using .nil
 |n+1,_,_,.nil=>by simpa using .nil
 |n+1,_,_,.cons a b=>by simpa using .cons a (dQ.take n b)
theorem dQ.drop{R:α->β->Prop}:∀(n:Nat){l:List α}{l':List β},dQ R l l'->dQ R (l.drop n) (l'.drop n)
 |0,_,_,h=>by simpa using h
 |n+1,_,_,.nil=>by simpa using .nil
 |n+1,_,_,.cons a b=>by simpa using dQ.drop n b
theorem dQ.set{R:α->β->Prop}:∀{l:List α}{l':List β},dQ R l l'->∀(i:Nat){a:α}{b:β},R a b->dQ R (l.set i a) (l'.set i b)
 |_,_,.nil,_,_,_,_=>by simpa using .nil
 |_,_,.cons x y,0,_,_,h=>by simpa using .cons h y
 |_,_,.cons x y,i+1,_,_,h=>by simpa using .cons x (dQ.set y i h)
theorem dQ.map{γ δ:Type}{R:α->β->Prop}{S:γ->δ->Prop}{f:α->γ}{g:β->δ}(h:∀a b,R a b->S (f a) (g b)):∀{l:List α}{l':List β},dQ R l l'->dQ S (l.map f) (l'.map g)
 |_,_,.nil=>.nil|_,_,.cons a b=>.cons (h _ _ a) (dQ.map h b)
theorem dQ.refl{R:α->α->Prop}:∀{l:List α},(∀a∈l,R a a)->dQ R l l
 |[],_=>.nil|a::l,h=>.cons (h a (by simp)) (dQ.refl λx B=>h x (by simp[B]))
structure Ren where
 blk:Nat->Option Nat
 ch:Nat->Option Nat
 loose:Nat->Prop
 ok:Oper->Prop
 fw:aX->Prop
 il:Prop
 dead:Nat->Prop
 dm:Nat->Nat
 rY:Nat->Nat->Option Value
 kI:Nat->Option Obj
 G:Nat
 ou:∀r r',blk r=some r'->(r<G↔r'<G)
 inj:∀r s t,blk r=some t->blk s=some t->r=s
 vm:∀r s t,ch r=some t->ch s=some t->r=s
structure Ren.Le(m m':Ren):Prop where
 blk:∀r r',m.blk r=some r'->m'.blk r=some r'
 ch:∀r r',m.ch r=some r'->m'.ch r=some r'
 loose:∀r r',m.blk r=some r'->(m'.loose r↔m.loose r)
 less:∀r,m'.loose r->m.loose r
 ok:m'.ok=m.ok
 fw:m'.fw=m.fw
 il:m'.il=m.il
 G:m'.G=m.G
 dead:m'.dead=m.dead
 dm:m'.dm=m.dm
 rY:m'.rY=m.rY
theorem Ren.Le.refl(m:Ren):m.Le m:=⟨λ_ _ h=>h,λ_ _ h=>h,λ_ _ _=>Iff.rfl,λ_ h=>h,rfl,rfl,rfl,rfl,rfl,rfl,rfl⟩
theorem Ren.Le.trans{m m' B:Ren}(h:m.Le m')(h':m'.Le B):m.Le B:=
 ⟨λr r' x=>h'.blk r r' (h.blk r r' x),λr r' x=>h'.ch r r' (h.ch r r' x),λr r' x=>(h'.loose r r' (h.blk r r' x)).trans (h.loose r r' x),λr x=>h.less r (h'.less r x),h'.ok.trans h.ok,h'.fw.trans h.fw,h'.il.trans h.il,h'.G.trans h.G,h'.dead.trans h.dead,h'.dm.trans h.dm,h'.rY.trans h.rY⟩
inductive AR(m:Ren):Addr->Addr->Prop
 |mk {b b' o s}:m.blk b=some b'->AR m ⟨b,o,s⟩ ⟨b',o,s⟩
theorem AR.blk{m:Ren}{a a':Addr}(h:AR m a a'):m.blk a.block=some a'.block:=by cases h;assumption
theorem AR.off{m:Ren}{a a':Addr}(h:AR m a a'):a'.off=a.off:=by cases h;rfl
theorem AR.spot{m:Ren}{a a':Addr}(h:AR m a a'):a'.spot=a.spot:=by cases h;rfl
theorem AR.mono{m m':Ren}(h:m.Le m'){a a':Addr}(x:AR m a a'):AR m' a a':=by cases x with|mk hb=>exact .mk (h.blk _ _ hb)
theorem AR.add{m:Ren}{a a':Addr}(h:AR m a a')(n:Nat):AR m (a.add n) (a'.add n):=by
 cases h with
 |mk hb=>unfold Addr.add;split<;>exact .mk hb
theorem AR.eq_iff{m:Ren}{a a' b b':Addr}(h:AR m a a')(h':AR m b b'):(a=b↔a'=b'):=by
 cases h with
 |mk hb=>cases h' with
  |mk B=>
   constructor;intro e;cases e;rw[hb]at B;cases B;rfl;intro e;cases e;have:=m.inj _ _ _ hb B;subst this;rfl
theorem AR.rC{m:Ren}{a a' b b':Addr}(h:AR m a a')(h':AR m b b'):(a.block=b.block↔a'.block=b'.block):=by
 cases h with
 |mk hb=>cases h' with
  |mk B=>
   constructor;intro e;subst e;rw[hb]at B;cases B;rfl;intro e;subst e;exact m.inj _ _ _ hb B
inductive MY(m:Ren):Fn->Fn->Prop
 |func (f):m.fw f->MY m (.func f) (.func f)|yield {l l'}:m.blk l=some l'->MY m (.yield l) (.yield l')
theorem MY.mono{m m':Ren}(h:m.Le m'){a a':Fn}(x:MY m a a'):MY m' a a':=by
 cases x with
 |func f B=>exact .func f (h.fw▸B)|yield hb=>exact .yield (h.blk _ _ hb)
def NN:Value->Prop
 |.pointer (some _)|.slice (some _) _ _|.map (some _)|.chan (some _)|.iface ..|.float ..|.complex ..|.tuple _|.func (.func _) _ _|.func (.yield _) _ _|.func (.methodOf _ _) _ _|.func (.via ..) _ _=>True|_=>False
inductive VR(m:Ren):Value->Value->Prop
 |fK (v):NN v->VR m (.tuple #[]) v|bool (b):VR m (.bool b) (.bool b)|int (k n):VR m (.int k n) (.int k n)|string (s):VR m (.string s) (.string s)|gQ:VR m (.pointer none) (.pointer none)|ptr {a a'}:AR m a a'->VR m (.pointer (some a)) (.pointer (some a'))|fu (l c):VR m (.slice none l c) (.slice none l c)|slice {a a'} (l c):AR m a a'->VR m (.slice (some a) l c) (.slice (some a') l c)|my:VR m (.map none) (.map none)|map {r r'}:m.blk r=some r'->VR m (.map (some r)) (.map (some r'))|gone {r}:m.dead r->VR m (.map (some r)) (.map (some (m.dm r)))|iW:VR m (.chan none) (.chan none)|chan {r r'}:m.ch r=some r'->VR m (.chan (some r)) (.chan (some r'))|func {fn fn' f f' c c'}:MY m fn fn'->f.size=f'.size->(∀i(h:i<f.size)(h':i<f'.size),VR m f[i] f'[i])->c.size=c'.size->(∀i(h:i<c.size)(h':i<c'.size),VR m c[i] c'[i])->VR m (.func fn f c) (.func fn' f' c')|nilFunc:VR m .nilFunc .nilFunc|iface (t) {v v'}:VR m v v'->VR m (.iface t v) (.iface t v')|nilIface:VR m .nilIface .nilIface|agg {c c'}:c.size=c'.size->(∀i(h:i<c.size)(h':i<c'.size),VR m c[i] c'[i])->VR m (.agg c) (.agg c')|tuple {c c'}:c.size=c'.size->(∀i(h:i<c.size)(h':i<c'.size),VR m c[i] c'[i])->VR m (.tuple c) (.tuple c')|q9 {lf n f c}:lf.size=f.size->(∀i(h:i<lf.size)(h':i<f.size),VR m lf[i] f[i])->(∀t w,f[0]?=some (.iface t w)->∃x,lf[0]?=some (.iface t x))->VR m (.func (.method "") lf #[.func (.method n) f c]) (.func (.method n) f c)
theorem VR.mono{m m':Ren}(h:m.Le m'){v v':Value}(x:VR m v v'):VR m' v v':=by
 induction x with
 |fK v Y=>exact .fK v Y|q9 B _ U O=>exact .q9 B O U|bool|int|string|gQ|fu|my|iW|nilFunc|nilIface=>constructor|ptr W=>exact .ptr (W.mono h)|slice l c W=>exact .slice l c (W.mono h)|map hb=>exact .map (h.blk _ _ hb)|gone hd=>rw[<-h.dm];exact .gone (h.dead▸hd)|chan hb=>exact .chan (h.ch _ _ hb)|func hf B _ U _ i1 i2=>exact .func (hf.mono h) B i1 U i2|iface t _ O=>exact .iface t O|agg B _ O=>exact .agg B O|tuple B _ O=>exact .tuple B O
def ep(m:Ren)(c c':Array Value):Prop:=dQ (VR m) c.toList c'.toList
theorem ep.mono{m m':Ren}(h:m.Le m'){c c':Array Value}(x:ep m c c'):ep m' c c':=dQ.mono (λ_ _=>VR.mono h) x
theorem ep.size{m:Ren}{c c':Array Value}(h:ep m c c'):c.size=c'.size:=by simpa using dQ.length h
theorem ep.ii{m:Ren}{c c':Array Value}(O:c.size=c'.size)(h:∀i(h:i<c.size)(h':i<c'.size),VR m c[i] c'[i]):ep m c c':=by
 refine dQ.Hr (by simpa using O) λi a b B hb=>?_;simp only[az]at B hb;obtain⟨U,rfl⟩:=ay.1 B;obtain⟨W,rfl⟩:=ay.1 hb;exact h i U W
theorem ep.idx{m:Ren}{c c':Array Value}(x:ep m c c'):∀i(h:i<c.size)(h':i<c'.size),VR m c[i] c'[i]:=by
 intro i h h';obtain⟨b,hb,B⟩:=dQ.get x (i:=i) (a:=c[i]) (by simp[h]);simp only[az,Array.getElem?_eq_getElem h',gi]at hb;exact hb▸B
theorem VR.L'{m:Ren}{c c':Array Value}(h:ep m c c'):VR m (.agg c) (.agg c'):=.agg h.size h.idx
theorem VR.kS{m:Ren}{c c':Array Value}(h:ep m c c'):VR m (.tuple c) (.tuple c'):=.tuple h.size h.idx
theorem VR.J4{m:Ren}{fn B:Fn}{f f' c c':Array Value}(O:MY m fn B)(h:ep m f f')(h':ep m c c'):VR m (.func fn f c) (.func B f' c'):=.func O h.size h.idx h'.size h'.idx
theorem VR.undef(m:Ren):VR m undef undef:=.fK _ trivial
theorem ep.get{m:Ren}{c c':Array Value}(h:ep m c c'){i:Nat}{v:Value}(B:c[i]?=some v):∃v',c'[i]?=some v'/\VR m v v':=by simpa using dQ.get h (i:=i) (a:=v) (by simpa using B)
theorem ep.get_none{m:Ren}{c c':Array Value}(h:ep m c c'){i:Nat}(B:c[i]?=none):c'[i]?=none:=by simpa using dQ.get_none h (i:=i) (by simpa using B)
theorem ep.getD{m:Ren}{c c':Array Value}(h:ep m c c')(i:Nat):VR m (c.getD i b6) (c'.getD i b6):=by
 simp only[Array.getD_eq_getD_getElem?]
 cases O:c[i]? with
 |none=>rw[h.get_none O];exact .undef m|some v=>obtain⟨v',B,U⟩:=h.get O;simp only[B,gn];exact U
theorem ep.push{m:Ren}{c c':Array Value}(h:ep m c c'){v v':Value}(B:VR m v v'):ep m (c.push v) (c'.push v'):=by
 unfold ep;simp only[aI];exact dQ.append h (.cons B .nil)
theorem ep.append{m:Ren}{c c' d d':Array Value}(h:ep m c c')(h':ep m d d'):ep m (c++d) (c'++d'):=by
 unfold ep;simp only[aG];exact dQ.append h h'
theorem ep.extract{m:Ren}{c c':Array Value}(h:ep m c c')(i j:Nat):ep m (c.extract i j) (c'.extract i j):=by
 unfold ep;simp only[Array.toList_extract,List.extract_eq_take_drop];exact dQ.take _ (dQ.drop _ h)
theorem ep.set{m:Ren}{c c':Array Value}(h:ep m c c')(i:Nat){v v':Value}(B:VR m v v'):ep m (c.setIfInBounds i v) (c'.setIfInBounds i v'):=by
 unfold ep;simp only[Array.toList_setIfInBounds];exact dQ.set h i B
theorem ep.nil(m:Ren):ep m #[] #[]:=dQ.nil
theorem ep.one{m:Ren}{v v':Value}(h:VR m v v'):ep m #[v] #[v']:=dQ.cons h dQ.nil
def Plain:Value->Prop
 |.bool _|.int _ _|.string _|.pointer none|.slice none _ _|.map none|.chan none|.nilFunc|.nilIface=>True|_=>False
theorem VR.plain{m:Ren}:∀{v:Value},Plain v->VR m v v:=by
 intro v h;match v,h with
 |.bool _,_=>constructor|.int ..,_=>constructor|.string _,_=>constructor|.pointer none,_=>constructor|.slice none ..,_=>constructor|.map none,_=>constructor|.chan none,_=>constructor|.nilFunc,_=>constructor|.nilIface,_=>constructor
theorem VR.cells{m:Ren}{v v':Value}(h:VR m v v'):ep m v.cells v'.cells:=by
 cases h with
 |fK v B=>
  have:v'.cells=#[v']:=by cases v'<;>first|rfl|exact B.elim
  rw[this];exact ep.one (.fK _ B)
 |q9 a b c=>exact ep.one (.q9 a b c)|agg O hi=>exact ep.ii O hi|bool|int|string|gQ|fu|my|iW|nilFunc|nilIface=>exact ep.one (by constructor)|ptr h=>exact ep.one (.ptr h)|slice l c h=>exact ep.one (.slice l c h)|map h=>exact ep.one (.map h)|gone h=>exact ep.one (.gone h)|chan h=>exact ep.one (.chan h)|func a b c d e=>exact ep.one (.func a b c d e)|iface t h=>exact ep.one (.iface t h)|tuple a b=>exact ep.one (.tuple a b)
theorem ep.replicate{m:Ren}{v v':Value}(n:Nat)(h:VR m v v'):ep m (aM n v) (aM n v'):=by
 refine ep.ii (by simp) λi B O=>?_;simpa using h
theorem ep.refl{m:Ren}{c:Array Value}(h:∀v∈c.toList,VR m v v):ep m c c:=dQ.refl h
variable {m':Ren}
def uB:Operand->Prop
 |.tmp _=>True|.const v=>Plain v|_=>False
def fF(ok:Oper->Prop):Code->Prop
 |.skip|.exit _|.label _|.goto _|.ret=>True|.region _ ops _=>∀o∈ops.toList,ok o|.seq a b=>fF ok a/\fF ok b|.cond c a b=>uB c/\fF ok a/\fF ok b|.block _ c|.loop c|.scope c=>fF ok c|.rangeFunc f _ a b=>uB f/\fF ok a/\fF ok b|.refuse _=>False
structure vW(m:Ren)(l l':Loop):Prop where
 state:l.state=l'.state
 pending:l.pending=l'.pending
 TO:∀c,l.pending=some c->fF m.ok c
 fn:l.fn=l'.fn
 tmps:ep m l.tmps l'.tmps
 params:l.params=l'.params
 assign:l.assign=l'.assign
 body:l.body=l'.body
 Tu:fF m.ok l.assign
 wP:fF m.ok l.body
 defers:m.blk l.defers=some l'.defers
def Uy(m:Ren)(f f':Fn)(c c':Array Value):Prop:=(MY m f f'/\ep m c c')\/(f=.method ""/\∃n,f'=.method n)
theorem Uy.mono{m:Ren}(h:m.Le m'){f f':Fn}{c c':Array Value}(x:Uy m f f' c c'):Uy m' f f' c c':=x.imp (λy=>⟨y.1.mono h,y.2.mono h⟩) id
inductive TR(m:Ren):Target->Target->Prop
 |fn {f f' c c'}:Uy m f f' c c'->TR m (.fn f c) (.fn f' c')|nil:TR m .nil .nil|builtin (a t c):m.il->TR m (.builtin .close a t c) (.builtin .close a t c)|mark {r} (a t c):m.dead r->TR m (.collected r) (.builtin .close a t c)|collected {r r'}:m.blk r=some r'->TR m (.collected r) (.collected r')
structure DR(m:Ren)(d d':Deferred):Prop where
 target:TR m d.target d'.target
 args:ep m d.args d'.args
structure sV(m:Ren)(e e':MapEntry):Prop where
 key:VR m e.key e'.key
 val:VR m e.val e'.val
 born:e'.born=e.born
inductive OR(m:Ren):Obj->Obj->Prop
 |cells {c c'} (e f f'):ep m c c'->OR m (.cells c e f) (.cells c' e f')|map {es es'} (clock):dQ (sV m) es.toList es'.toList->OR m (.map es clock) (.map es' clock)|number {a a'} (l):AR m a a'->OR m (.number a l) (.number a' l)|stringIter (s p):OR m (.stringIter s p) (.stringIter s p)|fT (a b c):OR m (.mapIter none a b c) (.mapIter none a b c)|mapIter {r r'} (a b c):m.blk r=some r'->OR m (.mapIter (some r) a b c) (.mapIter (some r') a b c)|loop {l l'}:vW m l l'->OR m (.loop l) (.loop l')|eT:OR m (.deferred none) (.deferred none)|deferred {ds ds'}:dQ (DR m) ds ds'->OR m (.deferred (some ds)) (.deferred (some ds'))
theorem TR.mono{m:Ren}(h:m.Le m'){a a':Target}(x:TR m a a'):TR m' a a':=by
 cases x with
 |fn B=>exact .fn (B.mono h)|nil=>exact .nil|builtin a t c hm=>exact .builtin a t c (h.il▸hm)|mark a t c O=>exact .mark a t c (h.dead▸O)|collected hb=>exact .collected (h.blk _ _ hb)
theorem DR.mono{m:Ren}(h:m.Le m'){a a':Deferred}(x:DR m a a'):DR m' a a':=⟨x.target.mono h,x.args.mono h⟩
theorem sV.mono{m:Ren}(h:m.Le m'){a a':MapEntry}(x:sV m a a'):sV m' a a':=⟨x.key.mono h,x.val.mono h,x.born⟩
theorem vW.mono{m:Ren}(h:m.Le m'){a a':Loop}(x:vW m a a'):vW m' a a':=
 ⟨x.state,x.pending,λc B=>h.ok▸x.TO c B,x.fn,x.tmps.mono h,x.params,x.assign,x.body,h.ok▸x.Tu,h.ok▸x.wP,h.blk _ _ x.defers⟩
theorem OR.mono{m:Ren}(h:m.Le m'){a a':Obj}(x:OR m a a'):OR m' a a':=by
 cases x with
 |cells e f f' B=>exact .cells e f f' (B.mono h)|map clock O=>exact .map clock (dQ.mono (λ_ _ y=>y.mono h) O)|number l U=>exact .number l (U.mono h)|stringIter s p=>exact .stringIter s p|fT a b c=>exact .fT a b c|mapIter a b c hb=>exact .mapIter a b c (h.blk _ _ hb)|loop W=>exact .loop (W.mono h)|eT=>exact .eT|deferred Y=>exact .deferred (dQ.mono (λ_ _ y=>y.mono h) Y)
def ed(P:Program){α:Type}:Sem α->Prop
 |.pure _=>False|.load _ _ _=>False|.store _ _ (.agg _) _=>True|.store _ _ (.tuple _) _=>True|.store _ _ _ _=>False|.new _ k=>∀r,ed P (k r)|.shape _ k=>∀r,ed P (k r)|.freeze _ _ k=>ed P k|.frozen _ k=>∀r,ed P (k r)|.getObj _ k=>∀r,ed P (k r)|.setObj _ _ k=>ed P k|.choose _ k=>∀r,ed P (k r)|.sys _ k=>∀r,ed P (k r)|.program k=>ed P (k P)|.mark _ k=>ed P k|.halt (.unsupported (.initOrder _))=>False|.halt (.unsupported _)=>True|.halt (.stuck _)=>True|.halt (.throw _)=>True|.halt _=>False
def fR{α:Type}:Sem α->Prop
 |.pure _=>True|.load _ _ k=>∀v,fR (k v)|.store _ _ _ k=>fR k|.new _ k=>∀r,fR (k r)|.shape _ k=>∀r,fR (k r)|.freeze _ _ k=>fR k|.frozen _ k=>∀r,fR (k r)|.getObj _ k=>∀r,fR (k r)|.setObj _ _ k=>fR k|.choose _ _=>False|.sys _ k=>∀r,fR (k r)|.program k=>∀P,fR (k P)|.mark _ k=>fR k|.halt _=>True
def Pb:Mark->Prop
 |.noRoom|.extern _=>True|_=>False
inductive dv(P:Program){α β:Type}(RA:Ren->α->β->Prop):Ren->Sem α->Sem β->Prop
 |dy {m s s'}:ed P s->dv P RA m s s'|pure {m a b}:RA m a b->dv P RA m (.pure a) (.pure b)|load {m a a' k k'}:AR m a a'->(∀v v',VR m v v'->dv P RA m (k v) (k' v'))->dv P RA m (.load .plain a k) (.load .plain a' k')|store {m a a' v v' k k'}:AR m a a'->VR m v v'->dv P RA m k k'->dv P RA m (.store .plain a v k) (.store .plain a' v' k')|new {m o o' k k'}:OR m o o'->(∀e c f,o=.cells e c f->∃e',o'=.cells e' c f)->(∀m' r r',m.Le m'->m'.blk r=some r'->¬m'.loose r->dv P RA m' (k r) (k' r'))->dv P RA m (.new o k) (.new o' k')|pS {m c b x s r t c' b' x' s' r' t' k k'}:m.il->(∀m' i i',m.Le m'->m'.ch i=some i'->dv P RA m' (k i) (k' i'))->dv P RA m (.new (.chan c b x s r t) k) (.new (.chan c' b' x' s' r' t') k')|shape {m r r' k k'}:m.blk r=some r'->(∀x,dv P RA m (k x) (k' x))->dv P RA m (.shape r k) (.shape r' k')|freeze {m a a' n k k'}:AR m a a'->¬m.loose a.block->dv P RA m k k'->dv P RA m (.freeze a n k) (.freeze a' n k')|frozen {m a a' k k'}:AR m a a'->¬m.loose a.block->(∀x,dv P RA m (k x) (k' x))->dv P RA m (.frozen a k) (.frozen a' k')|getObj {m r r' k k'}:m.blk r=some r'->(∀o o',OR m o o'->dv P RA m (k o) (k' o'))->dv P RA m (.getObj r k) (.getObj r' k')|setObj {m r r' o o' k k'}:m.blk r=some r'->OR m o o'->(∀c e f,o≠.cells c e f)->dv P RA m k k'->dv P RA m (.setObj r o k) (.setObj r' o' k')|choose {m q k k'}:(∀n,dv P RA m (k n) (k' n))->dv P RA m (.choose q k) (.choose q k')|env {m k k'}:(∀r,dv P RA m (k r) (k' r))->dv P RA m (.sys .env k) (.sys .env k')|program {m k k'}:dv P RA m (k P) (k' P)->dv P RA m (.program k) (.program k')|mark {m x k k'}:Pb x->dv P RA m k k'->dv P RA m (.mark x k) (.mark x k')|gone {m r k s'}:m.dead r->dv P RA m (.getObj r k) s'|panic {m v v'}:VR m v v'->dv P RA m (.halt (.panic v)) (.halt (.panic v'))
section
variable {P:Program} {α β γ δ:Type}
theorem ed.bind{s:Sem α}{f:α->Sem γ}(h:ed P s):ed P (s.bind f):=by
 induction s with
 |pure a=>exact h.elim|load m a k B=>exact h.elim|store m a v k B=>cases v<;>exact h
 |new o k B=>exact λv=>B v (h v)|shape r k B=>exact λv=>B v (h v)|freeze a n k B=>exact B h|frozen a k B=>exact λv=>B v (h v)|getObj r k B=>exact λv=>B v (h v)|setObj r o k B=>exact B h|choose q k B=>exact λv=>B v (h v)|sys c k B=>exact λv=>B v (h v)|program k B=>exact B P h|mark m k B=>exact B h|halt x=>cases x<;>first|exact h|(rename_i u;cases u<;>exact h)
theorem dv.bind{RA:Ren->α->β->Prop}{RB:Ren->γ->δ->Prop}{m:Ren}{s:Sem α}{s':Sem β}{f:α->Sem γ}{f':β->Sem δ}
  (h:dv P RA m s s') (O:∀m' a b,m.Le m'->RA m' a b->dv P RB m' (f a) (f' b)):dv P RB m (s.bind f) (s'.bind f'):=by
 induction h with
 |dy hd=>exact .dy hd.bind|pure hr=>exact O _ _ _ (.refl _) hr|load U _ B=>exact .load U λv v' hv=>B v v' hv O|store U hv _ B=>exact .store U hv (B O)|new ho hc _ B=>exact .new ho hc λm' r r' hl hb hn=>B m' r r' hl hb hn λW a b Y hr=>O W a b (hl.trans Y) hr|pS hm _ B=>exact .pS hm λm' i i' hl hb=>B m' i i' hl hb λW a b Y hr=>O W a b (hl.trans Y) hr|shape hb _ B=>exact .shape hb λx=>B x O|freeze U hn _ B=>exact .freeze U hn (B O)|frozen U hn _ B=>exact .frozen U hn λx=>B x O|getObj hb _ B=>exact .getObj hb λo o' ho=>B o o' ho O|setObj hb ho hc _ B=>exact .setObj hb ho hc (B O)|choose _ B=>exact .choose λn=>B n O|env _ B=>exact .env λn=>B n O|program _ B=>exact .program (B O)|mark hm _ B=>exact .mark hm (B O)|gone hd=>exact .gone hd|panic hv=>exact .panic hv
theorem dv.mono{RA RB:Ren->α->β->Prop}{m:Ren}{s:Sem α}{s':Sem β}(h:dv P RA m s s')(O:∀m' a b,m.Le m'->RA m' a b->RB m' a b):dv P RB m s s':=by
 induction h with
 |dy hd=>exact .dy hd|pure x=>exact .pure (O _ _ _ (.refl _) x)|load U _ B=>exact .load U λv v' hv=>B v v' hv O|store U hv _ B=>exact .store U hv (B O)|new ho hc _ B=>exact .new ho hc λm' r r' hl hb hn=>B m' r r' hl hb hn λW a b Y x=>O W a b (hl.trans Y) x|pS hm _ B=>exact .pS hm λm' i i' hl hb=>B m' i i' hl hb λW a b Y x=>O W a b (hl.trans Y) x|shape hb _ B=>exact .shape hb λx=>B x O|freeze U hn _ B=>exact .freeze U hn (B O)|frozen U hn _ B=>exact .frozen U hn λx=>B x O|getObj hb _ B=>exact .getObj hb λo o' ho=>B o o' ho O|setObj hb ho hc _ B=>exact .setObj hb ho hc (B O)|choose _ B=>exact .choose λn=>B n O|env _ B=>exact .env λn=>B n O|program _ B=>exact .program (B O)|mark hm _ B=>exact .mark hm (B O)|gone hd=>exact .gone hd|panic hv=>exact .panic hv
end
def inside(f:Nat×Nat)(o:Nat):Prop:=f.1<=o/\o<f.2
def oq:Value->Prop
 |.agg _|.tuple _=>True|_=>False
def Vl(m:Ren)(w w':World):Prop:=∀r o v,m.rY r o=some v->∃r',m.blk r=some r'/\∀c e f c' B f' x,w.heap[r]?=some (.cells c e f)->w'.heap[r']?=some (.cells c' B f')->c[o]?=some x->oq x->c'[o]?=some v
structure WR(m:Ren)(w w':World):Prop where
 obj:∀r r',m.blk r=some r'->∃o o',w.heap[r]?=some o/\w'.heap[r']?=some o'/\OR m o o'
 fz:∀r r' c e f c' e' f',m.blk r=some r'->w.heap[r]?=some (.cells c e f)->w'.heap[r']?=some (.cells c' e' f')->¬m.loose r->f'=f
 all:∀r r' c e f c' e' f',m.blk r=some r'->w.heap[r]?=some (.cells c e f)->w'.heap[r']?=some (.cells c' e' f')->m.loose r->∀o,o<c.size->inside f o
 Nc:∀r r',m.ch r=some r'->r<w.heap.size/\r'<w'.heap.size
 Na:m.G<=w.heap.size
 JQ:m.G<=w'.heap.size
 os:w'.os=w.os
 kI:∀r o,m.kI r=some o->w.heap[r]?=some o/\∃c b x s y t,o=.chan c b x s y t
 lk:∀r r',m.blk r=some r'->m.loose r->∃c e f,w.heap[r]?=some (.cells c e f)
 dead:∀r,m.dead r->m.blk r=none/\∃c e f,w.heap[r]?=some (.cells c e f)
 rY:Vl m w w'
def Al(w w':World):Prop:=∀i q,w'.tape (w'.drawn+i) q=w.tape (w.drawn+i) q
def oG(m:Ren)(e:Event):Prop:=
 match e.loc with
 |.cell a'=>e.sync=false/\∃a,AR m a a'/\(e.write=true->¬m.loose a.block)
 |.obj r'=>e.sync=false/\∃r,m.blk r=some r'/\¬m.loose r|.mark k=>Pb k|.output=>True|_=>False
structure fA(m dx:Ren)(w w₁:World):Prop where
 old:∀r',r'<w.heap.size->(∀r,m.blk r≠some r')->w₁.heap[r']?=w.heap[r']?
 size:w.heap.size<=w₁.heap.size
 fresh:∀r',w.heap.size<=r'->r'<w₁.heap.size->(∃r,dx.blk r=some r')\/(∃r,dx.ch r=some r')
 news:∀r r',dx.blk r=some r'->m.blk r=some r'\/w.heap.size<=r'
 T6:∀r r',dx.ch r=some r'->m.ch r=some r'\/w.heap.size<=r'
 tape:w₁.tape=w.tape
 output:w₁.output=w.output
 os:w₁.os=w.os
 mz:¬m.il->dx.ch=m.ch
 kI:dx.kI=m.kI
 still:∀r r',m.blk r=some r'->m.loose r->w₁.heap[r']?=w.heap[r']?
theorem fA.refl(m:Ren)(w:World):fA m m w w:=⟨λ_ _ _=>rfl,ei _,λr' h h'=>absurd h' (by omega),λ_ _ h=>.inl h,λ_ _ h=>.inl h,rfl,rfl,rfl,λ_=>rfl,rfl,λ_ _ _ _=>rfl⟩
theorem oG.mono{m:Ren}(h:m.Le m'){e:Event}(x:oG m e):oG m' e:=by
 unfold oG at x⊢;split<;>simp_all only;obtain⟨_,a,B,O⟩:=x;exact⟨trivial,a,B.mono h,λU=>by rw[h.loose _ _ B.blk];exact O U⟩;obtain⟨_,a,B,W⟩:=x;exact⟨trivial,a,h.blk _ _ B,λy=>W ((h.loose _ _ B).1 y)⟩
theorem fA.trans{m dx m₂:Ren}{w w₁ B:World}(W:m.Le dx)(O:dx.Le m₂)(h:fA m dx w w₁)(h':fA dx m₂ w₁ B):fA m m₂ w B:=by
 refine⟨λr' U hn=>?_,eg h.size h'.size,λr' U Y=>?_,λr r' hb=>?_,λr r' hb=>?_,h'.tape.trans h.tape,h'.output.trans h.output,h'.os.trans h.os,λhm=>(h'.mz (by rw[W.il];exact hm)).trans (h.mz hm),h'.kI.trans h.kI,λr r' hb hx=>(h'.still r r' (W.blk _ _ hb) ((W.loose _ _ hb).2 hx)).trans (h.still r r' hb hx)⟩;rw[h'.old r' (ek U h.size) λr hb=>?_,h.old r' U hn];rcases h.news r r' hb with x|x
 exact hn r x;omega;by_cases hc:r'<w₁.heap.size;rcases h.fresh r' U hc with⟨r,x⟩|⟨r,x⟩
 exact .inl ⟨r,O.blk _ _ x⟩;exact .inr ⟨r,O.ch _ _ x⟩;exact h'.fresh r' (by omega) Y;rcases h'.news r r' hb with x|x
 exact h.news r r' x;exact .inr (eg h.size x);rcases h'.T6 r r' hb with x|x
 exact h.T6 r r' x;exact .inr (eg h.size x)
section
variable {m:Ren} {w w':World}
theorem WR.lt(h:WR m w w'){r r':Nat}(hb:m.blk r=some r'):r<w.heap.size/\r'<w'.heap.size:=by
 obtain⟨o,o',B,O,_⟩:=h.obj r r' hb;exact⟨(ay.1 B).1,(ay.1 O).1⟩
theorem WR.cell(h:WR m w w'){a a':Addr}(B:AR m a a'){v:Value}(hv:w.cell? a=some v):∃v',w'.cell? a'=some v'/\VR m v v':=by
 cases B with
 |@mk b b' o s hb=>
 obtain⟨x,x',O,U,W⟩:=h.obj b b' hb;unfold g9 at hv⊢;simp only[O,U]at hv⊢
 cases W with
 |cells e f f' Y=>
  simp only at hv⊢;split at hv
  cases hv;rename_i hs;rw[if_neg hs];exact Y.get hv
 |_=>cases hv
theorem WR.N6(h:WR m w w'){a a':Addr}(B:AR m a a')(W:w.cell? a=none)(P:Program)(b:Bool):∃y,w.farLoad P a b=.error (.stuck y):=by
 cases B with
 |@mk b b' o s hb=>
 obtain⟨x,x',O,Y,U⟩:=h.obj b b' hb;unfold World.farLoad g8;simp only[O];cases U<;>exact⟨_,rfl⟩
theorem WR.JI(h:WR m w w'){a a':Addr}(B:AR m a a')(W:w.cell? a=none)(P:Program)(v:Value)(b:Bool):∃y,w.farStore P a v b=.error (.stuck y):=by
 cases B with
 |@mk b b' o s hb=>
 obtain⟨x,x',O,Y,U⟩:=h.obj b b' hb;unfold World.farStore g8;simp only[O];cases U<;>exact⟨_,rfl⟩
end
variable {a':Addr} {es:Array Event} {h:Array Obj} {r r':Nat} {o o':Obj} {P:Program} {al:Prop}
def jY:Halt->Prop
 |.unsupported (.initOrder _)=>False|.unsupported _=>True|.stuck _=>True|.throw _=>True|_=>False
theorem ed.run{s:Sem α}(h:ed P s):∀w:World,∃x w₁,s.run P w=.halt x w₁/\jY x:=by
 induction s with
 |pure a=>exact h.elim|load m a k B=>exact h.elim|store m a v k B=>
  intro w;cases v<;>first|exact h.elim|exact⟨_,_,rfl,trivial⟩
 |new o k B=>exact λw=>B _ (h _) _|shape r k B=>exact λw=>B _ (h _) _|freeze a n k B=>exact λw=>B h _|frozen a k B=>exact λw=>B _ (h _) _|getObj r k B=>
  intro w;simp only[cL];split;exact⟨_,_,rfl,trivial⟩;exact B _ (h _) _;exact⟨_,_,rfl,trivial⟩
 |setObj r o k B=>
  intro w;simp only[cL];split;exact⟨_,_,rfl,trivial⟩;exact B h _;exact⟨_,_,rfl,trivial⟩
 |choose q k B=>
  intro w;simp only[cL];split;exact B _ (h _) _;exact B _ (h _) _
 |sys c k B=>exact λw=>B _ (h _) _|program k B=>exact λw=>B P h _|mark m k B=>exact λw=>B h _|halt x=>
  intro w;refine⟨x,w,rfl,?_⟩;cases x<;>first|exact h.elim|trivial|(rename_i u;cases u<;>first|exact h.elim|trivial)
def Ren.ext(m:Ren)(r r':Nat)(_h:m.blk r=none)(h':∀s,m.blk s≠some r')(O:r<m.G↔r'<m.G):Ren where
 blk:=λs=>if s=r then some r' else m.blk s
 ch:=m.ch
 loose:=λs=>if s=r then False else m.loose s
 ok:=m.ok
 fw:=m.fw
 il:=m.il
 dead:=m.dead
 dm:=m.dm
 rY:=m.rY
 kI:=m.kI
 G:=m.G
 ou:=λa b B=>by
  by_cases ea:a=r
  .simp[ea]at B;subst B;rw[ea];exact O
  .simp[ea]at B;exact m.ou _ _ B
 inj:=λa b t B hb=>by
  by_cases ea:a=r<;>by_cases eb:b=r
  .rw[ea,eb]
  .simp[ea,eb]at B hb;subst B;exact absurd hb (h' _)
  .simp[ea,eb]at B hb;subst hb;exact absurd B (h' _)
  .simp[ea,eb]at B hb;exact m.inj _ _ _ B hb
 vm:=m.vm
def Ren.sQ(m:Ren)(r r':Nat)(_h:m.ch r=none)(h':∀s,m.ch s≠some r'):Ren where
 blk:=m.blk
 ch:=λs=>if s=r then some r' else m.ch s
 loose:=m.loose
 ok:=m.ok
 fw:=m.fw
 il:=m.il
 dead:=m.dead
 dm:=m.dm
 rY:=m.rY
 kI:=m.kI
 G:=m.G
 ou:=m.ou
 inj:=m.inj
 vm:=λa b t B hb=>by
  by_cases ea:a=r<;>by_cases eb:b=r
  .rw[ea,eb]
  .simp[ea,eb]at B hb;subst B;exact absurd hb (h' _)
  .simp[ea,eb]at B hb;subst hb;exact absurd B (h' _)
  .simp[ea,eb]at B hb;exact m.vm _ _ _ B hb
theorem Ren.uO{m:Ren}(h:m.blk r=none)(h':∀s,m.blk s≠some r')(O:r<m.G↔r'<m.G):m.Le (m.ext r r' h h' O):=by
 refine⟨λs s' B=>?_,λ_ _ x=>x,λs s' B=>?_,λs B=>?_,rfl,rfl,rfl,rfl,rfl,rfl,rfl⟩;have:s≠r:=λe=>by rw[e,h]at B;cases B
 simp[Ren.ext,this,B];have:s≠r:=λe=>by rw[e,h]at B;cases B
 simp[Ren.ext,this];by_cases e:s=r;simp[Ren.ext,e]at B;simpa[Ren.ext,e]using B
theorem Ren.xB{m:Ren}(h:m.ch r=none)(h':∀s,m.ch s≠some r'):m.Le (m.sQ r r' h h'):=by
 refine⟨λ_ _ x=>x,λs s' B=>?_,λs s' B=>Iff.rfl,λ_ h=>h,rfl,rfl,rfl,rfl,rfl,rfl,rfl⟩;have:s≠r:=λe=>by rw[e,h]at B;cases B
 simp[Ren.sQ,this,B]
section
variable {m:Ren} {w w':World}
theorem WR.gM(h:WR m w w'):m.blk w.heap.size=none:=by
 cases hb:m.blk _ with
 |none=>rfl|some r'=>have:=(h.lt hb).1;omega
theorem WR.lI(h:WR m w w'):∀s,m.blk s≠some w'.heap.size:=λs hb=>by have:=(h.lt hb).2;omega
theorem WR.pW(h:WR m w w'):m.ch w.heap.size=none:=by
 cases hb:m.ch _ with
 |none=>rfl|some r'=>have:=(h.Nc _ _ hb).1;omega
theorem WR.n9(h:WR m w w'):∀s,m.ch s≠some w'.heap.size:=λs hb=>by have:=(h.Nc _ _ hb).2;omega
theorem WR.S4(h:WR m w w'):w.heap.size<m.G↔w'.heap.size<m.G:=⟨λx=>absurd h.Na (by omega),λx=>absurd h.JQ (by omega)⟩
theorem eL(B:r<h.size):(h.push o)[r]?=h[r]?:=by
 rw[Array.getElem?_push];have:r≠h.size:=by omega
 simp[this]
theorem jE(x:h[r]?=some o):r<h.size:=(ay.1 x).1
theorem iL{x:Obj}(B:h[r]?=some x):(h.push o)[r]?=some x:=by rw[eL (jE B)];exact B
theorem WR.push(h:WR m w w')(ho:OR m o o')(hc:∀e c f,o=.cells e c f->∃e',o'=.cells e' c f) :
  WR (m.ext w.heap.size w'.heap.size h.gM h.lI h.S4) {w with heap:=w.heap.push o} {w' with heap:=w'.heap.push o'}:=by
 have O:=Ren.uO h.gM h.lI h.S4
 have key:∀r r',(m.ext _ _ h.gM h.lI h.S4).blk r=some r'->(r=w.heap.size/\r'=w'.heap.size)\/(m.blk r=some r'/\r<w.heap.size/\r'<w'.heap.size):=by
  intro r r' hb;by_cases e:r=w.heap.size;simp[Ren.ext,e]at hb;exact .inl ⟨e,hb.symm⟩;simp[Ren.ext,e]at hb;exact .inr ⟨hb,h.lt hb⟩
 refine⟨λr r' hb=>?_,λr r' c e f c' e' f' hb U W hn=>?_,λr r' c e f c' e' f' hb U W hl=>?_,λr r' hb=>?_,by simp;have:=h.Na;first|exact ej this|exact this,by simp;have:=h.JQ;first|exact ej this|exact this,h.os,λr o hr=>⟨iL (h.kI r o hr).1,(h.kI r o hr).2⟩,λr r' hb hl=>?_,λr hr=>⟨?_,?_⟩,λr i v hv=>?_⟩;rcases key r r' hb with⟨rfl,rfl⟩|⟨B,Y,l2⟩
 exact⟨o,o',by simp,by simp,ho.mono O⟩;obtain⟨x,x',g1,g2,g3⟩:=h.obj r r' B;exact⟨x,x',by rw[eL Y];exact g1,by rw[eL l2];exact g2,g3.mono O⟩;rcases key r r' hb with⟨rfl,rfl⟩|⟨B,Y,l2⟩
 simp at U W;obtain⟨y,hy⟩:=hc _ _ _ U;rw[hy]at W;cases W;rfl;simp only[eL Y,eL l2]at U W;refine h.fz r r' _ _ _ _ _ _ B U W λhl=>hn ((O.loose r r' B).2 hl);rcases key r r' hb with⟨rfl,rfl⟩|⟨B,Y,l2⟩
 simp[Ren.ext]at hl;simp only[eL Y,eL l2]at U W;exact h.all r r' _ _ _ _ _ _ B U W ((O.loose r r' B).1 hl);have:=h.Nc r r' hb;simp;omega;rcases key r r' hb with⟨rfl,rfl⟩|⟨B,Y,l2⟩
 simp[Ren.ext]at hl;obtain⟨c,e,f,hx⟩:=h.lk r r' B ((O.loose r r' B).1 hl);exact⟨c,e,f,iL hx⟩;obtain⟨U,c,e,f,hx⟩:=h.dead r hr;have:=Nat.ne_of_lt (jE hx);simp[Ren.ext,this,U];obtain⟨U,c,e,f,hx⟩:=h.dead r hr;exact⟨c,e,f,iL hx⟩;obtain⟨r',hb,hp⟩:=h.rY r i v hv;refine⟨r',O.blk _ _ hb,λc e f c' e' f' x g1 g2=>?_⟩;obtain⟨Y,l2⟩:=h.lt hb;simp only[eL Y,eL l2]at g1 g2;exact hp c e f c' e' f' x g1 g2
theorem WR.Pr(h:WR m w w')(o o':Obj):WR (m.sQ w.heap.size w'.heap.size h.pW h.n9) {w with heap:=w.heap.push o} {w' with heap:=w'.heap.push o'}:=by
 have aa:=Ren.xB h.pW h.n9;refine⟨λr r' hb=>?_,λr r' c e f c' e' f' hb B W hn=>?_,λr r' c e f c' e' f' hb B W hl=>?_,λr r' hb=>?_,by simp;have:=h.Na;first|exact ej this|exact this,by simp;have:=h.JQ;first|exact ej this|exact this,h.os,λr o Y=>⟨iL (h.kI r o Y).1,(h.kI r o Y).2⟩,λr r' hb hl=>by obtain⟨c,e,f,hx⟩:=h.lk r r' hb hl;exact⟨c,e,f,iL hx⟩,λr Y=>by obtain⟨B,c,e,f,hx⟩:=h.dead r Y;exact⟨B,c,e,f,iL hx⟩,λr i v hv=>?_⟩;obtain⟨O,U⟩:=h.lt (show m.blk r=some r' from hb);obtain⟨x,x',g1,g2,g3⟩:=h.obj r r' hb;exact⟨x,x',by rw[eL O];exact g1,by rw[eL U];exact g2,g3.mono aa⟩;obtain⟨O,U⟩:=h.lt (show m.blk r=some r' from hb);simp only[eL O,eL U]at B W;exact h.fz r r' _ _ _ _ _ _ hb B W hn;obtain⟨O,U⟩:=h.lt (show m.blk r=some r' from hb);simp only[eL O,eL U]at B W;exact h.all r r' _ _ _ _ _ _ hb B W hl;by_cases e:r=w.heap.size;simp[Ren.sQ,e]at hb;subst hb;simp[e];simp[Ren.sQ,e]at hb;have:=h.Nc r r' hb;simp;omega;obtain⟨r',hb,hp⟩:=h.rY r i v hv;refine⟨r',hb,λc e f c' e' f' x g1 g2=>?_⟩;obtain⟨O,U⟩:=h.lt hb;simp only[eL O,eL U]at g1 g2;exact hp c e f c' e' f' x g1 g2
theorem WR.turn(h:WR m w w')(hb:m.blk r=some r')(ho:OR m o o')
  (hf:∀c e f c' U f',o=.cells c e f->o'=.cells c' U f'->(¬m.loose r->f'=f)/\(m.loose r->∀i,i<c.size->inside f i)) (aa:m.loose r->∃c e f,o=.cells c e f)
  (ab:∀c e f c' U f',o=.cells c e f->o'=.cells c' U f'->∀i x v,m.rY r i=some v->c[i]?=some x->oq x->c'[i]?=some v) :
  WR m {w with heap:=w.heap.setIfInBounds r o} {w' with heap:=w'.heap.setIfInBounds r' o'}:=by
 obtain⟨l1,l2⟩:=h.lt hb
 have key:∀s s',m.blk s=some s'->(s=r/\s'=r')\/(s≠r/\s'≠r'):=by
  intro s s' B;by_cases e:s=r;subst e;rw[hb]at B;cases B;exact .inl ⟨rfl,rfl⟩;exact .inr ⟨e,λU=>e (m.inj _ _ _ (U▸B) hb)⟩
 refine⟨λs s' B=>?_,λs s' c e f c' U f' B O W hn=>?_,λs s' c e f c' U f' B O W hl=>?_,λs s' B=>by simpa using h.Nc s s' B,by simpa using h.Na,by simpa using h.JQ,h.os,λs x B=>?_,λs s' B hl=>?_,λs B=>?_,λs i v hv=>?_⟩;rcases key s s' B with⟨rfl,rfl⟩|⟨n1,n2⟩
 exact⟨o,o',by simp[l1],by simp[l2],ho⟩;obtain⟨x,x',g1,Y,g3⟩:=h.obj s s' B;exact⟨x,x',by rw[ax (hJ n1)];exact g1,by rw[ax (hJ n2)];exact Y,g3⟩;rcases key s s' B with⟨rfl,rfl⟩|⟨n1,n2⟩
 simp[l1,l2]at O W;exact(hf _ _ _ _ _ _ O W).1 hn;simp only[ax (hJ n1),ax (hJ n2)]at O W;exact h.fz s s' _ _ _ _ _ _ B O W hn;rcases key s s' B with⟨rfl,rfl⟩|⟨n1,n2⟩
 simp[l1,l2]at O W;exact(hf _ _ _ _ _ _ O W).2 hl;simp only[ax (hJ n1),ax (hJ n2)]at O W;exact h.all s s' _ _ _ _ _ _ B O W hl;obtain⟨g1,Y⟩:=h.kI s x B;refine⟨?_,Y⟩
 have:r≠s:=by
  rintro rfl;obtain⟨y,y',k1,_,k3⟩:=h.obj r r' hb;obtain⟨c,b,x',s',z,t,rfl⟩:=Y;rw[g1]at k1;cases k1;cases k3
 rw[ax this];exact g1;rcases key s s' B with⟨rfl,rfl⟩|⟨n1,n2⟩
 obtain⟨c,e,f,rfl⟩:=aa hl;exact⟨c,e,f,by simp[l1]⟩;obtain⟨c,e,f,hx⟩:=h.lk s s' B hl;exact⟨c,e,f,by simpa only[ax (hJ n1)]using hx⟩;obtain⟨O,c,e,f,hx⟩:=h.dead s B;have:r≠s:=by rintro rfl;rw[hb]at O;cases O
 exact⟨O,c,e,f,by simpa only[ax this]using hx⟩;obtain⟨s',B,hp⟩:=h.rY s i v hv;refine⟨s',B,λc e f c' U f' x g1 Y=>?_⟩;rcases key s s' B with⟨rfl,rfl⟩|⟨n1,n2⟩
 simp[l1,l2]at g1 Y;exact λg3 g4=>ab _ _ _ _ _ _ g1 Y i x v hv g3 g4;simp only[ax (hJ n1),ax (hJ n2)]at g1 Y;exact hp c e f c' U f' x g1 Y
theorem pZ(h:Array Obj)(r:Nat)(f:Obj->Obj)(o:Obj)(O:h[r]?=some o):h.modify r f=h.setIfInBounds r (f o):=by
 apply Array.ext_getElem?;intro i;obtain⟨B,U⟩:=ay.1 O;by_cases e:r=i;subst e;rw[a2];simp[B,U];rw[a2];simp[e]
theorem WR.setCell(h:WR m w w'){a:Addr}(ha:AR m a a'){v v':Value}(hv:VR m v v')(ab:¬oq v):WR m (w.setCell a v) (w'.setCell a' v'):=by
 cases ha with
 |@mk b b' o s hb=>
 obtain⟨x,x',U,W,ho⟩:=h.obj b b' hb;unfold World.setCell;simp only[pZ _ _ _ _ U,pZ _ _ _ _ W]
 cases ho with
 |cells e f f' hc=>
  refine h.turn hb (.cells e f f' ?_) (λc e f c' e' f' e1 e2=>?_) (λ_=>⟨_,_,_,rfl⟩) ?_;split;exact hc;exact hc.set _ hv
  cases e1;cases e2;refine⟨λY=>h.fz b b' _ _ _ _ _ _ hb U W Y,λO i hi=>h.all b b' _ _ _ _ _ _ hb U W O i ?_⟩;revert hi;split<;>simp;intro c1 e1 f1 c2 e2 f2 q1 q2 i x u hu B Y;cases q1;cases q2;obtain⟨b2,aa,hp⟩:=h.rY b i u hu;rw[hb]at aa;cases aa;revert B;split;exact λB=>hp _ _ _ _ _ _ x U W B Y;intro B;by_cases e:o=i;subst e;rw[Array.getElem?_setIfInBounds]at B;simp at B;exact absurd (B.2▸Y) ab;rw[ax e]at B⊢;exact hp _ _ _ _ _ _ x U W B Y
 |map clock he=>exact h.turn hb (.map clock he) (nofun) (λO=>(by obtain⟨c,e,f,B⟩:=h.lk _ _ hb O;rw[U]at B;cases B)) (nofun)|number l B=>exact h.turn hb (.number l B) (nofun) (λO=>(by obtain⟨c,e,f,B⟩:=h.lk _ _ hb O;rw[U]at B;cases B)) (nofun)|stringIter s p=>exact h.turn hb (.stringIter s p) (nofun) (λO=>(by obtain⟨c,e,f,B⟩:=h.lk _ _ hb O;rw[U]at B;cases B)) (nofun)|fT x y z=>exact h.turn hb (.fT x y z) (nofun) (λO=>(by obtain⟨c,e,f,B⟩:=h.lk _ _ hb O;rw[U]at B;cases B)) (nofun)|mapIter x y z hm=>exact h.turn hb (.mapIter x y z hm) (nofun) (λO=>(by obtain⟨c,e,f,B⟩:=h.lk _ _ hb O;rw[U]at B;cases B)) (nofun)|loop O=>exact h.turn hb (.loop O) (nofun) (λO=>(by obtain⟨c,e,f,B⟩:=h.lk _ _ hb O;rw[U]at B;cases B)) (nofun)|eT=>exact h.turn hb .eT (nofun) (λO=>(by obtain⟨c,e,f,B⟩:=h.lk _ _ hb O;rw[U]at B;cases B)) (nofun)|deferred hd=>exact h.turn hb (.deferred hd) (nofun) (λO=>(by obtain⟨c,e,f,B⟩:=h.lk _ _ hb O;rw[U]at B;cases B)) (nofun)
theorem WR.freeze(h:WR m w w'){a:Addr}(ha:AR m a a')(hn:¬m.loose a.block)(n:Nat):WR m (w.freeze a n) (w'.freeze a' n):=by
 cases ha with
 |@mk b b' o s hb=>
 obtain⟨x,x',U,Y,ho⟩:=h.obj b b' hb;unfold gx;split
 .exact h
 simp only[pZ _ _ _ _ U,pZ _ _ _ _ Y]
 cases ho with
 |cells e f f' hc=>
  have ef:=h.fz b b' _ _ _ _ _ _ hb U Y hn;subst ef;refine h.turn hb (.cells e _ _ hc) (λc e f c' e' f' e1 e2=>?_) (λ_=>⟨_,_,_,rfl⟩) ?_
  cases e1;cases e2;exact⟨λ_=>rfl,λO=>absurd O hn⟩;intro c1 e1 f1 c2 e2 f2 q1 q2 i x u hu B aa;cases q1;cases q2;obtain⟨b2,W,hp⟩:=h.rY b i u hu;rw[hb]at W;cases W;exact hp _ _ _ _ _ _ x U Y B aa
 |map clock he=>exact h.turn hb (.map clock he) (nofun) (λO=>(by obtain⟨c,e,f,B⟩:=h.lk _ _ hb O;rw[U]at B;cases B)) (nofun)|number l B=>exact h.turn hb (.number l B) (nofun) (λO=>(by obtain⟨c,e,f,B⟩:=h.lk _ _ hb O;rw[U]at B;cases B)) (nofun)|stringIter s p=>exact h.turn hb (.stringIter s p) (nofun) (λO=>(by obtain⟨c,e,f,B⟩:=h.lk _ _ hb O;rw[U]at B;cases B)) (nofun)|fT x y z=>exact h.turn hb (.fT x y z) (nofun) (λO=>(by obtain⟨c,e,f,B⟩:=h.lk _ _ hb O;rw[U]at B;cases B)) (nofun)|mapIter x y z hm=>exact h.turn hb (.mapIter x y z hm) (nofun) (λO=>(by obtain⟨c,e,f,B⟩:=h.lk _ _ hb O;rw[U]at B;cases B)) (nofun)|loop O=>exact h.turn hb (.loop O) (nofun) (λO=>(by obtain⟨c,e,f,B⟩:=h.lk _ _ hb O;rw[U]at B;cases B)) (nofun)|eT=>exact h.turn hb .eT (nofun) (λO=>(by obtain⟨c,e,f,B⟩:=h.lk _ _ hb O;rw[U]at B;cases B)) (nofun)|deferred hd=>exact h.turn hb (.deferred hd) (nofun) (λO=>(by obtain⟨c,e,f,B⟩:=h.lk _ _ hb O;rw[U]at B;cases B)) (nofun)
theorem WR.draw(h:WR m w w')(a b:Nat):WR m {w with drawn:=a} {w' with drawn:=b}:=⟨h.obj,h.fz,h.all,h.Nc,h.Na,h.JQ,h.os,h.kI,h.lk,h.dead,h.rY⟩
theorem Al.draw(h:Al w w'):Al {w with drawn:=w.drawn+1} {w' with drawn:=w'.drawn+1}:=λi q=>by
 have:=h (i+1) q;have B:w'.drawn+1+i=w'.drawn+(i+1):=by omega
 have O:w.drawn+1+i=w.drawn+(i+1):=by omega
 simp only[B,O];exact this
theorem WR.shape(h:WR m w w')(hb:m.blk r=some r'):w'.shape? r'=w.shape? r:=by
 obtain⟨x,x',B,O,U⟩:=h.obj r r' hb;unfold World.shape?;simp only[B,O];cases U<;>try rfl
 rename_i W;simp[W.size]
theorem WR.frozen(h:WR m w w'){a:Addr}(U:AR m a a')(W:¬m.loose a.block):w'.frozen? a'=w.frozen? a:=by
 cases U with
 |@mk b b' o s hb=>
 obtain⟨x,x',B,O,Y⟩:=h.obj b b' hb;unfold gy;simp only[B,O];cases Y<;>try rfl
 rw[h.fz b b' _ _ _ _ _ _ hb B O W]
end
def iM{α β:Type}(RA:Ren->α->β->Prop)(al:Prop)(m:Ren)(w':World)(es:Array Event)(r:Result β×Array Event):Result α->Prop
 |.ok a w₁=>∃dx b B es₁,r=(.ok b B,es++es₁)/\m.Le dx/\RA dx a b/\WR dx w₁ B/\(al->Al w₁ B)/\fA m dx w' B/\∀e∈es₁,oG dx e|.halt (.panic v) w₁=>∃dx v' B es₁,r=(.halt (.panic v') B,es++es₁)/\m.Le dx/\VR dx v v'/\WR dx w₁ B/\(al->Al w₁ B)/\fA m dx w' B/\∀e∈es₁,oG dx e|.halt x _=>jY x
theorem iM.ahead{RA:Ren->α->β->Prop}{al₁:Prop}{m dx:Ren}{w' O:World}{es₁:Array Event}{r:Result β×Array Event}{q:Result α}
  (ha:al->al₁) (hl:m.Le dx) (hk:fA m dx w' O) (he:∀e∈es₁,oG dx e) (h:iM RA al₁ dx O (es++es₁) r q):iM RA al m w' es r q:=by
 unfold iM at h⊢;split;obtain⟨m₂,b,U,B,h1,W,h3,h4,Y,h5,h6⟩:=h;refine⟨m₂,b,U,es₁++B,by rw[h1,aH],hl.trans W,h3,h4,λx=>Y (ha x),hk.trans hl W h5,λe hx=>?_⟩;rcases a9.1 hx with x|x
 exact(he e x).mono W;exact h6 e x;obtain⟨m₂,b,U,B,h1,W,h3,h4,Y,h5,h6⟩:=h;refine⟨m₂,b,U,es₁++B,by rw[h1,aH],hl.trans W,h3,h4,λx=>Y (ha x),hk.trans hl W h5,λe hx=>?_⟩;rcases a9.1 hx with x|x
 exact(he e x).mono W;exact h6 e x;rename_i x y hx;cases x<;>first|exact h|exact absurd rfl (hx _)
theorem fA.cell{m:Ren}{w':World}(hb:m.blk r=some r')(O:¬m.loose r)(o:Obj):fA m m w' {w' with heap:=w'.heap.setIfInBounds r' o}:=
 ⟨λx _ U=>by
   have B:r'≠x:=λe=>U r (e▸hb);rw[ax B],by simp,λr' h h'=>absurd h' (by simpa using h),λ_ _ h=>.inl h,λ_ _ h=>.inl h,rfl,rfl,rfl,λ_=>rfl,rfl,λs s' W B=>by
   have:r'≠s':=λe=>O (m.inj _ _ _ (e▸W) hb▸B)
   rw[ax this]⟩
theorem fA.modify{m:Ren}{w':World}(hb:m.blk r=some r')(O:¬m.loose r)(f:Obj->Obj):fA m m w' {w' with heap:=w'.heap.modify r' f}:=
 ⟨λx _ U=>by
   have B:¬r'=x:=λe=>U r (e▸hb);rw[a2];simp[B],by simp,λr' h h'=>absurd h' (by simpa using h),λ_ _ h=>.inl h,λ_ _ h=>.inl h,rfl,rfl,rfl,λ_=>rfl,rfl,λs s' W B=>by
   have:r'≠s':=λe=>O (m.inj _ _ _ (e▸W) hb▸B)
   rw[a2];simp[this]⟩
theorem jy{RA:Ren->α->β->Prop}{m:Ren}{w':World}{r:Result β×Array Event}{q:Result α}{e:Event}
  (B:oG m e) (h:iM RA al m w' (es.push e) r q):iM RA al m w' es r q:=
 iM.ahead (es₁:=#[e]) id (.refl m) (.refl m w') (by simpa using B) (by simpa using h)
theorem dv.run{RA:Ren->α->β->Prop}{m:Ren}{s:Sem α}{s':Sem β}(h:dv P RA m s s') :
  ∀(w w':World)(es:Array Event),WR m w w'->(Al w w'\/fR s)->iM RA (Al w w') m w' es (s'.runT P w' es) (s.run P w):=by
 induction h with
 |dy hd=>
  intro w w' es O B;obtain⟨x,w₁,hr,hh⟩:=hd.run w;rw[hr];cases x<;>first|exact hh|exact hh.elim
 |pure hr=>
  intro w w' es O B;exact⟨_,_,w',#[],by simp[cN],.refl _,hr,O,id,.refl _ _,by simp⟩
 |@load m a a' k k' ha _ U=>
  intro w w' es O B;simp only[cL,cN]
  cases hc:w.cell? a with
  |some v=>
   obtain⟨v',ah,hv⟩:=O.cell ha hc;simp only[ah];exact jy (e:=⟨.cell a',false,false⟩) ⟨rfl,a,ha,by simp⟩ (U v v' hv w w' _ O (B.imp id λx=>x v))
  |none=>
   obtain⟨y,hy⟩:=O.N6 ha hc P (Mode.plain==.atomic);simp only[hy];trivial
 |@store m a a' v v' k k' ha hv _ U=>
  intro w w' es O B;by_cases h1:∃c,v=.agg c
  .obtain⟨c,rfl⟩:=h1;simp only[cL];trivial
  by_cases h2:∃c,v=.tuple c
  .obtain⟨c,rfl⟩:=h2;simp only[cL];trivial
  have ai:∀c,v'≠.agg c:=λc e=>by subst e;cases hv<;>first|exact h1 ⟨_,rfl⟩|exact h2 ⟨_,rfl⟩
  have aj:∀c,v'≠.tuple c:=λc e=>by subst e;cases hv<;>first|exact h1 ⟨_,rfl⟩|exact h2 ⟨_,rfl⟩
  have e1:(Sem.store Mode.plain a v k).run P w=match w.cell? a with
    |some _=>if w.frozen? a then .halt (.unsupported (.unsafePointer "a write to bytes that a string shares")) w else k.run P (w.setCell a v)|none=>match w.farStore P a v (Mode.plain==.atomic)with
     |.ok (w,_)=>k.run P w|.error h=>.halt h w:=by
   rw[cL];rfl;exact λc e=>h1 ⟨c,e⟩;exact λc e=>h2 ⟨c,e⟩
  have e2:(Sem.store Mode.plain a' v' k').runT P w' es=match w'.cell? a' with
    |some _=>if w'.frozen? a' then(.halt (.unsupported (.unsafePointer "a write to bytes that a string shares")) w',es)else k'.runT P (w'.setCell a' v') (es.push ⟨.cell a',true,Mode.plain==.atomic⟩)|none=>match w'.farStore P a' v' (Mode.plain==.atomic)with
     |.ok (w,aa)=>k'.runT P w (es++aa.toArray.map (⟨.cell ·,true,Mode.plain==.atomic⟩))|.error h=>(.halt h w',es):=by
   rw[cN];rfl;exact ai;exact aj
  have ag:¬oq v:=by
   intro ak;cases v<;>first|exact ak.elim|exact h1 ⟨_,rfl⟩|exact h2 ⟨_,rfl⟩
  rw[e1,e2]
  cases hc:w.cell? a with
  |none=>
   obtain⟨y,hy⟩:=O.JI ha hc P v (Mode.plain==.atomic);simp only[hy];trivial
  |some u=>
   obtain⟨u',am,_⟩:=O.cell ha hc;simp only[am];by_cases hf:w.frozen? a=true
   .simp only[hf,if_true];trivial
   have ad:¬m.loose a.block:=by
    intro hl
    cases ha with
    |@mk b b' o s hb=>
    obtain⟨x,x',g1,g2,ho⟩:=O.obj b b' hb;unfold g9 at hc;simp only[g1]at hc
    cases ho with
    |cells e f f' au=>
     simp only at hc;split at hc
     cases hc;have an:=(ay.1 hc).1;have:=O.all b b' _ _ _ _ _ _ hb g1 g2 hl o an;apply hf;unfold gy;simp only[g1];simpa[inside]using this
    |_=>cases hc
   have ao:w'.frozen? a'=false:=by rw[O.frozen ha ad];simpa using hf
   simp only[hf,ao,if_false,ee];have ap:(Mode.plain==Mode.atomic)=false:=rfl;rw[ap];refine iM.ahead (es₁:=#[⟨.cell a',true,false⟩]) (al₁:=Al (w.setCell a v) (w'.setCell a' v')) (λh=>h) (.refl _) ?_ ?_ (by simpa using U (w.setCell a v) _ _ (O.setCell ha hv ag) B)
   cases ha with
   |mk hb=>exact fA.modify hb ad _
   simp only[List.mem_toArray,ge,List.not_mem_nil,or_false,forall_eq];exact⟨rfl,a,ha,λ_=>ad⟩
 |@new m o o' k k' ho hc _ U=>
  intro w w' es O B;simp only[cL,cN];have ab:=Ren.uO O.gM O.lI O.S4;have ac:(m.ext w.heap.size w'.heap.size O.gM O.lI O.S4).blk w.heap.size=some w'.heap.size:=by simp[Ren.ext]
  refine iM.ahead (es₁:=#[]) (al₁:=Al {w with heap:=w.heap.push o} {w' with heap:=w'.heap.push o'}) (λh=>h) ab ?_ (by simp) (by simpa using U _ _ _ ab ac (by simp[Ren.ext]) {w with heap:=w.heap.push o} _ _ (O.push ho hc) (B.imp id λx=>x _));refine⟨λr' hr hn=>eL hr,by simp,λr' h h'=>.inl ⟨w.heap.size,?_⟩,λr r' hb=>?_,λ_ _ h=>.inl h,rfl,rfl,rfl,λ_=>rfl,rfl,λr r' hb _=>eL (O.lt hb).2⟩;have:r'=w'.heap.size:=by simp at h';omega
  rw[this];exact ac;by_cases e:r=w.heap.size;simp[Ren.ext,e]at hb;exact .inr (by omega);simp[Ren.ext,e]at hb;exact .inl hb
 |@pS m c b x s r t c' b' x' s' r' t' k k' aq _ U=>
  intro w w' es O B;simp only[cL,cN];have ab:=Ren.xB O.pW O.n9;have ac:(m.sQ w.heap.size w'.heap.size O.pW O.n9).ch w.heap.size=some w'.heap.size:=by simp[Ren.sQ]
  refine iM.ahead (es₁:=#[]) (al₁:=Al {w with heap:=w.heap.push (.chan c b x s r t)} {w' with heap:=w'.heap.push (.chan c' b' x' s' r' t')}) (λh=>h) ab ?_ (by simp) (by simpa using U _ _ _ ab ac {w with heap:=w.heap.push _} _ _ (O.Pr _ _) (B.imp id λx=>x _));refine⟨λr' hr hn=>eL hr,by simp,λr' h h'=>.inr ⟨w.heap.size,?_⟩,λ_ _ h=>.inl h,λr r' hb=>?_,rfl,rfl,rfl,λhn=>absurd aq hn,rfl,λr r' hb _=>eL (O.lt hb).2⟩;have:r'=w'.heap.size:=by simp at h';omega
  rw[this];exact ac;by_cases e:r=w.heap.size;simp[Ren.sQ,e]at hb;exact .inr (by omega);simp[Ren.sQ,e]at hb;exact .inl hb
 |shape hb _ U=>
  intro w w' es O B;simp only[cL,cN,O.shape hb];exact U _ w w' es O (B.imp id λx=>x _)
 |@freeze m a a' n k k' ha hn _ U=>
  intro w w' es O B;simp only[cL,cN];refine iM.ahead (es₁:=#[]) (al₁:=Al (w.freeze a n) (w'.freeze a' n)) (λh=>by unfold gx;split<;>exact h) (.refl _) ?_ (by simp) (by simpa using U _ _ _ (O.freeze ha hn _) (B.imp (λh=>by unfold gx;split<;>exact h) λx=>x))
  cases ha with
  |mk hb=>
   unfold gx;split;exact .refl _ _;exact fA.modify hb hn _
 |frozen ha hn _ U=>
  intro w w' es O B;simp only[cL,cN,O.frozen ha hn];exact U _ w w' es O (B.imp id λx=>x _)
 |getObj hb _ U=>
  intro w w' es O B;obtain⟨x,x',h1,h2,ho⟩:=O.obj _ _ hb;simp only[cL,cN,h1,h2];rcases Classical.em (Ren.loose _ _)with W|W
  .obtain⟨c,e,f,hx⟩:=O.lk _ _ hb W;rw[h1]at hx;cases hx;trivial
  have Y:oG _ ⟨.obj _,false,false⟩:=⟨rfl,_,hb,W⟩
  cases ho with
  |cells=>trivial|map clock he=>exact jy Y (U _ _ (.map clock he) w w' _ O (B.imp id λx=>x _))|number l hx=>exact jy Y (U _ _ (.number l hx) w w' _ O (B.imp id λx=>x _))|stringIter s p=>exact jy Y (U _ _ (.stringIter s p) w w' _ O (B.imp id λx=>x _))|fT a b c=>exact jy Y (U _ _ (.fT a b c) w w' _ O (B.imp id λx=>x _))|mapIter a b c hm=>exact jy Y (U _ _ (.mapIter a b c hm) w w' _ O (B.imp id λx=>x _))|loop hl=>exact jy Y (U _ _ (.loop hl) w w' _ O (B.imp id λx=>x _))|eT=>exact jy Y (U _ _ .eT w w' _ O (B.imp id λx=>x _))|deferred hd=>exact jy Y (U _ _ (.deferred hd) w w' _ O (B.imp id λx=>x _))
 |@setObj m r r' o o' k k' hb ho hc _ U=>
  intro w w' es O B;obtain⟨x,x',h1,h2,hx⟩:=O.obj _ _ hb;have ar:o'.isChan=false:=by cases ho<;>rfl
  rcases Classical.em (m.loose r)with W|W
  .obtain⟨c,e,f,hy⟩:=O.lk _ _ hb W;simp only[cL,hy];trivial
  have ae:=O.turn hb ho (λc e f c' e' f' e1 _=>absurd e1 (hc c e f)) (λh=>absurd h W) (λc e f c' e' f' e1 _=>absurd e1 (hc c e f))
  have fin:iM RA (Al w w') m w' es (k'.runT P {w' with heap:=w'.heap.setIfInBounds r' o'} (es.push ⟨.obj r',true,o'.isChan⟩)) (k.run P {w with heap:=w.heap.setIfInBounds r o}):=by
   rw[ar];exact iM.ahead (es₁:=#[⟨.obj r',true,false⟩]) (al₁:=Al {w with heap:=w.heap.setIfInBounds r o} {w' with heap:=w'.heap.setIfInBounds r' o'}) (λh=>h) (.refl _) (fA.cell hb W _) (by simpa using⟨rfl,_,hb,W⟩) (by simpa using U _ _ _ ae B)
  simp only[cL,cN,h1,h2];cases hx<;>first|trivial|exact fin
 |choose _ U=>
  intro w w' es O B;rcases B with af|B
  simp only[cL,cN];split;exact U _ w w' es O (.inl af);have:=af 0;simp only[Nat.add_zero]at this;rw[this];refine iM.ahead (es₁:=#[]) (λh=>h.draw) (.refl _) ?_ (by simp) (by simpa using U _ {w with drawn:=w.drawn+1} _ _ (O.draw _ _) (.inl af.draw));exact⟨λ_ _ _=>rfl,ei _,λr' h h'=>absurd h' (by simpa using h),λ_ _ h=>.inl h,λ_ _ h=>.inl h,rfl,rfl,rfl,λ_=>rfl,rfl,λ_ _ _ _=>rfl⟩;exact B.elim
 |gone hd=>
  intro w w' es O B;obtain⟨_,c,e,f,hx⟩:=O.dead _ hd;simp only[cL,hx];trivial
 |env _ U=>
  intro w w' es O B;have e:∀x:World,x.sys .env=(.strings _,x):=λ_=>rfl;simp only[cL,cN,e,O.os];exact jy (e:=⟨.output,true,false⟩) trivial (U _ w w' _ O (B.imp id λx=>x _))
 |program _ U=>exact λw w' es O B=>U w w' es O (B.imp id λx=>x P)|@mark m x k k' hm _ U=>exact λw w' es O B=>jy (e:=⟨.mark x,false,true⟩) hm (U w w' _ O B)|panic hv=>
  intro w w' es O B;exact⟨_,_,w',#[],by simp[cN],.refl _,hv,O,id,.refl ..,by simp⟩
inductive lr(P:Program){α β:Type}(RA:Ren->α->β->Prop):Ren->Sem α->Sem β->Prop
 |base {m s s'}:dv P RA m s s'->lr P RA m s s'|bind {γ δ:Type} {RC:Ren->γ->δ->Prop} {m} {s:Sem γ} {s':Sem δ} {f:γ->Sem α} {f':δ->Sem β}:dv P RC m s s'->(∀m' a b,m.Le m'->RC m' a b->lr P RA m' (f a) (f' b))->lr P RA m (s.bind f) (s'.bind f')|Uq {m q k s'}:(∀n,fR (k n))->(∀n,dv P RA m (k n) s')->lr P RA m (.choose q k) s'
def TL{α β:Type}(RA:Ren->α->β->Prop)(m:Ren)(w':World)(es:Array Event)(r:Result β×Array Event)(q:Result α):Prop:=iM RA False m w' es r q
theorem iM.SE{RA:Ren->α->β->Prop}{m:Ren}{w':World}{r:Result β×Array Event}{q:Result α}(h:iM RA al m w' es r q):TL RA m w' es r q:=
 iM.ahead (es₁:=#[]) (nofun) (.refl m) (.refl m w') (by simp) (by simpa using h)
theorem lr.run{RA:Ren->α->β->Prop}{m:Ren}{s:Sem α}{s':Sem β}(h:lr P RA m s s') :
  ∀(w w':World)(es:Array Event),WR m w w'->Al w w'->TL RA m w' es (s'.runT P w' es) (s.run P w):=by
 induction h with
 |base h=>exact λw w' es U O=>(h.run w w' es U (.inl O)).SE|@bind γ δ RC m s s' f f' h _ ih=>
  intro w w' es U O;have W:=h.run w w' es U (.inl O);rw[cO,Sem.runT_bind']
  cases hr:s.run P w with
  |ok a w₁=>
   rw[hr]at W;obtain⟨dx,b,B,es₁,e1,Y,e3,e4,e5,e6,e7⟩:=W;rw[e1];exact iM.ahead (es₁:=es₁) (nofun) Y e6 e7 (ih dx a b Y e3 w₁ B _ e4 (e5 O))
  |halt x w₁=>
   rw[hr]at W
   cases x with
   |panic v=>
    obtain⟨dx,b,B,es₁,e1,Y,e3,e4,e5,e6,e7⟩:=W;rw[e1];exact⟨dx,b,B,es₁,rfl,Y,e3,e4,nofun,e6,e7⟩
   |_=>exact W
 |Uq hd h=>
  intro w w' es U O;simp only[cL];split;exact((h _).run w w' es U (.inl O)).SE;exact((h _).run _ w' es (U.draw ..) (.inr (hd _))).SE
variable {a:Addr} {c c':Array Value} {γ δ:Type} {t:aN} {v v' x x':Value}
structure mn(P:Program):Prop where
 zero:∀t i v,P.info? t=some i->i.zero=some v->∀m,VR m v v
 Vc:∀t i,P.info? t=some i->i.methods.find? (·.name == "")=none
def wV{α:Type}:Ren->α->α->Prop:=λ_ a b=>a=b
def xR{α β:Type}:Ren->α->β->Prop:=λ_ _ _=>True
section
variable {P:Program} {m:Ren}
theorem dB{RA:Ren->α->β->Prop}{RB:Ren->γ->δ->Prop}{s:Sem α}{s':Sem β}{f:α->Sem γ}{f':β->Sem δ}
  (h:dv P RA m s s') (B:∀m' a b,m.Le m'->RA m' a b->dv P RB m' (f a) (f' b)):dv P RB m (s >>= f) (s' >>= f'):=dv.bind h B
theorem dF{RA:Ren->α->β->Prop}{c:Prop}[Decidable c]{s t:Sem α}{s' t':Sem β}(h:c->dv P RA m s s')(h':¬c->dv P RA m t t') :
  dv P RA m (if c then s else t) (if c then s' else t'):=by
 split;exact h ‹_›;exact h' ‹_›
theorem gZ{RB:Ren->γ->δ->Prop}{f:Program->Sem γ}{f':Program->Sem δ}(h:dv P RB m (f P) (f' P)):dv P RB m (program >>= f) (program >>= f'):=.program h
theorem dz{RB:Ren->γ->δ->Prop}{f:TypeDesc->Sem γ}{f':TypeDesc->Sem δ}(h:∀d,P.underlying t=some d->dv P RB m (f d) (f' d)) :
  dv P RB m (aT t >>= f) (aT t >>= f'):=by
 refine .program ?_;show dv P RB m ((match P.underlying t with|some d=>pure d|none=>stuck _) >>= f) ((match P.underlying t with|some d=>pure d|none=>stuck _) >>= f')
 cases B:P.underlying t with
 |none=>exact .dy trivial|some d=>exact h d B
theorem dN{RB:Ren->γ->δ->Prop}{f:TypeInfo->Sem γ}{f':TypeInfo->Sem δ}(h:∀d,P.info? t=some d->dv P RB m (f d) (f' d)) :
  dv P RB m (bq t >>= f) (bq t >>= f'):=by
 refine .program ?_;show dv P RB m ((match P.info? t with|some d=>pure d|none=>stuck _) >>= f) ((match P.info? t with|some d=>pure d|none=>stuck _) >>= f')
 cases B:P.info? t with
 |none=>exact .dy trivial|some d=>exact h d B
theorem eG{RB:Ren->γ->δ->Prop}{f:Nat->Sem γ}{f':Nat->Sem δ}(h:∀n,dv P RB m (f n) (f' n)):dv P RB m (bf t >>= f) (bf t >>= f'):=by
 refine .program ?_;show dv P RB m (((match P.info? t with|some d=>pure d|none=>stuck _) >>= λi=>pure _) >>= f) (((match P.info? t with|some d=>pure d|none=>stuck _) >>= λi=>pure _) >>= f')
 cases B:P.info? t with
 |none=>exact .dy trivial|some d=>exact h _
theorem fH(B:mn P){RB:Ren->γ->δ->Prop}{f:Value->Sem γ}{f':Value->Sem δ}(h:∀v,VR m v v->dv P RB m (f v) (f' v)) :
  dv P RB m (aQ t >>= f) (aQ t >>= f'):=by
 refine .program ?_;show dv P RB m (((match P.info? t with|some d=>pure d|none=>stuck _) >>= λi=>match i.zero with|some v=>pure v|none=>unsupported _) >>= f) (((match P.info? t with|some d=>pure d|none=>stuck _) >>= λi=>match i.zero with|some v=>pure v|none=>unsupported _) >>= f')
 cases O:P.info? t with
 |none=>exact .dy trivial|some d=>
  show dv P RB m ((match d.zero with|some v=>pure v|none=>unsupported _) >>= f) ((match d.zero with|some v=>pure v|none=>unsupported _) >>= f')
  cases U:d.zero with
  |none=>exact .dy trivial|some v=>exact h v (B.zero t d v O U m)
theorem DY{RB:Ren->γ->δ->Prop}{f:Bool->Sem γ}{f':Bool->Sem δ}(h:∀b,dv P RB m (f b) (f' b)):dv P RB m (isAgg t >>= f) (isAgg t >>= f'):=by
 refine .program ?_;show dv P RB m (((match P.underlying t with|some d=>pure d|none=>stuck _) >>= λx=>match x with|.struct _|.array .. => pure true|_=>pure false) >>= f) (((match P.underlying t with|some d=>pure d|none=>stuck _) >>= λx=>match x with|.struct _|.array .. => pure true|_=>pure false) >>= f')
 cases B:P.underlying t with
 |none=>exact .dy trivial|some d=>cases d<;>exact h _
theorem Du{RB:Ren->γ->δ->Prop}{f:Value->Sem γ}{f':Value->Sem δ}(B:AR m a a')(h:∀v v',VR m v v'->dv P RB m (f v) (f' v')) :
  dv P RB m (load a >>= f) (load a' >>= f'):=.load B h
theorem N0{RB:Ren->γ->δ->Prop}{f:Unit->Sem γ}{f':Unit->Sem δ}(B:AR m a a')(O:VR m v v')(h:dv P RB m (f ()) (f' ())) :
  dv P RB m (store a v >>= f) (store a' v' >>= f'):=.store B O h
theorem fI{RB:Ren->γ->δ->Prop}{f:Obj->Sem γ}{f':Obj->Sem δ}(hb:m.blk r=some r')(h:∀o o',OR m o o'->dv P RB m (f o) (f' o')) :
  dv P RB m (getObj r >>= f) (getObj r' >>= f'):=.getObj hb h
theorem jD{RB:Ren->γ->δ->Prop}{f:Unit->Sem γ}{f':Unit->Sem δ}(hb:m.blk r=some r')(B:OR m o o')(O:∀c e f,o≠.cells c e f)(h:dv P RB m (f ()) (f' ())) :
  dv P RB m (setObj r o >>= f) (setObj r' o' >>= f'):=.setObj hb B O h
theorem pJ(hb:m.blk r=some r')(B:OR m o o')(O:∀c e f,o≠.cells c e f):dv P xR m (setObj r o) (setObj r' o'):=.setObj hb B O (.pure trivial)
theorem gC{RB:Ren->γ->δ->Prop}{q:Question}{f:Nat->Sem γ}{f':Nat->Sem δ}(h:∀n,dv P RB m (f n) (f' n)):dv P RB m (choose q >>= f) (choose q >>= f'):=.choose h
theorem j5{RB:Ren->γ->δ->Prop}{f:Option (aN×Nat)->Sem γ}{f':Option (aN×Nat)->Sem δ}(hb:m.blk r=some r')(h:∀x,dv P RB m (f x) (f' x)) :
  dv P RB m (shape r >>= f) (shape r' >>= f'):=.shape hb h
theorem mT{RB:Ren->γ->δ->Prop}{f:Bool->Sem γ}{f':Bool->Sem δ}(B:AR m a a')(O:¬m.loose a.block)(h:∀x,dv P RB m (f x) (f' x)) :
  dv P RB m (frozen a >>= f) (frozen a' >>= f'):=.frozen B O h
def RM:RuntimeError->Prop
 |.bounds ..|.error _|.plain _|.nilDeref=>True|_=>False
theorem fl{RA:Ren->α->β->Prop}{e:RuntimeError}(h:RM e):dv P RA m (aW e) (aW e):=by
 refine .program ?_;cases e<;>first|exact h.elim|skip
 .exact .panic (.iface _ (.L' (.refl λv B=>by
   simp at B
   rcases B with rfl|rfl|rfl|rfl<;>constructor)))
 all_goals exact .panic (.iface _ (.string _))
theorem dS{RB:Ren->γ->δ->Prop}{e:RuntimeError}{f:α->Sem γ}{f':β->Sem δ}(h:RM e):dv P RB m (aW e >>= f) (aW e >>= f'):=
 dB (RA:=λ_ _ _=>False) (fl h) nofun
theorem oS{RA:Ren->α->β->Prop}{k:IntKind}{x y:Int}{c:BoundsCode}:dv P RA m (aV k x y c) (aV k x y c):=by
 refine dF (λ_=>?_) (λ_=>?_);exact dv.choose λn=>fl (e:=.bounds _ y _ c) trivial;exact fl (e:=.bounds _ y _ c) trivial
theorem yH{RB:Ren->γ->δ->Prop}{f:IntKind×Int->Sem γ}{f':IntKind×Int->Sem δ}(B:VR m x x')(h:∀k n,x=.int k n->dv P RB m (f (k,n)) (f' (k,n))) :
  dv P RB m (asIntOf x >>= f) (asIntOf x' >>= f'):=by
 cases B<;>first|exact h _ _ rfl|exact .dy trivial
theorem j9{RB:Ren->γ->δ->Prop}{f:Int->Sem γ}{f':Int->Sem δ}(B:VR m x x')(h:∀n,dv P RB m (f n) (f' n)) :
  dv P RB m (asInt x >>= f) (asInt x' >>= f'):=by
 cases B<;>first|exact h _|exact .dy trivial
theorem M5{RB:Ren->γ->δ->Prop}{f:Bool->Sem γ}{f':Bool->Sem δ}(B:VR m x x')(h:∀b,dv P RB m (f b) (f' b)) :
  dv P RB m (asBool x >>= f) (asBool x' >>= f'):=by
 cases B<;>first|exact h _|exact .dy trivial
theorem Pg{RB:Ren->γ->δ->Prop}{f f':Array Value->_}(B:VR m x x')(h:∀c c',ep m c c'->dv P RB m (f c:Sem γ) (f' c':Sem δ)) :
  dv P RB m (asAgg x >>= f) (asAgg x' >>= f'):=by
 cases B<;>first|exact h _ _ (.ii ‹_› ‹_›)|exact .dy trivial
theorem BM{RB:Ren->γ->δ->Prop}{f:Addr->Sem γ}{f':Addr->Sem δ}(B:VR m x x')(h:∀a a',AR m a a'->dv P RB m (f a) (f' a')) :
  dv P RB m (asAddr x >>= f) (asAddr x' >>= f'):=by
 cases B<;>first|exact h _ _ ‹_›|exact .dy trivial|exact dS (e:=.nilDeref) trivial
theorem mo{RB:Ren->γ->δ->Prop}{f:Addr->Sem γ}{f':Addr->Sem δ}(B:VR m x x')(h:∀a a',AR m a a'->dv P RB m (f a) (f' a')) :
  dv P RB m (bZ x >>= f) (bZ x' >>= f'):=by
 cases B<;>first|exact h _ _ ‹_›|exact .dy trivial
theorem qq(O:AR m a a'):∀(n i:Nat)(acc B:Array Value),ep m acc B->dv P ep m (bd a i n acc) (bd a' i n B)
 |0,_,_,_,h=>.pure h|n+1,i,_,_,h=>Du (O.add i) λv v' U=>qq O n _ _ _ (h.push U)
theorem vD(B:AR m a a')(n:Nat):dv P ep m (bi a n) (bi a' n):=qq B n 0 _ _ (.nil m)
theorem kO(B:AR m a a'):∀{vs vs':List Value}(i:Nat),dQ (VR m) vs vs'->dv P xR m (be a vs i) (be a' vs' i)
 |_,_,_,.nil=>by unfold be;exact .pure trivial
 |_,_,i,.cons O h=>N0 (B.add i) O (kO B _ h)
theorem AY(B:AR m a a'):dv P VR m (loadVar t a) (loadVar t a'):=by
 refine DY λb=>dF (λ_=>?_) (λ_=>.load B λ_ _ O=>.pure O);refine eG λn=>dB (vD B n) λm' c c' _ U=>.pure (.L' U)
theorem Je(O:AR m a a')(B:VR m v v'):dv P xR m (storeVar t a v) (storeVar t a' v'):=by
 refine eG λn=>?_;rw[<-B.cells.size];split;exact .dy trivial;exact kO O 0 B.cells
def GM(m:Ren)(a a':Addr):Prop:=AR m a a'/\¬m.loose a.block
theorem oM{e:aN}(h:ep m c c'):dv P GM m (ba e c) (ba e c'):=by
 refine .new (.cells e _ _ h) (λx y z B=>by cases B;exact⟨_,rfl⟩) λm' r r' U hb O=>.pure ⟨.mk hb,O⟩
theorem xI{e:aN}(h:VR m v v'):dv P GM m (newVar e v) (newVar e v'):=oM h.cells
theorem mA(h:ep m c c')(off:Nat):dv P VR m (part t c off) (part t c' off):=by
 refine DY λb=>dF (λ_=>?_) (λ_=>?_);exact eG λn=>.pure (.L' (h.extract ..))
 cases O:c[off]? with
 |none=>exact .dy trivial|some v=>obtain⟨v',B,U⟩:=h.get O;rw[B];exact .pure U
end
end
section
variable {a':Addr} {ps ps':Array (Nat×Value)} {c:BoundsCode} {n:Nat} {h h' l l' x x':Option Value} {α β γ δ:Type} {t:aN} {i i' v v':Value}
section
variable {P:Program} {m:Ren}
theorem Rz(B:mn P){e:aN}:dv P VR m (c0 e true (.tuple #[])) (c0 e true (.tuple #[])):=by
 exact fH B λv O=>dB (xI O) λm' a a' _ h=>.pure (.ptr h.1)
theorem TV{e:aN}(B:VR m v v'):dv P VR m (c3 e v) (c3 e v'):=dB (xI B) λm' a a' _ h=>.pure (.ptr h.1)
theorem Bh(off:Nat):∀{l l':List Value}(n:Nat){c c':Array Value},dQ (VR m) l l'->ep m c c'->
  ep m ((l.zipIdx n).foldl (λcs (x:Value×Nat)=>cs.setIfInBounds (off+x.2) x.1) c) ((l'.zipIdx n).foldl (λcs (x:Value×Nat)=>cs.setIfInBounds (off+x.2) x.1) c')
 |_,_,_,_,_,.nil,h=>by simpa using h
 |_,_,n,_,_,.cons B O,h=>by
  simp only[List.zipIdx_cons,List.foldl_cons];exact Bh off _ O (h.set _ B)
def JN(m:Ren)(x y:Nat×Value):Prop:=x.1=y.1/\VR m x.2 y.2
theorem CV(place:Nat->Option (Nat×Nat)):∀{ps ps':List (Nat×Value)}{c c' r:Array Value},dQ (JN m) ps ps'->ep m c c'->bC place c ps=some r->∃r',bC place c' ps'=some r'/\ep m r r'
 |_,_,c,c',r,.nil,h,e=>by
  simp only[bC,gi]at e⊢
  exact⟨c',rfl,e▸h⟩
 |_,_,c,c',r,.cons (a:=(i,v)) (b:=(i',v')) B hl,h,e=>by
  obtain⟨hi,B⟩:=B
  subst hi;simp only[bC]at e⊢
  cases O:place i with
  |none=>rw[O]at e;cases e
  |some x=>
   obtain⟨off,size⟩:=x;rw[O]at e;simp only at e⊢;have U:=B.cells.size;rw[<-U,<-h.size];split at e
   cases e;rename_i W;rw[if_neg W];refine CV place hl ?_ e;have:=Bh off 0 B.cells h;rw[<-a7,<-a7,aE,aE];exact this
theorem xE{z:Array Value}(h:ep m z z)(n:Nat):ep m ((a3 n).map (z[· % z.size]!)) ((a3 n).map (z[· % z.size]!)):=by
 refine .refl λv B=>?_;simp only[a4,gg]at B;obtain⟨i,_,rfl⟩:=B;by_cases hi:i % z.size<z.size;rw[getElem!_pos z _ hi];exact h.idx _ hi hi;rw[getElem!_neg z _ hi];exact .bool _
theorem BL{Q:Ren->β->β->Prop}(hm:∀m m' a b,m.Le m'->Q m a b->Q m' a b)(g:α->Sem β)(B:∀m x,dv P Q m (g x) (g x)):∀(l:List α)(m:Ren),dv P (λm=>dQ (Q m)) m (l.mapM g) (l.mapM g)
 |[],m=>.pure .nil|x::l,m=>by
  simp only[gd];exact dB (B m x) λm' a b _ h=>dB (BL hm g B l m') λO c d U W=>.pure (.cons (hm _ _ _ _ U h) W)
theorem dQ.eq:∀{l l':List α},dQ (λa b=>a=b) l l'->l=l'
 |_,_,.nil=>rfl|_,_,.cons rfl h=>by rw[dQ.eq h]
theorem I9{B:Array Field}:dv P wV m (B.mapM (λx=>do pure (x.offset,<-bf x.type))) (B.mapM (λx=>do pure (x.offset,<-bf x.type))):=by
 rw[a0];refine dB (BL (Q:=wV) (λ_ _ _ _ _ h=>h) _ (λm x=>eG λn=>.pure rfl) _ m) λm' a b _ h=>.pure ?_;exact congrArg _ (dQ.eq h)
theorem QL(hP:mn P)(h:dQ (JN m) ps.toList ps'.toList):dv P VR m (cz t ps) (cz t ps'):=by
 refine fH hP λz hz=>dz λd hd=>?_
 have hf:∀m',m.Le m'->∀place,dv P VR m' (match bC place z.cells ps.toList with|some cells=>pure (.agg cells)|_=>stuck "build: a part of the wrong size") (match bC place z.cells ps'.toList with|some cells=>pure (.agg cells)|_=>stuck "build: a part of the wrong size"):=by
  intro m' B place
  cases W:bC place .. with
  |none=>exact .dy trivial|some r=>
   obtain⟨r',O,U⟩:=CV place (h.mono λ_ _ x=>⟨x.1,x.2.mono B⟩) (hz.cells.mono B) W;rw[O];exact .pure (.L' U)
 have Y:∀m',m.Le m'->∀place,dv P VR m' (match bC place z.cells ps.toList with|some cells=>pure (.agg cells)|_=>stuck "build: no such field, or a part of the wrong size") (match bC place z.cells ps'.toList with|some cells=>pure (.agg cells)|_=>stuck "build: no such field, or a part of the wrong size"):=by
  intro m' B place
  cases W:bC place .. with
  |none=>exact .dy trivial|some r=>
   obtain⟨r',O,U⟩:=CV place (h.mono λ_ _ x=>⟨x.1,x.2.mono B⟩) (hz.cells.mono B) W;rw[O];exact .pure (.L' U)
 cases d<;>first|exact .dy trivial|skip
 exact eG λn=>hf m (.refl m) _;refine dB I9 λm' a b B aa=>?_;cases aa;exact Y m' B _
theorem Dr(W:mn P)(h:dQ (JN m) ps.toList ps'.toList):dv P VR m (bV t n ps) (bV t n ps'):=by
 refine dz λd hd=>?_;cases d<;>first|exact .dy trivial|skip
 rename_i elem;dsimp only;refine eG λsize=>?_;split
 .exact .dy trivial
 have fin:∀z,ep m z z->dv P VR m
   (match bC (λi=>some (i*size,size)) ((a3 (n*size)).map (z[· % z.size]!)) ps.toList with|some cells=>(do pure (.slice (some (<-ba elem cells)) n n))|_=>stuck "buildSlice: a part of the wrong size")
   (match bC (λi=>some (i*size,size)) ((a3 (n*size)).map (z[· % z.size]!)) ps'.toList with|some cells=>(do pure (.slice (some (<-ba elem cells)) n n))|_=>stuck "buildSlice: a part of the wrong size"):=by
  intro z B
  cases Y:bC .. with
  |none=>exact .dy trivial|some r=>
   obtain⟨r',O,U⟩:=CV _ h (xE B _) Y;rw[O];exact dB (oM U) λm' a a' _ ha=>.pure (.slice _ _ ha.1)
 split;exact fin _ (.nil m);exact fH W λz B=>fin _ B.cells
theorem OJ{a a':Value}(h:VR m a a'):dv P VR m (cq t a) (cq t a'):=mo h λ_ _ B=>AY B
theorem Mq{a a':Value}(h:VR m a a')(B:VR m v v'):dv P xR m (cg t a v) (cg t a' v'):=mo h λ_ _ O=>Je O B
theorem qB{RB:Ren->γ->δ->Prop}{a:Addr}{f:Unit->Sem γ}{f':Unit->Sem δ}(B:AR m a a')(h:dv P RB m (f ()) (f' ())):dv P RB m (noView a >>= f) (noView a' >>= f'):=by
 refine dv.shape B.blk λx=>?_
 cases x with
 |some y=>exact h|none=>
  refine dv.getObj B.blk λo o' O=>?_;cases O<;>exact h
theorem nD{a:Addr}(B:AR m a a'):dv P wV m (b9 a) (b9 a'):=by
 unfold b9;rw[B.spot,B.off]
 cases O:a.spot with
 |some s=>exact .pure rfl|none=>
  refine gZ (qB B (j5 B.blk λx=>?_))
  cases x with
  |none=>exact .dy trivial|some y=>
   refine dF (λ_=>.pure rfl) (λ_=>?_);split;exact .pure rfl;exact .dy trivial
theorem OS{a:Addr}(U:AR m a a')(c b:Nat):dv P AR m (partAt a c b) (partAt a' c b):=by
 cases U with
 |mk hb=>
 refine dB (nD (.mk hb)) λm' x y O h=>?_;cases h;refine dB (nD (.mk (O.blk _ _ hb))) λW x' y' B h=>?_;cases h;refine .pure ?_;split<;>exact .mk (B.blk _ _ (O.blk _ _ hb))
theorem C1{a:Addr}(B:AR m a a')(f:Field):dv P AR m (b7 a f) (b7 a' f):=by
 exact eG λn=>dF (λ_=>OS B ..) (λ_=>.pure (B.add _))
theorem LJ{s:aN}{x x':Value}(h:VR m x x')(f:Nat):dv P VR m (cl s x f) (cl s x' f):=by
 refine dz λd W=>?_;cases d<;>first|exact .dy trivial|skip
 rename_i B;dsimp only
 cases B[f]? with
 |none=>exact .dy trivial|some O=>exact mo h λa a' U=>dB (C1 U O) λm' b b' _ hb=>.pure (.ptr hb)
theorem KW{x x':Value}(h:VR m x x')(hi:VR m i i'):dv P VR m (ck t x i) (ck t x' i'):=by
 refine yH hi λk n _=>dz λd U=>?_
 have fin:∀(len:Nat)(elem:aN)(B:Bool){a a':Addr},AR m a a'->dv P VR m
   (if 0<=n/\n<len then(do pure (.pointer (some (a.add (n.toNat*(<-bf elem))))))else if B=true then unsupported (.noEntry "op/indexAddr.an index out of range at an array of length 0 or 1 (ledger 616)")else aV k n len .index)
   (if 0<=n/\n<len then(do pure (.pointer (some (a'.add (n.toNat*(<-bf elem))))))else if B=true then unsupported (.noEntry "op/indexAddr.an index out of range at an array of length 0 or 1 (ledger 616)")else aV k n len .index):=by
  intro len elem B a a' O;exact dF (λ_=>eG λs=>.pure (.ptr (O.add _))) (λ_=>dF (λ_=>.dy trivial) (λ_=>oS))
 cases d<;>first|exact .dy trivial|skip
 cases h with
 |fu l c=>exact dz λd2 _=>oS|slice l c O=>exact dz λd2 _=>fin l _ _ O|_=>exact .dy trivial
 exact mo h λa a' O=>dz λd2 _=>fin _ _ _ O
theorem zX{RB:Ren->γ->δ->Prop}{k:IntKind}{x y:Int}{f:α->Sem γ}{f':β->Sem δ}:dv P RB m (aV k x y c >>= f) (aV k x y c >>= f'):=
 dB (RA:=λ_ _ _=>False) oS nofun
theorem AD{RB:Ren->γ->δ->Prop}(h:VR m v v'){y:Nat}{f:Nat->Sem γ}{f':Nat->Sem δ}(B:∀n,dv P RB m (f n) (f' n)) :
  dv P RB m (bN v y c >>= f) (bN v' y c >>= f'):=by
 cases h with
 |int k n=>
  have e:bN (.int k n) y c=if 0<=n/\n<=y then pure _ else aV k n y c:=rfl
  rw[e];split;exact B _;exact zX
 |_=>exact .dy trivial
inductive l8{α β:Type}(R:α->β->Prop):Option α->Option β->Prop
 |none:l8 R none none|some {a b}:R a b->l8 R (some a) (some b)
theorem l8.mono{R S:α->β->Prop}(h:∀a b,R a b->S a b){o:Option α}{o':Option β}(x:l8 R o o'):l8 S o o':=by
 cases x with
 |none=>exact .none|some B=>exact .some (h _ _ B)
theorem ju{RB:Ren->γ->δ->Prop}{b:Bool}{len cap:Nat}(B:l8 (VR m) l l')(O:l8 (VR m) h h')(U:l8 (VR m) x x'){f:Nat×Nat×Nat->Sem γ}{f':Nat×Nat×Nat->Sem δ}(W:∀n,dv P RB m (f n) (f' n)) :
  dv P RB m (bM b len cap l h x >>= f) (bM b len cap l' h' x' >>= f'):=by
 unfold bM
 cases U<;>cases O<;>cases B<;>simp only[bind_assoc,pure_bind] <;>
  repeat first|exact W _|exact .dy trivial|refine AD (by assumption) λ_=>?_
theorem RI(Y:VR m v v')(O:l8 (VR m) l l')(U:l8 (VR m) h h')(W:l8 (VR m) x x'):dv P VR m (cr t v l h x) (cr t v' l' h' x'):=by
 refine dz λd hd=>?_;cases d<;>first|exact .dy trivial|skip
 cases Y<;>first|exact .dy trivial|skip
 have ex:x.isSome=x'.isSome:=by cases W<;>rfl
 dsimp only;rw[ex];split;exact .dy trivial;exact ju O U .none λn=>.pure (.string _)
 exact BM Y λa a' B=>dz λd2 _=>by
  cases d2<;>first|exact .dy trivial|skip
  refine ju O U W λn=>eG λs=>.pure ?_;split;exact .slice _ _ B;exact .slice _ _ (B.add _)
 cases Y<;>first|exact .dy trivial|skip
 refine ju O U W λn=>eG λs=>.pure ?_;split<;>exact .fu ..
 rename_i B;refine ju O U W λn=>eG λs=>.pure ?_;split;exact .slice _ _ B;exact .slice _ _ (B.add _)
theorem LX(B:VR m v v')(O:l8 (VR m) l l')(U:l8 (VR m) h h')(W:l8 (VR m) x x'):dv P VR m (ci t v l h x) (ci t v' l' h' x'):=by
 refine dz λd hd=>?_;cases d<;>first|exact RI B O U W|skip
 refine mo B λa a' Y=>ju O U W λn=>eG λs=>.pure ?_;split;exact .slice _ _ Y;exact .slice _ _ (Y.add _)
theorem Rf(B:VR m v v')(f:Nat):dv P VR m (cx t v f) (cx t v' f):=by
 refine dz λd W=>?_;cases d<;>first|exact .dy trivial|skip
 rename_i O;dsimp only
 cases O[f]? with
 |none=>exact .dy trivial|some Y=>exact Pg B λc c' U=>mA U _
theorem Q3(B:VR m v v')(hi:VR m i i'):dv P VR m (cw t v i) (cw t v' i'):=by
 refine yH hi λk n _=>dz λd W=>?_;cases d<;>first|exact .dy trivial|skip
 cases B<;>first|exact .dy trivial|skip
 dsimp only;split;exact .pure (.int ..);exact oS
 cases B<;>first|exact .dy trivial|skip
 rename_i O U;exact dF (λ_=>eG λs=>mA (.ii O U) _) (λ_=>oS)
theorem Me(B:VR m v v')(i:Nat):dv P VR m (bP v i) (bP v' i):=by
 cases B<;>first|exact .dy trivial|skip
 rename_i O U;unfold bP;dsimp only
 cases W:(_:Array Value)[i]? with
 |none=>exact .dy trivial|some u=>obtain⟨u',Y,hr⟩:=(ep.ii O U).get W;rw[Y];exact .pure hr
theorem wZ(B:VR m v v'):dv P VR m (bR t v) (bR t v'):=by
 refine dz λd O=>?_;cases d<;>first|exact .dy trivial|exact .pure (.iface _ B)
theorem LB{r r':Option Value}(h:l8 (VR m) r r'):dv P VR m (cj t r) (cj t r'):=by
 have fin:dv P VR m .. :=
  dv.new (.map 0 .nil) (nofun) λm' i i' O hb _=>.pure (.map hb)
 cases h with
 |none=>exact fin|some B=>
  refine dz λd U=>?_;cases d<;>first|exact .dy trivial|exact j9 B λn=>fin
theorem ku{RB:Ren->γ->δ->Prop}{f:Unit->Sem γ}{f':Unit->Sem δ}(h:dv P RB m (f ()) (f' ())):dv P RB m (bp n >>= f) (bp n >>= f'):=by
 unfold bp;split;exact dv.mark trivial h;exact h
theorem Fb(O:mn P){l l' c c':Value}(U:VR m l l')(W:VR m c c'):dv P VR m (bX t l c) (bX t l' c'):=by
 refine dz λd hd=>?_;cases d<;>first|exact .dy trivial|skip
 rename_i elem;refine j9 U λln=>j9 W λcn=>dN λti _=>?_
 have fin:∀{a b:Nat}{x y:Nat},dv P VR m
   (do bp a;let n <-bf elem;if b*n=0 then(do let zero <-pure #[];let r <-ba elem (aC (λx=>zero[x % zero.size]!) (a3 (b*n)));pure (Value.slice (some r) x y))else(do let z <-aQ elem;let zero <-pure z.cells;let r <-ba elem (aC (λx=>zero[x % zero.size]!) (a3 (b*n)));pure (Value.slice (some r) x y)))
   (do bp a;let n <-bf elem;if b*n=0 then(do let zero <-pure #[];let r <-ba elem (aC (λx=>zero[x % zero.size]!) (a3 (b*n)));pure (Value.slice (some r) x y))else(do let z <-aQ elem;let zero <-pure z.cells;let r <-ba elem (aC (λx=>zero[x % zero.size]!) (a3 (b*n)));pure (Value.slice (some r) x y))):=by
  refine ku (eG λn=>dF (λ_=>?_) (λ_=>fH O λz Y=>?_));exact dB (RA:=GM) (oM (xE (z:=#[]) (.nil m) _)) λm' r r' _ B=>dv.pure (VR.slice _ _ B.1);exact dB (RA:=GM) (oM (xE Y.cells _)) λm' r r' _ B=>dv.pure (VR.slice _ _ B.1)
 refine dF (λ_=>dF (λ_=>?_) (λ_=>dF (λ_=>?_) (λ_=>gC λn=>?_))) (λ_=>fin)
 all_goals exact dS (e:=.error _) trivial
theorem IA{f:aX}(B:m.fw f){a a' b b':Array Value}(O:ep m a a')(hb:ep m b b'):dv P VR m (ce (.func f) a b) (ce (.func f) a' b'):=.pure (.J4 (.func f B) O hb)
theorem IU(hm:m.il){s s':Value}(B:VR m s s'):dv P VR m (cf t s) (cf t s'):=by
 refine j9 B λn=>dz λd O=>?_;cases d<;>first|exact .dy trivial|skip
 refine dN λU _=>dF (λ_=>dS (e:=.plain _) trivial) (λ_=>?_);exact dv.pS hm λm' i i' _ hb=>.pure (.chan hb)
theorem Q0(O:VR m v v'):dv P VR m (cu t v) (cu t v'):=by
 refine dz λd W=>?_
 have fin:∀{o o':Obj},OR m o o'->(∀e c f,o≠.cells e c f)->dv P VR m (do pure (.pointer (some ⟨<-bt o,0,none⟩))) (do pure (.pointer (some ⟨<-bt o',0,none⟩))):=by
  intro o o' B U;exact dv.new B (λe c f h=>absurd h (U e c f)) λm' i i' _ hb _=>.pure (.ptr (.mk hb))
 cases d<;>first|exact .dy trivial|skip
 cases O<;>first|exact .dy trivial|exact fin (.stringIter ..) (nofun)
 cases O<;>first|exact .dy trivial|skip
 exact fin (.fT ..) (nofun)
 rename_i hb;refine fI hb λo o' B=>?_;cases B<;>first|exact .dy trivial|exact fin (.mapIter _ _ _ hb) (nofun)
 exact .gone ‹_›
theorem Fv{RB:Ren->γ->δ->Prop}{f:aN->Sem γ}{f':aN->Sem δ}(h:∀n,dv P RB m (f n) (f' n)):dv P RB m (b8 t >>= f) (b8 t >>= f'):=by
 unfold b8;simp only[bind_assoc];refine dz λd B=>?_;cases d<;>first|exact .dy trivial|exact h _
theorem IE{RA:Ren->α->β->Prop}:dv P RA m (aW .panicNil) (aW .panicNil):=by
 refine .program ?_;refine Fv λn=>dB (RA:=GM) (xI (.L' (.nil m))) λm' r r' _ B=>.panic (.iface _ (.ptr B.1))
theorem QI(B:VR m v v'):dv P VR m (cv v) (cv v'):=by
 cases B<;>first|exact .dy trivial|exact .panic (.iface _ ‹_›)|skip
 refine dv.env λr=>?_;cases r<;>first|exact .dy trivial|skip
 refine dv.program ?_;exact dF (λ_=>.panic .nilIface) (λ_=>IE)
end
variable {a b b':Addr} {σ:Type}
def nT(P:Program):Nat->aN->Bool
 |0,_=>true|d+1,t=>match P.underlying t with
  |some (.pointer _)|some .unsafePointer|some (.interface _)=>false|some (.struct B)=>B.all λf=>nT P d f.type|some (.array _ e)=>nT P d e|_=>true
def gJ(m:Ren):Prop:=∀r,¬m.loose r
theorem gJ.mono{m m':Ren}(h:m.Le m')(x:gJ m):gJ m':=λr B=>x r (h.less r B)
section
variable {P:Program} {m:Ren}
theorem w9{RB:Ren->γ->δ->Prop}(O:gJ m)(B:AR m a a'){f:Bool->Sem γ}{f':Bool->Sem δ}(h:∀b,dv P RB m (f b) (f' b)):dv P RB m (stringish a >>= f) (stringish a' >>= f'):=by
 refine mT B (O _) λx=>?_;cases x;refine j5 B.blk λy=>?_
 cases y with
 |none=>exact h _|some z=>exact mT (.mk B.blk) (O _) λb=>h b
 exact h _
theorem ym{RB:Ren->γ->δ->Prop}(B:gJ m)(O:AR m a a')(hb:AR m b b'){f:Bool->Sem γ}{f':Bool->Sem δ}(h:∀b,dv P RB m (f b) (f' b)):dv P RB m (bu a b >>= f) (bu a' b' >>= f'):=by
 unfold bu;simp only[bind_assoc];exact w9 B O λsa=>w9 B hb λU=>j5 O.blk λx=>j5 hb.blk λy=>h _
theorem Ab(O:gJ m)(B:AR m a a')(hb:AR m b b'):dv P wV m (bs a b) (bs a' b'):=by
 unfold bs;have U:(a.block==b.block)=(a'.block==b'.block):=by rw[dr];simp only[beq_iff_eq];exact B.rC hb
 have W:(a==b)=(a'==b'):=by rw[dr];simp only[beq_iff_eq];exact B.eq_iff hb
 rw[U,W];refine dF (λ_=>.pure rfl) (λ_=>?_);refine mT B (O _) λx=>?_;exact mT hb (O _) λy=>dF (λ_=>.dy trivial) (λ_=>qB B (qB hb (ym O B hb λx=>dF (λ_=>gC λn=>.pure rfl) (λ_=>.pure rfl))))
theorem dV{RB:Ren->γ->δ->Prop}(B:AR m a a'){f:Addr×Bool->Sem γ}{f':Addr×Bool->Sem δ}(h:∀p O l,AR m p O->dv P RB m (f (p,l)) (f' (O,l))) :
  dv P RB m (b1 a >>= f) (b1 a' >>= f'):=by
 refine j5 B.blk λx=>?_
 cases x with
 |some y=>exact h _ _ _ B|none=>
  refine fI B.blk λo o' U=>?_
  cases U with
  |number l W=>exact h _ _ _ W|_=>exact h _ _ _ B
theorem pO{f f':α->σ->Sem (ForInStep σ)}:∀(l:List α)(s:σ)(m':Ren),m.Le m'->(∀m' a s,a∈l->m.Le m'->dv P wV m' (f a s) (f' a s))->dv P wV m' (forIn l s f) (forIn l s f')
 |[],s,m',_,_=>.pure rfl|a::l,s,m',W,h=>by
  simp only[gc];refine dB (h m' a s (by simp) W) λB x y O U=>?_;cases U
  cases x with
  |done b=>exact .pure rfl|yield b=>exact pO l b B (W.trans O) λY a s ha=>h Y a s (by simp[ha])
theorem ox{f f':α->σ->Sem (ForInStep σ)}(xs:Array α)(s:σ)(h:∀m' a s,a∈xs.toList->m.Le m'->dv P wV m' (f a s) (f' a s)):dv P wV m (forIn xs s f) (forIn xs s f'):=by
 rw[<-a6,<-a6];exact pO _ s m (.refl m) h
theorem oB{f f':Nat->σ->Sem (ForInStep σ)}(n:Nat)(s:σ)(h:∀m' a s,m.Le m'->dv P wV m' (f a s) (f' a s)):dv P wV m (forIn [:n] s f) (forIn [:n] s f'):=by
 rw[hH,hH];exact pO _ s m (.refl m) λB a s _=>h B a s
theorem Mn{RB:Ren->γ->δ->Prop}{t:aN}{f:String->Sem γ}{f':String->Sem δ}(h:∀n,dv P RB m (f n) (f' n)):dv P RB m (bx t >>= f) (bx t >>= f'):=by
 unfold bx;simp only[bind_assoc];refine dN λB _=>?_;split;exact .dy trivial;exact h _
theorem T8(B:AR m a a')(hb:AR m b b'):(a==b)=(a'==b'):=by rw[dr];simp only[beq_iff_eq];exact B.eq_iff hb
theorem oX:∀(d:Nat)(m:Ren)(t:aN){x x' y y':Value},m.G=P.globals.size->VR m x x'->VR m y y'->gJ m\/nT P d t=true->dv P wV m (cC d t x y) (cC d t x' y')
 |0,m,t,_,_,_,_,_,_,_,_=>.dy trivial
 |d+1,m,t,x,x',y,y',hG,W,O,B=>by
  unfold cC
  refine dz λde hd=>?_
  cases de with
  |bool=>cases W<;>first|exact .dy trivial|(cases O<;>first|exact .dy trivial|exact .pure rfl)
  |string=>cases W<;>first|exact .dy trivial|(cases O<;>first|exact .dy trivial|exact .pure rfl)
  |int k=>
   cases W with
   |int k n=>
    cases O with
    |int k' n'=>exact dF (λ_=>.pure rfl) (λ_=>.dy trivial)
    |ptr ha=>
     cases n with
     |ofNat n=>cases n<;>first|exact .pure rfl|exact .dy trivial
     |negSucc n=>exact .dy trivial
    |_=>exact .dy trivial
   |ptr ha=>
    cases O with
    |int k' n'=>
     cases n' with
     |ofNat n=>cases n<;>first|exact .pure rfl|exact .dy trivial
     |negSucc n=>exact .dy trivial
    |ptr hb=>
     refine dV ha λp p' l hp=>dV hb λq q' l' hq=>gZ ?_
     have e1:(p.block==q.block)=(p'.block==q'.block):=by rw[dr];simp only[beq_iff_eq];exact hp.rC hq
     have e2:(p==q)=(p'==q'):=by rw[dr];simp only[beq_iff_eq];exact hp.eq_iff hq
     have e3:decide (p.block<P.globals.size)=decide (p'.block<P.globals.size):=by rw[<-hG];exact decide_eq_decide.2 (m.ou _ _ hp.blk)
     rw[e1,e2,e3];refine dF (λ_=>?_) (λ_=>dN λti _=>?_);refine dB (nD hp) λm' x y Y h=>?_;cases h;refine dB (nD (hq.mono Y)) λad x' y' Y h=>?_;cases h;exact .pure rfl;split;exact dF (λ_=>.pure rfl) (λ_=>.dy trivial);exact .dy trivial
    |_=>exact .dy trivial
   |gQ=>exact .dy trivial|_=>cases O<;>exact .dy trivial
  |pointer e=>
   cases W with
   |gQ=>cases O<;>first|exact .dy trivial|exact .pure rfl
   |ptr ha=>
    cases O with
    |gQ=>exact .pure rfl|ptr hb=>
     rcases B with B|B
     refine eG λn=>dF (λ_=>Ab B ha hb) (λ_=>?_);rw[T8 ha hb];exact dF (λ_=>.pure rfl) (λ_=>gC λn=>.pure rfl);simp[nT,hd]at B
    |_=>exact .dy trivial
   |_=>exact .dy trivial
  |interface ms=>
   cases W with
   |nilIface=>cases O<;>first|exact .dy trivial|exact .pure rfl
   |iface tx ab=>
    cases O with
    |nilIface=>exact .pure rfl|iface ty ac=>
     rcases B with B|B
     refine dF (λ_=>.pure rfl) (λae=>dN λti _=>dF (λ_=>gZ (gZ ?_)) (λ_=>oX d m tx hG ab ac (.inl B)));dsimp only;exact dF (λ_=>.dy trivial) (λ_=>Mn λn=>fl (e:=.error _) trivial);simp[nT,hd]at B
    |_=>exact .dy trivial
   |_=>exact .dy trivial
  |struct fs=>
   cases W<;>first|exact .dy trivial|(cases O<;>first|exact .dy trivial|skip)
   rename_i h1 h2 c c' h3 h4
   have aa:∀f∈fs.toList,gJ m\/nT P d f.type=true:=by
    intro f hf;rcases B with B|B
    exact .inl B;right;simp only[nT,hd,aB]at B;exact B f (by simpa using hf)
   refine gZ ?_;dsimp only;refine dF (λ_=>.dy trivial) (λ_=>?_);refine dB (RA:=wV) (ox _ _ λm' f s hf Y=>dF (λ_=>?_) (λ_=>.pure rfl)) λm' a b _ U=>?_;refine dB (mA ((ep.ii h1 h2).mono Y) _) λm1 u u' l1 hu=>dB (mA ((ep.ii h3 h4).mono (Y.trans l1)) _) λm2 v v' l2 hv=>?_;have l3:=(Y.trans l1).trans l2;refine dB (oX d m2 _ (by rw[l3.G,hG]) (hu.mono l2) hv ((aa f hf).imp (λx=>x.mono l3) id)) λm3 a b _ U=>?_;cases U;exact dF (λ_=>.pure rfl) (λ_=>.pure rfl)
   cases U;obtain⟨o,_⟩:=a;cases o<;>exact .pure rfl
  |array n e=>
   cases W<;>first|exact .dy trivial|(cases O<;>first|exact .dy trivial|skip)
   rename_i h1 h2 c c' h3 h4
   have aa:gJ m\/nT P d e=true:=by
    rcases B with B|B
    exact .inl B;right;simpa only[nT,hd]using B
   refine eG λsz=>?_;refine dB (RA:=wV) (oB _ _ λm' i s Y=>?_) λm' a b _ U=>?_;refine dB (mA ((ep.ii h1 h2).mono Y) _) λm1 u u' l1 hu=>dB (mA ((ep.ii h3 h4).mono (Y.trans l1)) _) λm2 v v' l2 hv=>?_;have l3:=(Y.trans l1).trans l2;refine dB (oX d m2 _ (by rw[l3.G,hG]) (hu.mono l2) hv (aa.imp (λx=>x.mono l3) id)) λm3 a b _ U=>?_;cases U;exact dF (λ_=>.pure rfl) (λ_=>.pure rfl)
   cases U;obtain⟨o,_⟩:=a;cases o<;>exact .pure rfl
  |slice e=>cases W<;>first|exact .dy trivial|(cases O<;>first|exact .dy trivial|exact .pure rfl)
  |map k e=>cases W<;>first|exact .dy trivial|(cases O<;>first|exact .dy trivial|exact .pure rfl)
  |func a b c=>cases W<;>first|exact .dy trivial|(cases O<;>first|exact .dy trivial|exact .pure rfl)
  |unsafePointer=>
   rcases B with B|B
   cases W<;>first|exact .dy trivial|(cases O<;>first|exact .dy trivial|exact .pure rfl|exact Ab B ‹_› ‹_›)
   simp[nT,hd]at B
  |chan a b=>
   cases W<;>first|exact .dy trivial|(cases O<;>first|exact .dy trivial|exact .pure rfl|skip)
   rename_i r r' h1 s s' h2;refine .pure ?_;show((some r==some s)=(some r'==some s'));rw[dr];simp only[beq_iff_eq,gi];constructor;intro e;subst e;rw[h1]at h2;cases h2;rfl;intro e;subst e;exact m.vm _ _ _ h1 h2
  |_=>cases W<;>exact .dy trivial
end
variable {d:TypeDesc} {a a' b b' k k' x x':Value}
def qv(P:Program):Nat->aN->Bool
 |0,_=>true|d+1,t=>match P.underlying t with
  |some (.interface _)=>false|some (.struct B)=>B.all λf=>qv P d f.type|some (.array _ e)=>qv P d e|_=>true
section
variable {P:Program} {m:Ren}
theorem nJ(b:Bool):∀(n:Nat)(m:Ren)(t:aN){v v':Value},VR m v v'->qv P n t=true->dv P xR m (bI b n t v) (bI b n t v')
 |0,m,t,_,_,_,_=>.dy trivial|n+1,m,t,v,v',hv,B=>by
  refine dz λd O=>?_
  cases d with
  |interface ms=>simp[qv,O]at B|struct fs=>
   simp only[qv,O,aB]at B;cases hv<;>first|exact .dy trivial|skip
   rename_i U W;refine(dB (RA:=wV) (ox _ _ λm' f s hf Y=>dF (λ_=>?_) (λ_=>.pure rfl)) λ_ _ _ _ _=>.pure trivial);refine dB (mA ((ep.ii U W).mono Y) _) λm1 u u' l1 hu=>dB (nJ b n m1 _ hu (B f (by simpa using hf))) λ_ _ _ _ _=>.pure rfl
  |array l e=>
   simp only[qv,O]at B;cases hv<;>first|exact .dy trivial|skip
   rename_i U W;refine(dB (RA:=wV) (oB _ _ λm' i s Y=>eG λsz=>?_) λ_ _ _ _ _=>.pure trivial);refine dB (mA ((ep.ii U W).mono Y) _) λm1 u u' l1 hu=>dB (nJ b n m1 _ hu B) λ_ _ _ _ _=>.pure rfl
  |_=>exact .pure trivial
def He(m:Ren):Option (Nat×Value)->Option (Nat×Value)->Prop:=l8 λx y=>y.1=x.1/\VR m x.2 y.2
theorem tr(U:∀m',m.Le m'->gJ m'\/nT P c6 t=true)(W:m.G=P.globals.size)(Y:VR m k k'):∀{es es':List MapEntry}(i:Nat)(m':Ren),m.Le m'->dQ (sV m) es es'->dv P He m' (bG t k es i) (bG t k' es' i)
 |_,_,_,m',_,.nil=>by unfold bG;exact .pure .none
 |_,_,i,m',B,.cons he h=>by
  refine dB (oX _ m' t (by rw[B.G,W]) (Y.mono B) (he.key.mono B) (U m' B)) λm2 a b l2 O=>?_;cases O;exact dF (λ_=>.pure (.some ⟨rfl,he.val.mono (B.trans l2)⟩)) (λ_=>tr U W Y _ m2 (B.trans l2) h)
theorem K7(B:VR m k k')(O:VR m x x')(b:Bool)(h:bB d k x=some b):bB d k' x'=some b:=by
 cases d with
 |bool=>
  cases B with
  |bool c=>cases O with|bool e=>exact h|_=>cases h
  |_=>cases h
 |int j=>
  cases B with
  |int c n=>cases O with|int e U=>exact h|_=>cases h
  |_=>cases h
 |string=>
  cases B with
  |string c=>cases O with|string e=>exact h|_=>cases h
  |_=>cases h
 |_=>cases h
theorem D4(W:P.underlying t=some d)(O:VR m k k')(U:VR m x x')(h:bB d k x=none){b:Bool}(h':bB d k' x'=some b):ed P (c5 t k x):=by
 have key:∀{γ:Type}(f:TypeDesc->Sem γ),ed P (f d)->ed P (aT t >>= f):=by
  intro γ f Y;show ed P ((match P.underlying t with|some d=>pure d|none=>stuck _) >>= f);rw[W];exact Y
 cases d with
 |bool=>
  cases O with
  |bool c=>cases U with
   |bool e=>cases h
   |fK v B=>exact key _ trivial|_=>cases h'
  |fK v B=>exact key _ trivial|_=>cases h'
 |int j=>
  cases O with
  |int c n=>cases U with
   |int e n'=>rw[show bB .. = some b from h']at h;cases h
   |fK v B=>exact key _ trivial|_=>cases h'
  |fK v B=>exact key _ (by cases x<;>trivial)|_=>cases h'
 |string=>
  cases O with
  |string c=>cases U with
   |string e=>cases h
   |fK v B=>exact key _ trivial|_=>cases h'
  |fK v B=>exact key _ trivial|_=>cases h'
 |_=>cases h'
theorem Ey(B:P.underlying t=some d)(h:bB d k x=some false)(f:Bool->Sem γ)(O:ed P (f false)):ed P (c5 t k x >>= f):=by
 have key:∀(g:TypeDesc->Sem Bool),g d=pure false->ed P ((aT t >>= g) >>= f):=by
  intro g U;show ed P (((match P.underlying t with|some d=>pure d|none=>stuck _) >>= g) >>= f);rw[B];show ed P (g d >>= f);rw[U];exact O
 match d,k,x,h with
 |.bool,.bool a,.bool b,h=>exact key _ (by simp only[bB,gi]at h;simp[h])|.string,.string a,.string b,h=>exact key _ (by simp only[bB,gi]at h;simp[h])|.int j,.int k a,.int k' b,h=>
  refine key _ ?_;simp only[bB]at h;split at h;simp only[gi]at h;rename_i e;simp[e,h]
  cases h
theorem Be(B:P.underlying t=some d)(O:VR m k k'):∀{es es':List MapEntry}(i:Nat),dQ (sV m) es es'->
  (∀r,bE d k es i=some r->∃r',bE d k' es' i=some r'/\He m r r')/\(bE d k es i=none->bE d k' es' i=none\/∀j,ed P (bG t k es j))
 |_,_,i,.nil=>by
  exact⟨λr h=>by cases h;exact⟨_,rfl,.none⟩,nofun⟩
 |e::es,e'::es',i,.cons U h=>by
  obtain⟨W,Y⟩:=Be B O _ h
  unfold bE
  cases hs:bB d k _ with
  |some b=>
   rw[K7 O U.key b hs]
   cases b with
   |true=>exact⟨λr h=>by cases h;exact⟨_,rfl,.some ⟨rfl,U.val⟩⟩,nofun⟩|false=>
    refine⟨W,λhn=>(Y hn).imp id λhD j=>?_⟩;exact Ey B hs _ (hD _)
  |none=>
   refine⟨(nofun),λ_=>?_⟩
   cases aa:bB d k' _ with
   |none=>exact .inl rfl|some b=>
    refine .inr λj=>?_;exact(D4 B O U.key hs aa).bind
theorem vn(U:gJ m\/nT P c6 t=true)(W:m.G=P.globals.size)(B:VR m k k'){es es':List MapEntry}(h:dQ (sV m) es es'):dv P He m (bJ t k es) (bJ t k' es'):=by
 refine dz λd Y=>?_;obtain⟨h1,h2⟩:=Be Y B 0 h
 cases O:bE d k es 0 with
 |some r=>
  obtain⟨r',e,hr⟩:=h1 r O;rw[e];exact .pure hr
 |none=>
  rcases h2 O with e|hD
  rw[e];exact tr (λm' hl=>U.imp (λx=>x.mono hl) id) W B 0 m (.refl m) h;exact .dy (hD 0)
theorem Pv(Y:mn P)(hG:m.G=P.globals.size)(hK:∀k e,P.underlying t=some (.map k e)->qv P 10000 k=true/\(gJ m\/nT P c6 k=true)){i i':Value}(hx:VR m x x')(hi:VR m i i')(b:Bool):dv P VR m (cp t x i b) (cp t x' i' b):=by
 refine dz λd hd=>?_;cases d<;>first|exact .dy trivial|skip
 rename_i k e;obtain⟨U,W⟩:=hK k e hd
 have fin:∀{es es':Array MapEntry},dQ (sV m) es.toList es'.toList->dv P VR m
   (do bI es.isEmpty 10000 k i;match <-bJ k i es.toList with|some (_,v)=>(do let y <-pure (v,true);match y with|(v,ok)=>pure (if b=true then .tuple #[v,.bool ok]else v))|none=>(do let z <-aQ e;let y <-pure (z,false);match y with|(v,ok)=>pure (if b=true then .tuple #[v,.bool ok]else v)))
   (do bI es'.isEmpty 10000 k i';match <-bJ k i' es'.toList with|some (_,v)=>(do let y <-pure (v,true);match y with|(v,ok)=>pure (if b=true then .tuple #[v,.bool ok]else v))|none=>(do let z <-aQ e;let y <-pure (z,false);match y with|(v,ok)=>pure (if b=true then .tuple #[v,.bool ok]else v))):=by
  intro es es' h
  have he:es.isEmpty=es'.isEmpty:=by
   have:=h.length;simp only[a5]at this;simp[aA,this]
  rw[he];refine dB (nJ _ _ m _ hi U) λm1 _ _ B _=>dB (vn (W.imp (λx=>x.mono B) id) (by rw[B.G,hG]) (hi.mono B) (h.mono λ_ _ x=>x.mono B)) λm2 r r' l2 hr=>?_
  have pr:∀(m':Ren)(v v':Value)(o:Bool),VR m' v v'->VR m' (if b=true then .tuple #[v,.bool o]else v) (if b=true then .tuple #[v',.bool o]else v'):=by
   intro m' v v' o O;split;exact .kS (.cons O (.cons (.bool _) .nil));exact O
  cases hr with
  |none=>exact fH Y λz hz=>.pure (pr _ _ _ _ hz)|some O=>exact .pure (pr _ _ _ _ O.2)
 cases hx<;>first|exact .dy trivial|skip
 exact fin .nil
 rename_i hb;refine fI hb λo o' ho=>?_;cases ho<;>first|exact .dy trivial|exact fin ‹_›
 exact .gone ‹_›
theorem Gd:∀(n:Nat)(a b:Value),bA n a b=true->a=b:=by
 intro n;induction n with
 |zero=>
  intro a b h;unfold bA at h;split at h;rw[eq_of_beq h];simp only[dk,beq_iff_eq]at h;rw[h.1,h.2];simp only[dk,beq_iff_eq]at h;rw[h.1,h.2];simp only[dk,beq_iff_eq]at h;rw[h.1.1,h.1.2,h.2];rw[(Go.MapKept.bytes_beq ..).1 h];rw[eq_of_beq h];rw[eq_of_beq h];rfl;rename_i e;cases e;rename_i e;cases e
  cases h
 |succ n B=>
  intro a b h;unfold bA at h;split at h;rw[eq_of_beq h];simp only[dk,beq_iff_eq]at h;rw[h.1,h.2];simp only[dk,beq_iff_eq]at h;rw[h.1,h.2];simp only[dk,beq_iff_eq]at h;rw[h.1.1,h.1.2,h.2];rw[(Go.MapKept.bytes_beq ..).1 h];rw[eq_of_beq h];rw[eq_of_beq h];rfl;rename_i e;cases e;simp only[dk,beq_iff_eq]at h;rw[h.1,B _ _ h.2];rename_i x y e;cases e;simp only[dk,beq_iff_eq,ga]at h
  have:=by
   apply Array.ext h.1;intro i O U;refine B _ _ (h.2 (x[i],y[i]) ?_);rw[fB];exact⟨i,by simp[ft,O,U]⟩
  rw[this]
  cases h
theorem r9(Y:VR m a a')(hb:VR m b b'):(∀p q,a=.pointer p->b=.pointer q->∃B O,a'=.pointer B/\b'=.pointer O/\(p==q)=(B==O))/\(∀p q,a=.chan p->b=.chan q->∃B O,a'=.chan B/\b'=.chan O/\(p==q)=(B==O)):=by
 constructor;intro p q U W;subst U W
 cases Y with
 |gQ=>cases hb with
  |gQ=>exact⟨_,_,rfl,rfl,rfl⟩|ptr h=>exact⟨_,_,rfl,rfl,rfl⟩
 |ptr h=>cases hb with
  |gQ=>exact⟨_,_,rfl,rfl,rfl⟩|ptr h'=>exact⟨_,_,rfl,rfl,by rw[dr];simp only[beq_iff_eq,gi];exact h.eq_iff h'⟩
 intro p q U W;subst U W
 cases Y with
 |iW=>cases hb with
  |iW=>exact⟨_,_,rfl,rfl,rfl⟩|chan h=>exact⟨_,_,rfl,rfl,rfl⟩
 |chan h=>cases hb with
  |iW=>exact⟨_,_,rfl,rfl,rfl⟩|chan h'=>
   refine⟨_,_,rfl,rfl,?_⟩;rw[dr];simp only[beq_iff_eq,gi];constructor;intro e;subst e;rw[h]at h';cases h';rfl;intro e;subst e;exact m.vm _ _ _ h h'
theorem EB:∀(n:Nat){a b a' b':Value},VR m a a'->VR m b b'->bA n a b=true->bA n a' b'=true:=by
 intro n;induction n with
 |zero=>
  intro a b a' b' B hb h;unfold bA at h;split at h
  cases B;cases hb;simpa[bA]using h
  cases B;cases hb;simpa[bA]using h
  cases B
  cases B
  cases B;cases hb;simpa[bA]using h;obtain⟨W,Y,rfl,rfl,e⟩:=(r9 B hb).1 _ _ rfl rfl;rw[e]at h;simpa[bA]using h;obtain⟨W,Y,rfl,rfl,e⟩:=(r9 B hb).2 _ _ rfl rfl;rw[e]at h;simpa[bA]using h
  cases B;cases hb;rfl;rename_i e;cases e;rename_i e;cases e
  cases h
 |succ n ih=>
  intro a b a' b' B hb h;unfold bA at h;split at h
  cases B;cases hb;simpa[bA]using h
  cases B;cases hb;simpa[bA]using h
  cases B
  cases B
  cases B;cases hb;simpa[bA]using h;obtain⟨W,Y,rfl,rfl,e⟩:=(r9 B hb).1 _ _ rfl rfl;rw[e]at h;simpa[bA]using h;obtain⟨W,Y,rfl,rfl,e⟩:=(r9 B hb).2 _ _ rfl rfl;rw[e]at h;simpa[bA]using h
  cases B;cases hb;rfl;rename_i e;cases e
  cases B with
  |iface t h1=>cases hb with
   |iface u h2=>
    simp only[dk,beq_iff_eq]at h;simp only[bA,dk,beq_iff_eq];exact⟨h.1,ih h1 h2 h.2⟩
  rename_i x y e;cases e
  cases B with
  |agg s1 h1=>cases hb with
   |agg s2 h2=>
    simp only[dk,beq_iff_eq,ga]at h;simp only[bA,dk,beq_iff_eq,ga];refine⟨by rw[<-s1,<-s2];exact h.1,λp hp=>?_⟩;rw[fB]at hp;obtain⟨i,hi⟩:=hp;simp only[ft,az]at hi;obtain⟨g1,g2⟩:=hi;obtain⟨k1,e1⟩:=ay.1 g1;obtain⟨k2,e2⟩:=ay.1 g2;have O:i<x.size:=by rw[s1];exact k1
    have U:i<y.size:=by rw[s2];exact k2
    rw[<-e1,<-e2];refine ih (h1 i O k1) (h2 i U k2) (h.2 (x[i],y[i]) ?_);rw[fB];exact⟨i,by simp[ft,O,U]⟩
  cases h
theorem zN{δ:Type}{RB:Ren->γ->δ->Prop}(B:VR m a a')(hb:VR m b b'){f:Value->Sem γ}{f':Value->Sem δ}(W:∀v,fR (f v))(h:∀v v',VR m v v'->dv P RB m (f v) (f' v')) :
  lr P RB m (bK a b >>= f) (bK a' b' >>= f'):=by
 unfold bK;by_cases O:bA 10000 a b=true;rw[if_pos O,if_pos (EB _ B hb O)];exact .base (h _ _ hb);rw[if_neg O];by_cases U:bA 10000 a' b'=true;have e:=Gd _ _ _ U;refine lr.Uq (λn=>?_) (λn=>?_);exact W _;show dv P RB m (f _) _;split;exact h _ _ hb;exact h _ _ (e▸B);rw[if_neg U];refine .base (dv.choose λn=>?_);show dv P RB m (f _) (f' _);split;exact h _ _ hb;exact h _ _ B
end
variable {es es':Array MapEntry} {mp mp':Value}
section
variable {P:Program} {m:Ren}
theorem fR.bind{s:Sem α}{f:α->Sem β}(h:fR s)(O:∀a,fR (f a)):fR (s.bind f):=by
 induction s with
 |pure a=>exact O a|load m a k B=>exact λv=>B v (h v)|store m a v k B=>exact B h|new o k B=>exact λv=>B v (h v)|shape r k B=>exact λv=>B v (h v)|freeze a n k B=>exact B h|frozen a k B=>exact λv=>B v (h v)|getObj r k B=>exact λv=>B v (h v)|setObj r o k B=>exact B h|choose q k B=>exact h.elim|sys c k B=>exact λv=>B v (h v)|program k B=>exact λv=>B v (h v)|mark m k B=>exact B h|halt x=>trivial
theorem lr.map{RA:Ren->α->β->Prop}{RB:Ren->γ->δ->Prop}{s:Sem α}{s':Sem β}{g:α->γ}{g':β->δ}(h:lr P RA m s s')(U:∀m' a b,m.Le m'->RA m' a b->RB m' (g a) (g' b)) :
  lr P RB m (s.bind λa=>.pure (g a)) (s'.bind λb=>.pure (g' b)):=by
 induction h with
 |base h=>exact .base (h.bind λm' a b B O=>.pure (U m' a b B O))|bind h _ ih=>
  rw[cP,cP];exact .bind h λm' a b B O=>ih m' a b B O λW c d Y aa=>U W c d (B.trans Y) aa
 |Uq hd h=>exact .Uq (λn=>(hd n).bind λ_=>trivial) λn=>(h n).bind λm' a b B O=>.pure (U m' a b B O)
theorem nZ{RC:Ren->γ->δ->Prop}{RA:Ren->α->β->Prop}{s:Sem γ}{s':Sem δ}{f:γ->Sem α}{f':δ->Sem β}(h:dv P RC m s s')(B:∀m' a b,m.Le m'->RC m' a b->lr P RA m' (f a) (f' b)):lr P RA m (s >>= f) (s' >>= f'):=.bind h B
theorem ug{t:aN}:dv P (λ_ a b=>a=b/\P.underlying t=some a) m (aT t) (aT t):=by
 have:=dz (P:=P) (m:=m) (t:=t) (RB:=λ_ a b=>a=b/\P.underlying t=some a) (f:=pure) (f':=pure) λd B=>.pure ⟨rfl,B⟩;simpa using this
theorem DO{r r':Nat}(hb:m.blk r=some r'):dv P OR m (getObj r) (getObj r'):=.getObj hb λ_ _ h=>.pure h
theorem Ad(h:dQ (sV m) es.toList es'.toList)(i:Nat){f f':MapEntry->MapEntry}(hf:∀e W,sV m e W->sV m (f e) (f' W)):dQ (sV m) (es.modify i f).toList (es'.modify i f').toList:=by
 refine dQ.Hr (by simpa using h.length) λj a b B hb=>?_;simp only[az,a2]at B hb;by_cases e:i=j;simp only[e,if_true,Option.map_eq_some_iff]at B hb;obtain⟨x,hx,rfl⟩:=B;obtain⟨y,Y,rfl⟩:=hb;obtain⟨z,O,U⟩:=h.get (i:=j) (a:=x) (by simpa using hx);simp only[az]at O;rw[O]at Y;cases Y;exact hf _ _ U;simp only[e,if_false]at B hb;obtain⟨z,O,U⟩:=h.get (i:=j) (a:=a) (by simpa using B);simp only[az]at O;rw[O]at hb;cases hb;exact U
theorem tB(h:dQ (sV m) es.toList es'.toList){e B:MapEntry}(O:sV m e B):dQ (sV m) (es.push e).toList (es'.push B).toList:=by
 simp only[aI];exact h.append (.cons O .nil)
theorem Bc(h:dQ (sV m) es.toList es'.toList)(i:Nat):l8 (sV m) es[i]? es'[i]?:=by
 cases B:es[i]? with
 |none=>
  have:=h.get_none (i:=i) (by simpa using B);simp only[az]at this;rw[this];exact .none
 |some x=>
  obtain⟨y,O,U⟩:=h.get (i:=i) (a:=x) (by simpa using B);simp only[az]at O;rw[O];exact .some U
theorem nd{c:Nat}:∀x y z,Obj.map es c≠.cells x y z:=nofun
theorem Eb(hG:m.G=P.globals.size){t:aN}(hK:∀k e,P.underlying t=some (.map k e)->qv P 10000 k=true/\(gJ m\/nT P c6 k=true))(hm:VR m mp mp')(W:VR m k k')(hv:VR m v v') :
  lr P xR m (bW t mp k v) (bW t mp' k' v'):=by
 refine nZ ug λm1 d d' l1 hd=>?_;obtain⟨rfl,hd⟩:=hd;cases d<;>first|exact .base (.dy trivial)|skip
 rename_i kt et;obtain⟨ac,ad⟩:=hK kt et hd;have hm:=hm.mono l1;cases hm<;>first|exact .base (.dy trivial)|exact .base (fl (e:=.plain _) trivial)|skip
 case map.gone=>exact .base (.gone ‹_›)
 rename_i r r' hb;refine nZ (DO hb) λm2 o o' l2 ho=>?_;have ae:=l2.blk _ _ hb;cases ho<;>first|exact .base (.dy trivial)|skip
 rename_i es es' clock Y;have aa:=l1.trans l2;refine nZ (nJ _ _ m2 _ (W.mono aa) ac) λm3 _ _ l3 _=>?_;have U:=aa.trans l3;refine nZ (vn (ad.imp (λx=>x.mono U) id) (by rw[U.G,hG]) (W.mono U) (Y.mono λ_ _ x=>x.mono l3)) λm4 a b l4 af=>?_;have B:=U.trans l4;have O:=Y.mono λ_ _ x=>x.mono (l3.trans l4);have ab:=(l3.trans l4).blk _ _ ae
 cases af with
 |none=>exact .base (pJ ab (.map _ (tB O ⟨W.mono B,hv.mono B,rfl⟩)) nd)|some hx=>
  rename_i x y;obtain⟨i,u⟩:=x;obtain⟨i',u'⟩:=y;obtain⟨hi,_⟩:=hx;subst hi;refine zN ?_ (W.mono B) (λ_=>trivial) λq q' hq=>pJ ab (.map _ (Ad O _ λe e' he=>⟨hq,hv.mono B,he.born⟩)) nd;have:=Bc O i';revert this;generalize es[i']?=p;generalize es'[i']?=p';intro hp
  cases hp with
  |none=>exact W.mono B|some he=>exact he.key
theorem Hb(hP:mn P)(hG:m.G=P.globals.size){t:aN}(hK:∀k e,P.underlying t=some (.map k e)->qv P 10000 k=true/\(gJ m\/nT P c6 k=true))(hm:VR m mp mp')(Y:VR m k k') :
  lr P VR m (cd t mp k) (cd t mp' k'):=by
 refine nZ ug λm1 d d' l1 hd=>?_;obtain⟨rfl,hd⟩:=hd;cases d<;>first|exact .base (.dy trivial)|skip
 rename_i kt et;obtain⟨ad,ae⟩:=hK kt et hd;have hm:=hm.mono l1;cases hm<;>first|exact .base (.dy trivial)|exact .base (fl (e:=.plain _) trivial)|skip
 case map.gone=>exact .base (.gone ‹_›)
 rename_i r r' hb;refine nZ (DO hb) λm2 o o' l2 ho=>?_;have af:=l2.blk _ _ hb;cases ho<;>first|exact .base (.dy trivial)|skip
 rename_i es es' clock aa;have ab:=l1.trans l2;refine nZ (nJ _ _ m2 _ (Y.mono ab) ad) λm3 _ _ l3 _=>?_;have O:=ab.trans l3;refine nZ (vn (ae.imp (λx=>x.mono O) id) (by rw[O.G,hG]) (Y.mono O) (aa.mono λ_ _ x=>x.mono l3)) λm4 a b l4 ag=>?_;have U:=O.trans l4;have B:=aa.mono λ_ _ x=>x.mono (l3.trans l4);have ac:=(l3.trans l4).blk _ _ af
 cases ag with
 |none=>exact .base (fH hP λz hz=>jD ac (.map _ (tB B ⟨Y.mono U,hz,rfl⟩)) nd (.pure (.kS (.cons hz (.cons (.int ..) .nil)))))|some hx=>
  rename_i x y;obtain⟨i,u⟩:=x;obtain⟨i',u'⟩:=y;obtain⟨hi,hu⟩:=hx;subst hi;have hg:=Bc B i';refine zN ?_ (Y.mono U) (λ_=>trivial) λq q' hq=>jD ac (.map _ (Ad B _ λe e' W=>⟨hq,W.val,W.born⟩)) nd (.pure (.kS (.cons hu (.cons ?_ .nil))));revert hg;generalize es[i']?=p;generalize es'[i']?=p';intro hp
  cases hp with
  |none=>exact Y.mono U|some W=>exact W.key
  revert hg;generalize es[i']?=p;generalize es'[i']?=p';intro hp
  cases hp with
  |none=>exact .int ..|some W=>rw[gs,gs,W.born];exact .int ..
theorem MR{es es':List MapEntry}(h:dQ (sV m) es es')(p:Nat->Bool):es.findIdx? (λe=>p e.born)=es'.findIdx? (λe=>p e.born):=by
 induction h with
 |nil=>rfl|cons B _ O=>simp only[List.findIdx?_cons,B.born,O]
theorem C9{t:aN}{s s':Value}(hm:VR m mp mp')(U:VR m s s')(W:VR m v v'):dv P xR m (bU t mp s v) (bU t mp' s' v'):=by
 cases hm<;>first|exact .dy trivial|skip
 case gone=>exact .gone ‹_›
 rename_i r r' hb;refine fI hb λo o' Y=>?_;cases Y<;>first|exact .dy trivial|skip
 rename_i es es' clock B;refine j9 U λn=>?_
 have e:es.findIdx? (λe=>e.born==n)=es'.findIdx? (λe=>e.born==n):=by
  have:=MR B (λb=>b==n);obtain⟨a⟩:=es;obtain⟨a'⟩:=es';simpa using this
 rw[e];split;exact pJ hb (.map _ (Ad B _ λe e' O=>⟨O.key,W,O.born⟩)) nd;exact .dy trivial
theorem Tl{es es':List MapEntry}(h:dQ (sV m) es es')(p:Nat->Bool):l8 (sV m) (es.find? λe=>p e.born) (es'.find? λe=>p e.born):=by
 induction h with
 |nil=>exact .none|cons B _ O=>
  simp only[List.find?_cons,B.born];split;exact .some B;exact O
theorem Qp{i:Value}(h:VR m i i'):dv P VR m (cy i) (cy i'):=by
 cases h<;>first|exact .dy trivial|skip
 rename_i Y
 cases Y with
 |@mk b b' o s hb=>
 cases o<;>first|exact .dy trivial|skip
 refine fI hb λo o' O=>?_;cases O<;>first|exact .dy trivial|skip
 rename_i r r' x y z hm;dsimp only
 cases y.back? with
 |none=>exact .dy trivial|some B=>
  refine fI hm λo o' O=>?_;cases O<;>first|exact .dy trivial|skip
  rename_i es es' clock U;dsimp only;split;exact .dy trivial;have:=Tl U (λb=>b==B);simp only[Array.find?_toList]at this;revert this;generalize es.find? _=p;generalize es'.find? _=p';intro hp
  cases hp with
  |none=>exact .dy trivial|some W=>exact .pure (.kS (.cons W.key (.cons W.val .nil)))
theorem yW{es es':List MapEntry}(h:dQ (sV m) es es')(p:Nat->Bool):dQ (sV m) (es.filter λe=>p e.born) (es'.filter λe=>p e.born):=by
 induction h with
 |nil=>exact .nil|cons B _ O=>
  simp only[List.filter_cons,B.born];split;exact .cons B O;exact O
theorem Uw{es es':List MapEntry}(h:dQ (sV m) es es')(p:Nat->Bool):es.all (λe=>p e.born)=es'.all (λe=>p e.born):=by
 induction h with
 |nil=>rfl|cons B _ O=>simp only[List.all_cons,B.born,O]
def IR(aR:Array Nat)(B:Nat)(es:Array MapEntry):Array (Option MapEntry):=
 (if(a1 (λx=>decide (x.born<B)) (a1 (λe=>!aR.contains e.born) es)).isEmpty=true then #[none]else #[]) ++
  aC some (a1 (λx=>decide (x.born<B)) (a1 (λe=>!aR.contains e.born) es)++a1 (λx=>decide (x.born ≥ B)) (a1 (λe=>!aR.contains e.born) es))
theorem SU(aR:Array Nat)(B:Nat)(h:dQ (sV m) es.toList es'.toList):dQ (l8 (sV m)) (IR aR B es).toList (IR aR B es').toList:=by
 have O:=yW h (λb=>!aR.contains b);have U:=yW O (λb=>decide (b<B));have W:=yW O (λb=>decide (b ≥ B));unfold IR
 have e:(a1 (λx=>decide (x.born<B)) (a1 (λe=>!aR.contains e.born) es)).isEmpty=(a1 (λx=>decide (x.born<B)) (a1 (λe=>!aR.contains e.born) es')).isEmpty:=by
  have:=U.length;simp only[<-aF,a5]at this;simp only[aA,this]
 rw[e];simp only[aG,a4,aF];refine dQ.append ?_ (dQ.map (λa b h=>.some h) (dQ.append U W));split;exact .cons .none .nil;exact .nil
theorem Sx{i:Value}(h:VR m i i')(b:Bool)(t:aN):dv P VR m (bS i b t) (bS i' b t):=by
 unfold bS;cases h<;>first|exact .dy trivial|skip
 rename_i ha
 cases ha with
 |@mk c c' o s hb=>
 cases o<;>first|exact .dy trivial|skip
 dsimp only;refine fI hb λo o' U=>?_;cases U<;>cases b<;>first|exact .dy trivial|skip
 dsimp only;refine dF (λ_=>jD hb (.stringIter _ _) (λ_ _ _ h=>by cases h) (.pure (.kS (.cons (.bool _) (.cons (.int ..) (.cons (.int ..) .nil)))))) (λ_=>.pure (.kS (.one (.bool _))));exact .pure (.kS (.one (.bool _)))
 rename_i r r' B aR last hm;refine fI hm λo o' U=>?_;cases U<;>first|exact .dy trivial|skip
 rename_i es es' clock O;have Y:=O.length;simp only[a5]at Y;have e1:es.isEmpty=es'.isEmpty:=by simp only[aA,Y]
 have e2:es.all (λx=>decide (x.born ≥ last))=es'.all (λx=>decide (x.born ≥ last)):=by
  have:=Uw O (λb=>decide (b ≥ last));rw[<-aL,<-aL];exact this
 dsimp only;rw[e1,e2];refine dF (λ_=>.dy trivial) (λ_=>?_)
 change dv P VR m (choose (.mapNext (IR aR B es).size) >>= λn=>match (IR aR B es)[n]? with
   |some (some e)=>(do setObj c _;pure _)
   |some none=>pure _|none=>stuck _)
  (choose _ >>= λn=>match (IR aR B es')[n]? with
    |some (some e)=>(do setObj c' _;pure _)
    |some none=>pure _|none=>stuck _)
 have hc:=SU aR B O;have e3:=by simpa using hc.length
 rw[e3];refine gC λn=>?_
 cases hn:(IR aR B es)[n]? with
 |none=>exact .dy trivial|some x=>
  obtain⟨y,hy,hr⟩:=hc.get (i:=n) (a:=x) (by simpa using hn);simp only[az]at hy;rw[hy]
  cases hr with
  |none=>exact .pure (.kS (.one (.bool _)))|some W=>
   dsimp only;rw[W.born];exact jD hb (.mapIter _ _ _ hm) (nofun) (.pure (.kS (.cons (.bool _) (.cons W.key (.cons W.val .nil)))))
end
variable {a':Addr} {r r':Nat} {y y':Value}
section
variable {P:Program} {m:Ren}
theorem Dm(U:mn P)(W:VR m x x')(t u:aN):dv P VR m (bT x t u true) (bT x' t u true):=by
 have B:dv P VR m (do pure (.tuple #[<-aQ u,.bool false])) _:=
  fH U λz Y=>.pure (.kS (.cons Y (.cons (.bool _) .nil)))
 refine dz λd hd=>?_
 cases W with
 |nilIface=>cases d<;>exact B
 |iface s O=>
  cases d
  case interface ms=>
   refine dN λti _=>?_
   cases Instr.missingMethod ms _ with
   |none=>exact .pure (.kS (.cons (.iface _ O) (.cons (.bool _) .nil)))|some _=>exact B
  all_goals exact dF (λ_=>.pure (.kS (.cons O (.cons (.bool _) .nil)))) (λ_=>B)
 |_=>cases d<;>exact .dy trivial
theorem ye(op:BinOp)(k:IntKind)(a b:Int):dv P VR m (cA op k a b) (cA op k a b):=by
 cases op<;>first|exact .dy trivial|exact .pure (.int ..)
theorem Br(op:BinOp)(k:IntKind)(a b:Int):dv P VR m (cB op k a b) (cB op k a b):=by
 cases op<;>first|exact .dy trivial|exact .pure (.int ..)
theorem PK(op:BinOp)(a b:Int):dv P VR m (cF op a b) (cF op a b):=by
 cases op<;>first|exact .dy trivial|exact .pure (.bool _)
theorem NG(op:BinOp)(k:IntKind)(a b:Int):dv P VR m (cE op k a b) (cE op k a b):=by
 refine dF (λ_=>fl (e:=.error _) trivial) (λ_=>?_);cases op<;>first|exact .dy trivial|exact .pure (.int ..)
theorem JK(op:BinOp)(k j:IntKind)(a b:Int):dv P VR m (cH op k a j b) (cH op k a j b):=by
 refine dF (λ_=>fl (e:=.error _) trivial) (λ_=>?_);cases op<;>first|exact .dy trivial|exact .pure (.int ..)
theorem IC(op:BinOp)(a b:ByteArray):dv P VR m (c9 op a b) (c9 op a b):=by
 cases op<;>first|exact .dy trivial|exact .pure (.bool _)|exact dF (λ_=>.dy trivial) (λ_=>.pure (.string _))
theorem Rw(op:UnOp)(h:VR m x x'):dv P VR m (cG op x) (cG op x'):=by
 cases h<;>cases op<;>first|exact .dy trivial|exact .pure (.bool _)|skip
 rename_i k n;show dv P VR m (cA .sub k 0 n) _;exact ye ..;rename_i k n;show dv P VR m (cB .xor k _ n) _;exact Br ..
theorem P6{γ δ:Type}{RB:Ren->γ->δ->Prop}(hb:m.blk r=some r'){f:Option (Addr×aN)->Sem γ}{f':Option (Addr×aN)->Sem δ}(h:dv P RB m (f none) (f' none)):dv P RB m (viewAt r >>= f) (viewAt r' >>= f'):=by
 refine j5 hb λx=>?_
 cases x with
 |some y=>exact h|none=>
  refine fI hb λo o' B=>?_;cases B<;>exact h
def UB(m:Ren)(v v':Value):Prop:=∃a a',v=.pointer (some a)/\v'=.pointer (some a')/\AR m a a'
theorem qJ{a:Array aN}{t:aN}(U:VR m x x')(O:VR m y y'):dv P UB m (cR a t #[x,y]) (cR a t #[x',y']):=by
 cases U<;>first|exact .dy trivial|skip
 refine j9 O λn=>?_;dsimp only;split;exact .dy trivial;split<;>exact .dy trivial
 rename_i B;refine j9 O λn=>?_;dsimp only;split;refine P6 B.blk ?_;exact .pure ⟨_,_,rfl,rfl,B⟩;split;exact .dy trivial;refine j5 B.blk λz=>?_
 cases z with
 |none=>exact .dy trivial|some z=>
  refine gZ ?_
  cases B with
  |mk hb=>
  dsimp only;split;exact .pure ⟨_,_,rfl,rfl,.mk hb⟩;exact .dy trivial
theorem H'(hb:m.blk r=some r'):dv P (λm=>l8 λx y=>AR m x.1 y.1/\y.2=x.2) m (numberAt r) (numberAt r'):=by
 refine j5 hb λx=>?_
 cases x with
 |some y=>exact .pure .none|none=>
  refine fI hb λo o' B=>?_
  cases B with
  |number l O=>exact .pure (.some ⟨O,rfl⟩)|_=>exact .pure .none
theorem Hh{a:Addr}(B:AR m a a')(l:Bool):dv P VR m (asNumber a l) (asNumber a' l):=
 dv.new (.number l B) (nofun) λm' r r' _ hb _=>.pure (.ptr (.mk hb))
theorem jj{t:aN}(O:VR m x x')(B:VR m y y'):dv P VR m (b5 t x y) (b5 t x' y'):=by
 refine dz λd hd=>?_;dsimp only;split;exact .dy trivial
 cases O with
 |ptr U=>
  refine dV U λp p' l W=>?_;refine dB (qJ (.ptr W) B) λm' v v' hl Y=>?_;obtain⟨b,b',rfl,rfl,hb⟩:=Y;exact Hh hb l
 |gQ=>exact(qJ (a:=#[]) (t:=t) .gQ B).mono λm' v v' _ h=>by obtain⟨b,b',rfl,rfl,hb⟩:=h;exact .ptr hb
 |_=>exact .dy trivial
theorem qT{t:aN}(O:VR m x x')(U:VR m y y'):dv P VR m (b0 t x y) (b0 t x' y'):=by
 have fin:∀m',m.Le m'->dv P VR m' (cR #[] t _) _:=λm' B=>(qJ (O.mono B) (U.mono B)).mono λm' v v' _ h=>by obtain⟨b,b',rfl,rfl,hb⟩:=h;exact .ptr hb
 cases O with
 |ptr W=>
  refine dB (H' W.blk) λm' o o' B Y=>?_
  cases Y with
  |none=>exact fin m' B|some _=>exact .dy trivial
 |fK v hv=>exact .dy trivial|_=>exact fin m (.refl m)
theorem vw{t:aN}(y:Value):ed P (c5 t (.tuple #[]) y):=by
 show ed P ((match P.underlying t with|some d=>pure d|none=>stuck _) >>= _)
 cases P.underlying t with
 |none=>trivial|some d=>cases d<;>first|trivial|(cases y<;>trivial)
theorem vN{t:aN}(x:Value):ed P (c5 t x (.tuple #[])):=by
 show ed P ((match P.underlying t with|some d=>pure d|none=>stuck _) >>= _)
 cases P.underlying t with
 |none=>trivial|some d=>cases d<;>first|trivial|(cases x<;>first|trivial|(rename_i a;cases a<;>trivial)|(cases b<;>first|trivial|(cases c<;>trivial))|(rename_i a b c;cases a<;>trivial))
theorem E5(U:m.G=P.globals.size){a b b':Addr}(B:AR m a a')(hb:AR m b b'):dv P wV m (c7 a b) (c7 a' b'):=by
 refine gZ ?_
 have W:(a.block != b.block)=(a'.block != b'.block):=by
  have:(a.block==b.block)=(a'.block==b'.block):=by rw[dr];simp only[beq_iff_eq];exact B.rC hb
  simp only[bne,this]
 have Y:decide (a.block ≥ P.globals.size)=decide (a'.block ≥ P.globals.size):=by
  have:=m.ou _ _ B.blk;rw[U]at this;exact decide_eq_decide.2 ⟨λh=>ev λx=>absurd (this.2 x) (by omega),λh=>ev λx=>absurd (this.1 x) (by omega)⟩
 rw[W,Y];refine dF (λ_=>.dy trivial) (λ_=>?_);refine dB (nD B) λm' x y O h=>?_;cases h;refine dB (nD (hb.mono O)) λaa x' y' O h=>?_;cases h;exact .pure rfl
theorem uE{k:IntKind}{a:Addr}(B:AR m a a')(n:Int):dv P VR m (cD k a n) (cD k a' n):=by
 refine j5 B.blk λx=>?_
 cases x with
 |none=>exact .dy trivial|some y=>
  refine dN λO _=>?_;refine dF (λ_=>.dy trivial) (λ_=>?_);refine dB (nD B) λm' x y U h=>?_;cases h;exact .pure (.int ..)
theorem JV(O:m.G=P.globals.size){t:aN}(U:gJ m\/nT P c6 t=true)(W:VR m x x')(Y:VR m y y'):dv P VR m (do pure (.bool (<-c5 t x y))) (do pure (.bool (<-c5 t x' y')))/\dv P VR m (do pure (.bool (!(<-c5 t x y)))) (do pure (.bool (!(<-c5 t x' y')))):=by
 have h:=oX (P:=P) _ m t O W Y U;constructor;exact dB h λm' a b _ B=>by cases B;exact .pure (.bool _)
 exact dB h λm' a b _ B=>by cases B;exact .pure (.bool _)
theorem M6(op:BinOp)(t:aN)(k k':IntKind)(a b:Int):dv P VR m (binOp op t (.int k a) (.int k' b)) (binOp op t (.int k a) (.int k' b)):=by
 cases op
 case shl=>exact JK .shl k k' a b
 case shr=>exact JK .shr k k' a b
 all_goals
  refine dF (λ_=>.dy trivial) (λ_=>?_)
  first|exact ye ..|exact NG ..|exact Br ..|exact PK ..
theorem DE(op:BinOp)(W:m.G=P.globals.size){t:aN}(hE:op=.eql\/op=.neq->gJ m\/nT P c6 t=true)(Y:VR m x x')(O:VR m y y'):dv P VR m (binOp op t x y) (binOp op t x' y'):=by
 have heq:op=.eql->dv P VR m (do pure (.bool (<-c5 t x y))) (do pure (.bool (<-c5 t x' y'))):=λe=>(JV W (hE (.inl e)) Y O).1;have hne:op=.neq->dv P VR m (do pure (.bool (!(<-c5 t x y)))) (do pure (.bool (!(<-c5 t x' y')))):=λe=>(JV W (hE (.inr e)) Y O).2
 have B:∀(z:Value),y=.tuple #[]->op=.eql\/op=.neq->x=z->dv P VR m (binOp op t x y) (binOp op t x' y'):=by
  intro z e1 e2 e3;subst e1;refine .dy ?_;rcases e2 with rfl|rfl
  cases x<;>exact(vN _).bind
  cases x<;>exact(vN _).bind
 cases Y with
 |fK v U=>
  refine .dy ?_;cases op
  case eql=>exact(vw _).bind
  case neq=>exact(vw _).bind
  all_goals(cases y<;>trivial)
 |int k a=>
  cases O with
  |int k' b=>exact M6 op t k k' a b|fK v U=>cases op<;>first|exact .dy trivial|exact B _ rfl (.inl rfl) rfl|exact B _ rfl (.inr rfl) rfl
  |gQ=>cases op<;>first|exact .dy trivial|exact heq rfl|exact hne rfl|exact jj .gQ (.int _ _)
  |ptr hb=>
   cases op
   case add=>exact jj (.ptr hb) (.int _ _)
   case and=>exact dV hb λp p' l hp=>uE hp _
   all_goals first|exact .dy trivial|exact heq rfl|exact hne rfl
  |_=>cases op<;>first|exact .dy trivial|exact heq rfl|exact hne rfl
 |string a=>
  cases O with
  |string b=>
   have e:∀op,binOp op t (.string a) (.string b)=c9 op a b:=λop=>by cases op<;>rfl
   rw[e];exact IC _ a b
  |fK v U=>cases op<;>first|exact .dy trivial|exact B _ rfl (.inl rfl) rfl|exact B _ rfl (.inr rfl) rfl
  |_=>cases op<;>first|exact .dy trivial|exact heq rfl|exact hne rfl
 |gQ=>
  cases O with
  |fK v U=>cases op<;>first|exact .dy trivial|exact B _ rfl (.inl rfl) rfl|exact B _ rfl (.inr rfl) rfl
  |int k n=>
   cases op
   case add=>
    refine dz λd hd=>?_;exact dF (λ_=>qT .gQ (.int _ _)) (λ_=>jj .gQ (.int _ _))
   case sub=>exact jj .gQ (.int _ _)
   all_goals first|exact .dy trivial|exact heq rfl|exact hne rfl
  |_=>cases op<;>first|exact .dy trivial|exact heq rfl|exact hne rfl
 |ptr ha=>
  cases O with
  |fK v U=>cases op<;>first|exact .dy trivial|exact B _ rfl (.inl rfl) rfl|exact B _ rfl (.inr rfl) rfl
  |int k n=>
   cases op
   case add=>
    refine dz λd hd=>?_;exact dF (λ_=>qT (.ptr ha) (.int _ _)) (λ_=>jj (.ptr ha) (.int _ _))
   case sub=>exact jj (.ptr ha) (.int _ _)
   case rem=>exact dV ha λp p' l hp=>uE hp _
   case and=>exact dV ha λp p' l hp=>uE hp _
   all_goals first|exact .dy trivial|exact heq rfl|exact hne rfl
  |ptr hb=>
   have two:∀(f:Nat×Nat->Sem Value),(∀m' p,dv P VR m' (f p) (f p))->∀{a a' b b':Addr},AR m a a'->AR m b b'->dv P VR m (c7 a b >>= f) (c7 a' b' >>= f):=
    λf hf a a' b b' h1 h2=>dB (E5 W h1 h2) λm' p q _ aa=>by cases aa;exact hf m' p
   cases op
   case eql=>exact heq rfl
   case neq=>exact hne rfl
   case sub=>exact dV ha λp p' l hp=>dV hb λq q' l' hq=>two _ (λm' p=>.pure (.int _ _)) hp hq
   case lss=>exact dV ha λp p' l hp=>dV hb λq q' l' hq=>two _ (λm' p=>.pure (.bool _)) hp hq
   case leq=>exact dV ha λp p' l hp=>dV hb λq q' l' hq=>two _ (λm' p=>.pure (.bool _)) hp hq
   case gtr=>exact dV ha λp p' l hp=>dV hb λq q' l' hq=>two _ (λm' p=>.pure (.bool _)) hp hq
   case geq=>exact dV ha λp p' l hp=>dV hb λq q' l' hq=>two _ (λm' p=>.pure (.bool _)) hp hq
   all_goals exact .dy trivial
  |_=>cases op<;>first|exact .dy trivial|exact heq rfl|exact hne rfl
 |_=>
  cases op
  case eql=>exact heq rfl
  case neq=>exact hne rfl
  all_goals(cases O<;>exact .dy trivial)
end
variable {a:Addr}
section
variable {P:Program} {m:Ren}
theorem xk{RB:Ren->γ->δ->Prop}(B:AR m a a')(O:¬m.loose a.block){f:Unit->Sem γ}{f':Unit->Sem δ}(h:dv P RB m (f ()) (f' ())):dv P RB m (bw a >>= f) (bw a' >>= f'):=by
 refine j5 B.blk λx=>?_
 cases x with
 |none=>exact h|some y=>exact dv.freeze (.mk B.blk) O h
theorem Bn(s:ByteArray):ep m (s.data.map λb=>Value.int .u8 b.toNat) (s.data.map λb=>Value.int .u8 b.toNat):=by
 refine .refl λv B=>?_;simp only[a4,gg]at B;obtain⟨i,_,rfl⟩:=B;exact .int ..
theorem wW{e:aN}{s:ByteArray}:dv P VR m (gB e s) (gB e s):=by
 refine gC λcap=>?_;refine dB (RA:=GM) (oM ((Bn s).append (.replicate _ (.int ..)))) λm' a a' _ B=>?_;exact xk B.1 B.2 (.pure (.slice _ _ B.1))
theorem G2{c c':List Value}(h:dQ (VR m) c c'):∀(s:ByteArray),dv P wV m
  (forIn c s λc s=>match c with|.int .u8 n=>pure (ForInStep.yield (s.push (UInt8.ofNat n.toNat)))|_=>(do stuck "bytesToString: byte expected";pure (ForInStep.yield s)))
  (forIn c' s λc s=>match c with|.int .u8 n=>pure (ForInStep.yield (s.push (UInt8.ofNat n.toNat)))|_=>(do stuck "bytesToString: byte expected";pure (ForInStep.yield s))):=by
 induction h with
 |nil=>intro s;exact .pure rfl|cons B _ O=>
  intro s;simp only[gc]
  cases B with
  |int k n=>cases k<;>first|exact .dy trivial|exact O _
  |_=>exact .dy trivial
theorem wR(O:VR m x x'):dv P VR m (gA x) (gA x'):=by
 cases O<;>first|exact .dy trivial|exact .pure (.string _)|skip
 rename_i l c U;refine dB (vD U l) λm' c c' _ W=>?_;rw[<-a6,<-a6];exact dB (G2 W _) λm' a b _ B=>by cases B;exact .pure (.string _)
theorem Cv{RB:Ren->γ->δ->Prop}(U:AR m a a'){f:Array Value->Sem γ}{f':Array Value->Sem δ}(h:∀c c',ep m c c'->dv P RB m (f c) (f' c')):dv P RB m (bi a n >>= f) (bi a' n >>= f'):=by
 have key:∀(n i:Nat)(acc B:Array Value),ep m acc B->dv P RB m (bd a i n acc >>= f) (bd a' i n B >>= f'):=by
  intro n;induction n with
  |zero=>intro i acc B O;exact h _ _ O|succ n W=>intro i acc B O;exact dv.load (U.add i) λv v' Y=>W _ _ _ (O.push Y)
 exact key n 0 _ _ (.nil m)
theorem eo{RB:Ren->γ->δ->Prop}{size:Nat}(B:VR m x x'){f:Array Value->Sem γ}{f':Array Value->Sem δ}(h:∀c c',ep m c c'->dv P RB m (f c) (f' c')):dv P RB m (dc size n x >>= f) (dc size n x' >>= f'):=by
 cases B<;>first|exact .dy trivial|exact Cv ‹_› h|exact h _ _ (Bn _)|exact h _ _ (.nil m)
theorem pn{RB:Ren->γ->δ->Prop}(B:VR m x x'){f:Nat->Sem γ}{f':Nat->Sem δ}(h:∀n,dv P RB m (f n) (f' n)):dv P RB m (dg x >>= f) (dg x' >>= f'):=by
 cases B<;>first|exact .dy trivial|exact h _
theorem re{z:Array Value}(h:ep m z z)(n:Nat):ep m (cQ z n) (cQ z n):=xE h _
theorem lU{α:Type}{size sLen:Nat}{base:Option Addr}{f:Bool->Sem α}(h:∀b,ed P (f b)):ed P (dd size sLen n base x >>= f):=by
 have hold:∀(a:Addr)(k:Nat)(g:Bool->Sem α),(∀b,ed P (g b))->ed P (db a k >>= g):=by
  intro a k g B;intro r
  cases r with
  |none=>exact B _|some y=>exact B _
 have tail:∀b:Bool,ed P ((match x with|.slice (some b) .. =>(do pure (!(<-db b (n*size)) || base.any (·.block==b.block)))|_=>pure false) >>= f):=by
  intro _
  cases x with
  |slice a l c=>
   cases a with
   |none=>exact h _|some a=>
    simp only[bind_assoc];exact hold a _ _ λb=>h _
  |_=>exact h _
 unfold dd
 cases base with
 |none=>exact tail true|some a=>
  simp only[bind_assoc];refine hold a _ _ λb=>?_;intro r;show ed P ((if(!(b && !r))=true then pure true else _) >>= f);split;exact h _;exact tail true
theorem Ko(B:mn P){RB:Ren->γ->δ->Prop}{elem:aN}{size:Nat}{f:Array Value->Sem γ}{f':Array Value->Sem δ}(h:∀c c',ep m c c'->dv P RB m (f c) (f' c')) :
  dv P RB m ((if n*size=0 then pure #[]else do pure (cQ (<-aQ elem).cells n)) >>= f) ((if n*size=0 then pure #[]else do pure (cQ (<-aQ elem).cells n)) >>= f'):=by
 split;exact h _ _ (.nil m);simp only[bind_assoc];exact fH B λz O=>h _ _ (re O.cells _)
theorem PG(hP:mn P){ats:Array aN}{t:aN}{args args':Array Value}(h:ep m args args'):dv P VR m (cS ats t args) (cS ats t args'):=by
 unfold cS
 cases ats[0]? with
 |none=>exact .dy trivial|some st=>
 cases h0:args[0]? with
 |none=>exact .dy trivial|some s=>
 cases h1:args[1]? with
 |none=>exact .dy trivial|some x=>
 obtain⟨s',ad,hs⟩:=h.get h0;obtain⟨x',ae,hx⟩:=h.get h1;rw[ad,ae];refine dz λd hd=>?_;cases d<;>first|exact .dy trivial|skip
 rename_i elem
 have W:∀{base U:Option Addr}{sLen aa size:Nat}{c c':Array Value}{k:Nat},l8 (AR m) base U->ep m c c'->dv P VR m
   (match base with|some a=>(do let r <-be (a.add (sLen*size)) c.toList;pure (Value.slice base k aa))|_=>pure (Value.slice base k aa))
   (match U with|some a=>(do let r <-be (a.add (sLen*size)) c'.toList;pure (Value.slice U k aa))|_=>pure (Value.slice U k aa)):=by
  intro base U sLen aa size c c' k hb O
  cases hb with
  |none=>exact .pure (.fu _ _)|some ha=>exact dB (kO (ha.add _) 0 O) λm' _ _ hl _=>.pure (.slice _ _ (ha.mono hl))
 have B:∀{old ab new ac:Array Value}{k cap q:Nat},ep m old ab->ep m new ac->dv P VR m
   (do let z <-aQ elem;let a <-ba elem (old++new++cQ z.cells q);pure (Value.slice (some a) k cap))
   (do let z <-aQ elem;let a <-ba elem (ab++ac++cQ z.cells q);pure (Value.slice (some a) k cap)):=by
  intro old ab new ac k cap q ho hn;exact fH hP λz hz=>dB (RA:=GM) (oM ((ho.append hn).append (re hz.cells _))) λm' a a' _ ha=>.pure (.slice _ _ ha.1)
 cases hs<;>first|exact .dy trivial|skip
 rename_i l c;have hs:VR m (.slice none l c) (.slice none l c):=.fu l c;refine eG λsize=>?_;dsimp only
 cases ats[1]? with
 |none=>
  refine pn hx λn=>?_;refine dF (λ_=>?_) (λ_=>?_);exact eo hx λc c' O=>W (sLen:=l) (size:=size) .none O;refine dN λY _=>dF (λ_=>dS (e:=.error _) trivial) (λ_=>?_);refine dN λY _=>dF (λ_=>?_) (λ_=>?_);exact .dy (ed.bind (lU λb=>by cases b<;>trivial));refine gC λq=>dN λY _=>ku ?_;exact eo hs λo o' ho=>eo hx λc c' O=>B ho O
 |some xt=>
  refine dz λd2 _=>?_
  cases d2 with
  |int kk=>
   refine j9 hx λnn=>?_;refine dF (λ_=>dS (e:=.error _) trivial) (λ_=>?_);refine dN λY _=>dF (λ_=>gC λ_=>dS (e:=.error _) trivial) (λ_=>?_);refine dF (λ_=>?_) (λ_=>?_);exact Ko hP λc c' O=>W (sLen:=l) (size:=size) .none O;refine dN λY _=>dF (λ_=>dS (e:=.error _) trivial) (λ_=>?_);refine dN λY _=>dF (λ_=>?_) (λ_=>?_);exact dS (e:=.error _) trivial;refine gC λq=>dN λY _=>ku ?_;exact eo hs λo o' ho=>Ko hP λc c' O=>B ho O
  |_=>
   refine pn hx λn=>?_;refine dF (λ_=>?_) (λ_=>?_);exact eo hx λc c' O=>W (sLen:=l) (size:=size) .none O;refine dN λY _=>dF (λ_=>dS (e:=.error _) trivial) (λ_=>?_);refine dN λY _=>dF (λ_=>?_) (λ_=>?_);exact .dy (ed.bind (lU λb=>by cases b<;>trivial));refine gC λq=>dN λY _=>ku ?_;exact eo hs λo o' ho=>eo hx λc c' O=>B ho O
 rename_i a a' l c ha;have hs:VR m (.slice (some a) l c) (.slice (some a') l c):=.slice l c ha;refine eG λsize=>?_;dsimp only
 cases ats[1]? with
 |none=>
  refine pn hx λn=>?_;refine dF (λ_=>?_) (λ_=>?_);exact eo hx λc c' O=>W (sLen:=l) (size:=size) (.some ha) O;refine dN λY _=>dF (λ_=>dS (e:=.error _) trivial) (λ_=>?_);refine dN λY _=>dF (λ_=>?_) (λ_=>?_);exact .dy (ed.bind (lU λb=>by cases b<;>trivial));refine gC λq=>dN λY _=>ku ?_;exact eo hs λo o' ho=>eo hx λc c' O=>B ho O
 |some xt=>
  refine dz λd2 _=>?_
  cases d2 with
  |int kk=>
   refine j9 hx λnn=>?_;refine dF (λ_=>dS (e:=.error _) trivial) (λ_=>?_);refine dN λY _=>dF (λ_=>gC λ_=>dS (e:=.error _) trivial) (λ_=>?_);refine dF (λ_=>?_) (λ_=>?_);exact Ko hP λc c' O=>W (sLen:=l) (size:=size) (.some ha) O;refine dN λY _=>dF (λ_=>dS (e:=.error _) trivial) (λ_=>?_);refine dN λY _=>dF (λ_=>?_) (λ_=>?_);exact dS (e:=.error _) trivial;refine gC λq=>dN λY _=>ku ?_;exact eo hs λo o' ho=>Ko hP λc c' O=>B ho O
  |_=>
   refine pn hx λn=>?_;refine dF (λ_=>?_) (λ_=>?_);exact eo hx λc c' O=>W (sLen:=l) (size:=size) (.some ha) O;refine dN λY _=>dF (λ_=>dS (e:=.error _) trivial) (λ_=>?_);refine dN λY _=>dF (λ_=>?_) (λ_=>?_);exact .dy (ed.bind (lU λb=>by cases b<;>trivial));refine gC λq=>dN λY _=>ku ?_;exact eo hs λo o' ho=>eo hx λc c' O=>B ho O
end
variable {ats:Array aN} {args args':Array Value}
section
variable {P:Program} {m:Ren}
theorem SP(h:ep m args args'):dv P VR m (cU ats t args) (cU ats t args'):=by
 unfold cU
 cases ats[0]? with
 |none=>exact .dy trivial|some st=>
 cases Y:args[0]? with
 |none=>exact .dy trivial|some s=>
 cases h1:args[1]? with
 |none=>exact .dy trivial|some x=>
 obtain⟨s',O,hs⟩:=h.get Y;obtain⟨x',U,B⟩:=h.get h1;rw[O,U];refine dz λd hd=>?_;cases d<;>first|exact .dy trivial|skip
 cases hs<;>first|exact .dy trivial|skip
 exact pn B λn=>eG λsz=>eo B λc c' W=>.pure (.int ..)
 rename_i ha;exact pn B λn=>eG λsz=>eo B λc c' W=>dB (kO ha 0 W) λm' _ _ _ _=>.pure (.int ..)
def rL(P:Program)(t:aN):Bool:=match P.underlying t with|some (.chan ..)=>false|_=>true
theorem Uu(B:∀t,ats[0]?=some t->rL P t=true)(h:ep m args args'):dv P VR m (cY ats t args) (cY ats t args'):=by
 unfold cY
 cases U:ats[0]? with
 |none=>exact .dy trivial|some st=>
 cases W:args[0]? with
 |none=>exact .dy trivial|some s=>
 obtain⟨s',O,Y⟩:=h.get W;rw[O];have B:=B st U;refine dz λd hd=>?_;cases d<;>first|exact .dy trivial|exact .pure (.int ..)|skip
 refine dz λd2 _=>?_;cases d2<;>first|exact .dy trivial|exact .pure (.int ..)
 cases Y<;>first|exact .dy trivial|exact .pure (.int ..)
 simp[rL,hd]at B
theorem Ub(B:∀t,ats[0]?=some t->rL P t=true)(h:ep m args args'):dv P VR m (cX ats t args) (cX ats t args'):=by
 unfold cX
 cases ht:ats[0]? with
 |none=>exact .dy trivial|some st=>
 cases h0:args[0]? with
 |none=>exact .dy trivial|some s=>
 obtain⟨s',O,U⟩:=h.get h0;rw[O];have B:=B st ht;refine dz λd hd=>?_
 cases d with
 |array n e=>exact .pure (.int ..)|pointer e=>
  refine dz λd2 _=>?_;cases d2<;>first|exact .dy trivial|exact .pure (.int ..)
 |string=>cases U<;>first|exact .dy trivial|exact .pure (.int ..)
 |slice e=>cases U<;>first|exact .dy trivial|exact .pure (.int ..)
 |map k e=>
  cases U<;>first|exact .dy trivial|exact .pure (.int ..)|skip
  case gone=>exact .gone ‹_›
  rename_i hb;refine fI hb λo o' ho=>?_;cases ho<;>first|exact .dy trivial|skip
  rename_i W;have Y:=W.length;simp only[a5]at Y;dsimp only;rw[Y];exact .pure (.int ..)
 |chan a b=>simp[rL,hd]at B|_=>exact .dy trivial
theorem R3(U:mn P)(h:ep m args args'):dv P VR m (cT ats t args) (cT ats t args'):=by
 have fin:∀m',dv P VR m' .. := λm'=>.pure (.undef m');unfold cT
 cases ht:ats[0]? with
 |none=>exact .dy trivial|some st=>
 cases W:args[0]? with
 |none=>exact .dy trivial|some s=>
 obtain⟨s',B,Y⟩:=h.get W;rw[B];refine dz λd O=>?_
 cases Y with
 |my=>exact fin m|fu l c=>exact fin m|map hb=>
  refine fI hb λo o' ho=>?_;cases ho<;>first|exact .dy trivial|exact jD hb (.map _ .nil) nd (fin m)
 |gone O=>exact .gone O|slice l c ha=>
  cases l with
  |zero=>exact fin m|succ l=>
   cases d<;>first|exact .dy trivial|skip
   exact fH U λz hz=>dB (kO ha 0 (re hz.cells _)) λm' _ _ _ _=>fin m'
 |_=>exact .dy trivial
theorem Sl(O:VR m x x')(B:VR m y y'):dv P VR m (dj x y) (dj x' y'):=by
 cases O with
 |int k n=>cases B<;>first|exact .dy trivial|exact .pure (.int ..)
 |string s=>
  cases B with
  |string t=>exact .pure (.string _)|_=>exact .dy trivial
 |ptr U=>exact .dy trivial|_=>cases B<;>exact .dy trivial
theorem Th(O:VR m x x')(B:VR m y y'):dv P VR m (di x y) (di x' y'):=by
 cases O with
 |int k n=>cases B<;>first|exact .dy trivial|exact .pure (.int ..)
 |string s=>
  cases B with
  |string t=>exact .pure (.string _)|_=>exact .dy trivial
 |ptr U=>exact .dy trivial|_=>cases B<;>exact .dy trivial
theorem yK{g:Value->Value->Sem Value}(U:∀m x x' y y',VR m x x'->VR m y y'->dv P VR m (g x y) (g x' y')):∀{l l':List Value}{m:Ren}{x x':Value},dQ (VR m) l l'->VR m x x'->dv P VR m (l.foldlM g x) (l'.foldlM g x')
 |_,_,m,_,_,.nil,B=>.pure B|_,_,m,_,_,.cons W h,B=>by
  exact dB (U m _ _ _ _ B W) λm' a b Y O=>yK U (h.mono λ_ _ z=>z.mono Y) O
theorem TY(h:ep m args args'):dv P VR m (cW ats t args) (cW ats t args'):=by
 unfold cW;unfold ep at h;revert h;generalize args.toList=l;generalize args'.toList=l';intro h
 cases h with
 |nil=>exact .dy trivial|cons B h=>exact yK (λm x x' y y'=>Sl) h B
theorem TG(h:ep m args args'):dv P VR m (cV ats t args) (cV ats t args'):=by
 unfold cV;unfold ep at h;revert h;generalize args.toList=l;generalize args'.toList=l';intro h
 cases h with
 |nil=>exact .dy trivial|cons B h=>exact yK (λm x x' y y'=>Th) h B
theorem wz:∀(n:Nat){a a':Addr}(acc:ByteArray),AR m a a'->dv P wV m (bh a acc n) (bh a' acc n)
 |0,_,_,_,_=>.pure rfl|n+1,a,a',acc,B=>by
  unfold bh;refine Du B λv v' O=>?_
  cases O with
  |int k x=>cases k<;>first|exact .dy trivial|exact wz n _ (B.add 1)
  |_=>exact .dy trivial
theorem A1{γ δ:Type}{RB:Ren->γ->δ->Prop}{a a':Addr}(B:AR m a a'){u:aN}{n:Nat}{f:Bool->Sem γ}{f':Bool->Sem δ}(h:∀b,dv P RB m (f b) (f' b)):dv P RB m (b4 a u n >>= f) (b4 a' u n >>= f'):=by
 refine gZ (j5 B.blk λx=>?_);rw[B.off];cases x<;>exact h _
theorem yZ(Y:gJ m)(hx:VR m x x')(U:VR m y y'):dv P VR m (cZ ats t #[x,y]) (cZ ats t #[x',y']):=by
 cases hx<;>first|exact .dy trivial|skip
 refine j9 U λn=>?_
 cases ats[0]? with
 |none=>exact .dy trivial|some pt=>
  refine dF (λ_=>dS (e:=.error _) trivial) (λ_=>dF (λ_=>.dy trivial) (λ_=>dF (λ_=>.pure (.string _)) (λ_=>fl (e:=.error _) trivial)))
 rename_i B;refine j9 U λn=>?_
 cases ats[0]? with
 |none=>exact .dy trivial|some pt=>
  refine dF (λ_=>dS (e:=.error _) trivial) (λ_=>dF (λ_=>.dy trivial) (λ_=>dF (λ_=>.pure (.string _)) (λ_=>?_)));refine Fv λet=>A1 B λb=>dF (λ_=>?_) (λ_=>.dy trivial);refine dB (wz _ _ B) λm' s s' W O=>?_;cases O;exact dv.freeze (B.mono W) (Y.mono W _) (.pure (.string _))
def C2(P:Program)(s d:aN):Bool:=match P.underlying s,P.underlying d with
 |some (.int _),some (.int _)=>true|some .string,some (.slice e)=>(match P.underlying e with|some (.int .u8)=>true|_=>false)
 |some (.slice e),some .string=>(match P.underlying e with|some (.int .u8)=>true|_=>false)
 |_,_=>false
theorem Ly{s d:aN}(ho:C2 P s d=true)(O:VR m x x'):dv P VR m (convert s d x) (convert s d x'):=by
 unfold C2 at ho;unfold convert;refine dz λd1 Y=>dz λd2 h2=>?_;rw[Y,h2]at ho;cases d1<;>cases d2<;>first|(simp at ho;done)|skip
 cases O<;>first|exact .dy trivial|exact .pure (.int _ _)
 .rename_i e;cases O<;>first|exact .dy trivial|skip
  refine dz λd3 B=>?_;simp only[B]at ho;cases d3<;>first|exact .dy trivial|skip
  rename_i k;cases k<;>first|exact .dy trivial|exact wW|(simp at ho;done)
 rename_i e
 have W:P.underlying e=some (.int .u8):=by
  simp only at ho;revert ho
  cases P.underlying e with
  |none=>intro ho;cases ho
  |some d3=>
   cases d3<;>intro ho<;>first|(cases ho;done)|skip
   rename_i k;cases k<;>first|(cases ho;done)|rfl
 have fin:∀{y y':Value},VR m y y'->dv P VR m (aT e >>= λd=>match d with|.int .u8=>gA y|.int .i32=>hj y|_=>stuck "Convert: a slice of what to string?") (aT e >>= λd=>match d with|.int .u8=>gA y'|.int .i32=>hj y'|_=>stuck "Convert: a slice of what to string?"):=by
  intro y y' hy;refine dz λd3 B=>?_;rw[W]at B;cases B;exact wR hy
 cases O with
 |int k n=>exact .pure (.string _)|string s=>exact .pure (.string _)|fK v hv=>
  refine .dy ?_;show ed P ((match P.underlying e with|some d=>pure d|none=>stuck _) >>= _);rw[W];trivial
 |fu l c=>exact fin (.fu l c)|slice l c U=>exact fin (.slice l c U)|bool b=>exact fin (.bool b)|gQ=>exact fin .gQ|ptr U=>exact fin (.ptr U)|my=>exact fin .my|map hb=>exact fin (.map hb)|gone hb=>exact fin (.gone hb)|iW=>exact fin .iW|chan hb=>exact fin (.chan hb)|func a b c d e=>exact fin (.func a b c d e)|q9 a b c=>exact fin (.q9 a b c)|nilFunc=>exact fin .nilFunc|iface t h=>exact fin (.iface t h)|nilIface=>exact fin .nilIface|agg a b=>exact fin (.agg a b)|tuple a b=>exact fin (.tuple a b)
end
end
section
variable {args args':Array Value} {m':Ren} {α:Type}
structure AQ(m:Ren)(c c':CommCase):Prop where
 chan:VR m c.chan c'.chan
 send:l8 (VR m) c.send c'.send
 zero:VR m c.zero c'.zero
def JB(c:Array CommCase)(b:Bool)(s:CommShape):Prop:=b=true/\s=.send/\∃ch v z,c=#[{chan:=ch,send:=some v,zero:=z}]
inductive gT(P:Program)(m:Ren):Go.Next->Go.Next->Prop
 |value {v v'}:VR m v v'->gT P m (.value v) (.value v')|skip:gT P m .skip .skip|enter {f a a'}:m.fw f->(∃fn c,P.funcs[f]?=some fn/\fn.body=some c)->ep m a a'->gT P m (.enter f a) (.enter f a')|round {l l' f t t' a b}:m.blk l=some l'->ep m t t'->fF m.ok a->fF m.ok b->gT P m (.round l f t a b) (.round l' f t' a b)|defer {d d'}:DR m d d'->gT P m (.defer d) (.defer d')|recover:gT P m .recover .recover|spawn {d d'}:m.il->DR m d d'->gT P m (.spawn d) (.spawn d')|comm {c c'} (b s):m.il\/JB c b s->dQ (AQ m) c.toList c'.toList->gT P m (.comm c b s) (.comm c' b s)
section
variable {P:Program} {m:Ren}
theorem Hj(O:gJ m){ps rs:Array aN}(h:ep m args args'):dv P VR m (h9 ps rs args) (h9 ps rs args'):=by
 obtain⟨l⟩:=args;obtain⟨l'⟩:=args';unfold ep at h;simp only at h
 cases h with
 |nil=>exact .dy trivial|cons U h=>
 cases h with
 |nil=>cases U<;>exact .dy trivial
 |cons W h=>
 cases h with
 |cons hz h=>cases U<;>first|exact .dy trivial|(cases W<;>exact .dy trivial)
 |nil=>
 cases U<;>first|exact .dy trivial|(cases W<;>first|exact .dy trivial|skip)
 all_goals
  unfold h9;dsimp only;cases ps[0]?<;>first|exact .dy trivial|skip
  refine dz λd hd=>?_;cases d<;>first|exact .dy trivial|skip
  refine eG λsz=>?_
  first|exact .pure (.bool _)|skip
 rename_i a a' la ca B b b' lb cb hb st e;have Y:(a.block==b.block)=(a'.block==b'.block):=by rw[dr];simp only[beq_iff_eq];exact B.rC hb
 have e0:(a.block != b.block)=(a'.block != b'.block):=by simp only[bne,Y]
 dsimp only;rw[Y,e0,B.off,hb.off];refine dF (λ_=>.pure (.bool _)) (λ_=>?_);refine mT B (O _) λx=>mT hb (O _) λy=>dF (λ_=>.dy trivial) (λ_=>dF (λ_=>?_) (λ_=>.pure (.bool _)));exact qB B (qB hb (ym O B hb λx=>dF (λ_=>gC λn=>.pure (.bool _)) (λ_=>.pure (.bool _))))
theorem tS:∀(n:Nat){a a':Addr}(acc:ByteArray),AR m a a'->dv P wV m (hB a n acc) (hB a' n acc)
 |0,_,_,_,_=>.pure rfl|n+1,a,a',acc,B=>by
  unfold hB;refine Du B λv v' O=>?_
  cases O with
  |int k x=>cases k<;>first|exact .dy trivial|exact tS n _ (B.add 1)
  |_=>exact .dy trivial
theorem BD{x x':Value}(B:VR m x x'):dv P wV m (hC x) (hC x'):=by
 cases B<;>first|exact .dy trivial|exact .pure rfl|exact tS _ _ ‹_›
theorem Ms(h:ep m args args'):dv P VR m (Extern.BytealgCompare.compare args) (Extern.BytealgCompare.compare args'):=by
 obtain⟨l⟩:=args;obtain⟨l'⟩:=args'
 cases h with
 |nil=>exact .dy trivial|cons U h=>
 cases h with
 |nil=>exact .dy trivial|cons W h=>
 cases h with
 |cons hz h=>exact .dy trivial|nil=>
 refine dB (BD U) λm' a b O B=>?_;cases B;refine dB (BD (W.mono O)) λY a b O B=>?_;cases B;exact .pure (.int ..)
def nf(P:Program)(m:Ren)(f:aX):Prop:=
 ∃fn,P.funcs[f]?=some fn/\fn.name≠ "runtime.NumGoroutine"/\
  ((∃c,fn.body=some c/\fF m.ok c)\/(fn.body=none/\Extern.findNext fn=none/\∃e,Extern.find fn=some e/\∀m' args args',m.Le m'->ep m' args args'->dv P VR m' (e args) (e args')))
theorem nf.mono(h:m.Le m'){f:aX}(x:nf P m f):nf P m' f:=by
 obtain⟨fn,W,Y,h3⟩:=x;refine⟨fn,W,Y,?_⟩;rcases h3 with⟨c,B,O⟩|⟨B,O,e,h6,h7⟩
 exact .inl ⟨c,B,h.ok▸O⟩;exact .inr ⟨B,O,e,h6,λU a a' hl=>h7 U a a' (h.trans hl)⟩
theorem I4{f:aX}(W:m.fw f)(Y:nf P m f)(h:ep m args args'):dv P (gT P) m (callFunc f args) (callFunc f args'):=by
 obtain⟨fn,O,h2,h3⟩:=Y;refine gZ ?_;rw[O];dsimp only;have e2:(fn.name == "runtime.NumGoroutine")=false:=by simpa using h2
 rw[e2];rcases h3 with⟨c,B,U⟩|⟨B,U,e,h6,h7⟩
 rw[B];exact .pure (.enter W ⟨fn,c,O,B⟩ h);rw[B,U,h6];refine dv.mark trivial ?_;show dv P _ m (e args >>= λv=>pure _) (e args' >>= λv=>pure _);exact dB (h7 m args args' (.refl m) h) λm' v v' _ hv=>dv.pure (gT.value hv)
structure tA(P:Program)(m:Ren):Prop where
 prog:mn P
 G:m.G=P.globals.size
 calls:∀f,m.fw f->nf P m f
 Sp:P.follows .rangeFuncRecover=true
theorem tA.mono(h:m.Le m')(x:tA P m):tA P m':=⟨x.prog,h.G.trans x.G,λf B=>(x.calls f (h.fw▸B)).mono h,x.Sp⟩
theorem RD{l l':Nat}(O:m.blk l=some l')(h:ep m args args'):dv P (gT P) m (bQ l args) (bQ l' args'):=by
 unfold bQ bO;simp only[bind_assoc];refine fI O λo o' W=>?_;cases W<;>first|exact .dy trivial|skip
 rename_i p p' B;have e:∀(q:Loop)(k:Loop->Sem Go.Next),(pure q >>= k)=k q:=λq k=>rfl;simp only[e];rw[<-B.params,<-h.size,<-B.fn,<-B.assign,<-B.body];refine dF (λ_=>.dy trivial) (λ_=>.pure (.round O ?_ B.Tu B.wP))
 have key:∀(ps:List Tmp){l l':List Value}{t t':Array Value},dQ (VR m) l l'->ep m t t'->ep m ((ps.zip l).foldl (λtmps x=>tmps.setIfInBounds x.1 x.2) t) ((ps.zip l').foldl (λtmps x=>tmps.setIfInBounds x.1 x.2) t'):=by
  intro ps;induction ps with
  |nil=>simpa using U|cons p ps Y=>
   intro l l' t t' O U
   cases O with
   |nil=>simpa using U|cons hv O=>simpa using Y O (U.set p hv)
 have:=key p.params.toList h B.tmps;rw[<-a7,<-a7,aK,aK];exact this
theorem P8(O:mn P)(t:aN)(x:Value)(k:aX×Value->Sem α):ed P (program >>= λp=>b3 (p.types.size+Made.depth) t x "" >>= k):=by
 unfold b3 bq
 cases hi:P.info? t with
 |none=>
  show ed P ((((match P.info? t with|some i=>pure i|none=>stuck _) >>= _) >>= _));rw[hi];trivial
 |some i=>
  have U:=O.Vc t i hi;show ed P ((((match P.info? t with|some i=>pure i|none=>stuck _) >>= _) >>= _));rw[hi];have W:∀{β:Type}(B:TypeInfo->Sem β),((match some i with|some i=>pure i|none=>stuck "no such type") >>= B)=B i:=λ_=>rfl;rw[W];simp only[U];trivial
theorem QQ(O:mn P)(t:aN)(x:Value)(k:Option Bool->Sem α):ed P (program >>= λp=>bv (p.types.size+Made.depth) t x "" >>= k):=by
 unfold bv bq
 cases hi:P.info? t with
 |none=>
  show ed P ((((match P.info? t with|some i=>pure i|none=>stuck _) >>= _) >>= _));rw[hi];trivial
 |some i=>
  have U:=O.Vc t i hi;show ed P ((((match P.info? t with|some i=>pure i|none=>stuck _) >>= _) >>= _));rw[hi];have W:∀{β:Type}(B:TypeInfo->Sem β),((match some i with|some i=>pure i|none=>stuck "no such type") >>= B)=B i:=λ_=>rfl;rw[W];simp only[U];trivial
theorem qI(U:tA P m){t t':Target}(W:TR m t t')(Y:∀b x y z,t≠.builtin b x y z)(h:ep m args args'):dv P (gT P) m (invoke t args) (invoke t' args'):=by
 cases W with
 |nil=>exact fl (e:=.nilDeref) trivial|collected _=>exact .dy trivial|mark _ _ _ _=>exact .dy trivial|builtin x y z hm=>exact absurd rfl (Y _ x y z)|fn B=>
  rcases B with⟨B,hc⟩|⟨rfl,n,rfl⟩
  cases B with
  |func f B=>exact I4 B (U.calls f B) (h.append hc)|yield hl=>exact RD hl h
  unfold invoke
  cases ha:args[0]? with
  |none=>exact .dy trivial|some x=>
   obtain⟨x',O,hx⟩:=h.get ha;rw[O]
   cases hx with
   |nilIface=>exact fl (e:=.nilDeref) trivial|iface t hv=>exact .dy (P8 U.prog t ..)|_=>exact .dy trivial
def dP(fw:aX->Prop)(gl:Nat->Prop):Operand->Prop
 |.tmp _=>True|.const v=>Plain v|.global g=>gl g|.func f=>fw f
def uN(P:Program)(st:Bool)(ats:Array aN)(n:Nat):Builtin->Prop
 |.append|.clear|.copy|.max|.min|.recover=>True|.cap|.len=>∀t,ats[0]?=some t->rL P t=true|.unsafeString=>st=true/\n=2|.close=>True|_=>False
def P7(P:Program)(st:Bool)(t:aN):Prop:=∀k e,P.underlying t=some (.map k e)->qv P 10000 k=true/\(st=true\/nT P c6 k=true)
def isNil:Operand->Bool
 |.const (.pointer none)|.const .nilIface=>true|_=>false
def TN(P:Program)(st:Bool)(t:aN)(y:Operand):Prop:=st=true\/nT P c6 t=true\/(isNil y=true/\∀d,P.underlying t=some d->(∃e,d=.pointer e)\/(∃e,d=.interface e))
def OkOp(P:Program)(fw:aX->Prop)(gl:Nat->Prop)(st:Bool)(op:Op):Prop:=
 (∀x∈op.operands.toList,dP fw gl x)/\match op with
 |.move _|.assign _|.pick ..|.alloc _|.box ..|.build ..|.buildSlice ..|.load ..|.store ..|.nilCheck _|.unOp ..|.makeInterface ..|.makeMap ..|.makeSlice ..|.slice ..|.fieldAddr ..|.field ..|.indexAddr ..|.index ..|.entryStore ..|.range ..|.next ..|.entry _|.extract ..|.panic _|.send .. => True|.select .. => False|.makeChan .. => False|.binOp o t _ y _=>o=.eql\/o=.neq->TN P st t y|.convert s d _=>C2 P s d=true|.makeFunc (.func f) _ _=>fw f|.lookup t ..|.mapUpdate t ..|.mapEntry t .. => P7 P st t|.typeAssert _ _ _ ok=>ok=true|.call c=>match c.callee with
  |.value _=>True|.builtin b=>uN P st c.argTypes c.args.size b/\b≠.close|.invoke .. => False
 |.go c=>False/\match c.callee with
  |.value _=>True|_=>False
 |.defer c=>match c.callee with
  |.value _=>True|.builtin b=>b=.close/\False|_=>False
 |_=>False
end
variable {fw:aX->Prop} {gl:Nat->Prop} {ρ ρ':Operand->Value} {t:aN} {x x' y:Value}
section
variable {P:Program} {m:Ren}
theorem nX:∀(d:Nat)(m:Ren)(t:aN){x x' y y':Value},VR m x x'->VR m y y'->dv P wV m (c8 d t x y) (c8 d t x' y')
 |0,m,t,_,_,_,_,_,_=>.dy trivial
 |d+1,m,t,x,x',y,y',W,Y=>by
  unfold c8
  refine dz λde hd=>?_
  cases de with
  |interface ms=>
   cases W with
   |nilIface=>cases Y with
    |fK v B=>cases y'<;>first|exact .pure rfl|exact B.elim
    |_=>exact .pure rfl
   |fK v B=>cases x'<;>first|exact .pure rfl|exact B.elim
   |_=>exact .pure rfl
  |struct fs=>
   cases W with
   |agg h1 h2=>
    cases Y with
    |agg h3 h4=>
     refine dB (RA:=wV) (ox _ _ λm' f s hf U=>dF (λ_=>?_) (λ_=>.pure rfl)) λm' a b _ O=>?_
     .refine dB (mA ((ep.ii h1 h2).mono U) _) λm1 u u' l1 hu=>dB (mA ((ep.ii h3 h4).mono (U.trans l1)) _) λm2 v v' l2 B=>?_
      refine dB (nX d m2 _ (hu.mono l2) B) λm3 a b _ O=>?_
      cases O
      exact dF (λ_=>.pure rfl) (λ_=>.pure rfl)
     .cases O
      obtain⟨o,_⟩:=a
      cases o<;>exact .pure rfl
    |fK v B=>cases y'<;>first|exact .pure rfl|exact B.elim
    |_=>exact .pure rfl
   |fK v B=>cases x'<;>first|exact .pure rfl|exact B.elim
   |_=>exact .pure rfl
  |array n e=>
   cases W with
   |agg h1 h2=>
    cases Y with
    |agg h3 h4=>
     refine eG λsz=>?_;refine dB (RA:=wV) (oB _ _ λm' i s U=>?_) λm' a b _ O=>?_;refine dB (mA ((ep.ii h1 h2).mono U) _) λm1 u u' l1 hu=>dB (mA ((ep.ii h3 h4).mono (U.trans l1)) _) λm2 v v' l2 B=>?_;refine dB (nX d m2 _ (hu.mono l2) B) λm3 a b _ O=>?_;cases O;exact dF (λ_=>.pure rfl) (λ_=>.pure rfl)
     cases O;obtain⟨o,_⟩:=a;cases o<;>exact .pure rfl
    |fK v B=>cases y'<;>first|exact .pure rfl|exact B.elim
    |_=>exact .pure rfl
   |fK v B=>cases x'<;>first|exact .pure rfl|exact B.elim
   |_=>exact .pure rfl
  |_=>exact .pure rfl
theorem Mu(op:BinOp)(t:aN)(p q:Operand){y':Value}(W:VR m x x')(U:VR m y y'):dv P xR m (eqGuard op t p q x y) (eqGuard op t p q x' y'):=by
 refine dF (λ_=>.pure trivial) (λ_=>?_)
 cases W with
 |nilIface=>
  cases U with
  |nilIface=>
   refine dF (λ_=>.pure trivial) (λ_=>?_);refine dB (nX _ m t .nilIface .nilIface) λm' a b _ B=>?_;cases B;exact dF (λ_=>.dy trivial) (λ_=>.pure trivial)
  |fK v O=>cases y'<;>first|exact .pure trivial|exact O.elim
  |_=>exact .pure trivial
 |agg Y h2=>
  cases U with
  |agg h3 h4=>
   refine gZ (gZ (dF (λ_=>.pure trivial) (λ_=>?_)));refine dB (nX _ m t (.agg Y h2) (.agg h3 h4)) λm' a b _ B=>?_;cases B;exact dF (λ_=>.dy trivial) (λ_=>.pure trivial)
  |fK v O=>cases y'<;>first|exact .pure trivial|exact O.elim
  |_=>exact .pure trivial
 |fK v O=>cases x'<;>first|exact .pure trivial|exact O.elim
 |_=>exact .pure trivial
theorem Ep(B:∀d,P.underlying t=some d->(∃e,d=.pointer e)\/(∃e,d=.interface e))(O:VR m x x')(U:y=.pointer none\/y=.nilIface):dv P wV m (c5 t x y) (c5 t x' y):=by
 refine dz λd h=>?_;rcases B d h with⟨e,rfl⟩|⟨e,rfl⟩<;>rcases U with rfl|rfl<;>cases O<;>first|exact .dy trivial|exact .pure rfl
theorem E3(op:BinOp)(Y:op=.eql\/op=.neq)(hd:∀d,P.underlying t=some d->(∃e,d=.pointer e)\/(∃e,d=.interface e))(hx:VR m x x')(O:y=.pointer none\/y=.nilIface):dv P VR m (binOp op t x y) (binOp op t x' y):=by
 have h:=Ep hd hx O
 have U:∀z,binOp .eql t z y=(do pure (.bool (<-c5 t z y))):=by
  intro z;rcases O with rfl|rfl<;>cases z<;>rfl
 have W:∀z,binOp .neq t z y=(do pure (.bool (!(<-c5 t z y)))):=by
  intro z;rcases O with rfl|rfl<;>cases z<;>rfl
 rcases Y with rfl|rfl
 rw[U,U];exact dB h λm' a b _ B=>by cases B;exact .pure (.bool _)
 rw[W,W];exact dB h λm' a b _ B=>by cases B;exact .pure (.bool _)
theorem kh(B:∀x,dP fw gl x->VR m (ρ x) (ρ' x)){a:Array Operand}(h:∀x∈a.toList,dP fw gl x):ep m (a.map ρ) (a.map ρ'):=by
 unfold ep;simp only[a4];generalize a.toList=l at h;induction l with
 |nil=>exact .nil|cons x l O=>exact .cons (B x (h x (by simp))) (O λy U=>h y (by simp[U]))
theorem xN(B:∀x,dP fw gl x->VR m (ρ x) (ρ' x)){o:Option Operand}(h:∀x,o=some x->dP fw gl x):l8 (VR m) (o.map ρ) (o.map ρ'):=by
 cases o with
 |none=>exact .none|some x=>exact .some (B x (h x rfl))
theorem EH(B:∀x,dP fw gl x->VR m (ρ x) (ρ' x)){a:Array (Nat×Operand)}(h:∀x∈a.toList.map (·.2),dP fw gl x) :
  dQ (JN m) (a.map λ(i,x)=>(i,ρ x)).toList (a.map λ(i,x)=>(i,ρ' x)).toList:=by
 simp only[a4];generalize a.toList=l at h;induction l with
 |nil=>exact .nil|cons x l O=>exact .cons ⟨rfl,B _ (h _ (by simp))⟩ (O λy U=>h y (by simp only[List.map_cons,ge];exact .inr U))
theorem Ji(hP:mn P)(hx:VR m x x'){a:Operand}(e:ρ a=x)(e':ρ' a=x'){d:Option Tmp}{p:String}{af:Array Edge}{g:Option (Nat×Bool)} :
  dv P (gT P) m (bo ρ ⟨d,.nilCheck a,t,p,af,g⟩) (bo ρ' ⟨d,.nilCheck a,t,p,af,g⟩):=by
 unfold bo;dsimp only;rw[e,e']
 cases hx with
 |gQ=>exact fl (e:=.nilDeref) trivial|nilIface=>exact fl (e:=.nilDeref) trivial|nilFunc=>exact fl (e:=.nilDeref) trivial|@q9 lf n f c U W Y=>
  dsimp only;have hA:ep m lf f:=ep.ii U W
  cases O:lf[0]? with
  |none=>
   rw[hA.get_none O];exact .pure (.value (.q9 U W Y))
  |some y=>
   obtain⟨y',aa,hy⟩:=hA.get O;rw[aa]
   have ab:∀t u,y'=.iface t u->∃z,y=.iface t z:=λt u e=>by
    obtain⟨z,hz⟩:=Y t u (by rw[aa,e]);rw[O]at hz;exact⟨z,gj hz⟩
   cases hy with
   |nilIface=>exact fl (e:=.nilDeref) trivial|iface t B=>exact .dy (QQ hP t _ _)|fK v B=>
    have:∀t u,y'≠.iface t u:=λt u e=>by obtain⟨z,hz⟩:=ab t u e;cases hz
    cases y'<;>first|exact B.elim|exact absurd rfl (this _ _)|exact .pure (.value (.q9 U W Y))
   |_=>exact .pure (.value (.q9 U W Y))
 |func hf U W Y h4=>cases hf<;>exact .pure (.value (.func (by first|exact .func _ ‹_›|exact .yield ‹_›) U W Y h4))
 |fK v B=>cases x'<;>first|exact .pure (.value (.fK _ B))|exact B.elim|(rename_i q;cases q<;>first|exact .pure (.value (.fK _ B))|exact B.elim)|(rename_i q _ _;cases q<;>first|exact .pure (.value (.fK _ B))|exact B.elim|exact .dy trivial)
 |bool b=>exact .pure (.value (.bool b))|int k n=>exact .pure (.value (.int k n))|string s=>exact .pure (.value (.string s))|ptr O=>exact .pure (.value (.ptr O))|fu l c=>exact .pure (.value (.fu l c))|slice l c O=>exact .pure (.value (.slice l c O))|my=>exact .pure (.value .my)|map h=>exact .pure (.value (.map h))|gone h=>exact .pure (.value (.gone h))|iW=>exact .pure (.value .iW)|chan h=>exact .pure (.value (.chan h))|iface t h=>exact .pure (.value (.iface t h))|agg a b=>exact .pure (.value (.agg a b))|tuple a b=>exact .pure (.value (.tuple a b))
theorem oZ{f f':Value}(hf:VR m f f'){a a':Array Value}(B:ep m a a'):dv P (λm d d'=>DR m d d'/\∀b x y z,d.target≠.builtin b x y z) m (Deferred.ofValue f a) (Deferred.ofValue f' a'):=by
 cases hf<;>first|exact .dy trivial|skip
 rename_i O U Y W h4;exact .pure ⟨⟨.fn (.inl ⟨O,.ii W h4⟩),(ep.ii U Y).append B⟩,nofun⟩;exact .pure ⟨⟨.nil,B⟩,nofun⟩;rename_i W U Y;exact .pure ⟨⟨.fn (.inr ⟨rfl,_,rfl⟩),(ep.ii W U).append B⟩,nofun⟩
theorem sD{α β:Type}{Q:Ren->β->β->Prop}(hm:∀m m' a b,m.Le m'->Q m a b->Q m' a b){g g':α->Sem β}:∀(l:List α)(m:Ren),(∀x∈l,∀m',m.Le m'->dv P Q m' (g x) (g' x))->dv P (λm=>dQ (Q m)) m (l.mapM g) (l.mapM g')
 |[],m,_=>.pure .nil|x::l,m,O=>by
  simp only[gd];exact dB (O x (by simp) m (.refl m)) λm' a b B h=>dB (sD hm l m' λy U W Y=>O y (by simp[U]) W (B.trans Y)) λaa c d B hc=>.pure (.cons (hm _ _ _ _ B h) hc)
theorem AQ.mono{m m':Ren}(h:m.Le m'){a b:CommCase}(x:AQ m a b):AQ m' a b:=⟨x.chan.mono h,x.send.mono λ_ _ y=>y.mono h,x.zero.mono h⟩
end
section
variable {P:Program} {m:Ren}
theorem rU{s s':Sem Value}(h:dv P VR m s s'):lr P (gT P) m (do pure (.value (<-s))) (do pure (.value (<-s'))):=.base (dB h λ_ _ _ _ B=>.pure (.value B))
theorem UC{s s':Sem Unit}(h:dv P xR m s s'):lr P (gT P) m (do s;pure .skip) (do s';pure .skip):=.base (dB h λ_ _ _ _ _=>.pure .skip)
theorem Mb(W:tA P m){st:Bool}(O:st=true->gJ m){b:Builtin}{ats:Array aN}{t:aN}{cs:Array Bool}{args args':Array Value}(h:ep m args args')(B:uN P st ats args.size b)(hc:b≠.close):lr P (gT P) m (builtin b ats t cs args) (builtin b ats t cs args'):=by
 cases b<;>simp only[uN]at B<;>first|exact B.elim|exact absurd rfl hc|skip
 exact rU (PG W.prog h);exact rU (Uu B h);exact rU (R3 W.prog h);exact rU (SP h);exact rU (Ub B h);exact rU (TY h);exact rU (TG h);exact .base (.pure .recover);obtain⟨h1,Y⟩:=B;have U:args'.size=2:=by rw[<-h.size];exact Y
 obtain⟨x,y,rfl⟩:∃x y,args=#[x,y]:=by
  obtain⟨l⟩:=args;match l,Y with
  |[x,y],_=>exact⟨x,y,rfl⟩
 obtain⟨x',y',rfl⟩:∃x y,args'=#[x,y]:=by
  obtain⟨l⟩:=args';match l,U with
  |[x,y],_=>exact⟨x,y,rfl⟩
 cases h with
 |cons hx h=>cases h with
  |cons hy h=>exact rU (yZ (O h1) hx hy)
theorem Gm(hE:tA P m){st:Bool}(ac:st=true->gJ m)(ab:False->m.il){gl:Nat->Prop}{ρ ρ':Operand->Value}(W:∀x,dP m.fw gl x->VR m (ρ x) (ρ' x))(ad:∀c,ρ (.const c)=c/\ρ' (.const c)=c)(o:Oper)(ho:OkOp P m.fw gl st o.op):lr P (gT P) m (bo ρ o) (bo ρ' o):=by
 obtain⟨ah,op,ag,pos,after,guard⟩:=o;obtain⟨O,U⟩:=ho;have B:∀x,x∈op.operands.toList->VR m (ρ x) (ρ' x):=λx Y=>W x (O x Y);have aa:∀t,P7 P st t->∀k e,P.underlying t=some (.map k e)->qv P 10000 k=true/\(gJ m\/nT P c6 k=true):=λt h k e hd=>⟨(h k e hd).1,(h k e hd).2.imp ac id⟩
 cases op with
 |move x=>exact .base (.pure (.value (B x (by simp[c4]))))|assign x=>exact .base (.pure (.value (B x (by simp[c4]))))|pick c a b=>
  refine .base (M5 (B c (by simp[c4])) λt=>.pure (.value ?_));cases t;exact B b (by simp[c4]);exact B a (by simp[c4])
 |alloc e=>exact rU (Rz hE.prog)|box e x=>exact rU (TV (B x (by simp[c4])))|build t ps=>exact rU (QL hE.prog (EH W (by simpa[c4]using O)))|buildSlice t n ps=>exact rU (Dr hE.prog (EH W (by simpa[c4]using O)))|load t x=>exact rU (OJ (B x (by simp[c4])))|store t x y=>exact UC (Mq (B x (by simp[c4])) (B y (by simp[c4])))|nilCheck x=>exact .base (Ji hE.prog (B x (by simp[c4])) rfl rfl)|binOp o t x y yt=>
  refine rU (dB (Mu o t x y (B x (by simp[c4])) (B y (by simp[c4]))) λm' _ _ hl _=>?_);have Y:=(B x (by simp[c4])).mono hl;have hy:=(B y (by simp[c4])).mono hl;by_cases hq:o=.eql\/o=.neq
  .rcases U hq with h|h|⟨h,hd⟩
   exact DE o (hl.G.trans hE.G) (λ_=>.inl ((ac h).mono hl)) Y hy;exact DE o (hl.G.trans hE.G) (λ_=>.inr h) Y hy
   cases y with
   |const c=>
    obtain⟨e1,e2⟩:=ad c;rw[e1,e2]
    have hc:c=.pointer none\/c=.nilIface:=by
     cases c<;>first|cases h;done|exact .inr rfl|skip
     rename_i p;cases p;exact .inl rfl
     cases h
    exact E3 o hq hd Y hc
   |_=>cases h
  exact DE o (hl.G.trans hE.G) (λh=>absurd h hq) Y hy
 |unOp o t x=>exact rU (Rw o (B x (by simp[c4])))|convert s d x=>exact rU (Ly U (B x (by simp[c4])))|makeInterface t x=>exact rU (wZ (B x (by simp[c4])))|makeFunc f a b=>
  cases f<;>simp only at U<;>first|exact U.elim|skip
  exact rU (IA U (kh W λx Y=>O x (by simp[c4];exact .inl (by simpa using Y))) (kh W λx Y=>O x (by simp[c4];exact .inr (by simpa using Y))))
 |makeMap t r=>exact rU (LB (xN W λx Y=>O x (by simp[c4,Y])))|makeChan t s=>exact rU (IU (ab U) (B s (by simp[c4])))|makeSlice t l c=>exact rU (Fb hE.prog (B l (by simp[c4])) (B c (by simp[c4])))|slice t x l h mx=>exact rU (LX (B x (by simp[c4])) (xN W λy hy=>O y (by simp[c4,hy])) (xN W λy hy=>O y (by simp[c4,hy])) (xN W λy hy=>O y (by simp[c4,hy])))|fieldAddr t x f=>exact rU (LJ (B x (by simp[c4])) f)|field t x f=>exact rU (Rf (B x (by simp[c4])) f)|indexAddr t x i=>exact rU (KW (B x (by simp[c4])) (B i (by simp[c4])))|index t x i=>exact rU (Q3 (B x (by simp[c4])) (B i (by simp[c4])))|lookup t x i b=>exact rU (Pv hE.prog hE.G (aa t U) (B x (by simp[c4])) (B i (by simp[c4])) b)|mapUpdate t a b c=>exact(Eb hE.G (aa t U) (B a (by simp[c4])) (B b (by simp[c4])) (B c (by simp[c4]))).map λ_ _ _ _ _=>.skip|mapEntry t a b=>exact(Hb hE.prog hE.G (aa t U) (B a (by simp[c4])) (B b (by simp[c4]))).map λ_ _ _ _ h=>.value h|entryStore t a b c=>exact UC (C9 (B a (by simp[c4])) (B b (by simp[c4])) (B c (by simp[c4])))|range t x=>exact rU (Q0 (B x (by simp[c4])))|next x b=>exact rU (Sx (B x (by simp[c4])) b _)|entry x=>exact rU (Qp (B x (by simp[c4])))|typeAssert x a b c=>
  simp only at U;subst U;exact rU (Dm hE.prog (B x (by simp[c4])) _ _)
 |extract x i=>exact rU (Me (B x (by simp[c4])) i)|panic x=>exact rU (QI (B x (by simp[c4])))|send c x=>exact .base (.pure (.comm _ _ (.inr ⟨rfl,rfl,_,_,_,rfl⟩) (.cons ⟨B c (by simp[c4]),.some (B x (by simp[c4])),.undef m⟩ .nil)))|select cs b=>
  refine .base ?_;show dv P (gT P) m (cs.mapM (λs=>do pure {chan:=ρ s.chan,send:=s.send.map ρ,zero:=<-aQ s.elem:CommCase}) >>= λc=>pure (.comm c b .select)) (cs.mapM (λs=>do pure {chan:=ρ' s.chan,send:=s.send.map ρ',zero:=<-aQ s.elem:CommCase}) >>= λc=>pure (.comm c b .select));rw[a0,a0];simp only[map_eq_pure_bind,bind_assoc,pure_bind];refine dB (sD (Q:=AQ) (λ_ _ _ _ h x=>x.mono h) cs.toList m λs hs m' hl=>?_) λm' a b' ae af=>.pure (.comm _ _ (.inl (by rw[ae.il];exact ab U)) af);refine fH hE.prog λz hz=>.pure ⟨(B s.chan ?_).mono hl,(xN W λy hy=>O y ?_).mono λ_ _ x=>x.mono hl,hz⟩;simp only[c4,aD,aJ];exact⟨s,by simpa using hs,by simp⟩;simp only[c4,aD,aJ];exact⟨s,by simpa using hs,by simp[hy]⟩
 |call c=>
  obtain⟨callee,args,ats⟩:=c
  cases callee with
  |invoke r n=>exact U.elim|builtin b=>
   have ha:ep m (args.map ρ) (args.map ρ'):=kh W λx Y=>O x (by simp[c4,gv];simpa using Y);exact Mb hE ac ha (by simpa using U.1) U.2
  |value f=>
   have ha:ep m (args.map ρ) (args.map ρ'):=kh W λx Y=>O x (by simp[c4,gv];exact .inr (by simpa using Y));refine .base (dB (oZ (B f (by simp[c4,gv])) ha) λm' d d' hl hd=>?_);exact qI (hE.mono hl) hd.1.target hd.2 hd.1.args
 |go c=>
  obtain⟨callee,args,ats⟩:=c
  cases callee with
  |invoke r n=>exact U.2.elim|builtin b=>exact U.2.elim|value f=>
   have ha:ep m (args.map ρ) (args.map ρ'):=kh W λx Y=>O x (by simp[c4,gv];exact .inr (by simpa using Y));exact .base (dB (oZ (B f (by simp[c4,gv])) ha) λm' d d' hl hd=>.pure (.spawn (by rw[hl.il];exact ab U.1) hd.1))
 |defer c=>
  obtain⟨callee,args,ats⟩:=c
  cases callee with
  |invoke r n=>exact U.elim|builtin b=>
   have ha:ep m (args.map ρ) (args.map ρ'):=kh W λx Y=>O x (by simp[c4,gv];simpa using Y);obtain⟨U,hs⟩:=U;subst U;exact .base (.pure (.defer ⟨.builtin _ _ _ (ab hs),ha⟩))
  |value f=>
   have ha:ep m _ _:=kh W λx Y=>O x (by simp[c4,gv];exact .inr (by simpa using Y));exact .base (dB (oZ (B f (by simp[c4,gv])) ha) λm' d d' hl hd=>.pure (.defer hd.1))
 |_=>exact U.elim
end
end
section
open Go.Conc
def Bp(y:Code):Code:=.cond (.global 0) y .skip
inductive jw(m:Ren):Item->Item->Prop
 |GC (y):jw m (.code (Bp y)) (.code y)|mg (y):jw m (.inLoop (Bp y)) (.inLoop y)|code (c):fF m.ok c->jw m (.code c) (.code c)|inBlock (i):jw m (.inBlock i) (.inBlock i)|inLoop (c):fF m.ok c->jw m (.inLoop c) (.inLoop c)|inScope (c):fF m.ok c->jw m (.inScope c) (.inScope c)|inRegion (ops t):(∀o∈ops.toList,m.ok o)->jw m (.inRegion ops t) (.inRegion ops t)|inRangeFunc {l l'}:m.blk l=some l'->jw m (.inRangeFunc l) (.inRangeFunc l')|endRangeFunc {l l'}:m.blk l=some l'->jw m (.endRangeFunc l) (.endRangeFunc l')|beginRound:jw m .beginRound .beginRound
structure RN(m:Ren)(p p':PanicEntry):Prop where
 v:VR m p.v p'.v
 rv:p'.recovered=p.recovered
 ex:p'.goexit=p.goexit
inductive s7(m:Ren):FrameMode->FrameMode->Prop
 |run:s7 m .run .run|returning:s7 m .returning .returning|panicking {c c'}:dQ (RN m) c c'->s7 m (.panicking c) (.panicking c')
structure fL(m:Ren)(fr fr':Frame):Prop where
 fn:fr'.fn=fr.fn
 tmps:ep m fr.tmps fr'.tmps
 todo:dQ (jw m) fr.todo fr'.todo
 defers:dQ (DR m) fr.defers fr'.defers
 mode:s7 m fr.mode fr'.mode
 round:l8 (λr r'=>m.blk r=some r') fr.roundOf fr'.roundOf
section
variable {m m':Ren}
theorem jw.mono(h:m.Le m'){a b:Item}(x:jw m a b):jw m' a b:=by
 cases x with
 |GC y=>exact .GC y|mg y=>exact .mg y|code c B=>exact .code c (h.ok▸B)|inBlock i=>exact .inBlock i|inLoop c B=>exact .inLoop c (h.ok▸B)|inScope c B=>exact .inScope c (h.ok▸B)|inRegion o t U=>exact .inRegion o t (h.ok▸U)|inRangeFunc O=>exact .inRangeFunc (h.blk _ _ O)|endRangeFunc O=>exact .endRangeFunc (h.blk _ _ O)|beginRound=>exact .beginRound
theorem RN.mono(h:m.Le m'){a b:PanicEntry}(x:RN m a b):RN m' a b:=⟨x.v.mono h,x.rv,x.ex⟩
theorem s7.mono(h:m.Le m'){a b:FrameMode}(x:s7 m a b):s7 m' a b:=by
 cases x with
 |run=>exact .run|returning=>exact .returning|panicking B=>exact .panicking (B.mono λ_ _ y=>y.mono h)
theorem fL.mono(h:m.Le m'){a b:Frame}(x:fL m a b):fL m' a b:=
 ⟨x.fn,x.tmps.mono h,x.todo.mono λ_ _ y=>y.mono h,x.defers.mono λ_ _ y=>y.mono h,x.mode.mono h,x.round.mono λ_ _ y=>h.blk _ _ y⟩
theorem fL.eval{fr fr':Frame}(h:fL m fr fr'){gl:Nat->Prop}(B:∀g,gl g->m.blk g=some g)(x:Operand)(O:dP m.fw gl x):VR m (fr.eval x) (fr'.eval x):=by
 cases x with
 |tmp t=>exact h.tmps.getD t|const v=>exact VR.plain O|global g=>exact .ptr (.mk (B g O))|func f=>exact .J4 (.func f O) (.nil m) (.nil m)
theorem fL.finish{fr fr':Frame}(h:fL m fr fr'){v v':Value}(hv:VR m v v'):fL m (fr.finish v) (fr'.finish v')/\(fr.finish v).kind=fr.kind/\(fr'.finish v').kind=fr'.kind:=by
 obtain⟨fn,tmps,todo,defers,mode,ag,round⟩:=fr;obtain⟨ah,aa,ad,ab,ae,af,ac⟩:=fr';obtain⟨O,B,h3,U,W,Y⟩:=h
 cases h3 with
 |nil=>exact⟨⟨O,B,.nil,U,W,Y⟩,rfl,rfl⟩|cons hi ht=>
  cases hi with
  |inRegion ops t ho=>
   cases t with
   |nil=>exact⟨⟨O,B,.cons (.inRegion _ _ ho) ht,U,W,Y⟩,rfl,rfl⟩|cons i t=>
    refine⟨⟨O,?_,.cons (.inRegion _ _ ho) ht,U,W,Y⟩,rfl,rfl⟩;show ep m (match (ops[i]?).bind _ with|some d=>tmps.setIfInBounds d v|none=>tmps) (match (ops[i]?).bind _ with|some d=>aa.setIfInBounds d v'|none=>aa)
    cases(ops[i]?).bind _ with
    |none=>exact B|some d=>exact B.set d hv
  |inRangeFunc hl=>exact⟨⟨O,B,.cons (.endRangeFunc hl) ht,U,W,Y⟩,rfl,rfl⟩|beginRound=>exact⟨⟨O,B,ht,U,W,Y⟩,rfl,rfl⟩|GC y=>exact⟨⟨O,B,.cons (.GC y) ht,U,W,Y⟩,rfl,rfl⟩|mg y=>exact⟨⟨O,B,.cons (.mg y) ht,U,W,Y⟩,rfl,rfl⟩|code c hc=>exact⟨⟨O,B,.cons (.code c hc) ht,U,W,Y⟩,rfl,rfl⟩|inBlock i=>exact⟨⟨O,B,.cons (.inBlock i) ht,U,W,Y⟩,rfl,rfl⟩|inLoop c hc=>exact⟨⟨O,B,.cons (.inLoop c hc) ht,U,W,Y⟩,rfl,rfl⟩|inScope c hc=>exact⟨⟨O,B,.cons (.inScope c hc) ht,U,W,Y⟩,rfl,rfl⟩|endRangeFunc hl=>exact⟨⟨O,B,.cons (.endRangeFunc hl) ht,U,W,Y⟩,rfl,rfl⟩
theorem fL.raise{fr fr':Frame}(h:fL m fr fr'){vs vs':List PanicEntry}(U:dQ (RN m) vs vs'):fL m (fr.raise vs) (fr'.raise vs')/\(fr.raise vs).kind=fr.kind/\(fr'.raise vs').kind=fr'.kind:=by
 obtain⟨fn,tmps,todo,defers,mode,ac,round⟩:=fr;obtain⟨ad,W,Y,B,aa,ab,O⟩:=fr';obtain⟨h1,h2,h3,h4,h5,h6⟩:=h
 cases h5 with
 |run=>exact⟨⟨h1,h2,h3,h4,.panicking U,h6⟩,rfl,rfl⟩|returning=>exact⟨⟨h1,h2,h3,h4,.panicking U,h6⟩,rfl,rfl⟩|panicking hc=>exact⟨⟨h1,h2,h3,h4,.panicking (U.append hc),h6⟩,rfl,rfl⟩
theorem Cu{P:Program}{f:aX}(Y:nf P m f)(hb:∃fn c,P.funcs[f]?=some fn/\fn.body=some c){a a':Array Value}(h:ep m a a')(k k':CallKind):fL m (fd P f a k) (fd P f a' k'):=by
 obtain⟨fn,c,U,W⟩:=hb;obtain⟨aa,B,_,h3⟩:=Y;rw[U]at B;cases B
 have hc:fF m.ok c:=by
  rcases h3 with⟨c',O,h5⟩|⟨O,_⟩
  rw[W]at O;cases O;exact h5;rw[W]at O;cases O
 refine⟨rfl,?_,?_,.nil,.run,.none⟩;simp only[fd,U,gs,gn,h.size];exact h.append (.replicate _ (.undef m));simp only[fd,U,gt,W,gn];exact .cons (.code c hc) .nil
end
def IL(k:CallKind):Prop:=k=.normal\/k=.deferred
def door(P:Program):Frame:={fn:=P.funcs.size,tmps:=#[],todo:=[.call {target:=.nil,args:=#[]} false "fmt's door" #[]],defers:=[],mode:=.run,kind:=.normal}
def CF(k:CallKind)(T:List Frame):Prop:=(k=.normal/\∀ps,T=[ps]->ps.mode≠.panicking [br])\/(k=.deferred/\∃ps,T=[ps]/\ps.mode=.panicking [br])
inductive dR(P:Program)(m:Ren)(T:List Frame):List Frame->List Frame->Prop
 |one {fr fr'}:fL m fr fr'->fr.kind=.normal->CF fr'.kind T->fr.roundOf=none->dR P m T (fr::[door P]) (fr'::T)|cons {fr fr' c c' cs cs'}:fL m fr fr'->fr'.kind=fr.kind->IL fr.kind->dR P m T (c::cs) (c'::cs')->dR P m T (fr::c::cs) (fr'::c'::cs')
section
variable {P:Program} {m m':Ren} {T:List Frame}
theorem dR.mono(h:m.Le m'){l l':List Frame}(x:dR P m T l l'):dR P m' T l l':=by
 induction x with
 |one B O U W=>exact .one (B.mono h) O U W|cons B O U _ Y=>exact .cons (B.mono h) O U Y
theorem dR.qc{fr fr':Frame}{cs cs':List Frame}(x:dR P m T (fr::cs) (fr'::cs')):fL m fr fr':=by cases x<;>assumption
theorem dR.set(h:m.Le m'){fr fr' g g':Frame}{cs cs':List Frame}(x:dR P m T (fr::cs) (fr'::cs'))(W:fL m' g g')(k:g.kind=fr.kind)(k':g'.kind=fr'.kind)(Y:g.roundOf=fr.roundOf)(_hn:g.fn=fr.fn):dR P m' T (g::cs) (g'::cs'):=by
 cases x with
 |one hf B O U=>exact .one W (k.trans B) (k'▸O) (Y.trans U)|cons hf B O U=>exact .cons W (by rw[k,k',B]) (k▸O) (U.mono h)
theorem dR.push{fr fr' g g':Frame}{cs cs':List Frame}(x:dR P m T (fr::cs) (fr'::cs'))(B:fL m g g')(k:g'.kind=g.kind)(O:IL g.kind):dR P m T (g::fr::cs) (g'::fr'::cs'):=.cons B k O x
end
variable {fr fr':Frame} {cs cs':List Frame}
def nO(P:Program)(m:Ren)(T:List Frame)(s':GStep)(w':World)(fr:Frame)(cs:List Frame)(w₁:World):Prop:=
 ∃dx fr' cs' B es,s'=.go (G fr' cs') B es/\m.Le dx/\dR P dx T (fr::cs) (fr'::cs')/\WR dx w₁ B/\fA m dx w' B/\∀e∈es,oG dx e
section
variable {P:Program} {m:Ren} {T:List Frame}
theorem Tm(h:fL m fr fr'):(match fr.todo with|.call _ true _ _::_=>CallKind.wrapped|_=>.normal)=.normal/\(match fr'.todo with|.call _ true _ _::_=>CallKind.wrapped|_=>.normal)=.normal:=by
 have:=h.todo;revert this;generalize fr.todo=l;generalize fr'.todo=l';intro h
 cases h with
 |nil=>exact⟨rfl,rfl⟩|cons hi _=>cases hi<;>exact⟨rfl,rfl⟩
theorem tZ{P:Program}{m:Ren}{T:List Frame}(h:dR P m T (fr::cs) (fr'::cs')) :
  l8 (λx y=>VR m x.1 y.1/\dR P m T (fr::x.2) (fr'::y.2)) (aO fr cs) (aO fr' cs'):=by
 have e1:∀(f:Frame)(c:List Frame),f.kind=.normal->aO f c=none:=by
  intro f c hk;unfold aO;rw[hk]
 cases h with
 |one hf h1 B h3=>
  rw[e1 fr _ h1];rcases B with⟨B,_⟩|⟨B,ps,rfl,h4⟩
  rw[e1 fr' _ B];exact .none
  have e2:aO fr' [ps]=none:=by
   unfold aO;simp only[B];rw[h4];rfl
  rw[e2];exact .none
 |cons hf h1 B h3=>
  rename_i c c' cs cs';rcases B with B|B
  rw[e1 fr _ B,e1 fr' _ (h1.trans B)];exact .none;have ac:=h1.trans B
  cases h3 with
  |one O g1 g2 g3=>
   have hm:=O.mode;obtain⟨ak,am,an,ao,ap,aq,ar⟩:=c;obtain⟨ad,ae,af,ag,ah,ai,aj⟩:=c';unfold aO;rw[B,ac]
   cases hm with
   |run=>exact .none|returning=>exact .none|panicking hc=>
    cases hc with
    |nil=>exact .none|cons hp ht=>
     rename_i p p' Y W;obtain⟨v,r,x⟩:=p;obtain⟨v',r',x'⟩:=p';obtain⟨U,aa,ab⟩:=hp;subst aa ab;cases r'<;>cases x'<;>first|exact .none|skip
     exact .some ⟨U,.cons hf h1 (.inr B) (.one ⟨O.fn,O.tmps,O.todo,O.defers,.panicking (.cons ⟨U,rfl,rfl⟩ ht),O.round⟩ g1 g2 g3)⟩
  |cons O g1 g2 g3=>
   have hm:=O.mode;obtain⟨ak,am,an,ao,ap,aq,ar⟩:=c;obtain⟨ad,ae,af,ag,ah,ai,aj⟩:=c';unfold aO;rw[B,ac]
   cases hm with
   |run=>exact .none|returning=>exact .none|panicking hc=>
    cases hc with
    |nil=>exact .none|cons hp ht=>
     rename_i p p' Y W;obtain⟨v,r,x⟩:=p;obtain⟨v',r',x'⟩:=p';obtain⟨U,aa,ab⟩:=hp;subst aa ab;cases r'<;>cases x'<;>first|exact .none|skip
     exact .some ⟨U,.cons hf h1 (.inr B) (.cons ⟨O.fn,O.tmps,O.todo,O.defers,.panicking (.cons ⟨U,rfl,rfl⟩ ht),O.round⟩ g1 g2 g3)⟩
theorem fe(fr:Frame)(v:Value):(fr.finish v).roundOf=fr.roundOf:=by
 unfold fk;split<;>rfl
theorem om(fr:Frame)(v:List PanicEntry):(fr.raise v).roundOf=fr.roundOf:=by
 unfold fb;split<;>rfl
theorem gW(fr:Frame)(v:Value):(fr.finish v).fn=fr.fn:=by
 unfold fk;split<;>rfl
theorem uf(fr:Frame)(v:List PanicEntry):(fr.raise v).fn=fr.fn:=by
 unfold fb;split<;>rfl
theorem tw{dx:Ren}{f:aX}{c:Prop}[Decidable c]{es₁:Array Event}(h:∀e∈es₁,oG dx e):∀e∈aR P f (if c then #[]else es₁)++#[],oG dx e:=by
 intro e B;have:=mem_seen B;split at this;simp at this;exact h e this
theorem La(hE:tA P m)(U:dR P m T (fr::cs) (fr'::cs')){s s':Sem Go.Next}(hs:lr P (gT P) m s s'){w w':World}(hw:WR m w w')(ae:Al w w'){fg:Frame}{fh:List Frame}{w₁:World}{es:Array Event}
  (h:cI P true fr cs none s w=.go (G fg fh) w₁ es):nO P m T (cI P true fr' cs' none s' w') w' fg fh w₁:=by
 have hr:=hs.run w w' #[] hw ae;unfold cI at h⊢;simp only[if_true]at h⊢;rcases hrt:s.runT P w #[]with⟨r,ar⟩;have af:s.run P w=r:=by rw[<-cM P s w #[],hrt]
 rw[af]at hr;rw[hrt]at h;have au:=Tm U.qc
 cases r with
 |ok n wn=>
  obtain⟨dx,n',aa,es₁,e1,W,e3,e4,_,e6,e7⟩:=hr;rw[e1];simp only[a8]at h⊢
  have out:∀{X:Array Event}{g g':Frame}{c c':List Frame},dR P dx T (g::c) (g'::c')->cK X (.go {frame:=g,callers:=c,status:=.running,dying:=none} wn)=.go (G fg fh) w₁ es->
    nO P m T (cK (aR P fr'.fn (if(fr'.kind==CallKind.early)=true then #[]else es₁)) (.go {frame:=g',callers:=c',status:=.running,dying:=none} aa)) w' fg fh w₁:=by
   intro X g g' c c' ab hh;simp only[cK,G,hI,Goroutine.mk.injEq]at hh;obtain⟨⟨rfl,rfl,_⟩,rfl,_⟩:=hh;exact⟨dx,g',c',aa,_,rfl,W,ab,e4,e6,tw e7⟩
  cases e3 with
  |value hv=>
   have O:=(U.qc.mono W).finish hv;exact out (U.set W O.1 O.2.1 O.2.2 (fe _ _) (gW _ _)) h
  |skip=>
   have O:=(U.qc.mono W).finish (.undef dx);exact out (U.set W O.1 O.2.1 O.2.2 (fe _ _) (gW _ _)) h
  |enter O ac ha=>
   have ab:=(U.mono W).push (Cu ((hE.mono W).calls _ O) ac ha .normal .normal) rfl (.inl rfl);have Y:=U.qc.todo;obtain⟨fn,tm,td,df,md,kd,rd⟩:=fr;obtain⟨ag,ah,ai,aj,ak,am,an⟩:=fr';simp only at Y
   cases Y with
   |nil=>exact out ab h|cons hi _=>cases hi<;>exact out ab h
  |round hl Y ha ac=>
   rename_i l l' f t t' a c;have ao:fL dx (fa l f t a c .normal) (fa l' f t' a c .normal):=⟨rfl,Y,.cons (.code _ ha) (.cons .beginRound (.cons (.code _ ac) .nil)),.nil,.run,.some hl⟩;exact out ((U.mono W).push ao rfl (.inl rfl)) h
  |defer hd=>
   have ap:fL dx {fr with defers:=_::fr.defers} {fr' with defers:=_::fr'.defers}:=⟨U.qc.fn,U.qc.tmps.mono W,(U.qc.mono W).todo,.cons hd (U.qc.mono W).defers,(U.qc.mono W).mode,(U.qc.mono W).round⟩;have O:=ap.finish (.undef dx);exact out (U.set W O.1 O.2.1 O.2.2 (fe _ _) (gW _ _)) h
  |recover=>
   have aq:=U.mono W;have Y:=tZ aq;have ad:=U.qc.round;obtain⟨fn,tm,td,df,md,kd,rd⟩:=fr;obtain⟨ag,ah,ai,aj,ak,am,an⟩:=fr';simp only at ad
   cases ad with
   |none=>
    dsimp only at h⊢;revert Y h;generalize aO _ _=p;generalize aO _ _=p';intro h Y
    cases Y with
    |none=>
     have O:=(U.qc.mono W).finish (.nilIface (m:=dx));exact out (U.set W O.1 O.2.1 O.2.2 (fe _ _) (gW _ _)) h
    |some hx=>
     rename_i x y;obtain⟨v,c⟩:=x;obtain⟨v',c'⟩:=y;have O:=(U.qc.mono W).finish hx.1;exact out (hx.2.set (.refl dx) O.1 O.2.1 O.2.2 (fe _ _) (gW _ _)) h
   |some av=>
    dsimp only at h⊢;rw[if_pos hE.Sp]at h⊢;revert Y h;generalize aO _ _=p;generalize aO _ _=p';intro h Y
    cases Y with
    |none=>
     have O:=(U.qc.mono W).finish (.nilIface (m:=dx));exact out (U.set W O.1 O.2.1 O.2.2 (fe _ _) (gW _ _)) h
    |some hx=>
     rename_i x y;obtain⟨v,c⟩:=x;obtain⟨v',c'⟩:=y;have O:=(U.qc.mono W).finish hx.1;exact out (hx.2.set (.refl dx) O.1 O.2.1 O.2.2 (fe _ _) (gW _ _)) h
  |spawn aw hd=>
   exfalso;dsimp only at h;generalize aR P fr.fn _=X at h;rw[apply_ite (cK X)]at h
   have key:∀(c:Prop)[Decidable c] (A B C:GStep),(if c then A else B)=C->A=C\/B=C:=by
    intro c _ A B C hh;split at hh;exact .inl hh;exact .inr hh
   rcases key _ _ _ _ h with h|h
   simp[aU,bj,cK,G]at h;simp[cK]at h
  |comm bl sh hq hc=>cases h
 |halt x wn=>
  cases x with
  |panic v=>
   obtain⟨dx,v',aa,es₁,e1,W,e3,e4,_,e6,e7⟩:=hr;rw[e1];simp only[a8]at h⊢;have O:=(U.qc.mono W).raise (vs:=[{v,recovered:=false}]) (vs':=[{v:=v',recovered:=false}]) (.cons ⟨e3,rfl,rfl⟩ .nil);obtain⟨⟨rfl,rfl,_⟩,rfl,_⟩:=h;exact⟨dx,_,cs',aa,_,rfl,W,U.set W O.1 O.2.1 O.2.2 (om ..) (uf ..),e4,e6,tw e7⟩
  |unsupported u=>cases u<;>first|exact hr.elim|cases h
  |stuck y=>cases h
  |throw y=>simp[aU,bj,cK,G]at h|_=>exact hr.elim
end
variable {t t':Array Value} {l l':Nat}
section
variable {P:Program} {m:Ren} {T:List Frame}
theorem yE(id:Nat):∀{k k':List Item},dQ (jw m) k k'->l8 (dQ (jw m)) (bn id k) (bn id k')
 |_,_,.nil=>.none|_,_,.cons hi h=>by
  cases hi with
  |inBlock i=>
   unfold bn;split;exact .some h;exact yE id h
  |_=>unfold bn;exact yE id h
theorem pN{ok:Oper->Prop}(l:Nat):∀(c c':Code),fF ok c->bg c l=some c'->fF ok c'
 |.seq a b,c',h,e=>by
  unfold bg at e
  cases B:bg a l with
  |some r=>
   rw[B]at e;simp only[gi]at e;subst e;exact⟨pN l a r h.1 B,h.2⟩
  |none=>
   rw[B]at e;exact pN l b c' h.2 e
 |.label l',c',h,e=>by
  unfold bg at e;split at e
  cases e;trivial
  cases e
 |.skip,_,_,e|.region ..,_,_,e|.cond ..,_,_,e|.block ..,_,_,e|.loop ..,_,_,e|.rangeFunc ..,_,_,e|.exit ..,_,_,e|.scope ..,_,_,e|.goto ..,_,_,e|.ret,_,_,e|.refuse ..,_,_,e=>by cases e
theorem zV(l:Nat):∀{k k':List Item},dQ (jw m) k k'->l8 (dQ (jw m)) (bm l k) (bm l k')
 |_,_,.nil=>.none|_,_,.cons hi h=>by
  cases hi with
  |inScope c B=>
   unfold bm
   cases O:bg c l with
   |none=>exact zV l h|some r=>exact .some (.cons (.code r (pN l c r B O)) (.cons (.inScope c B) h))
  |_=>unfold bm;exact zV l h
theorem lK(ops:Array Oper)(h:ep m t t')(j:Nat):bc ops t' j=bc ops t j:=by
 unfold bc
 cases(ops[j]?).bind _ with
 |none=>rfl|some d=>
  simp only[gt]
  cases O:t[d]? with
  |none=>rw[h.get_none O]|some v=>
   obtain⟨v',B,U⟩:=h.get O;rw[B];cases U<;>first|rfl|skip
   rename_i W;cases v'<;>first|rfl|exact W.elim
theorem lJ{fn:Func}(h:ep m t t'):dv P VR m (bz fn t) (bz fn t'):=by
 unfold bz;rw[a0,a0];simp only[map_eq_pure_bind,bind_assoc,pure_bind];refine dB (sD (Q:=VR) (λ_ _ _ _ h x=>x.mono h) _ m λr _ m' Y=>?_) λm' a c _ U=>?_
 cases r with
 |tmp t=>exact .pure ((h.mono Y).getD t)|cell a t=>exact BM ((h.mono Y).getD a) λp p' hp=>AY hp
 refine .pure ?_;have B:ep m' .. := U;by_cases O:a.toArray.size=1;have W:c.toArray.size=1:=by rw[<-B.size];exact O
 rw[dif_pos O,dif_pos W];exact B.idx 0 ..;have W:¬c.toArray.size=1:=by rw[<-B.size];exact O
 rw[dif_neg O,dif_neg W];exact .kS B
theorem Ej{o o':List PanicEntry}(h:dQ (RN m) o o'):dQ (RN m) (o.dropWhile (!·.goexit)) (o'.dropWhile (!·.goexit)):=by
 induction h with
 |nil=>exact .nil|cons B _ O=>
  simp only[List.dropWhile_cons,B.ex];split;exact O;exact .cons B ‹_›
theorem IF{fr fr' c c':Frame}{cs cs':List Frame}(hS:dR P m T (fr::c::cs) (fr'::c'::cs'))(hk:fr'.kind=fr.kind)(ho:IL fr.kind)(U:dR P m T (c::cs) (c'::cs')){v v':Value}(hv:VR m v v'){main main':Bool}{w w':World}(hw:WR m w w'){fg:Frame}{fh:List Frame}{w₁:World}{es:Array Event}
  (h:aP P main fr (c::cs) none v w=.go (G fg fh) w₁ es):∃B,aP P main' fr' (c'::cs') none v' w'=.go (G B cs') w'/\dR P m T (fg::fh) (B::cs')/\w₁=w:=by
 unfold aP at h⊢;rw[hk];rcases ho with ho|ho
 rw[ho]at h⊢;obtain⟨⟨rfl,rfl,_⟩,rfl,_⟩:=h;have hf:=U.qc.finish hv;exact⟨_,rfl,U.set (.refl m) hf.1 hf.2.1 hf.2.2 (fe ..) (gW ..),rfl⟩;rw[ho]at h⊢;have hm:=U.qc.mode;obtain⟨ah,ai,aj,ak,ar,am,an⟩:=c;obtain⟨Y,aa,ab,ac,aq,ad,ae⟩:=c'
 have kQ:∀{md O},s7 m md O->dR P m T (⟨ah,ai,aj,ak,md,am,an⟩::cs) (⟨Y,aa,ab,ac,O,ad,ae⟩::cs'):=λaf=>
  U.set (.refl m) ⟨U.qc.fn,U.qc.tmps,U.qc.todo,U.qc.defers,af,U.qc.round⟩ rfl rfl rfl rfl
 have fin:∀{md O},s7 m md O->GStep.go (G ⟨ah,ai,aj,ak,md,am,an⟩ cs) w=.go (G fg fh) w₁ es->∃B,GStep.go (G ⟨Y,aa,ab,ac,O,ad,ae⟩ cs') w'=.go (G B cs') w'/\dR P m T (fg::fh) (B::cs')/\w₁=w:=by
  intro md O af hh;obtain⟨⟨rfl,rfl,_⟩,rfl,_⟩:=hh;exact⟨_,rfl,kQ af,rfl⟩
 cases hm with
 |run=>exact fin .run h|returning=>exact fin .returning h|panicking ao=>
  cases ao with
  |nil=>exact fin (.panicking .nil) h|cons hp ht=>
   rename_i p p' ag W;obtain⟨pv,pr,px⟩:=p;obtain⟨au,ap,av⟩:=p';obtain⟨h1,h2,h3⟩:=hp;subst h2 h3
   cases ap with
   |false=>
    have hp:RN m .. := ⟨h1,rfl,rfl⟩;exact fin (.panicking (.cons hp ht)) h
   |true=>
    have hd:=Ej ht;simp only at h⊢;revert hd h;generalize ag.dropWhile _=o;generalize W.dropWhile _=o';intro h hd
    cases hd with
    |nil=>exact fin .returning h|cons hq hr=>exact fin (.panicking (.cons hq hr)) h
theorem p9{γ δ:Type}{RB:Ren->γ->δ->Prop}(O:m.blk l=some l'){f:Loop->Sem γ}{f':Loop->Sem δ}(h:∀p B,vW m p B->dv P RB m (f p) (f' B)):dv P RB m (bO l >>= f) (bO l' >>= f'):=by
 refine fI O λo o' U=>?_;cases U<;>first|exact .dy trivial|exact h _ _ ‹_›
theorem nt{l:Loop}:∀x y z,Obj.loop l≠.cells x y z:=nofun
theorem GL(O:m.blk l=some l'){j:Option Code}(U:∀c,j=some c->fF m.ok c):dv P VR m (bD l j) (bD l' j):=by
 refine p9 O λp W B=>jD O (.loop ⟨rfl,rfl,U,B.fn,B.tmps,B.params,B.assign,B.body,B.Tu,B.wP,B.defers⟩) nt (.pure (.bool _))
theorem CX(O:m.blk l=some l'):dv P xR m (bH l) (bH l'):=by
 refine p9 O λp U B=>jD O (.loop ⟨rfl,B.pending,B.TO,B.fn,B.tmps,B.params,B.assign,B.body,B.Tu,B.wP,B.defers⟩) nt ?_;rw[<-B.state];cases p.state<;>first|exact .pure trivial|exact fl (e:=.error _) trivial
theorem LG(O:m.blk l=some l'):dv P (λm a b=>a=b/\∀c,a=some c->fF m.ok c) m (cm l) (cm l'):=by
 refine p9 O λp U B=>?_
 have fin:dv P (λm a b=>a=b/\∀c,a=some c->fF m.ok c) m (do setObj l (.loop {p with state:=.exhausted});pure _) (do setObj l' (.loop {U with state:=.exhausted});pure _):=
  jD O (.loop ⟨rfl,B.pending,B.TO,B.fn,B.tmps,B.params,B.assign,B.body,B.Tu,B.wP,B.defers⟩) nt (.pure ⟨B.pending,B.TO⟩)
 rw[<-B.state];exact dF (λ_=>dS (e:=.error _) trivial) (λ_=>fin)
theorem yf(U:m.blk l=some l'){d d':Deferred}(W:DR m d d'):dv P xR m (bL l d) (bL l' d'):=by
 refine p9 U λp p' O=>fI O.defers λo o' Y=>?_
 cases Y with
 |deferred B=>exact pJ O.defers (.deferred (.cons W B)) (nofun)|eT=>exact .dy trivial|_=>exact .dy trivial
theorem y8(O:m.blk l=some l'):dv P (λm=>dQ (DR m)) m (bF l) (bF l'):=by
 refine fI O λo o' U=>?_
 cases U with
 |deferred B=>exact jD O .eT (nofun) (.pure B)|_=>exact .dy trivial
theorem Gw{fn:aX}(W:ep m t t'){ps:Array Tmp}{a c:Code}(Y:fF m.ok a)(hc:fF m.ok c){r r':Option Nat}(hr:l8 (λx y=>m.blk x=some y) r r'):dv P (λm x y=>m.blk x.1=some y.1/\dQ (DR m) x.2 y.2) m (bY fn t ps a c r) (bY fn t' ps a c r'):=by
 have fin:∀{m':Ren}{q O:Nat}{d d':List Deferred},m.Le m'->m'.blk q=some O->dQ (DR m') d d'->dv P (λm x y=>m.blk x.1=some y.1/\dQ (DR m) x.2 y.2) m' (do pure (<-bt (.loop {state:=.ready,pending:=none,fn,tmps:=t,params:=ps,assign:=a,body:=c,defers:=q}),d)) (do pure (<-bt (.loop {state:=.ready,pending:=none,fn,tmps:=t',params:=ps,assign:=a,body:=c,defers:=O}),d')):=by
  intro m' q O d d' B hq hd;exact dv.new (.loop ⟨rfl,rfl,(nofun),rfl,W.mono B,rfl,rfl,rfl,B.ok▸Y,B.ok▸hc,hq⟩) (nofun) λaa i i' U hb _=>.pure ⟨hb,hd.mono λ_ _ x=>x.mono U⟩
 cases hr with
 |some hx=>exact p9 hx λp p' hp=>fin (.refl m) hp.defers .nil|none=>exact dv.new (.deferred .nil) (nofun) λm' i i' B hb _=>fin B hb (.cons ⟨.collected hb,.nil m'⟩ .nil)
end
variable {X es:Array Event} {fg:Frame} {fh:List Frame} {dx:Ren} {w w' w₁:World}
structure l6(P:Program)(m:Ren)(gl:Nat->Prop)(st:Bool):Prop where
 env:tA P m
 strict:st=true->gJ m
 il:False->m.il
 ou:∀g,gl g->m.blk g=some g
 ops:∀o,m.ok o->OkOp P m.fw gl st o.op
theorem l6.mono{P:Program}{m m':Ren}{gl:Nat->Prop}{st:Bool}(h:m.Le m')(x:l6 P m gl st):l6 P m' gl st:=
 ⟨x.env.mono h,λs=>(x.strict s).mono h,nofun,λg B=>h.blk _ _ (x.ou g B),λo O=>h.fw▸x.ops o (h.ok▸O)⟩
def AtClose(fr:Frame):Prop:=fr.mode≠.run/\∃a t c args ds,fr.defers={target:=.builtin .close a t c,args}::ds
section
variable {P:Program} {m:Ren} {T:List Frame} {gl:Nat->Prop} {st:Bool}
theorem ud{s:GStep}{g:Goroutine}(h:cK X s=.go g w es):∃B,s=.go g w B:=by
 cases s<;>simp[cK]at h;obtain⟨rfl,rfl,_⟩:=h;exact⟨_,rfl⟩
theorem QG(hl:m.Le dx)(hS:dR P dx T (fr::cs) (fr'::cs'))(hn:cs=[door P]->fr.roundOf=none->False){v v':Value}(hv:VR dx v v'){main':Bool}{B:World}(hw:WR dx w B)(hk:fA m dx w' B){X':Array Event}(W:∀e∈X',oG dx e)
  (h:cK X (aP P true fr cs none v w)=.go (G fg fh) w₁ es):nO P m T (cK X' (aP P main' fr' cs' none v' B)) w' fg fh w₁:=by
 obtain⟨aa,h⟩:=ud h
 cases hS with
 |one hf Y h2 U=>exact(hn rfl U).elim|cons hf Y h2 U=>
  obtain⟨O,e1,e2,e3⟩:=IF (.cons hf Y h2 U) Y h2 U hv (main:=true) (main':=main') hw h;subst e3;rw[e1];exact⟨dx,O,_,B,_,rfl,hl,e2,hw,hk,by simpa using W⟩
theorem mX{f:aX}{es₁:Array Event}(h:∀e∈es₁,oG dx e):∀e∈aR P f es₁,oG dx e:=λe B=>h e (mem_seen B)
theorem still{g g':Frame}(B:WR m w w')(O:dR P m T (g::cs) (g'::cs'))
  (h:GStep.go {frame:=g,callers:=cs,status:=.running,dying:=none} w=.go (G fg fh) w₁ es):nO P m T (GStep.go {frame:=g',callers:=cs',status:=.running,dying:=none} w') w' fg fh w₁:=by
 obtain⟨⟨rfl,rfl,_⟩,rfl,_⟩:=h;exact⟨m,g',cs',w',#[],rfl,.refl m,O,B,.refl m w',by simp⟩
theorem GJ(h:fL m fr fr'){k k':List Item}(B:dQ (jw m) k k'):fL m {fr with todo:=k} {fr' with todo:=k'}:=⟨h.fn,h.tmps,B,h.defers,h.mode,h.round⟩
theorem Sj(h:fL m fr fr'){k k':FrameMode}(B:s7 m k k'):fL m {fr with mode:=k} {fr' with mode:=k'}:=⟨h.fn,h.tmps,h.todo,h.defers,B,h.round⟩
theorem nO.after{s':GStep}{B:World}(W:m.Le dx)(Y:fA m dx w' B)(hX:∀e∈X,oG dx e)(h:nO P dx T s' B fg fh w₁):nO P m T (cK X s') w' fg fh w₁:=by
 obtain⟨m₂,f,c,O,es,rfl,U,h3,h4,h5,h6⟩:=h;refine⟨m₂,f,c,O,X++es,rfl,W.trans U,h3,h4,Y.trans W U h5,λe he=>?_⟩;rcases a9.1 he with x|x
 exact(hX e x).mono U;exact h6 e x
theorem MQ{ρ ρ':Operand->Value}(U:∀x,dP m.fw gl x->VR m (ρ x) (ρ' x)){c:Call}(hc:(∀x∈c.operands.toList,dP m.fw gl x)/\match c.callee with|.value _=>True|.builtin b=>b=.close/\m.il|_=>False)(t:aN):dv P DR m (bk ρ c t) (bk ρ' c t):=by
 obtain⟨B,O⟩:=hc;obtain⟨callee,args,ats⟩:=c
 cases callee with
 |invoke r n=>exact O.elim|builtin bb=>
  have W:=kh U λx Y=>B x (by simp[gv];simpa using Y);obtain⟨O,aa⟩:=O;subst O;exact .pure ⟨.builtin _ _ _ aa,W⟩
 |value f=>
  have W:=kh U λx Y=>B x (by simp[gv];exact .inr (by simpa using Y));exact(oZ (U f (B f (by simp[gv]))) W).mono λ_ _ _ _ h=>h.1
theorem KH{r:Nat}(B:m.dead r)(O:WR m w w'):∃x w₁,(bF r).run P w=.halt x w₁:=by
 obtain⟨_,c,e,f,U⟩:=O.dead r B;unfold bF;exact⟨_,_,by simp only[getObj,bind,Sem.bind,cL,U];rfl⟩
theorem mY(s:GStep):cK #[] s=s:=by cases s<;>simp[cK]
end
variable {P:Program} {m:Ren} {s:Sem Go.Next} {α β:Type}
def tp(w:World)(τ:Nat->Question->Nat):World:={w with tape:=τ}
def CH{α:Type}:Result α->World
 |.ok _ w=>w|.halt _ w=>w
def xM{α:Type}(P:Program)(s:Sem α)(w:World)(τ:Nat->Question->Nat):Result α->Prop
 |.ok a w₁=>s.run P (tp w τ)=.ok a (tp w₁ τ)|.halt (.panic v) w₁=>s.run P (tp w τ)=.halt (.panic v) (tp w₁ τ)|_=>True
def uD(τ:Nat->Question->Nat)(w w₁:World):Prop:=∀i,w.drawn<=i->i<w₁.drawn->τ i=w.tape i
def RO{α:Type}(P:Program)(s:Sem α)(w:World):Prop:=
 w.drawn<=(CH (s.run P w)).drawn/\(CH (s.run P w)).tape=w.tape/\∀τ,uD τ w (CH (s.run P w))->xM P s w τ (s.run P w)
def Loc{α:Type}(P:Program)(s:Sem α)(w:World):Prop:=(∃x w₁,s.run P w=.halt x w₁/\jY x)\/RO P s w
theorem Loc.step{s:Sem α}{k:Sem α}(h:Loc P k w₁)(e:s.run P w=k.run P w₁)(hd:w₁.drawn=w.drawn)(ht:w₁.tape=w.tape)(O:∀τ,s.run P (tp w τ)=k.run P (tp w₁ τ)):Loc P s w:=by
 rcases h with⟨x,U,W,Y⟩|⟨W,Y,h3⟩
 exact .inl ⟨x,U,e.trans W,Y⟩;refine .inr ⟨by rw[e,<-hd];exact W,by rw[e,Y,ht],λτ B=>?_⟩;rw[e]at B⊢;have:=h3 τ λi a b=>by rw[ht];exact B i (hd▸a) b
 revert this
 cases k.run P w₁ with
 |ok a w2=>intro h;show s.run P _=_;rw[O];exact h|halt x w2=>cases x<;>intro h<;>first|trivial|(show s.run P _=_;rw[O];exact h)
theorem dv.loc{RA:Ren->α->β->Prop}{s:Sem α}{s':Sem β}(h:dv P RA m s s'):∀(w w':World),WR m w w'->Loc P s w:=by
 induction h with
 |dy hd=>exact λw w' _=>.inl (hd.run w)|pure hr=>exact λw w' _=>.inr ⟨ei _,rfl,λτ _=>rfl⟩|@load m a a' k k' ha _ O=>
  intro w w' B
  cases Y:w.cell? a with
  |some v=>
   obtain⟨v',aj,hv⟩:=B.cell ha Y;refine(O v v' hv w w' B).step (by simp only[cL,Y]) rfl rfl λτ=>?_;have aa:(tp w τ).cell? a=some v:=Y;simp only[cL,aa]
  |none=>
   obtain⟨y,hy⟩:=B.N6 ha Y P (Mode.plain==.atomic);exact .inl ⟨.stuck y,w,by simp only[cL,Y,hy],trivial⟩
 |@store m a a' v v' k k' ha hv _ O=>
  intro w w' B;by_cases U:∃c,v=.agg c
  .obtain⟨c,rfl⟩:=U;exact .inl ⟨.stuck "store: not the value of one cell",w,by simp only[cL],trivial⟩
  by_cases h2:∃c,v=.tuple c
  .obtain⟨c,rfl⟩:=h2;exact .inl ⟨.stuck "store: not the value of one cell",w,by simp only[cL],trivial⟩
  have e1:∀w:World,(Sem.store Mode.plain a v k).run P w=match w.cell? a with
    |some _=>if w.frozen? a then .halt (.unsupported (.unsafePointer "a write to bytes that a string shares")) w else k.run P (w.setCell a v)|none=>match w.farStore P a v (Mode.plain==.atomic)with
     |.ok (w,_)=>k.run P w|.error h=>.halt h w:=by
   intro w;rw[cL];rfl;exact λc e=>U ⟨c,e⟩;exact λc e=>h2 ⟨c,e⟩
  cases Y:w.cell? a with
  |none=>
   obtain⟨y,hy⟩:=B.JI ha Y P v (Mode.plain==.atomic);exact .inl ⟨.stuck y,w,by rw[e1,Y];simp only[hy],trivial⟩
  |some u=>
   by_cases hf:w.frozen? a=true;exact .inl ⟨.unsupported (.unsafePointer "a write to bytes that a string shares"),w,by rw[e1,Y];simp only[hf,if_true],trivial⟩;refine(O (w.setCell a v) _ (B.setCell ha hv λah=>by cases v<;>first|exact ah.elim|exact U ⟨_,rfl⟩|exact h2 ⟨_,rfl⟩)).step (by rw[e1,Y];simp only[hf,if_false,ee]) rfl rfl λτ=>?_;have aa:(tp w τ).cell? a=some u:=Y;have ai:¬(tp w τ).frozen? a=true:=hf;rw[e1,aa];simp only[ai,if_false,ee];rfl
 |@new m o o' k k' ho Y _ O=>
  intro w w' B;have ab:=Ren.uO B.gM B.lI B.S4;have ac:(m.ext w.heap.size w'.heap.size B.gM B.lI B.S4).blk w.heap.size=some w'.heap.size:=by simp[Ren.ext]
  exact(O _ _ _ ab ac (by simp[Ren.ext]) {w with heap:=w.heap.push o} _ (B.push ho Y)).step rfl rfl rfl λτ=>rfl
 |@pS m c b x s r t c' b' x' s' r' t' k k' ak _ O=>
  intro w w' B;have ab:=Ren.xB B.pW B.n9;have ac:(m.sQ w.heap.size w'.heap.size B.pW B.n9).ch w.heap.size=some w'.heap.size:=by simp[Ren.sQ]
  exact(O _ _ _ ab ac {w with heap:=w.heap.push (.chan c b x s r t)} _ (B.Pr (.chan c b x s r t) (.chan c' b' x' s' r' t'))).step rfl rfl rfl λτ=>rfl
 |shape hb _ O=>exact λw w' B=>(O _ w w' B).step rfl rfl rfl λτ=>rfl|@freeze m a a' n k k' ha hn _ O=>
  intro w w' B;refine(O (w.freeze a n) _ (B.freeze ha hn n)).step rfl (by unfold gx;split<;>rfl) (by unfold gx;split<;>rfl) λτ=>?_;have:(tp w τ).freeze a n=tp (w.freeze a n) τ:=by unfold gx;split<;>rfl
  simp only[cL,this]
 |frozen ha hn _ O=>exact λw w' B=>(O _ w w' B).step rfl rfl rfl λτ=>rfl|getObj hb _ O=>
  intro w w' B;obtain⟨x,x',U,h2,ho⟩:=B.obj _ _ hb;have W:∀τ,(tp w τ).heap[_]?=some x:=λ_=>U
  cases ho with
  |cells=>exact .inl ⟨.stuck "getObj: a row of cells",w,by simp only[cL,U],trivial⟩|map clock he=>exact(O _ _ (.map clock he) w w' B).step (by simp only[cL,U]) rfl rfl λτ=>by simp only[cL,W]
  |number l hx=>exact(O _ _ (.number l hx) w w' B).step (by simp only[cL,U]) rfl rfl λτ=>by simp only[cL,W]
  |stringIter s p=>exact(O _ _ (.stringIter s p) w w' B).step (by simp only[cL,U]) rfl rfl λτ=>by simp only[cL,W]
  |fT a b c=>exact(O _ _ (.fT a b c) w w' B).step (by simp only[cL,U]) rfl rfl λτ=>by simp only[cL,W]
  |mapIter a b c hm=>exact(O _ _ (.mapIter a b c hm) w w' B).step (by simp only[cL,U]) rfl rfl λτ=>by simp only[cL,W]
  |loop hl=>exact(O _ _ (.loop hl) w w' B).step (by simp only[cL,U]) rfl rfl λτ=>by simp only[cL,W]
  |eT=>exact(O _ _ .eT w w' B).step (by simp only[cL,U]) rfl rfl λτ=>by simp only[cL,W]
  |deferred hd=>exact(O _ _ (.deferred hd) w w' B).step (by simp only[cL,U]) rfl rfl λτ=>by simp only[cL,W]
 |@setObj m r r' o o' k k' hb ho Y _ O=>
  intro w w' B;obtain⟨x,x',U,h2,hx⟩:=B.obj _ _ hb;have W:∀τ,(tp w τ).heap[r]?=some x:=λ_=>U;rcases Classical.em (m.loose r)with ad|ad
  .obtain⟨c,e,f,hy⟩:=B.lk _ _ hb ad;exact .inl ⟨.stuck "setObj: a row of cells",w,by simp only[cL,hy],trivial⟩
  have ae:=B.turn hb ho (λc e f c' e' f' e1 _=>absurd e1 (Y c e f)) (λh=>absurd h ad) (λc e f c' e' f' e1 _=>absurd e1 (Y c e f));have fin:=O {w with heap:=w.heap.setIfInBounds r o} _ ae
  cases hx with
  |cells=>exact .inl ⟨.stuck "setObj: a row of cells",w,by simp only[cL,U],trivial⟩|_=>
   refine fin.step ?_ rfl rfl λτ=>?_;simp only[cL,U];simp only[cL,W];rfl
 |@choose m q k k' _ O=>
  intro w w' B;by_cases hf:q.forced=true;exact(O 0 w w' B).step (by simp only[cL,hf,if_true]) rfl rfl λτ=>by simp only[cL,hf,if_true]
  have e:(Sem.choose q k).run P w=(k (q.cut (w.tape w.drawn q))).run P {w with drawn:=w.drawn+1}:=by simp only[cL,hf,if_false,ee]
  rcases O (q.cut (w.tape w.drawn q)) {w with drawn:=w.drawn+1} w' (B.draw _ w'.drawn)with⟨x,ag,U,h2⟩|⟨U,h2,h3⟩
  exact .inl ⟨x,ag,e.trans U,h2⟩;refine .inr ⟨by rw[e];exact eg (ez _) U,by rw[e,h2],λτ af=>?_⟩;rw[e]at af⊢;have e0:τ w.drawn=w.tape w.drawn:=af _ (ei _) (en U)
  have e2:(Sem.choose q k).run P (tp w τ)=(k (q.cut (w.tape w.drawn q))).run P (tp {w with drawn:=w.drawn+1} τ):=by
   simp only[cL,hf,if_false,ee];show(k (q.cut (τ w.drawn q))).run P _=_;rw[e0];rfl
  have:=h3 τ λi a b=>af i (er a) b;revert this
  cases(k _).run P _ with
  |ok a w2=>intro h;show(Sem.choose q k).run P _=_;rw[e2];exact h|halt x w2=>cases x<;>intro h<;>first|trivial|(show(Sem.choose q k).run P _=_;rw[e2];exact h)
 |gone hd=>
  intro w w' B;obtain⟨_,c,e,f,hx⟩:=B.dead _ hd;exact .inl ⟨.stuck "getObj: a row of cells",w,by simp only[cL,hx],trivial⟩
 |env _ O=>exact λw w' B=>(O _ w w' B).step rfl rfl rfl λτ=>rfl|program _ O=>exact λw w' B=>(O w w' B).step rfl rfl rfl λτ=>rfl|mark hm _ O=>exact λw w' B=>(O w w' B).step rfl rfl rfl λτ=>rfl|panic hv=>exact λw w' _=>.inr ⟨ei _,rfl,λτ _=>rfl⟩
theorem align(h:WR m w w'):∃B:World,WR m w B/\Al w B/\B.heap=w'.heap:=by
 refine⟨{w' with tape:=λi q=>w.tape (i-w'.drawn+w.drawn) q},⟨h.obj,h.fz,h.all,h.Nc,h.Na,h.JQ,h.os,h.kI,h.lk,h.dead,h.rY⟩,λi q=>?_,rfl⟩;show w.tape _ q=w.tape _ q;have:w'.drawn+i-w'.drawn+w.drawn=w.drawn+i:=by omega
 rw[this]
theorem lr.loc{RA:Ren->α->β->Prop}{s:Sem α}{s':Sem β}(h:lr P RA m s s'):∀(w w':World),WR m w w'->Loc P s w:=by
 induction h with
 |base h=>exact h.loc|@bind γ δ RC m s s' f f' h _ ih=>
  intro w w' hw;obtain⟨ab,ac,ad,_⟩:=align hw;have O:=h.run w ab #[] ac (.inl ad);rcases h.loc w w' hw with⟨x,U,W,Y⟩|⟨W,Y,h3⟩
  exact .inl ⟨x,U,by rw[cO,W];rfl,Y⟩
  cases hr:s.run P w with
  |halt x wn=>
   have eb:(s.bind f).run P w=.halt x wn:=by rw[cO,hr];rfl
   rw[hr]at W Y h3 O
   cases x with
   |panic v=>
    refine .inr ⟨by rw[eb];exact W,by rw[eb];exact Y,λτ B=>?_⟩;rw[eb]at B⊢;have:=h3 τ B;show(s.bind f).run P (tp w τ)=_;rw[cO,show s.run P (tp w τ)=.halt (.panic v) (tp wn τ)from this];rfl
   |unsupported u=>cases u<;>first|exact O.elim|exact .inl ⟨_,wn,eb,trivial⟩
   |stuck y=>exact .inl ⟨_,wn,eb,trivial⟩|throw y=>exact .inl ⟨_,wn,eb,trivial⟩|_=>exact O.elim
  |ok a wn=>
   rw[hr]at W Y h3 O;obtain⟨dx,b,ae,es₁,e1,e2,e3,e4,_⟩:=O;have eb:(s.bind f).run P w=(f a).run P wn:=by rw[cO,hr];rfl
   rcases ih dx a b e2 e3 wn ae e4 with⟨x,U,g1,g2⟩|⟨g1,g2,g3⟩
   exact .inl ⟨x,U,eb.trans g1,g2⟩;refine .inr ⟨by rw[eb];exact eg W g1,by rw[eb,g2];exact Y,λτ B=>?_⟩;rw[eb]at B⊢;have ha:=h3 τ λi x y=>B i x (ek y g1);have hb:=g3 τ λi x y=>by rw[show wn.tape=w.tape from Y];exact B i (eg W x) y
   have aa:(s.bind f).run P (tp w τ)=(f a).run P (tp wn τ):=by rw[cO,ha];rfl
   revert hb
   cases(f a).run P wn with
   |ok c w2=>intro h;show(s.bind f).run P _=_;rw[aa];exact h|halt x w2=>cases x<;>intro h<;>first|trivial|(show(s.bind f).run P _=_;rw[aa];exact h)
 |@Uq m q k s' hd h=>
  intro w w' hw;by_cases hf:q.forced=true;exact((h 0).loc w w' hw).step (by simp only[cL,hf,if_true]) rfl rfl λτ=>by simp only[cL,hf,if_true]
  have e:(Sem.choose q k).run P w=(k (q.cut (w.tape w.drawn q))).run P {w with drawn:=w.drawn+1}:=by simp only[cL,hf,if_false,ee]
  rcases(h _).loc _ w' (hw.draw _ _)with⟨x,U,W,Y⟩|⟨W,Y,h3⟩
  exact .inl ⟨x,U,e.trans W,Y⟩;refine .inr ⟨by rw[e];exact eg (ez _) W,by rw[e,Y],λτ B=>?_⟩;rw[e]at B⊢;have e0:=B _ (ei _) (en W)
  have e2:(Sem.choose q k).run P (tp w τ)=(k (q.cut (w.tape w.drawn q))).run P (tp {w with drawn:=w.drawn+1} τ):=by
   simp only[cL,hf,if_false,ee];show(k (q.cut (τ w.drawn q))).run P _=_;rw[e0];rfl
  have:=h3 τ λi a b=>B i (er a) b;revert this
  cases(k _).run P _ with
  |ok a w2=>intro h;show(Sem.choose q k).run P _=_;rw[e2];exact h|halt x w2=>cases x<;>intro h<;>first|trivial|(show(Sem.choose q k).run P _=_;rw[e2];exact h)
def xr(P:Program)(s:World->GStep)(w:World)(fg:Frame)(fh:List Frame)(w₁:World):Prop:=
 w.drawn<=w₁.drawn/\w₁.tape=w.tape/\∀τ,uD τ w w₁->∃es,s (tp w τ)=.go (G fg fh) (tp w₁ τ) es
theorem gw{s:Sem α}{r:Result α}(h:s.run P w=r):∃es,s.runT P w #[]=(r,es):=by
 refine⟨(s.runT P w #[]).2,?_⟩;rw[<-h,<-cM P s w _]
theorem K5(Y:P.follows .rangeFuncRecover=true){fr:Frame}{cs:List Frame}(U:Loc P s w)(ac:∀n O,s.run P w=.ok n O->∃m n',gT P m n n')(ab:∀x O,s.run P w=.halt x O->(∃v,x=.panic v)\/jY x){es:Array Event}
  (h:cI P true fr cs none s w=.go (G fg fh) w₁ es):xr P (cI P true fr cs none s) w fg fh w₁:=by
 rcases hrt:s.runT P w #[]with⟨r,ag⟩;have W:s.run P w=r:=by rw[<-cM P s w #[],hrt]
 unfold cI at h;simp only[if_true]at h;rw[hrt]at h;rcases U with⟨x,af,h1,h2⟩|⟨h1,h2,h3⟩
 rw[W]at h1;subst h1;exfalso
 cases x with
 |unsupported u=>cases u<;>first|exact h2.elim|cases h
 |stuck y=>cases h
 |throw y=>simp[aU,bj,cK,G]at h|_=>exact h2.elim
 rw[W]at h1 h2 h3
 have fin:∀{X:Array Event}{g:Goroutine}{O:World},CH r=O->cK X (.go g O)=.go (G fg fh) w₁ es->(∀τ,xM P s w τ r->∃X',cI P true fr cs none s (tp w τ)=cK X' (.go g (tp O τ)))->xr P (cI P true fr cs none s) w fg fh w₁:=by
  intro X g O e hh hk;simp only[cK,hI]at hh;obtain⟨rfl,rfl,_⟩:=hh;subst e;refine⟨h1,h2,λτ ad=>?_⟩;obtain⟨X',e⟩:=hk τ (h3 τ ad);exact⟨_,e⟩
 have plain:∀{X:Array Event}{g:Goroutine}{O:World},CH r=O->cK X (.go g O)=.go (G fg fh) w₁ es->(∀τ es',s.runT P (tp w τ) #[]=(match r with|.ok n w=>.ok n (tp w τ)|.halt x w=>.halt x (tp w τ),es')->∃X',cI P true fr cs none s (tp w τ)=cK X' (.go g (tp O τ)))->(∃n O,r=.ok n O)\/(∃v O,r=.halt (.panic v) O)->xr P (cI P true fr cs none s) w fg fh w₁:=by
  intro X g O e hh hk hr;refine fin e hh λτ U=>?_;rcases hr with⟨n,O,rfl⟩|⟨v,O,rfl⟩
  obtain⟨e',e⟩:=gw U;exact hk τ e' e;obtain⟨e',e⟩:=gw U;exact hk τ e' e
 cases r with
 |ok n O=>
  obtain⟨m,n',hn⟩:=ac n O W
  cases hn with
  |value hv=>exact plain rfl h (λτ es' e=>by unfold cI;simp only[if_true,e];exact⟨_,rfl⟩) (.inl ⟨_,_,rfl⟩)|skip=>exact plain rfl h (λτ es' e=>by unfold cI;simp only[if_true,e];exact⟨_,rfl⟩) (.inl ⟨_,_,rfl⟩)|enter hf ae ha=>exact plain rfl h (λτ es' e=>by unfold cI;simp only[if_true,e];exact⟨_,rfl⟩) (.inl ⟨_,_,rfl⟩)|round U ht ha ae=>exact plain rfl h (λτ es' e=>by unfold cI;simp only[if_true,e];exact⟨_,rfl⟩) (.inl ⟨_,_,rfl⟩)|defer hd=>exact plain rfl h (λτ es' e=>by unfold cI;simp only[if_true,e];exact⟨_,rfl⟩) (.inl ⟨_,_,rfl⟩)|comm bl sh hq hc=>cases h
  |spawn ah hd=>
   exfalso;clear plain fin h1 h2 h3 hrt W;dsimp only at h;generalize aR P fr.fn _=X at h;rw[apply_ite (cK X)]at h
   have key:∀(c:Prop)[Decidable c] (A B C:GStep),(if c then A else B)=C->A=C\/B=C:=by
    intro c _ A B C hh;split at hh;exact .inl hh;exact .inr hh
   rcases key _ _ _ _ h with h|h
   simp[aU,bj,cK,G]at h;simp[cK]at h
  |recover=>
   clear plain;obtain⟨fn,tm,td,df,md,kd,rd⟩:=fr
   cases rd with
   |none=>
    dsimp only at h;revert h;generalize aa:aO _ cs=p;intro h
    cases p with
    |none=>
     refine fin rfl h λτ U=>?_;obtain⟨e',e⟩:=gw U;unfold cI;simp only[if_true,e];rw[aa];exact⟨_,rfl⟩
    |some x=>
     obtain⟨v,c⟩:=x;refine fin rfl h λτ U=>?_;obtain⟨e',e⟩:=gw U;unfold cI;simp only[if_true,e];rw[aa];exact⟨_,rfl⟩
   |some l=>
    dsimp only at h;rw[if_pos Y]at h;revert h;generalize aa:aO _ cs=p;intro h
    cases p with
    |none=>
     refine fin rfl h λτ U=>?_;obtain⟨e',e⟩:=gw U;unfold cI;simp only[if_true,e,Y];rw[aa];exact⟨_,rfl⟩
    |some x=>
     refine fin rfl h λτ U=>?_;obtain⟨e',e⟩:=gw U;unfold cI;simp only[if_true,e,Y];rw[aa];exact⟨_,rfl⟩
 |halt x O=>
  cases x with
  |panic v=>exact plain rfl h (λτ es' e=>by unfold cI;simp only[if_true,e];exact⟨_,rfl⟩) (.inr ⟨_,_,rfl⟩)|stuck y=>cases h
  |throw y=>simp[aU,bj,cK,G]at h|unsupported u=>
   rcases ab _ _ W with⟨v,hv⟩|hv
   cases hv
   cases u<;>first|exact hv.elim|cases h
  |_=>
   rcases ab _ _ W with⟨v,hv⟩|hv
   cases hv;exact hv.elim
theorem lr.outs{s':Sem Go.Next}(h:lr P (gT P) m s s')(hw:WR m w w'):(∀n B,s.run P w=.ok n B->∃m n',gT P m n n')/\(∀x B,s.run P w=.halt x B->(∃v,x=.panic v)\/jY x):=by
 obtain⟨U,W,Y,_⟩:=align hw;have O:=h.run w U #[] W Y;constructor;intro n B e;rw[e]at O;obtain⟨dx,b,_,_,_,_,e3,_⟩:=O;exact⟨dx,b,e3⟩;intro x B e;rw[e]at O;cases x<;>first|exact .inl ⟨_,rfl⟩|exact .inr O
end
section
open Go.Conc
variable {d':Deferred} {fr fr':Frame} {cs cs':List Frame} {s':Sem Go.Next} {w' w₁:World}
def kR(P:Program)(d:Deferred):Goroutine:={frame:={(default:Frame)with fn:=P.funcs.size,defers:=[d],mode:=.panicking [br]},callers:=[],status:=.running,dying:=none}
inductive po(P:Program):GStep->Prop
 |go (g c w es):po P (.go (G g c) w es)|ended (o w es):po P (.ended o w es)|dies (g w es):Goroutine.dyingOn P g->po P (.go g w es)|comm (g c k b s w es):po P (.comm (G g c) k b s w es)|spawn (g c d w es):po P (.spawn (G g c) (kR P d) w es)
theorem po.after{P:Program}{s:GStep}(h:po P s)(X:Array Event):po P (cK X s):=by
 cases h with
 |go g c w es=>exact .go ..|ended o w es=>exact .ended ..|dies g w es h=>exact .dies _ _ _ h|comm g c k b s w es=>exact .comm ..|spawn g c d w es=>exact .spawn ..
theorem sM{P:Program}(fr:Frame)(y:String)(w:World):po P (aU fr y w):=.dies _ _ _ (dieOf_okD (P:=P) fr [] y false w)
section
variable {P:Program} {m:Ren} {T:List Frame} {gl:Nat->Prop} {st:Bool}
def J8(P:Program)(m:Ren)(T:List Frame)(s':GStep)(w':World)(g:Goroutine)(k:Array CommCase)(b:Bool)(sh:CommShape)(w₁:World):Prop:=
 ∃fr cs dx fr' cs' k' B es,g=G fr cs/\s'=.comm (G fr' cs') k' b sh B es/\(m.il\/JB k b sh)/\m.Le dx/\dR P dx T (fr::cs) (fr'::cs')/\dQ (AQ dx) k.toList k'.toList/\WR dx w₁ B/\fA m dx w' B/\∀e∈es,oG dx e
def Kg(P:Program)(m:Ren)(T:List Frame)(s':GStep)(w':World)(g ch:Goroutine)(w₁:World):Prop:=
 ∃fr cs d dx fr' cs' d' B es,g=G fr cs/\ch=kR P d/\s'=.spawn (G fr' cs') (kR P d') B es/\m.il/\m.Le dx/\dR P dx T (fr::cs) (fr'::cs')/\DR dx d d'/\WR dx w₁ B/\fA m dx w' B/\∀e∈es,oG dx e
theorem I1(h:fL m fr fr'):fr'.noResult P=fr.noResult P:=by
 have B:=h.todo;unfold Frame.noResult
 have:fr'.oper?=fr.oper?:=by
  unfold fm;revert B;generalize fr.todo=l;generalize fr'.todo=l';intro B
  cases B with
  |nil=>rfl|cons hi _=>
   cases hi with
   |inRegion ops t O=>cases t<;>rfl
   |_=>rfl
 rw[this]
theorem zR{d:Deferred}(h:DR m d d'):((d'.target matches .nil):Bool)=(d.target matches .nil):=by
 have:=h.target;revert this;generalize d.target=a;generalize d'.target=b;intro x;cases x<;>rfl
theorem I'{d:Deferred}(h:DR m d d'):d'.args.isEmpty=d.args.isEmpty:=by
 have:=h.args.size;simp[aA,this]
theorem Iz(ac:P.follows .rangeFuncRecover=true){s:Sem Go.Next}{w:World}(aa:∀n W,s.run P w=.ok n W->∃m n',gT P m n n')(Y:∀x W,s.run P w=.halt x W->(∃v,x=.panic v)\/jY x):po P (cI P true fr cs none s w):=by
 rcases hrt:s.runT P w _ with⟨r,ad⟩;have U:s.run P w=r:=by rw[<-cM P s w _,hrt]
 unfold cI;rw[hrt];refine po.after ?_ _
 cases r with
 |ok n W=>
  obtain⟨m,n',hn⟩:=aa n W U
  cases hn with
  |value O=>exact .go ..|skip=>exact .go ..|enter hf ab ha=>exact .go ..|round hl ht ha ab=>exact .go ..|defer hd=>exact .go ..|comm bl sh hq hc=>exact .comm ..|spawn ae hd=>
   have key:∀(c:Prop)[Decidable c] (A B:GStep),po P A->po P B->po P (if c then A else B):=by
    intro c _ A B h1 h2;split;exact h1;exact h2
   exact key _ _ _ (sM ..) (.spawn ..)
  |recover=>
   obtain⟨fn,tm,td,df,md,kd,rd⟩:=fr
   cases rd with
   |none=>
    dsimp only;split<;>exact .go ..
   |some l=>
    dsimp only;split<;>exact .go ..
 |halt x W=>
  cases x with
  |panic v=>exact .go ..|stuck y=>exact .ended ..|throw y=>exact sM ..|unsupported u=>
   rcases Y _ _ U with⟨v,O⟩|O
   cases O
   cases u<;>first|exact O.elim|exact .ended ..
  |_=>
   rcases Y _ _ U with⟨v,O⟩|O
   cases O;exact O.elim
theorem GP(hE:tA P m)(hS:dR P m T (fr::cs) (fr'::cs')){s:Sem Go.Next}(hs:lr P (gT P) m s s'){w:World}(hw:WR m w w')(Y:Al w w'){g:Goroutine}{k:Array CommCase}{b:Bool}{sh:CommShape}{es:Array Event}
  (h:cI P true fr cs none s w=.comm g k b sh w₁ es):J8 P m T (cI P true fr' cs' none s' w') w' g k b sh w₁:=by
 have hr:=hs.run w w' #[] hw Y;have W:=(hs.outs hw).2;unfold cI at h⊢;simp only[if_true]at h⊢;rcases hrt:s.runT P w #[]with⟨r,ab⟩;have O:s.run P w=r:=by rw[<-cM P s w #[],hrt]
 rw[O]at hr;rw[hrt]at h
 cases r with
 |ok n wn=>
  obtain⟨dx,n',aa,es₁,e1,e2,e3,e4,_,e6,e7⟩:=hr;rw[e1];simp only[a8]at h⊢
  cases e3 with
  |comm bl sh hq hc=>
   simp only[cK,GStep.comm.injEq]at h;obtain⟨rfl,rfl,rfl,rfl,rfl,_⟩:=h;exact⟨fr,cs,dx,fr',cs',_,aa,_,rfl,rfl,hq.imp (λx=>e2.il▸x) id,e2,hS.mono e2,hc,e4,e6,tw e7⟩
  |spawn ac hd=>
   have key:∀(X:Array Event)(c:Prop)[Decidable c] (A B C:GStep),cK X (if c then A else B)=C->(c/\cK X A=C)\/(¬c/\cK X B=C):=by
    intro X c _ A B C hh;split at hh;exact .inl ⟨‹_›,hh⟩;exact .inr ⟨‹_›,hh⟩
   rcases key _ _ _ _ _ h with⟨_,h⟩|⟨hc,h⟩
   simp[aU,bj,cK]at h;simp[cK]at h
  |recover=>
   obtain⟨fn,tm,td,df,md,kd,rd⟩:=fr
   cases rd with
   |none=>
    revert h;generalize aO _ cs=p;intro h;cases p<;>cases h
   |some l=>
    dsimp only at h;rw[if_pos hE.Sp]at h;revert h;generalize aO _ cs=p;intro h;cases p<;>cases h
  |_=>cases h
 |halt x wn=>
  cases x with
  |panic v=>cases h
  |stuck y=>cases h
  |throw y=>cases h
  |unsupported u=>
   rcases W _ _ O with⟨v,U⟩|U
   cases U
   cases u<;>first|exact U.elim|cases h
  |_=>
   rcases W _ _ O with⟨v,U⟩|U
   cases U;exact U.elim
theorem DN(hE:tA P m)(hS:dR P m T (fr::cs) (fr'::cs')){s:Sem Go.Next}(hs:lr P (gT P) m s s'){w:World}(hw:WR m w w')(aa:Al w w'){g ch:Goroutine}{es:Array Event}
  (h:cI P true fr cs none s w=.spawn g ch w₁ es):Kg P m T (cI P true fr' cs' none s' w') w' g ch w₁:=by
 have hr:=hs.run w w' #[] hw aa;have W:=(hs.outs hw).2;unfold cI at h⊢;simp only[if_true]at h⊢;rcases hrt:s.runT P w #[]with⟨r,af⟩;have O:s.run P w=r:=by rw[<-cM P s w #[],hrt]
 rw[O]at hr;rw[hrt]at h
 cases r with
 |ok n wn=>
  obtain⟨dx,n',ab,es₁,e1,Y,e3,e4,_,e6,e7⟩:=hr;rw[e1];simp only[a8]at h⊢
  cases e3 with
  |comm bl sh hq hc=>cases h
  |spawn ac hd=>
   rename_i d d';dsimp only at h⊢
   have key:∀(X:Array Event)(c:Prop)[Decidable c] (A B C:GStep),cK X (if c then A else B)=C->(c/\cK X A=C)\/(¬c/\cK X B=C):=by
    intro X c _ A B C hh;split at hh;exact .inl ⟨‹_›,hh⟩;exact .inr ⟨‹_›,hh⟩
   rcases key _ _ _ _ _ h with⟨_,h⟩|⟨hc,h⟩
   simp[aU,bj,cK]at h
   have ad:¬((P.follows .goNilFatal&&(d'.target matches .nil)&&d'.args.isEmpty&&fr'.noResult P)=true):=by
    rw[zR hd,I' hd,I1 hS.qc];exact hc
   have hf:=(hS.qc.mono Y).finish (.undef dx);have ae:=hS.set Y hf.1 hf.2.1 hf.2.2 (fe ..) (gW ..);obtain⟨rfl,rfl,rfl,_⟩:=h;exact⟨_,_,d,dx,_,_,d',ab,_,rfl,rfl,(congrArg _ (if_neg ad)).trans rfl,Y.il▸ac,Y,ae,hd,e4,e6,tw e7⟩
  |recover=>
   obtain⟨fn,tm,td,df,md,kd,rd⟩:=fr
   cases rd with
   |none=>
    revert h;generalize aO _ cs=p;intro h;cases p<;>cases h
   |some l=>
    dsimp only at h;rw[if_pos hE.Sp]at h;revert h;generalize aO _ cs=p;intro h;cases p<;>cases h
  |_=>cases h
 |halt x wn=>
  cases x with
  |panic v=>cases h
  |stuck y=>cases h
  |throw y=>cases h
  |unsupported u=>
   rcases W _ _ O with⟨v,U⟩|U
   cases U
   cases u<;>first|exact U.elim|cases h
  |_=>
   rcases W _ _ O with⟨v,U⟩|U
   cases U;exact U.elim
end
inductive jg:GStep->Prop
 |go (g w es):jg (.go g w es)|ended (o w es):jg (.ended o w es)
theorem jg.after{s:GStep}(h:jg s)(X:Array Event):jg (cK X s):=by
 cases h with
 |go g w es=>exact .go ..|ended o w es=>exact .ended ..
section
variable {P:Program} {m:Ren} {T:List Frame} {gl:Nat->Prop} {st:Bool}
def Qb(P:Program)(m:Ren)(T:List Frame)(r r':GStep)(w':World):Prop:=
 (∃dx X X' fr cs fr' cs' s s' w₁ B,r=cK X (cI P true fr cs none s w₁)/\r'=cK X' (cI P true fr' cs' none s' B)/\m.Le dx/\tA P dx/\dR P dx T (fr::cs) (fr'::cs')/\lr P (gT P) dx s s'/\WR dx w₁ B/\Al w₁ B/\fA m dx w' B/\∀e∈X',oG dx e)\/jg r
theorem Sh{u:Frame}{d:List Frame}{x:World}{g:Frame}{c:List Frame}{B:World}{e:Array Event}(h:GStep.go {frame:=u,callers:=d,status:=.running,dying:=none} x=.go (G g c) B e):B=x/\∀y,∃O,GStep.go {frame:=u,callers:=d,status:=.running,dying:=none} y=.go (G g c) y O:=by
 simp only[hI]at h;obtain⟨U,rfl,_⟩:=h;exact⟨rfl,λy=>⟨#[],by rw[U]⟩⟩
theorem C6(fr:Frame)(c:Frame)(cs:List Frame)(v:Value):∀x g d B e,aP P true fr (c::cs) none v x=.go (G g d) B e->B=x/\∀y,∃O,aP P true fr (c::cs) none v y=.go (G g d) y O:=by
 intro x g d B e h;unfold aP at h⊢;cases U:fr.kind<;>rw[U]at h<;>dsimp only at h⊢ <;> simp only[hI]at h<;>obtain⟨W,rfl,_⟩:=h<;>exact⟨rfl,λy=>⟨#[],by rw[W]⟩⟩
theorem CN(O:dR P m T (fr::cs) (fr'::cs')):∃c B,cs=c::B:=by cases O<;>exact⟨_,_,rfl⟩
theorem QC(g:Frame)(c:List Frame)(w:World):po P (.go {frame:=g,callers:=c,status:=.running,dying:=none} w):=.go g c w _
theorem Ax(fr c:Frame)(cs:List Frame)(v:Value)(w:World):po P (aP P true fr (c::cs) none v w):=by
 unfold aP;cases fr.kind<;>exact QC ..
theorem Qb.direct(O:tA P m)(U:dR P m T (fr::cs) (fr'::cs')){s s':Sem Go.Next}(W:lr P (gT P) m s s'){w w':World}(Y:WR m w w')(B:Al w w'):Qb P m T (cI P true fr cs none s w) (cI P true fr' cs' none s' w') w':=
 .inl ⟨m,#[],#[],fr,cs,fr',cs',s,s',w,w',(mY _).symm,(mY _).symm,.refl m,O,U,W,Y,B,.refl m w',by simp⟩
theorem qZ(fr c:Frame)(cs:List Frame)(v:Value)(w:World):jg (aP P true fr (c::cs) none v w):=by
 unfold aP;cases fr.kind<;>exact .go ..
theorem sE{dx m₂:Ren}(B:dx.Le m₂){X Y:Array Event}(O:∀e∈X,oG dx e)(U:∀e∈Y,oG m₂ e):∀e∈X++Y,oG m₂ e:=λe W=>(a9.1 W).elim (λx=>(O e x).mono B) (U e)
end
variable {k:Array CommCase} {es:Array Event} {b:Bool} {sh:CommShape} {g:Goroutine} {s:Sem Go.Next} {w:World}
def Eo(P:Program)(s:World->GStep)(w:World)(g:Goroutine)(k:Array CommCase)(b:Bool)(sh:CommShape)(w₁:World):Prop:=
 w.drawn<=w₁.drawn/\w₁.tape=w.tape/\∀τ,uD τ w w₁->∃es,s (tp w τ)=.comm g k b sh (tp w₁ τ) es
section
variable {P:Program} {m:Ren} {T:List Frame} {gl:Nat->Prop} {st:Bool}
theorem UX{r:GStep}(B:jg r)(h:r=.comm g k b sh w es){X:Prop}:X:=by
 rw[h]at B;cases B
theorem GN{X:Array Event}{s:GStep}(h:cK X s=.comm g k b sh w es):∃B,s=.comm g k b sh w B:=by
 cases s<;>simp[cK]at h;obtain⟨rfl,rfl,rfl,rfl,rfl,_⟩:=h;exact⟨_,rfl⟩
theorem yn(Y:P.follows .rangeFuncRecover=true)(ab:∀n W,s.run P w=.ok n W->∃m n',gT P m n n')(aa:∀x W,s.run P w=.halt x W->(∃v,x=.panic v)\/jY x)
  (h:cI P true fr cs none s w=.comm g k b sh w₁ es):g=G fr cs/\s.run P w=.ok (.comm k b sh) w₁:=by
 rcases hrt:s.runT P w _ with⟨r,ac⟩;have O:s.run P w=r:=by rw[<-cM P s w _,hrt]
 unfold cI at h;rw[hrt]at h;rw[O]
 cases r with
 |ok n W=>
  obtain⟨m,n',hn⟩:=ab n W O
  cases hn with
  |comm bl sh hq hc=>
   obtain⟨rfl,rfl,rfl,rfl,rfl,_⟩:=h;exact⟨rfl,rfl⟩
  |spawn ad hd=>
   have key:∀(X:Array Event)(c:Prop)[Decidable c] (A B C:GStep),cK X (if c then A else B)=C->(c/\cK X A=C)\/(¬c/\cK X B=C):=by
    intro X c _ A B C hh;split at hh;exact .inl ⟨‹_›,hh⟩;exact .inr ⟨‹_›,hh⟩
   rcases key _ _ _ _ _ h with⟨_,h⟩|⟨hc,h⟩
   simp[aU,bj,cK]at h;simp[cK]at h
  |recover=>
   obtain⟨fn,tm,td,df,md,kd,rd⟩:=fr
   cases rd with
   |none=>
    revert h;generalize aO _ cs=p;intro h;cases p<;>cases h
   |some l=>
    dsimp only at h;rw[if_pos Y]at h;revert h;generalize aO _ cs=p;intro h;cases p<;>cases h
  |_=>cases h
 |halt x W=>
  cases x with
  |panic v=>cases h
  |stuck y=>cases h
  |throw y=>cases h
  |unsupported u=>
   rcases aa _ _ O with⟨v,U⟩|U
   cases U
   cases u<;>first|exact U.elim|cases h
  |_=>
   rcases aa _ _ O with⟨v,U⟩|U
   cases U;exact U.elim
theorem Iw(B:P.follows .rangeFuncRecover=true)(hl:Loc P s w)(U:∀n W,s.run P w=.ok n W->∃m n',gT P m n n')(Y:∀x W,s.run P w=.halt x W->(∃v,x=.panic v)\/jY x)
  (h:cI P true fr cs none s w=.comm g k b sh w₁ es):Eo P (cI P true fr cs none s) w g k b sh w₁:=by
 obtain⟨rfl,hr⟩:=yn B U Y h;rcases hl with⟨x,ab,O,h2⟩|⟨O,h2,h3⟩
 rw[hr]at O;cases O;rw[hr]at O h2 h3;refine⟨O,h2,λτ aa=>?_⟩;have h4:=h3 τ aa;obtain⟨e',e⟩:=gw h4;unfold cI;simp only[if_true,e];exact⟨_,rfl⟩
end
end
section
open Go.Conc
variable {k:Array CommCase} {b:Bool} {sh:CommShape} {fg:Frame} {fh:List Frame} {w':World}
structure Pj(P:Program)(r:GStep):Prop where
 go:∀{g c w es},r≠.go (G g c) w es
 outs:po P r
 plain:jg r
theorem Pj.after{P:Program}{r:GStep}(h:Pj P r)(X:Array Event):Pj P (cK X r):=⟨λe=>(ud e).elim λ_ e=>h.go e,h.outs.after X,h.plain.after X⟩
theorem Pj.ended{P:Program}(o:Outcome)(w:World)(es:Array Event):Pj P (.ended o w es):=⟨λe=>(by cases e),.ended ..,.ended ..⟩
theorem Pj.throw{P:Program}(fr:Frame)(y:String)(w:World):Pj P (aU fr y w):=⟨nofun,sM ..,.go ..⟩
inductive wL(P:Program)(T:List Frame)(main':Bool)(ok:Prop):Ren->(World->GStep)->(World->GStep)->Prop
 |stay {m f f' g g' cs cs'}:dR P m T (g::cs) (g'::cs')->(∀x,f x=.go (G g cs) x)->(∀x,f' x=.go (G g' cs') x)->wL P T main' ok m f f'|low {m f f' g cs}:(ok->False)->(∀x,f x=.go (G g cs) x)->wL P T main' ok m f f'|bad {m f f'}:(∀x x',WR m x x'->Pj P (f x))->wL P T main' ok m f f'|app {m f f' fr fr' cs cs' s s'}:tA P m->dR P m T (fr::cs) (fr'::cs')->lr P (gT P) m s s'->(∀x,f x=cI P true fr cs none s x)->(∀x,f' x=cI P true fr' cs' none s' x)->wL P T main' ok m f f'|ret {m f f' fr fr' cs cs' v v'}:dR P m T (fr::cs) (fr'::cs')->(ok->cs=[door P]->fr.roundOf=none->False)->VR m v v'->(∀x,f x=aP P true fr cs none v x)->(∀x,f' x=aP P main' fr' cs' none v' x)->wL P T main' ok m f f'|run {m f f'} {α β:Type} {RA:Ren->α->β->Prop} {t t'} {E:Result α->Array Event->Array Event} {E':Result β->Array Event->Array Event} {K:Result α->GStep} {K':Result β->GStep}:dv P RA m t t'->
   (∀x r es,t.runT P x #[]=(r,es)->f x=cK (E r es) (K r))->(∀x r es,t'.runT P x #[]=(r,es)->f' x=cK (E' r es) (K' r))->(∀dx r es,(∀e∈es,oG dx e)->∀e∈E' r es,oG dx e)->
   (∀dx a a',m.Le dx->RA dx a a'->wL P T main' ok dx (λw=>K (.ok a w)) (λw=>K' (.ok a' w)))->
   (∀dx v v',m.Le dx->VR dx v v'->wL P T main' ok dx (λw=>K (.halt (.panic v) w)) (λw=>K' (.halt (.panic v') w)))->
   (∀x w,jY x->Pj P (K (.halt x w)))->wL P T main' ok m f f'
section
variable {P:Program} {m:Ren} {T:List Frame} {gl:Nat->Prop} {st main':Bool} {ok:Prop} {f f':World->GStep}
theorem wL.out(F:wL P T main' ok m f f')(W:ok):∀{w w':World},WR m w w'->Al w w'->∀{fg:Frame}{fh:List Frame}{w₁:World}{es:Array Event},f w=.go (G fg fh) w₁ es->nO P m T (f' w') w' fg fh w₁:=by
 induction F with
 |stay hg h h'=>intro w w' U B fg fh w₁ es e;rw[h]at e;rw[h'];exact still U hg e|low hn h=>exact(hn W).elim|bad h=>intro w w' U B fg fh w₁ es e;exact absurd e (h w w' U).go|app hE hS hs h h'=>intro w w' U B fg fh w₁ es e;rw[h]at e;rw[h'];exact La hE hS hs U B e|ret hS hn hv h h'=>
  intro w w' U B fg fh w₁ es e;have:=QG (main':=main') (X:=#[]) (X':=#[]) (.refl _) hS (hn W) hv U (.refl _ w') (by simp) (by rw[mY,<-h];exact e);rw[mY]at this;rw[h'];exact this
 |@run m f f' α β RA t t' E E' K K' ht h h' hE _ _ Y aa ab=>
  intro w w' U B fg fh w₁ es e;have O:=ht.run w w' #[] U (.inl B);rw[<-cM P _ w _]at O;rcases hrt:t.runT P w _ with⟨r,ad⟩;rw[hrt]at O;rw[h _ _ _ hrt]at e;obtain⟨ae,e⟩:=ud e
  cases r with
  |ok a wn=>
   obtain⟨dx,a',ac,es₁,g1,g2,g3,g4,g5,g6,g7⟩:=O;rw[h' _ _ _ g1];exact nO.after g2 g6 (hE _ _ _ (by simpa using g7)) (aa dx a a' g2 g3 g4 (g5 B) e)
  |halt x wn=>
   cases x with
   |panic v=>
    obtain⟨dx,a',ac,es₁,g1,g2,g3,g4,g5,g6,g7⟩:=O;rw[h' _ _ _ g1];exact nO.after g2 g6 (hE _ _ _ (by simpa using g7)) (ab dx v a' g2 g3 g4 (g5 B) e)
   |_=>refine absurd e (Y _ _ ?_).go;exact O
def Jv(R:World->Array Event->GStep)(s:World->GStep)(w w₁:World):Prop:=
 w.drawn<=w₁.drawn/\w₁.tape=w.tape/\∀τ,uD τ w w₁->∃es,s (tp w τ)=R (tp w₁ τ) es
structure Kind(P:Program)(R:World->Array Event->GStep):Prop where
 off:∀{X s w es},cK X s=R w es->∃e,s=R w e
 on:∀X w es,∃e,cK X (R w es)=R w e
 bad:∀{r w es},Pj P r->r≠R w es
 go:∀{g c x w es},GStep.go (G g c) x=R w es->w=x/\∀y,∃e,GStep.go (G g c) y=R y e
 ret:∀{fr c cs v x w es},aP P true fr (c::cs) none v x=R w es->w=x/\∀y,∃e,aP P true fr (c::cs) none v y=R y e
 app:∀{fr cs s w w₁ es},Loc P s w->(∀n wn,s.run P w=.ok n wn->∃m n',gT P m n n')->(∀x wn,s.run P w=.halt x wn->(∃v,x=.panic v)\/jY x)->cI P true fr cs none s w=R w₁ es->Jv R (cI P true fr cs none s) w w₁
theorem wL.loc(F:wL P T main' ok m f f'){R:World->Array Event->GStep}(k:Kind P R):∀{w w':World},WR m w w'->∀{w₁:World}{es:Array Event},f w=R w₁ es->Jv R f w w₁:=by
 induction F with
 |stay _ h _|low _ h=>intro w w' O w₁ es e;rw[h]at e;obtain⟨rfl,q⟩:=k.go e;exact⟨ei _,rfl,λτ _=>by rw[h];exact q _⟩
 |bad h=>intro w w' O w₁ es e;exact absurd e (k.bad (h w w' O))|app hE hS hs h h'=>
  intro w w' O w₁ es e;rw[h]at e;obtain⟨a,b,c⟩:=k.app (hs.loc w w' O) (hs.outs O).1 (hs.outs O).2 e;exact⟨a,b,λτ U=>by rw[h];exact c τ U⟩
 |ret hS hn hv h h'=>
  obtain⟨c,ak,rfl⟩:=CN hS;intro w w' O w₁ es e;rw[h]at e;obtain⟨rfl,q⟩:=k.ret e;exact⟨ei _,rfl,λτ _=>by rw[h];exact q _⟩
 |@run m f f' α β RA t t' E E' K K' ht h h' hE _ _ Y aa ab=>
  intro w w' O w₁ es e;obtain⟨ac,ad,ae,_⟩:=align O;have B:=ht.run w ac #[] ad (.inl ae);have hl:=ht.loc w w' O;obtain⟨am,af⟩:=gw (P:=P) (s:=t) (w:=w) rfl;rw[h _ _ _ af]at e;obtain⟨_,e⟩:=k.off e
  have key:∀{r:Result α}{W:World},CH r=W->Jv R (λw=>K (match r with|.ok a _=>.ok a w|.halt x _=>.halt x w)) W w₁->(∀τ,xM P t w τ r->t.run P (tp w τ)=match r with|.ok a _=>.ok a (tp W τ)|.halt x _=>.halt x (tp W τ))->t.run P w=r->RO P t w->Jv R f w w₁:=by
   rintro r W rfl ⟨k1,k2,k3⟩ ag hr ⟨h1,h2,h3⟩;rw[hr]at h1 h2 h3;refine⟨eg h1 k1,k2.trans h2,λτ U=>?_⟩;have ha:=ag τ (h3 τ λi x y=>U i x (ek y k1));obtain⟨an,k4⟩:=k3 τ λi x y=>by rw[h2];exact U i (eg h1 x) y
   obtain⟨ao,ah⟩:=gw ha;have k4:K _=R .. := k4;rw[h _ _ _ ah,k4];exact k.on ..
  rcases hl with⟨q,aj,h1,h2⟩|hl
  rw[h1]at e;exact absurd e (k.bad (Y _ _ h2))
  cases hq:t.run P w with
  |ok a W=>
   rw[hq]at e B;obtain⟨dx,a',ai,es₁,g1,g2,g3,g4,_⟩:=B;exact key (r:=.ok a W) rfl (aa dx a a' g2 g3 g4 e) (λ_ h=>h) hq hl
  |halt x W=>
   rw[hq]at e B
   cases x with
   |panic v=>
    obtain⟨dx,a',ai,es₁,g1,g2,g3,g4,_⟩:=B;exact key (r:=.halt _ W) rfl (ab dx v a' g2 g3 g4 e) (λ_ h=>h) hq hl
   |_=>refine absurd e (k.bad (Y _ _ ?_));exact B
theorem wL.outs(F:wL P T main' ok m f f'):∀{w w':World},WR m w w'->po P (f w):=by
 induction F with
 |stay _ h _|low _ h=>intro w w' O;rw[h];exact .go ..|bad h=>exact λO=>(h _ _ O).outs|app hE hS hs h h'=>intro w w' O;rw[h];exact Iz hE.Sp (hs.outs O).1 (hs.outs O).2|ret hS hn hv h h'=>obtain⟨c,af,rfl⟩:=CN hS;intro w w' O;rw[h];exact Ax ..
 |@run m f f' α β RA t t' E E' K K' ht h h' hE _ _ U W Y=>
  intro w w' O;obtain⟨aa,ab,ac,_⟩:=align O;have B:=ht.run w aa #[] ab (.inl ac);obtain⟨ag,ad⟩:=gw (P:=P) (s:=t) (w:=w) rfl;rw[h _ _ _ ad];refine po.after ?_ _
  cases hq:t.run P w with
  |ok a wn=>rw[hq]at B;obtain⟨dx,a',ae,es₁,g1,g2,g3,g4,_⟩:=B;exact W dx a a' g2 g3 g4
  |halt x wn=>
   rw[hq]at B
   cases x with
   |panic v=>obtain⟨dx,a',ae,es₁,g1,g2,g3,g4,_⟩:=B;exact Y dx v a' g2 g3 g4
   |_=>refine(U _ _ ?_).outs;exact B
theorem Qb.after{dx:Ren}{r r':GStep}{O:World}{X X':Array Event}(W:m.Le dx)(hk:fA m dx w' O)(hX:∀e∈X',oG dx e)(h:Qb P dx T r r' O):Qb P m T (cK X r) (cK X' r') w':=by
 have aa:∀(X Y:Array Event)(s:GStep),cK X (cK Y s)=cK (X++Y) s:=λX Y s=>by cases s<;>simp[cK]
 rcases h with⟨m₂,Y,Y',fr,cs,fr',cs',s,s',w₁,B,rfl,rfl,U,h2,h3,h4,h5,h6,h7,h8⟩|h
 exact .inl ⟨m₂,_,_,fr,cs,fr',cs',s,s',w₁,B,aa ..,aa ..,W.trans U,h2,h3,h4,h5,h6,hk.trans W U h7,sE U hX h8⟩;exact .inr (h.after _)
theorem wL.via(F:wL P T main' ok m f f'):∀{w w':World},WR m w w'->Al w w'->Qb P m T (f w) (f' w') w':=by
 induction F with
 |stay _ h _|low _ h=>intro w w' U O;rw[h];exact .inr (.go ..)|bad h=>exact λU _=>.inr (h _ _ U).plain|app hE hS hs h h'=>intro w w' U O;rw[h,h'];exact Qb.direct hE hS hs U O|ret hS hn hv h h'=>obtain⟨c,ae,rfl⟩:=CN hS;intro w w' U O;rw[h];exact .inr (qZ ..)
 |@run m f f' α β RA t t' E E' K K' ht h h' hE _ _ W aa ab=>
  intro w w' U O;have B:=ht.run w w' #[] U (.inl O);obtain⟨af,ac⟩:=gw (P:=P) (s:=t) (w:=w) rfl;rw[h _ _ _ ac]
  cases hq:t.run P w with
  |ok a wn=>
   rw[hq]at B;obtain⟨dx,a',ad,es₁,g1,Y,g3,g4,g5,g6,g7⟩:=B;rw[h' _ _ _ g1];exact Qb.after Y g6 (hE _ _ _ (by simpa using g7)) (aa dx a a' Y g3 g4 (g5 O))
  |halt x wn=>
   rw[hq]at B
   cases x with
   |panic v=>
    obtain⟨dx,a',ad,es₁,g1,Y,g3,g4,g5,g6,g7⟩:=B;rw[h' _ _ _ g1];exact Qb.after Y g6 (hE _ _ _ (by simpa using g7)) (ab dx v a' Y g3 g4 (g5 O))
   |_=>refine .inr (jg.after (W _ _ ?_).plain _);exact B
theorem pI{fr fr':Frame}{cs cs':List Frame}(B:fr.roundOf≠none)(U:dR P m T (fr::cs) (fr'::cs')){l l':Nat}(W:m.blk l=some l')(j:Option Code)(Y:∀c,j=some c->fF m.ok c){q O:Outcome}
  (h:∀x,f x=cK (aR P fr.fn ((bD l j).runT P x #[]).2) (match ((bD l j).runT P x #[]).1 with|.ok v w=>aP P true fr cs none v w|.halt _ w=>.ended q w))
  (h':∀x,f' x=cK (aR P fr'.fn ((bD l' j).runT P x #[]).2) (match ((bD l' j).runT P x #[]).1 with|.ok v w=>aP P main' fr' cs' none v w|.halt _ w=>.ended O w)):wL P T main' ok m f f':=
 .run (E:=λ_ es=>aR P _ es) (E':=λ_ es=>aR P _ es) (K:=λr=>match r with|.ok v w=>aP P true fr cs none v w|.halt _ w=>.ended q w) (K':=λr=>match r with|.ok v w=>aP P main' fr' cs' none v w|.halt _ w=>.ended O w) (GL (P:=P) W Y)
  (λx r es e=>by rw[h,e]) (λx r es e=>by rw[h',e]) (λ_ _ _ h=>mX h) (λdx a a' hm ha=>.ret (U.mono hm) (λ_ _ h=>B h) ha (λ_=>rfl) (λ_=>rfl)) (λ_ _ _ _ _=>.bad λ_ _ _=>.ended ..) (λ_ _ _=>.ended ..)
theorem mW{fr:Frame}{cs:List Frame}{ops:Array Oper}{i:Nat}{t:List Nat}{k:List Item}{o:Oper}(B:fr.todo=.inRegion ops (i::t)::k)(O:ops[i]?=some o)(U:hL o (bc ops fr.tmps)=true)(x:World) :
  cJ P b true fr cs none x=match fr.roundOf,o.op with
   |some l,.defer c=>cI P true fr cs none (do bL l (<-bk fr.eval c o.type);pure .skip) x
   |_,_=>cI P true fr cs none (bo fr.eval o) x:=by
 unfold cJ;simp only[B,O,gs,gn];rw[if_pos U];unfold aS.oper;simp only[fm,B,O];rfl
theorem KX(hX:l6 P m gl st){fr fr':Frame}{cs cs':List Frame}(hS:dR P m T (fr::cs) (fr'::cs')):wL P T main' ok m (cJ P true true fr cs none) (cJ P main' true fr' cs' none):=by
 have hF:=hS.qc;have ht:=hF.todo;have ad:=hF.round;have ao:=hF.fn;obtain⟨fn,tm,td,df,md,kd,rd⟩:=fr;obtain⟨B,O,ap,Y,ab,aa,U⟩:=fr';simp only at ht ad ao;subst ao;have W:∀{k k':List Item},dQ (jw m) k k'->dR P m T (⟨B,tm,k,df,md,kd,rd⟩::cs) (⟨B,O,k',Y,ab,aa,U⟩::cs'):=λhk=>hS.set (.refl m) (GJ hF hk) rfl rfl rfl rfl;have ai:dR P m T (⟨B,tm,td,df,.returning,kd,rd⟩::cs) (⟨B,O,ap,Y,.returning,aa,U⟩::cs'):=hS.set (.refl m) (Sj hF .returning) rfl rfl rfl rfl;have ak:∀x,dP m.fw gl x->VR m (e8 ⟨B,tm,td,df,md,kd,rd⟩ x) (e8 ⟨B,O,ap,Y,ab,aa,U⟩ x):=λx hx=>hF.eval hX.ou x hx
 cases ht with
 |nil=>
  cases ad with
  |none=>exact .stay ai (λ_=>rfl) (λ_=>rfl)|some hl=>exact pI (by simp) hS hl none (λ_ h=>by cases h) (λ_=>rfl) (λ_=>rfl)
 |cons hi hk=>
  rename_i k k'
  cases hi with
  |GC y=>exact .bad λ_ _ _=>.ended _ _ _|mg y=>exact .stay (W (.cons (.GC y) (.cons (.mg y) hk))) (λ_=>rfl) (λ_=>rfl)|inBlock i=>exact .stay (W hk) (λ_=>rfl) (λ_=>rfl)|inScope c hc=>exact .stay (W hk) (λ_=>rfl) (λ_=>rfl)|inLoop c hc=>exact .stay (W (.cons (.code c hc) (.cons (.inLoop c hc) hk))) (λ_=>rfl) (λ_=>rfl)|inRangeFunc hl=>exact .bad λ_ _ _=>.ended _ _ _|beginRound=>
   refine .app hX.env hS (s:=do rd.elim (stuck "beginRound: no round") bH;pure .skip) (s':=do U.elim (stuck "beginRound: no round") bH;pure .skip) ?_ (λ_=>rfl) (λ_=>rfl)
   cases ad with
   |none=>exact .base (.dy trivial)|some hl=>exact UC (CX hl)
  |endRangeFunc hl=>
   rename_i l l'
   refine .run (LG (P:=P) hl) (E:=λ_ es=>aR P B es) (E':=λ_ es=>aR P B es)
    (K:=λr=>match r with|.ok af w=>.go {frame:=⟨B,tm,(af.map Item.code).toList++k,df,md,kd,rd⟩,callers:=cs,status:=.running,dying:=none} w|.halt (.panic v) w=>.go {frame:=fb ⟨B,tm,.endRangeFunc l::k,df,md,kd,rd⟩ [{v,recovered:=false}],callers:=cs,status:=.running,dying:=none} w|.halt _ w=>.ended (.stuck "range over a function: no such loop" (eC P ⟨B,tm,.endRangeFunc l::k,df,md,kd,rd⟩)) w)
    (K':=λr=>match r with|.ok af w=>.go {frame:=⟨B,O,(af.map Item.code).toList++k',Y,ab,aa,U⟩,callers:=cs',status:=.running,dying:=none} w|.halt (.panic v) w=>.go {frame:=fb ⟨B,O,.endRangeFunc l'::k',Y,ab,aa,U⟩ [{v,recovered:=false}],callers:=cs',status:=.running,dying:=none} w|.halt _ w=>.ended (.stuck "range over a function: no such loop" (eC P ⟨B,O,.endRangeFunc l'::k',Y,ab,aa,U⟩)) w)
    (λx r es e=>by unfold cJ;dsimp only;rw[e];rfl) (λx r es e=>by unfold cJ;dsimp only;rw[e];rfl) (λ_ _ _ h=>mX h) ?_ ?_ ?_
   rintro dx a b hm ⟨rfl,ha⟩;refine .stay (hS.set hm (g:=⟨B,tm,_,df,md,kd,rd⟩) (g':=⟨B,O,_,Y,ab,aa,U⟩) (GJ (hF.mono hm) (dQ.append ?_ (hk.mono λ_ _ x=>x.mono hm))) rfl rfl rfl rfl) (λ_=>rfl) (λ_=>rfl)
   cases a with
   |none=>exact .nil|some c=>exact .cons (.code c (ha c rfl)) .nil
   intro dx v v' hm hv;have hf:=(hF.mono hm).raise (vs:=[{v,recovered:=false}]) (vs':=[{v:=v',recovered:=false}]) (.cons ⟨hv,rfl,rfl⟩ .nil);exact .stay (hS.set hm hf.1 hf.2.1 hf.2.2 (om _ _) (uf _ _)) (λ_=>rfl) (λ_=>rfl);intro x w hx;cases x<;>first|exact hx.elim|exact .ended _ _ _
  |inRegion ops t ho=>
   cases t with
   |nil=>exact .stay (W hk) (λ_=>rfl) (λ_=>rfl)|cons i t=>
    have hy:bc ops O=bc ops tm:=funext (lK ops hF.tmps);have hf:=hF.finish (.undef m);have aj:=hS.set (.refl m) hf.1 hf.2.1 hf.2.2 (fe _ _) (gW _ _)
    cases ac:ops[i]? with
    |none=>exact .stay aj (λx=>by unfold cJ;dsimp only;rw[ac];rfl) (λx=>by unfold cJ;dsimp only;rw[ac];rfl)|some o=>
     by_cases ag:hL o (bc ops tm)=true;have ah:hL o (bc ops O)=true:=by rw[hy];exact ag
     have am:=hX.ops o (ho o (by rw[<-az]at ac;exact List.mem_of_getElem? ac));have aq:=Gm hX.env hX.strict hX.il ak (λc=>⟨rfl,rfl⟩) o am
     cases ad with
     |none=>exact .app hX.env hS aq (λx=>by rw[mW rfl ac ag]) (λx=>by rw[mW rfl ac ah])|some hl=>
      obtain⟨od,oo,ot,op,oa,og⟩:=o;cases oo<;>first|exact .app hX.env hS aq (λx=>mW rfl ac ag x) (λx=>mW rfl ac ah x)|skip
      rename_i c;refine .app hX.env hS (.base ?_) (λx=>mW rfl ac ag x) (λx=>mW rfl ac ah x);refine dB (MQ ak ⟨am.1,?_⟩ _) λm' d d' av hd=>dB (yf (av.blk _ _ hl) hd) λ_ _ _ _ _=>.pure .skip;have h2:=am.2;obtain⟨cc,ca,ct⟩:=c;cases cc<;>first|trivial|exact⟨h2.1,hX.il h2.2⟩|exact h2.elim
     refine .stay aj (λx=>?_) (λx=>?_)
     all_goals
      unfold cJ;dsimp only;rw[ac];simp only[gs,gn]
      try rw[hy]
      rw[if_neg ag];rfl
  |code c hc=>
   cases c with
   |skip=>exact .stay (W hk) (λ_=>rfl) (λ_=>rfl)|label l=>exact .stay (W hk) (λ_=>rfl) (λ_=>rfl)|ret=>
    cases ad with
    |none=>exact .stay ai (λ_=>rfl) (λ_=>rfl)|some hl=>exact pI (by simp) hS hl (some .ret) (λ_ h=>by cases h;trivial) (λ_=>rfl) (λ_=>rfl)
   |seq x y=>exact .stay (W (.cons (.code x hc.1) (.cons (.code y hc.2) hk))) (λ_=>rfl) (λ_=>rfl)|cond c x y=>
    have hv:=ak c (by have:=hc.1;cases c<;>first|exact this|exact this.elim);generalize hp:e8 _ c=p at hv;generalize ae:e8 _ c=p' at hv;cases hv<;>first|exact .bad (λx _ _=>by unfold cJ;dsimp only;rw[hp];exact .ended _ _ _)|skip
    rename_i t;refine .stay (W (.cons (.code (if t then x else y) ?_) hk)) (λx=>by unfold cJ;dsimp only;rw[hp];rfl) (λx=>by unfold cJ;dsimp only;rw[ae];rfl);cases t;exact hc.2.2;exact hc.2.1
   |block i x=>exact .stay (W (.cons (.code x hc) (.cons (.inBlock i) hk))) (λ_=>rfl) (λ_=>rfl)|loop x=>exact .stay (W (.cons (.code x hc) (.cons (.inLoop x hc) hk))) (λ_=>rfl) (λ_=>rfl)|scope x=>exact .stay (W (.cons (.code x hc) (.cons (.inScope x hc) hk))) (λ_=>rfl) (λ_=>rfl)|exit i=>
    have he:=yE i hk;generalize hp:bn i k=p at he;generalize ae:bn i k'=p' at he
    cases he with
    |some an=>exact .stay (W an) (λx=>by unfold cJ;dsimp only;rw[hp];rfl) (λx=>by unfold cJ;dsimp only;rw[ae];rfl)|none=>
     cases ad with
     |none=>exact .bad (λx _ _=>by unfold cJ;dsimp only;rw[hp];exact .ended _ _ _)|some hl=>exact pI (by simp) hS hl (some (.exit i)) (λ_ h=>by cases h;trivial) (λx=>by unfold cJ;dsimp only;rw[hp];rfl) (λx=>by unfold cJ;dsimp only;rw[ae];rfl)
   |goto l=>
    have he:=zV l hk;generalize hp:bm l k=p at he;generalize ae:bm l k'=p' at he
    cases he with
    |some an=>exact .stay (W an) (λx=>by unfold cJ;dsimp only;rw[hp];rfl) (λx=>by unfold cJ;dsimp only;rw[ae];rfl)|none=>
     cases ad with
     |none=>exact .bad (λx _ _=>by unfold cJ;dsimp only;rw[hp];exact .ended _ _ _)|some hl=>exact pI (by simp) hS hl (some (.goto l)) (λ_ h=>by cases h;trivial) (λx=>by unfold cJ;dsimp only;rw[hp];rfl) (λx=>by unfold cJ;dsimp only;rw[ae];rfl)
   |rangeFunc f ps a x=>
    refine .run (Gw (P:=P) (fn:=B) (ps:=ps) hF.tmps hc.2.1 hc.2.2 ad) (E:=λ_ es=>aR P B es) (E':=λ_ es=>aR P B es)
     (K:=λr=>match r with|.ok (l,mark) w=>cI P true ⟨B,tm,.inRangeFunc l::k,mark++df,md,kd,rd⟩ cs none (do let d <-bk (e8 ⟨B,tm,.inRangeFunc l::k,mark++df,md,kd,rd⟩) {callee:=.value f,args:=#[.const (.func (.yield l) #[] #[])],argTypes:=#[]} 0;invoke d.target d.args) w|.halt _ w=>.ended (.stuck "range over a function: no such loop" (eC P ⟨B,tm,.code (.rangeFunc f ps a x)::k,df,md,kd,rd⟩)) w)
     (K':=λr=>match r with|.ok (l,mark) w=>cI P true ⟨B,O,.inRangeFunc l::k',mark++Y,ab,aa,U⟩ cs' none (do let d <-bk (e8 ⟨B,O,.inRangeFunc l::k',mark++Y,ab,aa,U⟩) {callee:=.value f,args:=#[.const (.func (.yield l) #[] #[])],argTypes:=#[]} 0;invoke d.target d.args) w|.halt _ w=>.ended (.stuck "range over a function: no such loop" (eC P ⟨B,O,.code (.rangeFunc f ps a x)::k',Y,ab,aa,U⟩)) w)
     (λx r es e=>by unfold cJ;dsimp only;rw[e];rfl) (λx r es e=>by unfold cJ;dsimp only;rw[e];rfl) (λ_ _ _ h=>mX h) ?_ (λ_ _ _ _ _=>.bad λ_ _ _=>.ended _ _ _) (λ_ _ _=>.ended _ _ _)
    rintro dx ⟨l,mk⟩ ⟨l',mk'⟩ hm ⟨ar,aw⟩
    have au:fL dx ⟨B,tm,.inRangeFunc l::k,mk++df,md,kd,rd⟩ ⟨B,O,.inRangeFunc l'::k',mk'++Y,ab,aa,U⟩:=
     ⟨rfl,hF.tmps.mono hm,.cons (.inRangeFunc ar) (hk.mono λ_ _ y=>y.mono hm),aw.append ((hF.mono hm).defers),(hF.mono hm).mode,(hF.mono hm).round⟩
    refine .app (hX.mono hm).env (hS.set hm au rfl rfl rfl rfl) (.base (dB (oZ (au.eval (hX.mono hm).ou f (by have:=hc.1;cases f<;>first|exact this|exact this.elim)) (by simpa[e8]using ep.one (VR.J4 (MY.yield ar) (.nil dx) (.nil dx)))) λm' d d' hl hd=>?_)) (λ_=>rfl) (λ_=>rfl);exact qI ((hX.mono hm).env.mono hl) hd.1.target hd.2 hd.1.args
   |region i ops d=>
    cases d with
    |false=>exact .stay (W (.cons (.inRegion ops _ hc) hk)) (λ_=>rfl) (λ_=>rfl)|true=>
     refine .run (RA:=wV) (t:=choose (.order B i)) (t':=choose (.order B i)) (E:=λ_ _=>#[]) (E':=λ_ _=>#[])
      (K:=λr=>match r with|.ok t w=>.go {frame:=⟨B,tm,.inRegion ops (hM (P.follows .mixedOrders) ops t)::k,df,md,kd,rd⟩,callers:=cs,status:=.running,dying:=none} w|.halt _ w=>.ended (.stuck "order" (eC P ⟨B,tm,.code (.region i ops true)::k,df,md,kd,rd⟩)) w)
      (K':=λr=>match r with|.ok t w=>.go {frame:=⟨B,O,.inRegion ops (hM (P.follows .mixedOrders) ops t)::k',Y,ab,aa,U⟩,callers:=cs',status:=.running,dying:=none} w|.halt _ w=>.ended (.stuck "order" (eC P ⟨B,O,.code (.region i ops true)::k',Y,ab,aa,U⟩)) w)
      (.choose λn=>.pure rfl) (λx r es e=>?_) (λx r es e=>?_) (λ_ _ _ _ e h=>by simp at h) ?_ (λ_ _ _ _ _=>.bad λ_ _ _=>.ended _ _ _) (λ_ _ _=>.ended _ _ _)
     have q:(choose (.order B i)).run P x=r:=by rw[<-cM P _ x #[],e]
     rw[mY,<-q];rfl;have q:(choose (.order B i)).run P x=r:=by rw[<-cM P _ x #[],e]
     rw[mY,<-q];rfl;rintro dx a b hm rfl;exact .stay (hS.set hm (g:=⟨B,tm,_,df,md,kd,rd⟩) (g':=⟨B,O,_,Y,ab,aa,U⟩) (GJ (hF.mono hm) (.cons (.inRegion ops _ (hm.ok▸hc)) (hk.mono λ_ _ y=>y.mono hm))) rfl rfl rfl rfl) (λ_=>rfl) (λ_=>rfl)
   |refuse y=>exact hc.elim
theorem wL.eq{g g':World->GStep}(F:wL P T main' ok m f f')(h:∀x,g x=f x)(h':∀x,g' x=f' x):wL P T main' ok m g g':=by rw[funext h,funext h'];exact F
theorem ob(hX:l6 P m gl st){fr fr':Frame}{cs cs':List Frame}(hS:dR P m T (fr::cs) (fr'::cs')){d d':Deferred}(hd:DR m d d')(hn:∀x y z,d.target≠.builtin .close x y z):wL P T main' ok m (aZ P fr cs none d) (aZ P fr' cs' none d'):=by
 have Y:dv P (gT P) m (invoke d.target d.args) (invoke d'.target d'.args):=qI hX.env hd.target (by
  intro bb x y z e;have B:=hd.target;rw[e]at B;revert B;generalize d'.target=t';intro B;cases B
  exact hn x y z e) hd.args
 have O:=hS.qc.mode;have aa:=zR hd
 have ab:((fr'.mode matches .panicking _):Bool)=(fr.mode matches .panicking _):=by
  revert O;generalize fr.mode=q;generalize fr'.mode=q';intro h;cases h<;>rfl
 by_cases hc:((d.target matches .nil)&&(fr.mode matches .panicking _))=true;exact .bad λx _ _=>by rw[show aZ P fr cs none d x=_ from if_pos hc];exact .ended _ _ _
 refine .run Y (E:=λr es=>aR P fr.fn (match r with|.halt .blocked _|.halt .waiting _=>#[]|_=>es)) (E':=λr es=>aR P fr'.fn (match r with|.halt .blocked _|.halt .waiting _=>#[]|_=>es)) (λx r es e=>by rw[show aZ P fr cs none d x=_ from if_neg hc,e];rfl)
  (λx r es e=>by rw[show aZ P fr' cs' none d' x=_ from if_neg λh=>hc ((congr (congrArg and aa) ab).symm.trans h),e];rfl) (λdx r es h=>mX (by split<;>simp_all)) ?_ ?_ ?_
 intro dx a a' hm ha;have W:=hS.mono hm
 cases ha with
 |enter hf U ha=>exact .stay (W.push (Cu ((hX.env.mono hm).calls _ hf) U ha .deferred .deferred) rfl (.inr rfl)) (λ_=>rfl) (λ_=>rfl)|round hl B ha U=>
  rename_i l l' f t t' a c;have ac:fL dx (fa l f t a c .deferred) (fa l' f t' a c .deferred):=⟨rfl,B,.cons (.code _ ha) (.cons .beginRound (.cons (.code _ U) .nil)),.nil,.run,.some hl⟩;exact .stay (W.push ac rfl (.inr rfl)) (λ_=>rfl) (λ_=>rfl)
 |recover=>
  have B:=tZ W;generalize hq:fr.mode=q at O;generalize ad:fr'.mode=q' at O
  cases O with
  |run|panicking=>exact .stay W (λ_=>rfl) (λ_=>rfl)|returning=>
   generalize hp:aO _ cs=p at B;generalize ae:aO _ cs'=p' at B
   cases B with
   |none=>exact .stay W (λ_=>rfl) (λ_=>rfl)|some hx=>exact .stay hx.2 (λ_=>rfl) (λ_=>rfl)
 |_=>exact .stay W (λ_=>rfl) (λ_=>rfl)
 intro dx v v' hm hv;have hf:=(hS.qc.mono hm).raise (vs:=[{v,recovered:=false}]) (vs':=[{v:=v',recovered:=false}]) (.cons ⟨hv,rfl,rfl⟩ .nil);exact .stay (hS.set hm hf.1 hf.2.1 hf.2.2 (om ..) (uf ..)) (λ_=>rfl) (λ_=>rfl);intro x w hx
 cases x with
 |throw y=>exact .throw ..|stuck y=>exact .ended ..|unsupported u=>exact .ended ..|_=>exact hx.elim
theorem GF(hX:l6 P m gl st){fr fr':Frame}{cs cs':List Frame}(hS:dR P m T (fr::cs) (fr'::cs'))(hm:fr.mode≠.run)(hn:¬AtClose fr)(O:ok->cs=[door P]->fr.mode≠.run->fr.defers=[]->fr.roundOf=none->False):wL P T main' ok m (aY P true fr cs none) (aY P main' fr' cs' none):=by
 have hF:=hS.qc;have ab:=hF.defers;have U:=hF.mode;have ac:=hF.fn;unfold AtClose at hn;obtain⟨fn,tm,td,df,md,kd,rd⟩:=fr;obtain⟨B,ad,ae,ar,af,ag,ah⟩:=fr';simp only at ab U hm hn O ac;subst ac
 cases ab with
 |cons hd ai=>
  rename_i d d' ds aj;have ak:dR P m T (⟨B,tm,td,ds,md,kd,rd⟩::cs) (⟨B,ad,ae,aj,af,ag,ah⟩::cs'):=hS.set (.refl m) ⟨hF.fn,hF.tmps,hF.todo,ai,U,hF.round⟩ rfl rfl rfl rfl;have ht:=hd.target;obtain⟨dt,da⟩:=d;obtain⟨au,am⟩:=d';simp only at ht
  cases ht with
  |collected an=>
   rename_i r r';refine .run (y8 (P:=P) an) (E:=λ_ es=>aR P B es) (E':=λ_ es=>aR P B es) (λx r es e=>by unfold aY;dsimp only;rw[e];dsimp only) (λx r es e=>by unfold aY;dsimp only;rw[e];dsimp only) (λ_ _ _ h=>mX h) (λdx a a' Y ha=>?_) (λ_ _ _ _ _=>.bad λ_ _ _=>?_) (λ_ _ _=>?_)<;>try exact .ended _ _ _
   exact .stay (hS.set Y (g:=⟨B,tm,td,a++ds,md,kd,rd⟩) (g':=⟨B,ad,ae,a'++aj,af,ag,ah⟩) ⟨hF.fn,hF.tmps.mono Y,(hF.mono Y).todo,ha.append (ai.mono λ_ _ x=>x.mono Y),U.mono Y,(hF.mono Y).round⟩ rfl rfl rfl rfl) (λ_=>rfl) (λ_=>rfl)
  |nil=>exact(ob hX ak (d:=⟨.nil,da⟩) (d':=⟨.nil,am⟩) ⟨.nil,hd.args⟩ (λ_ _ _ h=>by cases h)).eq (λ_=>rfl) (λ_=>rfl)|fn hf=>exact(ob hX ak (d:=⟨_,da⟩) (d':=⟨_,am⟩) ⟨.fn hf,hd.args⟩ (λ_ _ _ h=>by cases h)).eq (λ_=>rfl) (λ_=>rfl)|builtin x y z av=>exact absurd ⟨hm,x,y,z,_,_,rfl⟩ hn|mark x y z ao=>
   refine .bad λx _ hw=>?_;obtain⟨q,aq,e1⟩:=KH (P:=P) ao hw;rw[<-cM P _ x #[]]at e1;unfold aY;dsimp only;rw[e1];exact Pj.after (.ended _ _ _) _
 |nil=>
  cases U with
  |run=>exact absurd rfl hm|returning=>
   cases W:P.funcs[B]? with
   |none=>exact .ret hS (λo e h=>O o e (by simp) rfl h) (hF.tmps.getD 0) (λx=>by unfold aY;dsimp only;rw[W]) (λx=>by unfold aY;dsimp only;rw[W])|some f=>
    refine .run (lJ (P:=P) (fn:=f) hF.tmps) (E:=λ_ es=>aR P B es) (E':=λ_ es=>aR P B es) (λx r es e=>by unfold aY;dsimp only;rw[W];dsimp only;rw[e];dsimp only) (λx r es e=>by unfold aY;dsimp only;rw[W];dsimp only;rw[e];dsimp only) (λ_ _ _ h=>mX h)
     (λdx a a' Y ha=>?_) (λ_ _ _ _ _=>.bad λ_ _ _=>?_) (λx _ _=>?_)
    exact .ret (hS.mono Y) (λo e h=>O o e (by simp) rfl h) ha (λ_=>rfl) (λ_=>rfl);exact .ended _ _ _
    cases x<;>exact .ended _ _ _
  |panicking ap=>
   have jP:∀{q q':Frame},fL m q q'->ff P q=false/\ff P q'=false:=by
    intro q q' hq;have:=hq.todo;unfold ff;revert this;generalize q.todo=l;generalize q'.todo=l';intro ht
    cases ht with
    |nil=>constructor <;>(split<;>first|rfl|simp_all)
    |cons hi _=>cases hi <;>(constructor <;>(split<;>first|rfl|simp_all))
   have aa:=jP hF
   cases hS with
   |one hf h1 h2 h3=>exact .low (λo=>O o rfl (by simp) rfl h3) (λx=>by unfold aY;dsimp only;rw[aa.1];rfl)|cons hf h1 h2 h3=>
    have hr:=h3.qc.raise ap;exact .stay (h3.set (.refl m) hr.1 hr.2.1 hr.2.2 (om ..) (uf ..)) (λx=>by unfold aY;rw[aa.1];rfl) (λx=>by unfold aY;rw[aa.2];rfl)
theorem FL(hX:l6 P m gl st){fr fr':Frame}{cs cs':List Frame}(W:dR P m T (fr::cs) (fr'::cs'))(hn:¬AtClose fr)(O:ok->cs=[door P]->fr.mode≠.run->fr.defers=[]->fr.roundOf=none->False):wL P T main' ok m (aS P true (G fr cs)) (aS P main' (G fr' cs')):=by
 have B:=W.qc.mode;generalize Y:fr.mode=q at B;generalize U:fr'.mode=q' at B
 cases B with
 |run=>exact(KX hX W).eq (λx=>by unfold aS;simp only[G,Y]) (λx=>by unfold aS;simp only[G,U])|returning|panicking=>exact(GF hX W (by rw[Y];simp) hn O).eq (λx=>by unfold aS;simp only[G,Y]) (λx=>by unfold aS;simp only[G,U])
theorem yT(U:l6 P m gl st){fr fr':Frame}{cs cs':List Frame}(W:dR P m T (fr::cs) (fr'::cs'))(Y:¬AtClose fr)(B:cs=[door P]->fr.mode≠.run->fr.defers=[]->fr.roundOf=none->False){w:World}(hw:WR m w w')(O:Al w w'){main':Bool}{w₁:World}{es:Array Event}
  (h:aS P true (G fr cs) w=.go (G fg fh) w₁ es):nO P m T (aS P main' (G fr' cs') w') w' fg fh w₁:=(FL (ok:=True) U W Y λ_=>B).out trivial hw O h
theorem xq(B:l6 P m gl st){fr fr':Frame}{cs cs':List Frame}(O:dR P m T (fr::cs) (fr'::cs'))(U:¬AtClose fr):wL P T main' False m (aS P true (G fr cs)) (aS P main' (G fr' cs')):=FL B O U False.elim
theorem Qr(B:l6 P m gl st){fr fr':Frame}{cs cs':List Frame}(O:dR P m T (fr::cs) (fr'::cs'))(U:¬AtClose fr){w:World}(W:WR m w w'){w₁:World}{es:Array Event}
  (h:aS P true (G fr cs) w=.go (G fg fh) w₁ es):xr P (aS P true (G fr cs)) w fg fh w₁:=
 (xq (main':=true) B O U).loc (R:=λx es=>.go _ x es) ⟨ud,λ_ _ _=>⟨_,rfl⟩,λh=>h.go,Sh,λh=>C6 _ _ _ _ _ _ _ _ _ h,λa b c h=>K5 B.env.Sp a b c h⟩ W h
theorem NO(B:l6 P m gl st){fr fr':Frame}{cs cs':List Frame}(O:dR P m T (fr::cs) (fr'::cs'))(U:¬AtClose fr){w:World}(W:WR m w w'):po P (aS P true (G fr cs) w):=(xq (main':=true) B O U).outs W
theorem Kw(O:l6 P m gl st){fr fr':Frame}{cs cs':List Frame}(U:dR P m T (fr::cs) (fr'::cs'))(W:¬AtClose fr){w:World}(Y:WR m w w')(B:Al w w'){main':Bool}:Qb P m T (aS P true (G fr cs) w) (aS P main' (G fr' cs') w') w':=(xq O U W).via Y B
theorem uo(hX:l6 P m gl st){fr fr':Frame}{cs cs':List Frame}(hS:dR P m T (fr::cs) (fr'::cs'))(hn:¬AtClose fr){w:World}(hw:WR m w w')(W:Al w w'){main':Bool}{g:Goroutine}{w₁:World}{es:Array Event}
  (h:aS P true (G fr cs) w=.comm g k b sh w₁ es):J8 P m T (aS P main' (G fr' cs') w') w' g k b sh w₁:=by
 have hv:=Kw hX hS hn hw W (main':=main');rw[h]at hv;rcases hv with⟨dx,X,X',f,c,f',c',s,s',w2,ae,Y,e2,hl,hE,aa,hs,ab,B,hk,hx⟩|hp
 rw[e2];generalize hr:cI P true f c none s w2=r at Y;cases r<;>simp only[cK,GStep.comm.injEq,reduceCtorEq]at Y;obtain⟨rfl,rfl,rfl,rfl,rfl,_⟩:=Y;obtain⟨ac,ad,m₂,O,U,k',w3,af,rfl,g1,g0,g2,g3,g4,g5,g6,g7⟩:=GP hE aa hs ab B hr;rw[g1];exact⟨ac,ad,m₂,O,U,k',w3,_,rfl,rfl,g0.imp (λx=>hl.il▸x) id,hl.trans g2,g3,g4,g5,hk.trans hl g2 g6,sE g2 hx g7⟩
 cases hp
theorem M4(hX:l6 P m gl st){fr fr':Frame}{cs cs':List Frame}(hS:dR P m T (fr::cs) (fr'::cs'))(hn:¬AtClose fr){w:World}(hw:WR m w w')(W:Al w w'){main':Bool}{g ch:Goroutine}{w₁:World}{es:Array Event}
  (h:aS P true (G fr cs) w=.spawn g ch w₁ es):Kg P m T (aS P main' (G fr' cs') w') w' g ch w₁:=by
 have hv:=Kw hX hS hn hw W (main':=main');rw[h]at hv;rcases hv with⟨dx,X,X',f,c,f',c',s,s',w2,ae,Y,e2,hl,hE,aa,hs,ab,B,hk,hx⟩|hp
 rw[e2];generalize hr:cI P true f c none s w2=r at Y;cases r<;>simp only[cK,GStep.spawn.injEq,reduceCtorEq]at Y;obtain⟨rfl,rfl,rfl,_⟩:=Y;obtain⟨ac,ad,d,m₂,O,U,d',w3,af,rfl,rfl,g1,g0,g2,g3,g4,g5,g6,g7⟩:=DN hE aa hs ab B hr;rw[g1];exact⟨ac,ad,d,m₂,O,U,d',w3,_,rfl,rfl,rfl,hl.il▸g0,hl.trans g2,g3,g4,g5,hk.trans hl g2 g6,sE g2 hx g7⟩
 cases hp
theorem NS(B:l6 P m gl st){fr fr':Frame}{cs cs':List Frame}(O:dR P m T (fr::cs) (fr'::cs'))(U:¬AtClose fr){w:World}(W:WR m w w'){g:Goroutine}{w₁:World}{es:Array Event}
  (h:aS P true (G fr cs) w=.comm g k b sh w₁ es):Eo P (aS P true (G fr cs)) w g k b sh w₁:=
 (xq (main':=true) B O U).loc (R:=λx es=>.comm g k b sh x es) ⟨GN,λ_ _ _=>⟨_,rfl⟩,λh e=>UX h.plain e,nofun,λh=>UX (qZ ..) h,λa b c h=>Iw B.env.Sp a b c h⟩ W h
end
end
end Go.Proofs.YtocbogeoffeolaaGreatDoor
