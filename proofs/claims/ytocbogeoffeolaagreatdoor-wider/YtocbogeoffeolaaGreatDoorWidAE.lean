import GoSem.Step
import Derived.Conc.Events
import Derived.Laws.Tables
import Derived.MapKept
import Derived.Conc.Listed
import Derived.DyingOn
set_option linter.all false
set_option maxHeartbeats 8000000
set_option maxRecDepth 1000000
open Array renaming getElem?_setIfInBounds_ne->ax,getElem?_eq_some_iff->ay,getElem?_toList->az,mapM_eq_mapM_toList->a0,filter->a1,getElem?_modify->a2,range->a3,toList_map->a4,length_toList->a5,forIn_toList->a6,foldl_toList->a7,empty_append->a8,mem_append->a9,isEmpty->aA,all_eq_true_iff_forall_mem->aB,map->aC,mem_toList_iff->aD,toList_zipIdx->aE,toList_filter->aF,toList_append->aG,append_assoc->aH,toList_push->aI,mem_flatMap->aJ,toList_zip->aK,all_toList->aL,replicate->aM
open Go renaming TypeId->aN,tryRecover->aO,doReturn->aP,zeroValue->aQ,seen->aR,stepG->aS,underlying->aT,endThrow->aU,boundsPanic->aV,runtimePanic->aW,FuncId->aX,unwind->aY,callDeferred->aZ,newRow->ba,yielded->bc,loadCellsFrom->bd,storeCells->be,sizeOf->bf,findLabel->bg,loadBytes->bh,loadCells->bi,dieOf->bj,resolve->bk,gotoIn->bm,exitTo->bn,execOp->bo,askRoom->bp,typeInfo->bq,goexitEntry->br,sameAddr->bs,newObj->bt,mayBeOne->bu,nilAhead->bv,markStringish->bw,typeStr->bx,results->bz,movedPointer->b0,behindNumber->b1,method->b3,variablesAt->b4,movedNumber->b5,undef->b6,fieldPlace->b7,elemOf->b8,byteOf->b9
open Go.Instr renaming sameBits->bA,sameNow->bB,fill->bC,endRound->bD,findNow->bE,takeDeferred->bF,findAsking->bG,beginRound->bH,checkKey->bI,findKey->bJ,keyThatStays->bK,deferInRound->bL,sliceBounds->bM,sliceBound->bN,getLoop->bO,extract->bP,yield->bQ,makeInterface->bR,next->bS,typeAssert->bT,entryStore->bU,buildSlice->bV,mapUpdate->bW,makeSlice->bX,enterLoop->bY,sureAddr->bZ,mapEntry->cd,makeFunc->ce,makeChan->cf,storeAt->cg,sliceAt->ci,makeMap->cj,indexAt->ck,fieldAt->cl,endLoop->cm,lookup->cp,loadAt->cq,slice->cr,range->cu,panic->cv,index->cw,field->cx,entry->cy,build->cz,alloc->c0,box->c3
open Go.Op renaming operands->c4,equal->c5,maxDepth->c6,twoPlaces->c7,eqGuardIn->c8,stringOp->c9,intArith->cA,intBits->cB,equalIn->cC,addrMod->cD,intDiv->cE,intCmp->cF,unary->cG,shift->cH
open Go.stepG renaming apply->cI,exec->cJ
open Go.GStep renaming after->cK
open Go.Sem renaming run->cL,runT_fst->cM,runT->cN,run_bind'->cO,bind_assoc'->cP
open Go.Builtin renaming zeroCells->cQ,unsafeAdd_->cR,append_->cS,clear_->cT,copy_->cU,min_->cV,max_->cW,len_->cX,cap_->cY,unsafeString_->cZ,holdsCells->db,firstCells->dc,mayShare->dd,lenOf->dg,min2->di,max2->dj
open Bool renaming and_eq_true->dk,eq_iff_iff->dl,false_eq_true->dr
open Nat renaming le_trans->ee,le_refl->eg,le_succ_of_le->ei,lt_of_lt_of_le->ej,lt_of_succ_le->ek,le_of_succ_le->en,le_of_not_lt->er,le_succ->ev
open Go.Frame renaming eval->ew,pos->ez,round->e8,raise->eC,enter->fa,catches->fb,finish->fd,oper?->ff
open List renaming getElem?_zip_eq_some->fk,mem_iff_getElem?->fm,all_eq_true->fB,forIn_cons->ga,mapM_cons->gc,mem_cons->gd,mem_map->ge
open Option.some renaming injEq->gg,inj->gi
open Option renaming getD_some->gj,map_some->gn,bind_some->gs
open Go.Call renaming operands->gt
open Go.World renaming freeze->gv,frozen?->gx,noCell->gy,cell?->g8
open Go.Conv renaming bytesToString->g9,stringToBytes->gA,runesToString->gB
open Go.Extern.SlicesOverlaps renaming overlaps->hj
open Go.Extern.Bytes renaming loadBytes->h9,bytesOf->hB
open Std.Legacy.Range renaming forIn_eq_forIn_range'->hC
open Go.GStep.go renaming injEq->hH
open Ne renaming symm->hI
open Go.Region renaming wanted->hJ,schedule->hL
namespace Go.Proofs.YtocbogeoffeolaaGreatDoor
section
variable {α β:Type}
inductive dO{α β:Type}(R:α->β->Prop):List α->List β->Prop
 |nil:dO R [] []
 |cons {a b l l'}:R a b->dO R l l'->dO R (a::l) (b::l')
theorem dO.mono{R S:α->β->Prop}(h:∀a b,R a b->S a b):∀{l:List α}{l':List β},dO R l l'->dO S l l'
 |_,_,.nil=>.nil
 |_,_,.cons a b=>.cons (h _ _ a) (dO.mono h b)
theorem dO.length{R:α->β->Prop}:∀{l:List α}{l':List β},dO R l l'->l.length=l'.length
 |_,_,.nil=>rfl
 |_,_,.cons _ b=>by simp[dO.length b]
theorem dO.append{R:α->β->Prop}:∀{l l₂:List α}{l' B:List β},dO R l l'->dO R l₂ B->dO R (l++l₂) (l'++B)
 |_,_,_,_,.nil,h=>h
 |_,_,_,_,.cons a b,h=>.cons a (dO.append b h)
theorem dO.get{R:α->β->Prop}:∀{l:List α}{l':List β},dO R l l'->∀{i:Nat}{a:α},l[i]?=some a->∃b,l'[i]?=some b/\R a b
 |_,_,.nil,i,a,h=>by simp at h
 |_,_,.cons (b:=b) x y,0,a,h=>⟨b,by simp,by simp at h; exact h▸x⟩
 |_,_,.cons x y,i+1,a,h=>by simpa using dO.get y (by simpa using h)
theorem dO.get_none{R:α->β->Prop}{l:List α}{l':List β}(h:dO R l l'){i:Nat}(hi:l[i]?=none):l'[i]?=none:=by
 rw[List.getElem?_eq_none_iff]at hi⊢;rw[<-h.length]; exact hi
theorem dO.H8{R:α->β->Prop}:∀{l:List α}{l':List β},l.length=l'.length->(∀(i:Nat)a b,l[i]?=some a->l'[i]?=some b->R a b)->dO R l l'
 |[],[],_,_=>.nil
 |a::l,b::l',h,g=>.cons (g 0 a b (by simp) (by simp)) (dO.H8 (by simpa using h) λi x y B O=>g (i+1) x y (by simpa using B) (by simpa using O))
 |[],b::l',h,_=>by simp at h
 |a::l,[],h,_=>by simp at h
theorem dO.take{R:α->β->Prop}:∀(n:Nat){l:List α}{l':List β},dO R l l'->dO R (l.take n) (l'.take n)
 |0,_,_,_=>by simpa using .nil
 |n+1,_,_,.nil=>by simpa using .nil
 |n+1,_,_,.cons a b=>by simpa using .cons a (dO.take n b)
theorem dO.drop{R:α->β->Prop}:∀(n:Nat){l:List α}{l':List β},dO R l l'->dO R (l.drop n) (l'.drop n)
 |0,_,_,h=>by simpa using h
 |n+1,_,_,.nil=>by simpa using .nil
 |n+1,_,_,.cons a b=>by simpa using dO.drop n b
theorem dO.set{R:α->β->Prop}:∀{l:List α}{l':List β},dO R l l'->∀(i:Nat){a:α}{b:β},R a b->dO R (l.set i a) (l'.set i b)
 |_,_,.nil,_,_,_,_=>by simpa using .nil
 |_,_,.cons x y,0,_,_,h=>by simpa using .cons h y
 |_,_,.cons x y,i+1,_,_,h=>by simpa using .cons x (dO.set y i h)
theorem dO.map{γ δ:Type}{R:α->β->Prop}{S:γ->δ->Prop}{f:α->γ}{g:β->δ}(h:∀a b,R a b->S (f a) (g b)):∀{l:List α}{l':List β},dO R l l'->dO S (l.map f) (l'.map g)
 |_,_,.nil=>.nil
 |_,_,.cons a b=>.cons (h _ _ a) (dO.map h b)
theorem dO.refl{R:α->α->Prop}:∀{l:List α},(∀a∈l,R a a)->dO R l l
 |[],_=>.nil
 |a::l,h=>.cons (h a (by simp)) (dO.refl λx B=>h x (by simp[B]))
structure Ren where
 blk:Nat->Option Nat
 ch:Nat->Option Nat
 loose:Nat->Prop
 ok:Oper->Prop
 fu:aX->Prop
 ig:Prop
 dead:Nat->Prop
 dm:Nat->Nat
 rP:Nat->Nat->Option Value
 kJ:Nat->Option Obj
 G:Nat
 oh:∀r r',blk r=some r'->(r<G↔r'<G)
 inj:∀r s t,blk r=some t->blk s=some t->r=s
 uB:∀r s t,ch r=some t->ch s=some t->r=s
structure Ren.Le(m m':Ren):Prop where
 blk:∀r r',m.blk r=some r'->m'.blk r=some r'
 ch:∀r r',m.ch r=some r'->m'.ch r=some r'
 loose:∀r r',m.blk r=some r'->(m'.loose r↔m.loose r)
 less:∀r,m'.loose r->m.loose r
 ok:m'.ok=m.ok
 fu:m'.fu=m.fu
 ig:m'.ig=m.ig
 G:m'.G=m.G
 dead:m'.dead=m.dead
 dm:m'.dm=m.dm
 rP:m'.rP=m.rP
theorem Ren.Le.refl(m:Ren):m.Le m:=⟨λ_ _ h=>h,λ_ _ h=>h,λ_ _ _=>Iff.rfl,λ_ h=>h,rfl,rfl,rfl,rfl,rfl,rfl,rfl⟩
theorem Ren.Le.trans{m m' B:Ren}(h:m.Le m')(h':m'.Le B):m.Le B:=
 ⟨λr r' x=>h'.blk r r' (h.blk r r' x),λr r' x=>h'.ch r r' (h.ch r r' x),λr r' x=>(h'.loose r r' (h.blk r r' x)).trans (h.loose r r' x),λr x=>h.less r (h'.less r x),h'.ok.trans h.ok,h'.fu.trans h.fu,h'.ig.trans h.ig,h'.G.trans h.G,h'.dead.trans h.dead,h'.dm.trans h.dm,h'.rP.trans h.rP⟩
inductive AR(m:Ren):Addr->Addr->Prop
 |mk {b b' o s}:m.blk b=some b'->AR m ⟨b,o,s⟩ ⟨b',o,s⟩
theorem AR.blk{m:Ren}{a a':Addr}(h:AR m a a'):m.blk a.block=some a'.block:=by cases h; assumption
theorem AR.off{m:Ren}{a a':Addr}(h:AR m a a'):a'.off=a.off:=by cases h; rfl
theorem AR.spot{m:Ren}{a a':Addr}(h:AR m a a'):a'.spot=a.spot:=by cases h; rfl
theorem AR.mono{m m':Ren}(h:m.Le m'){a a':Addr}(x:AR m a a'):AR m' a a':=by cases x with|mk hb=>exact .mk (h.blk _ _ hb)
theorem AR.add{m:Ren}{a a':Addr}(h:AR m a a')(n:Nat):AR m (a.add n) (a'.add n):=by
 cases h with
 |mk hb=>unfold Addr.add; split<;>exact .mk hb
theorem AR.eq_iff{m:Ren}{a a' b b':Addr}(h:AR m a a')(h':AR m b b'):(a=b↔a'=b'):=by
 cases h with
 |mk hb=>cases h' with
  |mk B=>
   constructor
   .intro e; cases e; rw[hb]at B; cases B; rfl
   .intro e; cases e; have:=m.inj _ _ _ hb B; subst this; rfl
theorem AR.rH{m:Ren}{a a' b b':Addr}(h:AR m a a')(h':AR m b b'):(a.block=b.block↔a'.block=b'.block):=by
 cases h with
 |mk hb=>cases h' with
  |mk B=>
   constructor
   .intro e; subst e; rw[hb]at B; cases B; rfl
   .intro e; subst e; exact m.inj _ _ _ hb B
inductive M7(m:Ren):Fn->Fn->Prop
 |func (f):m.fu f->M7 m (.func f) (.func f)
 |yield {l l'}:m.blk l=some l'->M7 m (.yield l) (.yield l')
theorem M7.mono{m m':Ren}(h:m.Le m'){a a':Fn}(x:M7 m a a'):M7 m' a a':=by
 cases x with
 |func f B=>exact .func f (h.fu▸B)
 |yield hb=>exact .yield (h.blk _ _ hb)
def Pt:Value->Prop
 |.pointer (some _)|.slice (some _) _ _|.map (some _)|.chan (some _)|.iface ..|.float ..|.complex ..|.tuple _|.func (.func _) _ _|.func (.yield _) _ _|.func (.methodOf _ _) _ _|.func (.via ..) _ _=>True
 |_=>False
inductive VR(m:Ren):Value->Value->Prop
 |fJ (v):Pt v->VR m (.tuple #[]) v
 |bool (b):VR m (.bool b) (.bool b)
 |int (k n):VR m (.int k n) (.int k n)
 |string (s):VR m (.string s) (.string s)
 |gM:VR m (.pointer none) (.pointer none)
 |ptr {a a'}:AR m a a'->VR m (.pointer (some a)) (.pointer (some a'))
 |ft (l c):VR m (.slice none l c) (.slice none l c)
 |slice {a a'} (l c):AR m a a'->VR m (.slice (some a) l c) (.slice (some a') l c)
 |mz:VR m (.map none) (.map none)
 |map {r r'}:m.blk r=some r'->VR m (.map (some r)) (.map (some r'))
 |gone {r}:m.dead r->VR m (.map (some r)) (.map (some (m.dm r)))
 |iR:VR m (.chan none) (.chan none)
 |chan {r r'}:m.ch r=some r'->VR m (.chan (some r)) (.chan (some r'))
 |func {fn fn' f f' c c'}:M7 m fn fn'->f.size=f'.size->(∀i(h:i<f.size)(h':i<f'.size),VR m f[i] f'[i])->c.size=c'.size->(∀i(h:i<c.size)(h':i<c'.size),VR m c[i] c'[i])->VR m (.func fn f c) (.func fn' f' c')
 |nilFunc:VR m .nilFunc .nilFunc
 |iface (t) {v v'}:VR m v v'->VR m (.iface t v) (.iface t v')
 |nilIface:VR m .nilIface .nilIface
 |agg {c c'}:c.size=c'.size->(∀i(h:i<c.size)(h':i<c'.size),VR m c[i] c'[i])->VR m (.agg c) (.agg c')
 |tuple {c c'}:c.size=c'.size->(∀i(h:i<c.size)(h':i<c'.size),VR m c[i] c'[i])->VR m (.tuple c) (.tuple c')
 |qx {lf n f c}:lf.size=f.size->(∀i(h:i<lf.size)(h':i<f.size),VR m lf[i] f[i])->(∀t w,f[0]?=some (.iface t w)->∃x,lf[0]?=some (.iface t x))->VR m (.func (.method "") lf #[.func (.method n) f c]) (.func (.method n) f c)
theorem VR.mono{m m':Ren}(h:m.Le m'){v v':Value}(x:VR m v v'):VR m' v v':=by
 induction x with
 |fJ v Y=>exact .fJ v Y
 |qx B _ U O=>exact .qx B O U
 |bool|int|string|gM|ft|mz|iR|nilFunc|nilIface=>constructor
 |ptr W=>exact .ptr (W.mono h)
 |slice l c W=>exact .slice l c (W.mono h)
 |map hb=>exact .map (h.blk _ _ hb)
 |gone hd=>rw[<-h.dm]; exact .gone (h.dead▸hd)
 |chan hb=>exact .chan (h.ch _ _ hb)
 |func hf B _ U _ i1 i2=>exact .func (hf.mono h) B i1 U i2
 |iface t _ O=>exact .iface t O
 |agg B _ O=>exact .agg B O
 |tuple B _ O=>exact .tuple B O
def ep(m:Ren)(c c':Array Value):Prop:=dO (VR m) c.toList c'.toList
theorem ep.mono{m m':Ren}(h:m.Le m'){c c':Array Value}(x:ep m c c'):ep m' c c':=dO.mono (λ_ _=>VR.mono h) x
theorem ep.size{m:Ren}{c c':Array Value}(h:ep m c c'):c.size=c'.size:=by simpa using dO.length h
theorem ep.ib{m:Ren}{c c':Array Value}(O:c.size=c'.size)(h:∀i(h:i<c.size)(h':i<c'.size),VR m c[i] c'[i]):ep m c c':=by
 refine dO.H8 (by simpa using O) λi a b B hb=>?_;simp only[az]at B hb;obtain⟨U,rfl⟩:=ay.1 B;obtain⟨W,rfl⟩:=ay.1 hb;exact h i U W
theorem ep.idx{m:Ren}{c c':Array Value}(x:ep m c c'):∀i(h:i<c.size)(h':i<c'.size),VR m c[i] c'[i]:=by
 intro i h h';obtain⟨b,hb,B⟩:=dO.get x (i:=i) (a:=c[i]) (by simp[h]);simp only[az,Array.getElem?_eq_getElem h',gg]at hb;exact hb▸B
theorem VR.L0{m:Ren}{c c':Array Value}(h:ep m c c'):VR m (.agg c) (.agg c'):=.agg h.size h.idx
theorem VR.kS{m:Ren}{c c':Array Value}(h:ep m c c'):VR m (.tuple c) (.tuple c'):=.tuple h.size h.idx
theorem VR.J5{m:Ren}{fn B:Fn}{f f' c c':Array Value}(O:M7 m fn B)(h:ep m f f')(h':ep m c c'):VR m (.func fn f c) (.func B f' c'):=.func O h.size h.idx h'.size h'.idx
theorem VR.undef(m:Ren):VR m undef undef:=.fJ _ trivial
theorem ep.get{m:Ren}{c c':Array Value}(h:ep m c c'){i:Nat}{v:Value}(B:c[i]?=some v):∃v',c'[i]?=some v'/\VR m v v':=by simpa using dO.get h (i:=i) (a:=v) (by simpa using B)
theorem ep.get_none{m:Ren}{c c':Array Value}(h:ep m c c'){i:Nat}(B:c[i]?=none):c'[i]?=none:=by simpa using dO.get_none h (i:=i) (by simpa using B)
theorem ep.getD{m:Ren}{c c':Array Value}(h:ep m c c')(i:Nat):VR m (c.getD i b6) (c'.getD i b6):=by
 simp only[Array.getD_eq_getD_getElem?]
 cases O:c[i]? with
 |none=>rw[h.get_none O]; exact .undef m
 |some v=>obtain⟨v',B,U⟩:=h.get O; simp only[B,gj]; exact U
theorem ep.push{m:Ren}{c c':Array Value}(h:ep m c c'){v v':Value}(B:VR m v v'):ep m (c.push v) (c'.push v'):=by
 unfold ep; simp only[aI]; exact dO.append h (.cons B .nil)
theorem ep.append{m:Ren}{c c' d d':Array Value}(h:ep m c c')(h':ep m d d'):ep m (c++d) (c'++d'):=by
 unfold ep; simp only[aG]; exact dO.append h h'
theorem ep.extract{m:Ren}{c c':Array Value}(h:ep m c c')(i j:Nat):ep m (c.extract i j) (c'.extract i j):=by
 unfold ep; simp only[Array.toList_extract,List.extract_eq_take_drop]; exact dO.take _ (dO.drop _ h)
theorem ep.set{m:Ren}{c c':Array Value}(h:ep m c c')(i:Nat){v v':Value}(B:VR m v v'):ep m (c.setIfInBounds i v) (c'.setIfInBounds i v'):=by
 unfold ep; simp only[Array.toList_setIfInBounds]; exact dO.set h i B
theorem ep.nil(m:Ren):ep m #[] #[]:=dO.nil
theorem ep.one{m:Ren}{v v':Value}(h:VR m v v'):ep m #[v] #[v']:=dO.cons h dO.nil
def Plain:Value->Prop
 |.bool _|.int _ _|.string _|.pointer none|.slice none _ _|.map none|.chan none|.nilFunc|.nilIface=>True
 |_=>False
theorem VR.plain{m:Ren}:∀{v:Value},Plain v->VR m v v:=by
 intro v h
 match v,h with
 |.bool _,_=>constructor
 |.int ..,_=>constructor
 |.string _,_=>constructor
 |.pointer none,_=>constructor
 |.slice none ..,_=>constructor
 |.map none,_=>constructor
 |.chan none,_=>constructor
 |.nilFunc,_=>constructor
 |.nilIface,_=>constructor
theorem VR.cells{m:Ren}{v v':Value}(h:VR m v v'):ep m v.cells v'.cells:=by
 cases h with
 |fJ v B=>
  have:v'.cells=#[v']:=by cases v'<;>first|rfl|exact B.elim
  rw[this];exact ep.one (.fJ _ B)
 |qx a b c=>exact ep.one (.qx a b c)
 |agg O hi=>exact ep.ib O hi
 |bool|int|string|gM|ft|mz|iR|nilFunc|nilIface=>exact ep.one (by constructor)
 |ptr h=>exact ep.one (.ptr h)
 |slice l c h=>exact ep.one (.slice l c h)
 |map h=>exact ep.one (.map h)
 |gone h=>exact ep.one (.gone h)
 |chan h=>exact ep.one (.chan h)
 |func a b c d e=>exact ep.one (.func a b c d e)
 |iface t h=>exact ep.one (.iface t h)
 |tuple a b=>exact ep.one (.tuple a b)
theorem ep.replicate{m:Ren}{v v':Value}(n:Nat)(h:VR m v v'):ep m (aM n v) (aM n v'):=by
 refine ep.ib (by simp) λi B O=>?_;simpa using h
theorem ep.refl{m:Ren}{c:Array Value}(h:∀v∈c.toList,VR m v v):ep m c c:=dO.refl h
end
section
variable {m':Ren}
def uH:Operand->Prop
 |.tmp _=>True
 |.const v=>Plain v
 |_=>False
def fD(ok:Oper->Prop):Code->Prop
 |.skip|.exit _|.label _|.goto _|.ret=>True
 |.region _ ops _=>∀o∈ops.toList,ok o
 |.seq a b=>fD ok a/\fD ok b
 |.cond c a b=>uH c/\fD ok a/\fD ok b
 |.block _ c|.loop c|.scope c=>fD ok c
 |.rangeFunc f _ a b=>uH f/\fD ok a/\fD ok b
 |.refuse _=>False
structure wm(m:Ren)(l l':Loop):Prop where
 state:l.state=l'.state
 pending:l.pending=l'.pending
 TD:∀c,l.pending=some c->fD m.ok c
 fn:l.fn=l'.fn
 tmps:ep m l.tmps l'.tmps
 params:l.params=l'.params
 assign:l.assign=l'.assign
 body:l.body=l'.body
 SR:fD m.ok l.assign
 xh:fD m.ok l.body
 defers:m.blk l.defers=some l'.defers
def TX(m:Ren)(f f':Fn)(c c':Array Value):Prop:=(M7 m f f'/\ep m c c')\/(f=.method ""/\∃n,f'=.method n)
theorem TX.mono{m:Ren}(h:m.Le m'){f f':Fn}{c c':Array Value}(x:TX m f f' c c'):TX m' f f' c c':=x.imp (λy=>⟨y.1.mono h,y.2.mono h⟩) id
inductive TR(m:Ren):Target->Target->Prop
 |fn {f f' c c'}:TX m f f' c c'->TR m (.fn f c) (.fn f' c')
 |nil:TR m .nil .nil
 |builtin (a t c):m.ig->TR m (.builtin .close a t c) (.builtin .close a t c)
 |mark {r} (a t c):m.dead r->TR m (.collected r) (.builtin .close a t c)
 |collected {r r'}:m.blk r=some r'->TR m (.collected r) (.collected r')
structure DR(m:Ren)(d d':Deferred):Prop where
 target:TR m d.target d'.target
 args:ep m d.args d'.args
structure sQ(m:Ren)(e e':MapEntry):Prop where
 key:VR m e.key e'.key
 val:VR m e.val e'.val
 born:e'.born=e.born
inductive OR(m:Ren):Obj->Obj->Prop
 |cells {c c'} (e f f'):ep m c c'->OR m (.cells c e f) (.cells c' e f')
 |map {es es'} (clock):dO (sQ m) es.toList es'.toList->OR m (.map es clock) (.map es' clock)
 |number {a a'} (l):AR m a a'->OR m (.number a l) (.number a' l)
 |stringIter (s p):OR m (.stringIter s p) (.stringIter s p)
 |fU (a b c):OR m (.mapIter none a b c) (.mapIter none a b c)
 |mapIter {r r'} (a b c):m.blk r=some r'->OR m (.mapIter (some r) a b c) (.mapIter (some r') a b c)
 |loop {l l'}:wm m l l'->OR m (.loop l) (.loop l')
 |eR:OR m (.deferred none) (.deferred none)
 |deferred {ds ds'}:dO (DR m) ds ds'->OR m (.deferred (some ds)) (.deferred (some ds'))
theorem TR.mono{m:Ren}(h:m.Le m'){a a':Target}(x:TR m a a'):TR m' a a':=by
 cases x with
 |fn B=>exact .fn (B.mono h)
 |nil=>exact .nil
 |builtin a t c hm=>exact .builtin a t c (h.ig▸hm)
 |mark a t c O=>exact .mark a t c (h.dead▸O)
 |collected hb=>exact .collected (h.blk _ _ hb)
theorem DR.mono{m:Ren}(h:m.Le m'){a a':Deferred}(x:DR m a a'):DR m' a a':=⟨x.target.mono h,x.args.mono h⟩
theorem sQ.mono{m:Ren}(h:m.Le m'){a a':MapEntry}(x:sQ m a a'):sQ m' a a':=⟨x.key.mono h,x.val.mono h,x.born⟩
theorem wm.mono{m:Ren}(h:m.Le m'){a a':Loop}(x:wm m a a'):wm m' a a':=
 ⟨x.state,x.pending,λc B=>h.ok▸x.TD c B,x.fn,x.tmps.mono h,x.params,x.assign,x.body,h.ok▸x.SR,h.ok▸x.xh,h.blk _ _ x.defers⟩
theorem OR.mono{m:Ren}(h:m.Le m'){a a':Obj}(x:OR m a a'):OR m' a a':=by
 cases x with
 |cells e f f' B=>exact .cells e f f' (B.mono h)
 |map clock O=>exact .map clock (dO.mono (λ_ _ y=>y.mono h) O)
 |number l U=>exact .number l (U.mono h)
 |stringIter s p=>exact .stringIter s p
 |fU a b c=>exact .fU a b c
 |mapIter a b c hb=>exact .mapIter a b c (h.blk _ _ hb)
 |loop W=>exact .loop (W.mono h)
 |eR=>exact .eR
 |deferred Y=>exact .deferred (dO.mono (λ_ _ y=>y.mono h) Y)
def eh(P:Program){α:Type}:Sem α->Prop
 |.pure _=>False
 |.load _ _ _=>False
 |.store _ _ (.agg _) _=>True
 |.store _ _ (.tuple _) _=>True
 |.store _ _ _ _=>False
 |.new _ k=>∀r,eh P (k r)
 |.shape _ k=>∀r,eh P (k r)
 |.freeze _ _ k=>eh P k
 |.frozen _ k=>∀r,eh P (k r)
 |.getObj _ k=>∀r,eh P (k r)
 |.setObj _ _ k=>eh P k
 |.choose _ k=>∀r,eh P (k r)
 |.sys _ k=>∀r,eh P (k r)
 |.program k=>eh P (k P)
 |.mark _ k=>eh P k
 |.halt (.unsupported (.initOrder _))=>False
 |.halt (.unsupported _)=>True
 |.halt (.stuck _)=>True
 |.halt (.throw _)=>True
 |.halt _=>False
def fO{α:Type}:Sem α->Prop
 |.pure _=>True
 |.load _ _ k=>∀v,fO (k v)
 |.store _ _ _ k=>fO k
 |.new _ k=>∀r,fO (k r)
 |.shape _ k=>∀r,fO (k r)
 |.freeze _ _ k=>fO k
 |.frozen _ k=>∀r,fO (k r)
 |.getObj _ k=>∀r,fO (k r)
 |.setObj _ _ k=>fO k
 |.choose _ _=>False
 |.sys _ k=>∀r,fO (k r)
 |.program k=>∀P,fO (k P)
 |.mark _ k=>fO k
 |.halt _=>True
def Ox:Mark->Prop
 |.noRoom|.extern _=>True
 |_=>False
inductive dw(P:Program){α β:Type}(RA:Ren->α->β->Prop):Ren->Sem α->Sem β->Prop
 |dz {m s s'}:eh P s->dw P RA m s s'
 |pure {m a b}:RA m a b->dw P RA m (.pure a) (.pure b)
 |load {m a a' k k'}:AR m a a'->(∀v v',VR m v v'->dw P RA m (k v) (k' v'))->dw P RA m (.load .plain a k) (.load .plain a' k')
 |store {m a a' v v' k k'}:AR m a a'->VR m v v'->dw P RA m k k'->dw P RA m (.store .plain a v k) (.store .plain a' v' k')
 |new {m o o' k k'}:OR m o o'->(∀e c f,o=.cells e c f->∃e',o'=.cells e' c f)->(∀m' r r',m.Le m'->m'.blk r=some r'->¬m'.loose r->dw P RA m' (k r) (k' r'))->dw P RA m (.new o k) (.new o' k')
 |pV {m c b x s r t c' b' x' s' r' t' k k'}:m.ig->(∀m' i i',m.Le m'->m'.ch i=some i'->dw P RA m' (k i) (k' i'))->dw P RA m (.new (.chan c b x s r t) k) (.new (.chan c' b' x' s' r' t') k')
 |shape {m r r' k k'}:m.blk r=some r'->(∀x,dw P RA m (k x) (k' x))->dw P RA m (.shape r k) (.shape r' k')
 |freeze {m a a' n k k'}:AR m a a'->¬m.loose a.block->dw P RA m k k'->dw P RA m (.freeze a n k) (.freeze a' n k')
 |frozen {m a a' k k'}:AR m a a'->¬m.loose a.block->(∀x,dw P RA m (k x) (k' x))->dw P RA m (.frozen a k) (.frozen a' k')
 |getObj {m r r' k k'}:m.blk r=some r'->(∀o o',OR m o o'->dw P RA m (k o) (k' o'))->dw P RA m (.getObj r k) (.getObj r' k')
 |setObj {m r r' o o' k k'}:m.blk r=some r'->OR m o o'->(∀c e f,o≠.cells c e f)->dw P RA m k k'->dw P RA m (.setObj r o k) (.setObj r' o' k')
 |choose {m q k k'}:(∀n,dw P RA m (k n) (k' n))->dw P RA m (.choose q k) (.choose q k')
 |env {m k k'}:(∀r,dw P RA m (k r) (k' r))->dw P RA m (.sys .env k) (.sys .env k')
 |program {m k k'}:dw P RA m (k P) (k' P)->dw P RA m (.program k) (.program k')
 |mark {m x k k'}:Ox x->dw P RA m k k'->dw P RA m (.mark x k) (.mark x k')
 |gone {m r k s'}:m.dead r->dw P RA m (.getObj r k) s'
 |panic {m v v'}:VR m v v'->dw P RA m (.halt (.panic v)) (.halt (.panic v'))
section
variable {P:Program} {α β γ δ:Type}
theorem eh.bind{s:Sem α}{f:α->Sem γ}(h:eh P s):eh P (s.bind f):=by
 induction s with
 |pure a=>exact h.elim
 |load m a k B=>exact h.elim
 |store m a v k B=>cases v<;>exact h
 |new o k B=>exact λv=>B v (h v)
 |shape r k B=>exact λv=>B v (h v)
 |freeze a n k B=>exact B h
 |frozen a k B=>exact λv=>B v (h v)
 |getObj r k B=>exact λv=>B v (h v)
 |setObj r o k B=>exact B h
 |choose q k B=>exact λv=>B v (h v)
 |sys c k B=>exact λv=>B v (h v)
 |program k B=>exact B P h
 |mark m k B=>exact B h
 |halt x=>cases x<;>first|exact h|(rename_i u; cases u<;>exact h)
theorem dw.bind{RA:Ren->α->β->Prop}{RB:Ren->γ->δ->Prop}{m:Ren}{s:Sem α}{s':Sem β}{f:α->Sem γ}{f':β->Sem δ}
  (h:dw P RA m s s') (O:∀m' a b,m.Le m'->RA m' a b->dw P RB m' (f a) (f' b)):dw P RB m (s.bind f) (s'.bind f'):=by
 induction h with
 |dz hd=>exact .dz hd.bind
 |pure hr=>exact O _ _ _ (.refl _) hr
 |load U _ B=>exact .load U λv v' hv=>B v v' hv O
 |store U hv _ B=>exact .store U hv (B O)
 |new ho hc _ B=>exact .new ho hc λm' r r' hl hb hn=>B m' r r' hl hb hn λW a b Y hr=>O W a b (hl.trans Y) hr
 |pV hm _ B=>exact .pV hm λm' i i' hl hb=>B m' i i' hl hb λW a b Y hr=>O W a b (hl.trans Y) hr
 |shape hb _ B=>exact .shape hb λx=>B x O
 |freeze U hn _ B=>exact .freeze U hn (B O)
 |frozen U hn _ B=>exact .frozen U hn λx=>B x O
 |getObj hb _ B=>exact .getObj hb λo o' ho=>B o o' ho O
 |setObj hb ho hc _ B=>exact .setObj hb ho hc (B O)
 |choose _ B=>exact .choose λn=>B n O
 |env _ B=>exact .env λn=>B n O
 |program _ B=>exact .program (B O)
 |mark hm _ B=>exact .mark hm (B O)
 |gone hd=>exact .gone hd
 |panic hv=>exact .panic hv
theorem dw.mono{RA RB:Ren->α->β->Prop}{m:Ren}{s:Sem α}{s':Sem β}(h:dw P RA m s s')(O:∀m' a b,m.Le m'->RA m' a b->RB m' a b):dw P RB m s s':=by
 induction h with
 |dz hd=>exact .dz hd
 |pure x=>exact .pure (O _ _ _ (.refl _) x)
 |load U _ B=>exact .load U λv v' hv=>B v v' hv O
 |store U hv _ B=>exact .store U hv (B O)
 |new ho hc _ B=>exact .new ho hc λm' r r' hl hb hn=>B m' r r' hl hb hn λW a b Y x=>O W a b (hl.trans Y) x
 |pV hm _ B=>exact .pV hm λm' i i' hl hb=>B m' i i' hl hb λW a b Y x=>O W a b (hl.trans Y) x
 |shape hb _ B=>exact .shape hb λx=>B x O
 |freeze U hn _ B=>exact .freeze U hn (B O)
 |frozen U hn _ B=>exact .frozen U hn λx=>B x O
 |getObj hb _ B=>exact .getObj hb λo o' ho=>B o o' ho O
 |setObj hb ho hc _ B=>exact .setObj hb ho hc (B O)
 |choose _ B=>exact .choose λn=>B n O
 |env _ B=>exact .env λn=>B n O
 |program _ B=>exact .program (B O)
 |mark hm _ B=>exact .mark hm (B O)
 |gone hd=>exact .gone hd
 |panic hv=>exact .panic hv
end
def inside(f:Nat×Nat)(o:Nat):Prop:=f.1<=o/\o<f.2
def nX:Value->Prop
 |.agg _|.tuple _=>True
 |_=>False
def UC(m:Ren)(w w':World):Prop:=∀r o v,m.rP r o=some v->∃r',m.blk r=some r'/\∀c e f c' B f' x,w.heap[r]?=some (.cells c e f)->w'.heap[r']?=some (.cells c' B f')->c[o]?=some x->nX x->c'[o]?=some v
structure WR(m:Ren)(w w':World):Prop where
 obj:∀r r',m.blk r=some r'->∃o o',w.heap[r]?=some o/\w'.heap[r']?=some o'/\OR m o o'
 fz:∀r r' c e f c' e' f',m.blk r=some r'->w.heap[r]?=some (.cells c e f)->w'.heap[r']?=some (.cells c' e' f')->¬m.loose r->f'=f
 all:∀r r' c e f c' e' f',m.blk r=some r'->w.heap[r]?=some (.cells c e f)->w'.heap[r']?=some (.cells c' e' f')->m.loose r->∀o,o<c.size->inside f o
 M5:∀r r',m.ch r=some r'->r<w.heap.size/\r'<w'.heap.size
 M4:m.G<=w.heap.size
 JP:m.G<=w'.heap.size
 os:w'.os=w.os
 kJ:∀r o,m.kJ r=some o->w.heap[r]?=some o/\∃c b x s y t,o=.chan c b x s y t
 lk:∀r r',m.blk r=some r'->m.loose r->∃c e f,w.heap[r]?=some (.cells c e f)
 dead:∀r,m.dead r->m.blk r=none/\∃c e f,w.heap[r]?=some (.cells c e f)
 rP:UC m w w'
def Al(w w':World):Prop:=∀i q,w'.tape (w'.drawn+i) q=w.tape (w.drawn+i) q
def oA(m:Ren)(e:Event):Prop:=
 match e.loc with
 |.cell a'=>e.sync=false/\∃a,AR m a a'/\(e.write=true->¬m.loose a.block)
 |.obj r'=>e.sync=false/\∃r,m.blk r=some r'/\¬m.loose r
 |.mark k=>Ox k
 |.output=>True
 |_=>False
structure fw(m dy:Ren)(w w₁:World):Prop where
 old:∀r',r'<w.heap.size->(∀r,m.blk r≠some r')->w₁.heap[r']?=w.heap[r']?
 size:w.heap.size<=w₁.heap.size
 fresh:∀r',w.heap.size<=r'->r'<w₁.heap.size->(∃r,dy.blk r=some r')\/(∃r,dy.ch r=some r')
 news:∀r r',dy.blk r=some r'->m.blk r=some r'\/w.heap.size<=r'
 Tf:∀r r',dy.ch r=some r'->m.ch r=some r'\/w.heap.size<=r'
 tape:w₁.tape=w.tape
 output:w₁.output=w.output
 os:w₁.os=w.os
 mB:¬m.ig->dy.ch=m.ch
 kJ:dy.kJ=m.kJ
 still:∀r r',m.blk r=some r'->m.loose r->w₁.heap[r']?=w.heap[r']?
theorem fw.refl(m:Ren)(w:World):fw m m w w:=⟨λ_ _ _=>rfl,eg _,λr' h h'=>absurd h' (by omega),λ_ _ h=>.inl h,λ_ _ h=>.inl h,rfl,rfl,rfl,λ_=>rfl,rfl,λ_ _ _ _=>rfl⟩
theorem oA.mono{m:Ren}(h:m.Le m'){e:Event}(x:oA m e):oA m' e:=by
 unfold oA at x⊢;split<;>simp_all only
 .obtain⟨_,a,B,O⟩:=x;exact⟨trivial,a,B.mono h,λU=>by rw[h.loose _ _ B.blk]; exact O U⟩
 .obtain⟨_,a,B,W⟩:=x;exact⟨trivial,a,h.blk _ _ B,λy=>W ((h.loose _ _ B).1 y)⟩
theorem fw.trans{m dy m₂:Ren}{w w₁ B:World}(W:m.Le dy)(O:dy.Le m₂)(h:fw m dy w w₁)(h':fw dy m₂ w₁ B):fw m m₂ w B:=by
 refine⟨λr' U hn=>?_,ee h.size h'.size,λr' U Y=>?_,λr r' hb=>?_,λr r' hb=>?_,h'.tape.trans h.tape,h'.output.trans h.output,h'.os.trans h.os,λhm=>(h'.mB (by rw[W.ig]; exact hm)).trans (h.mB hm),h'.kJ.trans h.kJ,λr r' hb hx=>(h'.still r r' (W.blk _ _ hb) ((W.loose _ _ hb).2 hx)).trans (h.still r r' hb hx)⟩
 .rw[h'.old r' (ej U h.size) λr hb=>?_,h.old r' U hn];rcases h.news r r' hb with x|x
  .exact hn r x
  .omega
 .by_cases hc:r'<w₁.heap.size
  .rcases h.fresh r' U hc with⟨r,x⟩|⟨r,x⟩
   .exact .inl ⟨r,O.blk _ _ x⟩
   .exact .inr ⟨r,O.ch _ _ x⟩
  .exact h'.fresh r' (by omega) Y
 .rcases h'.news r r' hb with x|x
  .exact h.news r r' x
  .exact .inr (ee h.size x)
 .rcases h'.Tf r r' hb with x|x
  .exact h.Tf r r' x
  .exact .inr (ee h.size x)
section
variable {m:Ren} {w w':World}
theorem WR.lt(h:WR m w w'){r r':Nat}(hb:m.blk r=some r'):r<w.heap.size/\r'<w'.heap.size:=by
 obtain⟨o,o',B,O,_⟩:=h.obj r r' hb;exact⟨(ay.1 B).1,(ay.1 O).1⟩
theorem WR.cell(h:WR m w w'){a a':Addr}(B:AR m a a'){v:Value}(hv:w.cell? a=some v):∃v',w'.cell? a'=some v'/\VR m v v':=by
 cases B with
 |@mk b b' o s hb=>
 obtain⟨x,x',O,U,W⟩:=h.obj b b' hb;unfold g8 at hv⊢;simp only[O,U]at hv⊢
 cases W with
 |cells e f f' Y=>
  simp only at hv⊢;split at hv
  .cases hv
  .rename_i hs;rw[if_neg hs];exact Y.get hv
 |_=>cases hv
theorem WR.Pw(h:WR m w w'){a a':Addr}(B:AR m a a')(W:w.cell? a=none)(P:Program)(b:Bool):∃y,w.farLoad P a b=.error (.stuck y):=by
 cases B with
 |@mk b b' o s hb=>
 obtain⟨x,x',O,Y,U⟩:=h.obj b b' hb;unfold World.farLoad gy;simp only[O];cases U<;>exact⟨_,rfl⟩
theorem WR.J0(h:WR m w w'){a a':Addr}(B:AR m a a')(W:w.cell? a=none)(P:Program)(v:Value)(b:Bool):∃y,w.farStore P a v b=.error (.stuck y):=by
 cases B with
 |@mk b b' o s hb=>
 obtain⟨x,x',O,Y,U⟩:=h.obj b b' hb;unfold World.farStore gy;simp only[O];cases U<;>exact⟨_,rfl⟩
end
end
section
variable {a':Addr} {es:Array Event} {h:Array Obj} {r r':Nat} {o o':Obj} {P:Program} {al:Prop} {α β:Type}
def jS:Halt->Prop
 |.unsupported (.initOrder _)=>False
 |.unsupported _=>True
 |.stuck _=>True
 |.throw _=>True
 |_=>False
theorem eh.run{s:Sem α}(h:eh P s):∀w:World,∃x w₁,s.run P w=.halt x w₁/\jS x:=by
 induction s with
 |pure a=>exact h.elim
 |load m a k B=>exact h.elim
 |store m a v k B=>
  intro w;cases v<;>first|exact h.elim|exact⟨_,_,rfl,trivial⟩
 |new o k B=>exact λw=>B _ (h _) _
 |shape r k B=>exact λw=>B _ (h _) _
 |freeze a n k B=>exact λw=>B h _
 |frozen a k B=>exact λw=>B _ (h _) _
 |getObj r k B=>
  intro w;simp only[cL];split
  .exact⟨_,_,rfl,trivial⟩
  .exact B _ (h _) _
  .exact⟨_,_,rfl,trivial⟩
 |setObj r o k B=>
  intro w;simp only[cL];split
  .exact⟨_,_,rfl,trivial⟩
  .exact B h _
  .exact⟨_,_,rfl,trivial⟩
 |choose q k B=>
  intro w;simp only[cL];split
  .exact B _ (h _) _
  .exact B _ (h _) _
 |sys c k B=>exact λw=>B _ (h _) _
 |program k B=>exact λw=>B P h _
 |mark m k B=>exact λw=>B h _
 |halt x=>
  intro w;refine⟨x,w,rfl,?_⟩;cases x<;>first|exact h.elim|trivial|(rename_i u; cases u<;>first|exact h.elim|trivial)
def Ren.ext(m:Ren)(r r':Nat)(_h:m.blk r=none)(h':∀s,m.blk s≠some r')(O:r<m.G↔r'<m.G):Ren where
 blk:=λs=>if s=r then some r' else m.blk s
 ch:=m.ch
 loose:=λs=>if s=r then False else m.loose s
 ok:=m.ok
 fu:=m.fu
 ig:=m.ig
 dead:=m.dead
 dm:=m.dm
 rP:=m.rP
 kJ:=m.kJ
 G:=m.G
 oh:=λa b B=>by
  by_cases ea:a=r
  .simp[ea]at B; subst B; rw[ea]; exact O
  .simp[ea]at B; exact m.oh _ _ B
 inj:=λa b t B hb=>by
  by_cases ea:a=r<;>by_cases eb:b=r
  .rw[ea,eb]
  .simp[ea,eb]at B hb; subst B; exact absurd hb (h' _)
  .simp[ea,eb]at B hb; subst hb; exact absurd B (h' _)
  .simp[ea,eb]at B hb; exact m.inj _ _ _ B hb
 uB:=m.uB
def Ren.sV(m:Ren)(r r':Nat)(_h:m.ch r=none)(h':∀s,m.ch s≠some r'):Ren where
 blk:=m.blk
 ch:=λs=>if s=r then some r' else m.ch s
 loose:=m.loose
 ok:=m.ok
 fu:=m.fu
 ig:=m.ig
 dead:=m.dead
 dm:=m.dm
 rP:=m.rP
 kJ:=m.kJ
 G:=m.G
 oh:=m.oh
 inj:=m.inj
 uB:=λa b t B hb=>by
  by_cases ea:a=r<;>by_cases eb:b=r
  .rw[ea,eb]
  .simp[ea,eb]at B hb; subst B; exact absurd hb (h' _)
  .simp[ea,eb]at B hb; subst hb; exact absurd B (h' _)
  .simp[ea,eb]at B hb; exact m.uB _ _ _ B hb
theorem Ren.uv{m:Ren}(h:m.blk r=none)(h':∀s,m.blk s≠some r')(O:r<m.G↔r'<m.G):m.Le (m.ext r r' h h' O):=by
 refine⟨λs s' B=>?_,λ_ _ x=>x,λs s' B=>?_,λs B=>?_,rfl,rfl,rfl,rfl,rfl,rfl,rfl⟩
 .have:s≠r:=λe=>by rw[e,h]at B; cases B
  simp[Ren.ext,this,B]
 .have:s≠r:=λe=>by rw[e,h]at B; cases B
  simp[Ren.ext,this]
 .by_cases e:s=r
  .simp[Ren.ext,e]at B
  .simpa[Ren.ext,e]using B
theorem Ren.xp{m:Ren}(h:m.ch r=none)(h':∀s,m.ch s≠some r'):m.Le (m.sV r r' h h'):=by
 refine⟨λ_ _ x=>x,λs s' B=>?_,λs s' B=>Iff.rfl,λ_ h=>h,rfl,rfl,rfl,rfl,rfl,rfl,rfl⟩;have:s≠r:=λe=>by rw[e,h]at B; cases B
 simp[Ren.sV,this,B]
section
variable {m:Ren} {w w':World}
theorem WR.gH(h:WR m w w'):m.blk w.heap.size=none:=by
 cases hb:m.blk _ with
 |none=>rfl
 |some r'=>have:=(h.lt hb).1; omega
theorem WR.lH(h:WR m w w'):∀s,m.blk s≠some w'.heap.size:=λs hb=>by have:=(h.lt hb).2; omega
theorem WR.qe(h:WR m w w'):m.ch w.heap.size=none:=by
 cases hb:m.ch _ with
 |none=>rfl
 |some r'=>have:=(h.M5 _ _ hb).1; omega
theorem WR.nC(h:WR m w w'):∀s,m.ch s≠some w'.heap.size:=λs hb=>by have:=(h.M5 _ _ hb).2; omega
theorem WR.Sl(h:WR m w w'):w.heap.size<m.G↔w'.heap.size<m.G:=⟨λx=>absurd h.M4 (by omega),λx=>absurd h.JP (by omega)⟩
theorem eM(B:r<h.size):(h.push o)[r]?=h[r]?:=by
 rw[Array.getElem?_push];have:r≠h.size:=by omega
 simp[this]
theorem jC(x:h[r]?=some o):r<h.size:=(ay.1 x).1
theorem iG{x:Obj}(B:h[r]?=some x):(h.push o)[r]?=some x:=by rw[eM (jC B)]; exact B
theorem WR.push(h:WR m w w')(ho:OR m o o')(hc:∀e c f,o=.cells e c f->∃e',o'=.cells e' c f) :
  WR (m.ext w.heap.size w'.heap.size h.gH h.lH h.Sl) {w with heap:=w.heap.push o} {w' with heap:=w'.heap.push o'}:=by
 have O:=Ren.uv h.gH h.lH h.Sl
 have key:∀r r',(m.ext _ _ h.gH h.lH h.Sl).blk r=some r'->(r=w.heap.size/\r'=w'.heap.size)\/(m.blk r=some r'/\r<w.heap.size/\r'<w'.heap.size):=by
  intro r r' hb;by_cases e:r=w.heap.size
  .simp[Ren.ext,e]at hb;exact .inl ⟨e,hb.symm⟩
  .simp[Ren.ext,e]at hb;exact .inr ⟨hb,h.lt hb⟩
 refine⟨λr r' hb=>?_,λr r' c e f c' e' f' hb U W hn=>?_,λr r' c e f c' e' f' hb U W hl=>?_,λr r' hb=>?_,by simp; have:=h.M4; first|exact ei this|exact this,by simp; have:=h.JP; first|exact ei this|exact this,h.os,λr o hr=>⟨iG (h.kJ r o hr).1,(h.kJ r o hr).2⟩,λr r' hb hl=>?_,λr hr=>⟨?_,?_⟩,λr i v hv=>?_⟩
 .rcases key r r' hb with⟨rfl,rfl⟩|⟨B,Y,l2⟩
  .exact⟨o,o',by simp,by simp,ho.mono O⟩
  .obtain⟨x,x',g1,g2,g3⟩:=h.obj r r' B;exact⟨x,x',by rw[eM Y]; exact g1,by rw[eM l2]; exact g2,g3.mono O⟩
 .rcases key r r' hb with⟨rfl,rfl⟩|⟨B,Y,l2⟩
  .simp at U W;obtain⟨y,hy⟩:=hc _ _ _ U;rw[hy]at W;cases W; rfl
  .simp only[eM Y,eM l2]at U W;refine h.fz r r' _ _ _ _ _ _ B U W λhl=>hn ((O.loose r r' B).2 hl)
 .rcases key r r' hb with⟨rfl,rfl⟩|⟨B,Y,l2⟩
  .simp[Ren.ext]at hl
  .simp only[eM Y,eM l2]at U W;exact h.all r r' _ _ _ _ _ _ B U W ((O.loose r r' B).1 hl)
 .have:=h.M5 r r' hb;simp; omega
 .rcases key r r' hb with⟨rfl,rfl⟩|⟨B,Y,l2⟩
  .simp[Ren.ext]at hl
  .obtain⟨c,e,f,hx⟩:=h.lk r r' B ((O.loose r r' B).1 hl);exact⟨c,e,f,iG hx⟩
 .obtain⟨U,c,e,f,hx⟩:=h.dead r hr;have:=Nat.ne_of_lt (jC hx);simp[Ren.ext,this,U]
 .obtain⟨U,c,e,f,hx⟩:=h.dead r hr;exact⟨c,e,f,iG hx⟩
 .obtain⟨r',hb,hp⟩:=h.rP r i v hv;refine⟨r',O.blk _ _ hb,λc e f c' e' f' x g1 g2=>?_⟩;obtain⟨Y,l2⟩:=h.lt hb;simp only[eM Y,eM l2]at g1 g2;exact hp c e f c' e' f' x g1 g2
theorem WR.Ow(h:WR m w w')(o o':Obj):WR (m.sV w.heap.size w'.heap.size h.qe h.nC) {w with heap:=w.heap.push o} {w' with heap:=w'.heap.push o'}:=by
 have aa:=Ren.xp h.qe h.nC;refine⟨λr r' hb=>?_,λr r' c e f c' e' f' hb B W hn=>?_,λr r' c e f c' e' f' hb B W hl=>?_,λr r' hb=>?_,by simp; have:=h.M4; first|exact ei this|exact this,by simp; have:=h.JP; first|exact ei this|exact this,h.os,λr o Y=>⟨iG (h.kJ r o Y).1,(h.kJ r o Y).2⟩,λr r' hb hl=>by obtain⟨c,e,f,hx⟩:=h.lk r r' hb hl; exact⟨c,e,f,iG hx⟩,λr Y=>by obtain⟨B,c,e,f,hx⟩:=h.dead r Y; exact⟨B,c,e,f,iG hx⟩,λr i v hv=>?_⟩
 .obtain⟨O,U⟩:=h.lt (show m.blk r=some r' from hb);obtain⟨x,x',g1,g2,g3⟩:=h.obj r r' hb;exact⟨x,x',by rw[eM O]; exact g1,by rw[eM U]; exact g2,g3.mono aa⟩
 .obtain⟨O,U⟩:=h.lt (show m.blk r=some r' from hb);simp only[eM O,eM U]at B W;exact h.fz r r' _ _ _ _ _ _ hb B W hn
 .obtain⟨O,U⟩:=h.lt (show m.blk r=some r' from hb);simp only[eM O,eM U]at B W;exact h.all r r' _ _ _ _ _ _ hb B W hl
 .by_cases e:r=w.heap.size
  .simp[Ren.sV,e]at hb;subst hb;simp[e]
  .simp[Ren.sV,e]at hb;have:=h.M5 r r' hb;simp; omega
 .obtain⟨r',hb,hp⟩:=h.rP r i v hv;refine⟨r',hb,λc e f c' e' f' x g1 g2=>?_⟩;obtain⟨O,U⟩:=h.lt hb;simp only[eM O,eM U]at g1 g2;exact hp c e f c' e' f' x g1 g2
theorem WR.turn(h:WR m w w')(hb:m.blk r=some r')(ho:OR m o o')
  (hf:∀c e f c' U f',o=.cells c e f->o'=.cells c' U f'->(¬m.loose r->f'=f)/\(m.loose r->∀i,i<c.size->inside f i)) (aa:m.loose r->∃c e f,o=.cells c e f)
  (ab:∀c e f c' U f',o=.cells c e f->o'=.cells c' U f'->∀i x v,m.rP r i=some v->c[i]?=some x->nX x->c'[i]?=some v) :
  WR m {w with heap:=w.heap.setIfInBounds r o} {w' with heap:=w'.heap.setIfInBounds r' o'}:=by
 obtain⟨l1,l2⟩:=h.lt hb
 have key:∀s s',m.blk s=some s'->(s=r/\s'=r')\/(s≠r/\s'≠r'):=by
  intro s s' B;by_cases e:s=r
  .subst e; rw[hb]at B; cases B; exact .inl ⟨rfl,rfl⟩
  .exact .inr ⟨e,λU=>e (m.inj _ _ _ (U▸B) hb)⟩
 refine⟨λs s' B=>?_,λs s' c e f c' U f' B O W hn=>?_,λs s' c e f c' U f' B O W hl=>?_,λs s' B=>by simpa using h.M5 s s' B,by simpa using h.M4,by simpa using h.JP,h.os,λs x B=>?_,λs s' B hl=>?_,λs B=>?_,λs i v hv=>?_⟩
 .rcases key s s' B with⟨rfl,rfl⟩|⟨n1,n2⟩
  .exact⟨o,o',by simp[l1],by simp[l2],ho⟩
  .obtain⟨x,x',g1,Y,g3⟩:=h.obj s s' B;exact⟨x,x',by rw[ax (hI n1)]; exact g1,by rw[ax (hI n2)]; exact Y,g3⟩
 .rcases key s s' B with⟨rfl,rfl⟩|⟨n1,n2⟩
  .simp[l1,l2]at O W;exact(hf _ _ _ _ _ _ O W).1 hn
  .simp only[ax (hI n1),ax (hI n2)]at O W;exact h.fz s s' _ _ _ _ _ _ B O W hn
 .rcases key s s' B with⟨rfl,rfl⟩|⟨n1,n2⟩
  .simp[l1,l2]at O W;exact(hf _ _ _ _ _ _ O W).2 hl
  .simp only[ax (hI n1),ax (hI n2)]at O W;exact h.all s s' _ _ _ _ _ _ B O W hl
 .obtain⟨g1,Y⟩:=h.kJ s x B;refine⟨?_,Y⟩
  have:r≠s:=by
   rintro rfl;obtain⟨y,y',k1,_,k3⟩:=h.obj r r' hb;obtain⟨c,b,x',s',z,t,rfl⟩:=Y;rw[g1]at k1;cases k1;cases k3
  rw[ax this]; exact g1
 .rcases key s s' B with⟨rfl,rfl⟩|⟨n1,n2⟩
  .obtain⟨c,e,f,rfl⟩:=aa hl;exact⟨c,e,f,by simp[l1]⟩
  .obtain⟨c,e,f,hx⟩:=h.lk s s' B hl;exact⟨c,e,f,by simpa only[ax (hI n1)]using hx⟩
 .obtain⟨O,c,e,f,hx⟩:=h.dead s B;have:r≠s:=by rintro rfl; rw[hb]at O; cases O
  exact⟨O,c,e,f,by simpa only[ax this]using hx⟩
 .obtain⟨s',B,hp⟩:=h.rP s i v hv;refine⟨s',B,λc e f c' U f' x g1 Y=>?_⟩;rcases key s s' B with⟨rfl,rfl⟩|⟨n1,n2⟩
  .simp[l1,l2]at g1 Y;exact λg3 g4=>ab _ _ _ _ _ _ g1 Y i x v hv g3 g4
  .simp only[ax (hI n1),ax (hI n2)]at g1 Y;exact hp c e f c' U f' x g1 Y
theorem pC(h:Array Obj)(r:Nat)(f:Obj->Obj)(o:Obj)(O:h[r]?=some o):h.modify r f=h.setIfInBounds r (f o):=by
 apply Array.ext_getElem?;intro i;obtain⟨B,U⟩:=ay.1 O;by_cases e:r=i
 .subst e;rw[a2];simp[B,U]
 .rw[a2];simp[e]
theorem WR.setCell(h:WR m w w'){a:Addr}(ha:AR m a a'){v v':Value}(hv:VR m v v')(ab:¬nX v):WR m (w.setCell a v) (w'.setCell a' v'):=by
 cases ha with
 |@mk b b' o s hb=>
 obtain⟨x,x',U,W,ho⟩:=h.obj b b' hb;unfold World.setCell;simp only[pC _ _ _ _ U,pC _ _ _ _ W]
 cases ho with
 |cells e f f' hc=>
  refine h.turn hb (.cells e f f' ?_) (λc e f c' e' f' e1 e2=>?_) (λ_=>⟨_,_,_,rfl⟩) ?_
  .split
   .exact hc
   .exact hc.set _ hv
  .cases e1; cases e2;refine⟨λY=>h.fz b b' _ _ _ _ _ _ hb U W Y,λO i hi=>h.all b b' _ _ _ _ _ _ hb U W O i ?_⟩;revert hi; split<;>simp
  .intro c1 e1 f1 c2 e2 f2 q1 q2 i x u hu B Y;cases q1; cases q2;obtain⟨b2,aa,hp⟩:=h.rP b i u hu;rw[hb]at aa; cases aa;revert B; split
   .exact λB=>hp _ _ _ _ _ _ x U W B Y
   .intro B;by_cases e:o=i
    .subst e;rw[Array.getElem?_setIfInBounds]at B;simp at B;exact absurd (B.2▸Y) ab
    .rw[ax e]at B⊢;exact hp _ _ _ _ _ _ x U W B Y
 |map clock he=>exact h.turn hb (.map clock he) (nofun) (λO=>(by obtain⟨c,e,f,B⟩:=h.lk _ _ hb O; rw[U]at B; cases B)) (nofun)
 |number l B=>exact h.turn hb (.number l B) (nofun) (λO=>(by obtain⟨c,e,f,B⟩:=h.lk _ _ hb O; rw[U]at B; cases B)) (nofun)
 |stringIter s p=>exact h.turn hb (.stringIter s p) (nofun) (λO=>(by obtain⟨c,e,f,B⟩:=h.lk _ _ hb O; rw[U]at B; cases B)) (nofun)
 |fU x y z=>exact h.turn hb (.fU x y z) (nofun) (λO=>(by obtain⟨c,e,f,B⟩:=h.lk _ _ hb O; rw[U]at B; cases B)) (nofun)
 |mapIter x y z hm=>exact h.turn hb (.mapIter x y z hm) (nofun) (λO=>(by obtain⟨c,e,f,B⟩:=h.lk _ _ hb O; rw[U]at B; cases B)) (nofun)
 |loop O=>exact h.turn hb (.loop O) (nofun) (λO=>(by obtain⟨c,e,f,B⟩:=h.lk _ _ hb O; rw[U]at B; cases B)) (nofun)
 |eR=>exact h.turn hb .eR (nofun) (λO=>(by obtain⟨c,e,f,B⟩:=h.lk _ _ hb O; rw[U]at B; cases B)) (nofun)
 |deferred hd=>exact h.turn hb (.deferred hd) (nofun) (λO=>(by obtain⟨c,e,f,B⟩:=h.lk _ _ hb O; rw[U]at B; cases B)) (nofun)
theorem WR.freeze(h:WR m w w'){a:Addr}(ha:AR m a a')(hn:¬m.loose a.block)(n:Nat):WR m (w.freeze a n) (w'.freeze a' n):=by
 cases ha with
 |@mk b b' o s hb=>
 obtain⟨x,x',U,Y,ho⟩:=h.obj b b' hb;unfold gv;split
 .exact h
 simp only[pC _ _ _ _ U,pC _ _ _ _ Y]
 cases ho with
 |cells e f f' hc=>
  have ef:=h.fz b b' _ _ _ _ _ _ hb U Y hn;subst ef;refine h.turn hb (.cells e _ _ hc) (λc e f c' e' f' e1 e2=>?_) (λ_=>⟨_,_,_,rfl⟩) ?_
  .cases e1; cases e2;exact⟨λ_=>rfl,λO=>absurd O hn⟩
  .intro c1 e1 f1 c2 e2 f2 q1 q2 i x u hu B aa;cases q1; cases q2;obtain⟨b2,W,hp⟩:=h.rP b i u hu;rw[hb]at W; cases W;exact hp _ _ _ _ _ _ x U Y B aa
 |map clock he=>exact h.turn hb (.map clock he) (nofun) (λO=>(by obtain⟨c,e,f,B⟩:=h.lk _ _ hb O; rw[U]at B; cases B)) (nofun)
 |number l B=>exact h.turn hb (.number l B) (nofun) (λO=>(by obtain⟨c,e,f,B⟩:=h.lk _ _ hb O; rw[U]at B; cases B)) (nofun)
 |stringIter s p=>exact h.turn hb (.stringIter s p) (nofun) (λO=>(by obtain⟨c,e,f,B⟩:=h.lk _ _ hb O; rw[U]at B; cases B)) (nofun)
 |fU x y z=>exact h.turn hb (.fU x y z) (nofun) (λO=>(by obtain⟨c,e,f,B⟩:=h.lk _ _ hb O; rw[U]at B; cases B)) (nofun)
 |mapIter x y z hm=>exact h.turn hb (.mapIter x y z hm) (nofun) (λO=>(by obtain⟨c,e,f,B⟩:=h.lk _ _ hb O; rw[U]at B; cases B)) (nofun)
 |loop O=>exact h.turn hb (.loop O) (nofun) (λO=>(by obtain⟨c,e,f,B⟩:=h.lk _ _ hb O; rw[U]at B; cases B)) (nofun)
 |eR=>exact h.turn hb .eR (nofun) (λO=>(by obtain⟨c,e,f,B⟩:=h.lk _ _ hb O; rw[U]at B; cases B)) (nofun)
 |deferred hd=>exact h.turn hb (.deferred hd) (nofun) (λO=>(by obtain⟨c,e,f,B⟩:=h.lk _ _ hb O; rw[U]at B; cases B)) (nofun)
theorem WR.draw(h:WR m w w')(a b:Nat):WR m {w with drawn:=a} {w' with drawn:=b}:=⟨h.obj,h.fz,h.all,h.M5,h.M4,h.JP,h.os,h.kJ,h.lk,h.dead,h.rP⟩
theorem Al.draw(h:Al w w'):Al {w with drawn:=w.drawn+1} {w' with drawn:=w'.drawn+1}:=λi q=>by
 have:=h (i+1) q;have B:w'.drawn+1+i=w'.drawn+(i+1):=by omega
 have O:w.drawn+1+i=w.drawn+(i+1):=by omega
 simp only[B,O]; exact this
theorem WR.shape(h:WR m w w')(hb:m.blk r=some r'):w'.shape? r'=w.shape? r:=by
 obtain⟨x,x',B,O,U⟩:=h.obj r r' hb;unfold World.shape?;simp only[B,O];cases U<;>try rfl
 rename_i W;simp[W.size]
theorem WR.frozen(h:WR m w w'){a:Addr}(U:AR m a a')(W:¬m.loose a.block):w'.frozen? a'=w.frozen? a:=by
 cases U with
 |@mk b b' o s hb=>
 obtain⟨x,x',B,O,Y⟩:=h.obj b b' hb;unfold gx;simp only[B,O];cases Y<;>try rfl
 rw[h.fz b b' _ _ _ _ _ _ hb B O W]
end
def iD{α β:Type}(RA:Ren->α->β->Prop)(al:Prop)(m:Ren)(w':World)(es:Array Event)(r:Result β×Array Event):Result α->Prop
 |.ok a w₁=>∃dy b B es₁,r=(.ok b B,es++es₁)/\m.Le dy/\RA dy a b/\WR dy w₁ B/\(al->Al w₁ B)/\fw m dy w' B/\∀e∈es₁,oA dy e
 |.halt (.panic v) w₁=>∃dy v' B es₁,r=(.halt (.panic v') B,es++es₁)/\m.Le dy/\VR dy v v'/\WR dy w₁ B/\(al->Al w₁ B)/\fw m dy w' B/\∀e∈es₁,oA dy e
 |.halt x _=>jS x
theorem iD.ahead{RA:Ren->α->β->Prop}{al₁:Prop}{m dy:Ren}{w' O:World}{es₁:Array Event}{r:Result β×Array Event}{q:Result α}
  (ha:al->al₁) (hl:m.Le dy) (hk:fw m dy w' O) (he:∀e∈es₁,oA dy e) (h:iD RA al₁ dy O (es++es₁) r q):iD RA al m w' es r q:=by
 unfold iD at h⊢;split
 .obtain⟨m₂,b,U,B,h1,W,h3,h4,Y,h5,h6⟩:=h;refine⟨m₂,b,U,es₁++B,by rw[h1,aH],hl.trans W,h3,h4,λx=>Y (ha x),hk.trans hl W h5,λe hx=>?_⟩;rcases a9.1 hx with x|x
  .exact(he e x).mono W
  .exact h6 e x
 .obtain⟨m₂,b,U,B,h1,W,h3,h4,Y,h5,h6⟩:=h;refine⟨m₂,b,U,es₁++B,by rw[h1,aH],hl.trans W,h3,h4,λx=>Y (ha x),hk.trans hl W h5,λe hx=>?_⟩;rcases a9.1 hx with x|x
  .exact(he e x).mono W
  .exact h6 e x
 .rename_i x y hx;cases x<;>first|exact h|exact absurd rfl (hx _)
theorem fw.cell{m:Ren}{w':World}(hb:m.blk r=some r')(O:¬m.loose r)(o:Obj):fw m m w' {w' with heap:=w'.heap.setIfInBounds r' o}:=
 ⟨λx _ U=>by
   have B:r'≠x:=λe=>U r (e▸hb)
   rw[ax B],by simp,λr' h h'=>absurd h' (by simpa using h),λ_ _ h=>.inl h,λ_ _ h=>.inl h,rfl,rfl,rfl,λ_=>rfl,rfl,λs s' W B=>by
   have:r'≠s':=λe=>O (m.inj _ _ _ (e▸W) hb▸B)
   rw[ax this]⟩
theorem fw.modify{m:Ren}{w':World}(hb:m.blk r=some r')(O:¬m.loose r)(f:Obj->Obj):fw m m w' {w' with heap:=w'.heap.modify r' f}:=
 ⟨λx _ U=>by
   have B:¬r'=x:=λe=>U r (e▸hb)
   rw[a2]; simp[B],by simp,λr' h h'=>absurd h' (by simpa using h),λ_ _ h=>.inl h,λ_ _ h=>.inl h,rfl,rfl,rfl,λ_=>rfl,rfl,λs s' W B=>by
   have:r'≠s':=λe=>O (m.inj _ _ _ (e▸W) hb▸B)
   rw[a2]; simp[this]⟩
theorem jx{RA:Ren->α->β->Prop}{m:Ren}{w':World}{r:Result β×Array Event}{q:Result α}{e:Event}
  (B:oA m e) (h:iD RA al m w' (es.push e) r q):iD RA al m w' es r q:=
 iD.ahead (es₁:=#[e]) id (.refl m) (.refl m w') (by simpa using B) (by simpa using h)
theorem dw.run{RA:Ren->α->β->Prop}{m:Ren}{s:Sem α}{s':Sem β}(h:dw P RA m s s') :
  ∀(w w':World)(es:Array Event),WR m w w'->(Al w w'\/fO s)->iD RA (Al w w') m w' es (s'.runT P w' es) (s.run P w):=by
 induction h with
 |dz hd=>
  intro w w' es O B;obtain⟨x,w₁,hr,hh⟩:=hd.run w;rw[hr];cases x<;>first|exact hh|exact hh.elim
 |pure hr=>
  intro w w' es O B;exact⟨_,_,w',#[],by simp[cN],.refl _,hr,O,id,.refl _ _,by simp⟩
 |@load m a a' k k' ha _ U=>
  intro w w' es O B;simp only[cL,cN]
  cases hc:w.cell? a with
  |some v=>
   obtain⟨v',ah,hv⟩:=O.cell ha hc;simp only[ah];exact jx (e:=⟨.cell a',false,false⟩) ⟨rfl,a,ha,by simp⟩ (U v v' hv w w' _ O (B.imp id λx=>x v))
  |none=>
   obtain⟨y,hy⟩:=O.Pw ha hc P (Mode.plain==.atomic);simp only[hy];trivial
 |@store m a a' v v' k k' ha hv _ U=>
  intro w w' es O B;by_cases h1:∃c,v=.agg c
  .obtain⟨c,rfl⟩:=h1;simp only[cL]; trivial
  by_cases h2:∃c,v=.tuple c
  .obtain⟨c,rfl⟩:=h2;simp only[cL]; trivial
  have ai:∀c,v'≠.agg c:=λc e=>by subst e; cases hv<;>first|exact h1 ⟨_,rfl⟩|exact h2 ⟨_,rfl⟩
  have aj:∀c,v'≠.tuple c:=λc e=>by subst e; cases hv<;>first|exact h1 ⟨_,rfl⟩|exact h2 ⟨_,rfl⟩
  have e1:(Sem.store Mode.plain a v k).run P w=match w.cell? a with
    |some _=>if w.frozen? a then .halt (.unsupported (.unsafePointer "a write to bytes that a string shares")) w else k.run P (w.setCell a v)
    |none=>match w.farStore P a v (Mode.plain==.atomic)with
     |.ok (w,_)=>k.run P w
     |.error h=>.halt h w:=by
   rw[cL]
   .rfl
   .exact λc e=>h1 ⟨c,e⟩
   .exact λc e=>h2 ⟨c,e⟩
  have e2:(Sem.store Mode.plain a' v' k').runT P w' es=match w'.cell? a' with
    |some _=>if w'.frozen? a' then(.halt (.unsupported (.unsafePointer "a write to bytes that a string shares")) w',es)else k'.runT P (w'.setCell a' v') (es.push ⟨.cell a',true,Mode.plain==.atomic⟩)
    |none=>match w'.farStore P a' v' (Mode.plain==.atomic)with
     |.ok (w,aa)=>k'.runT P w (es++aa.toArray.map (⟨.cell ·,true,Mode.plain==.atomic⟩))
     |.error h=>(.halt h w',es):=by
   rw[cN]
   .rfl
   .exact ai
   .exact aj
  have ag:¬nX v:=by
   intro ak;cases v<;>first|exact ak.elim|exact h1 ⟨_,rfl⟩|exact h2 ⟨_,rfl⟩
  rw[e1,e2]
  cases hc:w.cell? a with
  |none=>
   obtain⟨y,hy⟩:=O.J0 ha hc P v (Mode.plain==.atomic);simp only[hy];trivial
  |some u=>
   obtain⟨u',am,_⟩:=O.cell ha hc;simp only[am];by_cases hf:w.frozen? a=true
   .simp only[hf,if_true]; trivial
   have ad:¬m.loose a.block:=by
    intro hl
    cases ha with
    |@mk b b' o s hb=>
    obtain⟨x,x',g1,g2,ho⟩:=O.obj b b' hb;unfold g8 at hc;simp only[g1]at hc
    cases ho with
    |cells e f f' au=>
     simp only at hc;split at hc
     .cases hc
     .have an:=(ay.1 hc).1;have:=O.all b b' _ _ _ _ _ _ hb g1 g2 hl o an;apply hf;unfold gx;simp only[g1];simpa[inside]using this
    |_=>cases hc
   have ao:w'.frozen? a'=false:=by rw[O.frozen ha ad]; simpa using hf
   simp only[hf,ao,if_false,dr];have ap:(Mode.plain==Mode.atomic)=false:=rfl;rw[ap];refine iD.ahead (es₁:=#[⟨.cell a',true,false⟩]) (al₁:=Al (w.setCell a v) (w'.setCell a' v')) (λh=>h) (.refl _) ?_ ?_ (by simpa using U (w.setCell a v) _ _ (O.setCell ha hv ag) B)
   .cases ha with
    |mk hb=>exact fw.modify hb ad _
   .simp only[List.mem_toArray,gd,List.not_mem_nil,or_false,forall_eq];exact⟨rfl,a,ha,λ_=>ad⟩
 |@new m o o' k k' ho hc _ U=>
  intro w w' es O B;simp only[cL,cN];have ab:=Ren.uv O.gH O.lH O.Sl;have ac:(m.ext w.heap.size w'.heap.size O.gH O.lH O.Sl).blk w.heap.size=some w'.heap.size:=by simp[Ren.ext]
  refine iD.ahead (es₁:=#[]) (al₁:=Al {w with heap:=w.heap.push o} {w' with heap:=w'.heap.push o'}) (λh=>h) ab ?_ (by simp) (by simpa using U _ _ _ ab ac (by simp[Ren.ext]) {w with heap:=w.heap.push o} _ _ (O.push ho hc) (B.imp id λx=>x _));refine⟨λr' hr hn=>eM hr,by simp,λr' h h'=>.inl ⟨w.heap.size,?_⟩,λr r' hb=>?_,λ_ _ h=>.inl h,rfl,rfl,rfl,λ_=>rfl,rfl,λr r' hb _=>eM (O.lt hb).2⟩
  .have:r'=w'.heap.size:=by simp at h'; omega
   rw[this]; exact ac
  .by_cases e:r=w.heap.size
   .simp[Ren.ext,e]at hb; exact .inr (by omega)
   .simp[Ren.ext,e]at hb; exact .inl hb
 |@pV m c b x s r t c' b' x' s' r' t' k k' aq _ U=>
  intro w w' es O B;simp only[cL,cN];have ab:=Ren.xp O.qe O.nC;have ac:(m.sV w.heap.size w'.heap.size O.qe O.nC).ch w.heap.size=some w'.heap.size:=by simp[Ren.sV]
  refine iD.ahead (es₁:=#[]) (al₁:=Al {w with heap:=w.heap.push (.chan c b x s r t)} {w' with heap:=w'.heap.push (.chan c' b' x' s' r' t')}) (λh=>h) ab ?_ (by simp) (by simpa using U _ _ _ ab ac {w with heap:=w.heap.push _} _ _ (O.Ow _ _) (B.imp id λx=>x _));refine⟨λr' hr hn=>eM hr,by simp,λr' h h'=>.inr ⟨w.heap.size,?_⟩,λ_ _ h=>.inl h,λr r' hb=>?_,rfl,rfl,rfl,λhn=>absurd aq hn,rfl,λr r' hb _=>eM (O.lt hb).2⟩
  .have:r'=w'.heap.size:=by simp at h'; omega
   rw[this]; exact ac
  .by_cases e:r=w.heap.size
   .simp[Ren.sV,e]at hb; exact .inr (by omega)
   .simp[Ren.sV,e]at hb; exact .inl hb
 |shape hb _ U=>
  intro w w' es O B;simp only[cL,cN,O.shape hb];exact U _ w w' es O (B.imp id λx=>x _)
 |@freeze m a a' n k k' ha hn _ U=>
  intro w w' es O B;simp only[cL,cN];refine iD.ahead (es₁:=#[]) (al₁:=Al (w.freeze a n) (w'.freeze a' n)) (λh=>by unfold gv; split<;>exact h) (.refl _) ?_ (by simp) (by simpa using U _ _ _ (O.freeze ha hn _) (B.imp (λh=>by unfold gv; split<;>exact h) λx=>x))
  cases ha with
  |mk hb=>
   unfold gv;split
   .exact .refl _ _
   .exact fw.modify hb hn _
 |frozen ha hn _ U=>
  intro w w' es O B;simp only[cL,cN,O.frozen ha hn];exact U _ w w' es O (B.imp id λx=>x _)
 |getObj hb _ U=>
  intro w w' es O B;obtain⟨x,x',h1,h2,ho⟩:=O.obj _ _ hb;simp only[cL,cN,h1,h2];rcases Classical.em (Ren.loose _ _)with W|W
  .obtain⟨c,e,f,hx⟩:=O.lk _ _ hb W;rw[h1]at hx;cases hx;trivial
  have Y:oA _ ⟨.obj _,false,false⟩:=⟨rfl,_,hb,W⟩
  cases ho with
  |cells=>trivial
  |map clock he=>exact jx Y (U _ _ (.map clock he) w w' _ O (B.imp id λx=>x _))
  |number l hx=>exact jx Y (U _ _ (.number l hx) w w' _ O (B.imp id λx=>x _))
  |stringIter s p=>exact jx Y (U _ _ (.stringIter s p) w w' _ O (B.imp id λx=>x _))
  |fU a b c=>exact jx Y (U _ _ (.fU a b c) w w' _ O (B.imp id λx=>x _))
  |mapIter a b c hm=>exact jx Y (U _ _ (.mapIter a b c hm) w w' _ O (B.imp id λx=>x _))
  |loop hl=>exact jx Y (U _ _ (.loop hl) w w' _ O (B.imp id λx=>x _))
  |eR=>exact jx Y (U _ _ .eR w w' _ O (B.imp id λx=>x _))
  |deferred hd=>exact jx Y (U _ _ (.deferred hd) w w' _ O (B.imp id λx=>x _))
 |@setObj m r r' o o' k k' hb ho hc _ U=>
  intro w w' es O B;obtain⟨x,x',h1,h2,hx⟩:=O.obj _ _ hb;have ar:o'.isChan=false:=by cases ho<;>rfl
  rcases Classical.em (m.loose r)with W|W
  .obtain⟨c,e,f,hy⟩:=O.lk _ _ hb W;simp only[cL,hy];trivial
  have ae:=O.turn hb ho (λc e f c' e' f' e1 _=>absurd e1 (hc c e f)) (λh=>absurd h W) (λc e f c' e' f' e1 _=>absurd e1 (hc c e f))
  have fin:iD RA (Al w w') m w' es (k'.runT P {w' with heap:=w'.heap.setIfInBounds r' o'} (es.push ⟨.obj r',true,o'.isChan⟩)) (k.run P {w with heap:=w.heap.setIfInBounds r o}):=by
   rw[ar];exact iD.ahead (es₁:=#[⟨.obj r',true,false⟩]) (al₁:=Al {w with heap:=w.heap.setIfInBounds r o} {w' with heap:=w'.heap.setIfInBounds r' o'}) (λh=>h) (.refl _) (fw.cell hb W _) (by simpa using⟨rfl,_,hb,W⟩) (by simpa using U _ _ _ ae B)
  simp only[cL,cN,h1,h2];cases hx<;>first|trivial|exact fin
 |choose _ U=>
  intro w w' es O B;rcases B with af|B
  .simp only[cL,cN];split
   .exact U _ w w' es O (.inl af)
   .have:=af 0;simp only[Nat.add_zero]at this;rw[this];refine iD.ahead (es₁:=#[]) (λh=>h.draw) (.refl _) ?_ (by simp) (by simpa using U _ {w with drawn:=w.drawn+1} _ _ (O.draw _ _) (.inl af.draw));exact⟨λ_ _ _=>rfl,eg _,λr' h h'=>absurd h' (by simpa using h),λ_ _ h=>.inl h,λ_ _ h=>.inl h,rfl,rfl,rfl,λ_=>rfl,rfl,λ_ _ _ _=>rfl⟩
  .exact B.elim
 |gone hd=>
  intro w w' es O B;obtain⟨_,c,e,f,hx⟩:=O.dead _ hd;simp only[cL,hx];trivial
 |env _ U=>
  intro w w' es O B;have e:∀x:World,x.sys .env=(.strings _,x):=λ_=>rfl;simp only[cL,cN,e,O.os];exact jx (e:=⟨.output,true,false⟩) trivial (U _ w w' _ O (B.imp id λx=>x _))
 |program _ U=>exact λw w' es O B=>U w w' es O (B.imp id λx=>x P)
 |@mark m x k k' hm _ U=>exact λw w' es O B=>jx (e:=⟨.mark x,false,true⟩) hm (U w w' _ O B)
 |panic hv=>
  intro w w' es O B;exact⟨_,_,w',#[],by simp[cN],.refl _,hv,O,id,.refl ..,by simp⟩
inductive kM(P:Program){α β:Type}(RA:Ren->α->β->Prop):Ren->Sem α->Sem β->Prop
 |base {m s s'}:dw P RA m s s'->kM P RA m s s'
 |bind {γ δ:Type} {RC:Ren->γ->δ->Prop} {m} {s:Sem γ} {s':Sem δ} {f:γ->Sem α} {f':δ->Sem β}:dw P RC m s s'->(∀m' a b,m.Le m'->RC m' a b->kM P RA m' (f a) (f' b))->kM P RA m (s.bind f) (s'.bind f')
 |TF {m q k s'}:(∀n,fO (k n))->(∀n,dw P RA m (k n) s')->kM P RA m (.choose q k) s'
def Tg{α β:Type}(RA:Ren->α->β->Prop)(m:Ren)(w':World)(es:Array Event)(r:Result β×Array Event)(q:Result α):Prop:=iD RA False m w' es r q
theorem iD.Sg{RA:Ren->α->β->Prop}{m:Ren}{w':World}{r:Result β×Array Event}{q:Result α}(h:iD RA al m w' es r q):Tg RA m w' es r q:=
 iD.ahead (es₁:=#[]) (nofun) (.refl m) (.refl m w') (by simp) (by simpa using h)
theorem kM.run{RA:Ren->α->β->Prop}{m:Ren}{s:Sem α}{s':Sem β}(h:kM P RA m s s') :
  ∀(w w':World)(es:Array Event),WR m w w'->Al w w'->Tg RA m w' es (s'.runT P w' es) (s.run P w):=by
 induction h with
 |base h=>exact λw w' es U O=>(h.run w w' es U (.inl O)).Sg
 |@bind γ δ RC m s s' f f' h _ ih=>
  intro w w' es U O;have W:=h.run w w' es U (.inl O);rw[cO,Sem.runT_bind']
  cases hr:s.run P w with
  |ok a w₁=>
   rw[hr]at W;obtain⟨dy,b,B,es₁,e1,Y,e3,e4,e5,e6,e7⟩:=W;rw[e1];exact iD.ahead (es₁:=es₁) (nofun) Y e6 e7 (ih dy a b Y e3 w₁ B _ e4 (e5 O))
  |halt x w₁=>
   rw[hr]at W
   cases x with
   |panic v=>
    obtain⟨dy,b,B,es₁,e1,Y,e3,e4,e5,e6,e7⟩:=W;rw[e1];exact⟨dy,b,B,es₁,rfl,Y,e3,e4,nofun,e6,e7⟩
   |_=>exact W
 |TF hd h=>
  intro w w' es U O;simp only[cL];split
  .exact((h _).run w w' es U (.inl O)).Sg
  .exact((h _).run _ w' es (U.draw ..) (.inr (hd _))).Sg
end
section
variable {a a':Addr} {c c':Array Value} {r r':Nat} {o o':Obj} {α β γ δ:Type} {t:aN} {v v' x x':Value}
structure lX(P:Program):Prop where
 zero:∀t i v,P.info? t=some i->i.zero=some v->∀m,VR m v v
 Uz:∀t i,P.info? t=some i->i.methods.find? (·.name == "")=none
def wX{α:Type}:Ren->α->α->Prop:=λ_ a b=>a=b
def zZ{α β:Type}:Ren->α->β->Prop:=λ_ _ _=>True
section
variable {P:Program} {m:Ren}
theorem dC{RA:Ren->α->β->Prop}{RB:Ren->γ->δ->Prop}{s:Sem α}{s':Sem β}{f:α->Sem γ}{f':β->Sem δ}
  (h:dw P RA m s s') (B:∀m' a b,m.Le m'->RA m' a b->dw P RB m' (f a) (f' b)):dw P RB m (s >>= f) (s' >>= f'):=dw.bind h B
theorem dH{RA:Ren->α->β->Prop}{c:Prop}[Decidable c]{s t:Sem α}{s' t':Sem β}(h:c->dw P RA m s s')(h':¬c->dw P RA m t t') :
  dw P RA m (if c then s else t) (if c then s' else t'):=by
 split
 .exact h ‹_›
 .exact h' ‹_›
theorem gS{RB:Ren->γ->δ->Prop}{f:Program->Sem γ}{f':Program->Sem δ}(h:dw P RB m (f P) (f' P)):dw P RB m (program >>= f) (program >>= f'):=.program h
theorem dA{RB:Ren->γ->δ->Prop}{f:TypeDesc->Sem γ}{f':TypeDesc->Sem δ}(h:∀d,P.underlying t=some d->dw P RB m (f d) (f' d)) :
  dw P RB m (aT t >>= f) (aT t >>= f'):=by
 refine .program ?_;show dw P RB m ((match P.underlying t with|some d=>pure d|none=>stuck _) >>= f) ((match P.underlying t with|some d=>pure d|none=>stuck _) >>= f')
 cases B:P.underlying t with
 |none=>exact .dz trivial
 |some d=>exact h d B
theorem dQ{RB:Ren->γ->δ->Prop}{f:TypeInfo->Sem γ}{f':TypeInfo->Sem δ}(h:∀d,P.info? t=some d->dw P RB m (f d) (f' d)) :
  dw P RB m (bq t >>= f) (bq t >>= f'):=by
 refine .program ?_;show dw P RB m ((match P.info? t with|some d=>pure d|none=>stuck _) >>= f) ((match P.info? t with|some d=>pure d|none=>stuck _) >>= f')
 cases B:P.info? t with
 |none=>exact .dz trivial
 |some d=>exact h d B
theorem eD{RB:Ren->γ->δ->Prop}{f:Nat->Sem γ}{f':Nat->Sem δ}(h:∀n,dw P RB m (f n) (f' n)):dw P RB m (bf t >>= f) (bf t >>= f'):=by
 refine .program ?_;show dw P RB m (((match P.info? t with|some d=>pure d|none=>stuck _) >>= λi=>pure _) >>= f) (((match P.info? t with|some d=>pure d|none=>stuck _) >>= λi=>pure _) >>= f')
 cases B:P.info? t with
 |none=>exact .dz trivial
 |some d=>exact h _
theorem fG(B:lX P){RB:Ren->γ->δ->Prop}{f:Value->Sem γ}{f':Value->Sem δ}(h:∀v,VR m v v->dw P RB m (f v) (f' v)) :
  dw P RB m (aQ t >>= f) (aQ t >>= f'):=by
 refine .program ?_;show dw P RB m (((match P.info? t with|some d=>pure d|none=>stuck _) >>= λi=>match i.zero with|some v=>pure v|none=>unsupported _) >>= f) (((match P.info? t with|some d=>pure d|none=>stuck _) >>= λi=>match i.zero with|some v=>pure v|none=>unsupported _) >>= f')
 cases O:P.info? t with
 |none=>exact .dz trivial
 |some d=>
  show dw P RB m ((match d.zero with|some v=>pure v|none=>unsupported _) >>= f) ((match d.zero with|some v=>pure v|none=>unsupported _) >>= f')
  cases U:d.zero with
  |none=>exact .dz trivial
  |some v=>exact h v (B.zero t d v O U m)
theorem FF{RB:Ren->γ->δ->Prop}{f:Bool->Sem γ}{f':Bool->Sem δ}(h:∀b,dw P RB m (f b) (f' b)):dw P RB m (isAgg t >>= f) (isAgg t >>= f'):=by
 refine .program ?_;show dw P RB m (((match P.underlying t with|some d=>pure d|none=>stuck _) >>= λx=>match x with|.struct _|.array .. => pure true|_=>pure false) >>= f) (((match P.underlying t with|some d=>pure d|none=>stuck _) >>= λx=>match x with|.struct _|.array .. => pure true|_=>pure false) >>= f')
 cases B:P.underlying t with
 |none=>exact .dz trivial
 |some d=>cases d<;>exact h _
theorem CH{RB:Ren->γ->δ->Prop}{f:Value->Sem γ}{f':Value->Sem δ}(B:AR m a a')(h:∀v v',VR m v v'->dw P RB m (f v) (f' v')) :
  dw P RB m (load a >>= f) (load a' >>= f'):=.load B h
theorem Oe{RB:Ren->γ->δ->Prop}{f:Unit->Sem γ}{f':Unit->Sem δ}(B:AR m a a')(O:VR m v v')(h:dw P RB m (f ()) (f' ())) :
  dw P RB m (store a v >>= f) (store a' v' >>= f'):=.store B O h
theorem fI{RB:Ren->γ->δ->Prop}{f:Obj->Sem γ}{f':Obj->Sem δ}(hb:m.blk r=some r')(h:∀o o',OR m o o'->dw P RB m (f o) (f' o')) :
  dw P RB m (getObj r >>= f) (getObj r' >>= f'):=.getObj hb h
theorem jH{RB:Ren->γ->δ->Prop}{f:Unit->Sem γ}{f':Unit->Sem δ}(hb:m.blk r=some r')(B:OR m o o')(O:∀c e f,o≠.cells c e f)(h:dw P RB m (f ()) (f' ())) :
  dw P RB m (setObj r o >>= f) (setObj r' o' >>= f'):=.setObj hb B O h
theorem pG(hb:m.blk r=some r')(B:OR m o o')(O:∀c e f,o≠.cells c e f):dw P zZ m (setObj r o) (setObj r' o'):=.setObj hb B O (.pure trivial)
theorem gz{RB:Ren->γ->δ->Prop}{q:Question}{f:Nat->Sem γ}{f':Nat->Sem δ}(h:∀n,dw P RB m (f n) (f' n)):dw P RB m (choose q >>= f) (choose q >>= f'):=.choose h
theorem jr{RB:Ren->γ->δ->Prop}{f:Option (aN×Nat)->Sem γ}{f':Option (aN×Nat)->Sem δ}(hb:m.blk r=some r')(h:∀x,dw P RB m (f x) (f' x)) :
  dw P RB m (shape r >>= f) (shape r' >>= f'):=.shape hb h
theorem mW{RB:Ren->γ->δ->Prop}{f:Bool->Sem γ}{f':Bool->Sem δ}(B:AR m a a')(O:¬m.loose a.block)(h:∀x,dw P RB m (f x) (f' x)) :
  dw P RB m (frozen a >>= f) (frozen a' >>= f'):=.frozen B O h
def Rz:RuntimeError->Prop
 |.bounds ..|.error _|.plain _|.nilDeref=>True
 |_=>False
theorem fl{RA:Ren->α->β->Prop}{e:RuntimeError}(h:Rz e):dw P RA m (aW e) (aW e):=by
 refine .program ?_;cases e<;>first|exact h.elim|skip
 .exact .panic (.iface _ (.L0 (.refl λv B=>by
   simp at B
   rcases B with rfl|rfl|rfl|rfl<;>constructor)))
 all_goals exact .panic (.iface _ (.string _))
theorem dS{RB:Ren->γ->δ->Prop}{e:RuntimeError}{f:α->Sem γ}{f':β->Sem δ}(h:Rz e):dw P RB m (aW e >>= f) (aW e >>= f'):=
 dC (RA:=λ_ _ _=>False) (fl h) nofun
theorem oE{RA:Ren->α->β->Prop}{k:IntKind}{x y:Int}{c:BoundsCode}:dw P RA m (aV k x y c) (aV k x y c):=by
 refine dH (λ_=>?_) (λ_=>?_)
 .exact dw.choose λn=>fl (e:=.bounds _ y _ c) trivial
 .exact fl (e:=.bounds _ y _ c) trivial
theorem yO{RB:Ren->γ->δ->Prop}{f:IntKind×Int->Sem γ}{f':IntKind×Int->Sem δ}(B:VR m x x')(h:∀k n,x=.int k n->dw P RB m (f (k,n)) (f' (k,n))) :
  dw P RB m (asIntOf x >>= f) (asIntOf x' >>= f'):=by
 cases B<;>first|exact h _ _ rfl|exact .dz trivial
theorem j9{RB:Ren->γ->δ->Prop}{f:Int->Sem γ}{f':Int->Sem δ}(B:VR m x x')(h:∀n,dw P RB m (f n) (f' n)) :
  dw P RB m (asInt x >>= f) (asInt x' >>= f'):=by
 cases B<;>first|exact h _|exact .dz trivial
theorem Lo{RB:Ren->γ->δ->Prop}{f:Bool->Sem γ}{f':Bool->Sem δ}(B:VR m x x')(h:∀b,dw P RB m (f b) (f' b)) :
  dw P RB m (asBool x >>= f) (asBool x' >>= f'):=by
 cases B<;>first|exact h _|exact .dz trivial
theorem NB{RB:Ren->γ->δ->Prop}{f f':Array Value->_}(B:VR m x x')(h:∀c c',ep m c c'->dw P RB m (f c:Sem γ) (f' c':Sem δ)) :
  dw P RB m (asAgg x >>= f) (asAgg x' >>= f'):=by
 cases B<;>first|exact h _ _ (.ib ‹_› ‹_›)|exact .dz trivial
theorem Bm{RB:Ren->γ->δ->Prop}{f:Addr->Sem γ}{f':Addr->Sem δ}(B:VR m x x')(h:∀a a',AR m a a'->dw P RB m (f a) (f' a')) :
  dw P RB m (asAddr x >>= f) (asAddr x' >>= f'):=by
 cases B<;>first|exact h _ _ ‹_›|exact .dz trivial|exact dS (e:=.nilDeref) trivial
theorem ml{RB:Ren->γ->δ->Prop}{f:Addr->Sem γ}{f':Addr->Sem δ}(B:VR m x x')(h:∀a a',AR m a a'->dw P RB m (f a) (f' a')) :
  dw P RB m (bZ x >>= f) (bZ x' >>= f'):=by
 cases B<;>first|exact h _ _ ‹_›|exact .dz trivial
theorem qm(O:AR m a a'):∀(n i:Nat)(acc B:Array Value),ep m acc B->dw P ep m (bd a i n acc) (bd a' i n B)
 |0,_,_,_,h=>.pure h
 |n+1,i,_,_,h=>CH (O.add i) λv v' U=>qm O n _ _ _ (h.push U)
theorem wF(B:AR m a a')(n:Nat):dw P ep m (bi a n) (bi a' n):=qm B n 0 _ _ (.nil m)
theorem lg(B:AR m a a'):∀{vs vs':List Value}(i:Nat),dO (VR m) vs vs'->dw P zZ m (be a vs i) (be a' vs' i)
 |_,_,_,.nil=>by unfold be; exact .pure trivial
 |_,_,i,.cons O h=>Oe (B.add i) O (lg B _ h)
theorem BI(B:AR m a a'):dw P VR m (loadVar t a) (loadVar t a'):=by
 refine FF λb=>dH (λ_=>?_) (λ_=>.load B λ_ _ O=>.pure O);refine eD λn=>dC (wF B n) λm' c c' _ U=>.pure (.L0 U)
theorem Iy(O:AR m a a')(B:VR m v v'):dw P zZ m (storeVar t a v) (storeVar t a' v'):=by
 refine eD λn=>?_;rw[<-B.cells.size];split
 .exact .dz trivial
 .exact lg O 0 B.cells
def He(m:Ren)(a a':Addr):Prop:=AR m a a'/\¬m.loose a.block
theorem oZ{e:aN}(h:ep m c c'):dw P He m (ba e c) (ba e c'):=by
 refine .new (.cells e _ _ h) (λx y z B=>by cases B; exact⟨_,rfl⟩) λm' r r' U hb O=>.pure ⟨.mk hb,O⟩
theorem xL{e:aN}(h:VR m v v'):dw P He m (newVar e v) (newVar e v'):=oZ h.cells
theorem mw(h:ep m c c')(off:Nat):dw P VR m (part t c off) (part t c' off):=by
 refine FF λb=>dH (λ_=>?_) (λ_=>?_)
 .exact eD λn=>.pure (.L0 (h.extract ..))
 .cases O:c[off]? with
  |none=>exact .dz trivial
  |some v=>obtain⟨v',B,U⟩:=h.get O; rw[B]; exact .pure U
end
end
section
variable {a':Addr} {ps ps':Array (Nat×Value)} {c:BoundsCode} {n:Nat} {h h' l l' x x':Option Value} {α β γ δ:Type} {t:aN} {i i' v v':Value}
section
variable {P:Program} {m:Ren}
theorem Re(B:lX P){e:aN}:dw P VR m (c0 e true (.tuple #[])) (c0 e true (.tuple #[])):=by
 exact fG B λv O=>dC (xL O) λm' a a' _ h=>.pure (.ptr h.1)
theorem Tz{e:aN}(B:VR m v v'):dw P VR m (c3 e v) (c3 e v'):=dC (xL B) λm' a a' _ h=>.pure (.ptr h.1)
theorem Bd(off:Nat):∀{l l':List Value}(n:Nat){c c':Array Value},dO (VR m) l l'->ep m c c'->
  ep m ((l.zipIdx n).foldl (λcs (x:Value×Nat)=>cs.setIfInBounds (off+x.2) x.1) c) ((l'.zipIdx n).foldl (λcs (x:Value×Nat)=>cs.setIfInBounds (off+x.2) x.1) c')
 |_,_,_,_,_,.nil,h=>by simpa using h
 |_,_,n,_,_,.cons B O,h=>by
  simp only[List.zipIdx_cons,List.foldl_cons];exact Bd off _ O (h.set _ B)
def J6(m:Ren)(x y:Nat×Value):Prop:=x.1=y.1/\VR m x.2 y.2
theorem Dl(place:Nat->Option (Nat×Nat)):∀{ps ps':List (Nat×Value)}{c c' r:Array Value},dO (J6 m) ps ps'->ep m c c'->bC place c ps=some r->∃r',bC place c' ps'=some r'/\ep m r r'
 |_,_,c,c',r,.nil,h,e=>by
  simp only[bC,gg]at e⊢
  exact⟨c',rfl,e▸h⟩
 |_,_,c,c',r,.cons (a:=(i,v)) (b:=(i',v')) B hl,h,e=>by
  obtain⟨hi,B⟩:=B
  subst hi;simp only[bC]at e⊢
  cases O:place i with
  |none=>rw[O]at e; cases e
  |some x=>
   obtain⟨off,size⟩:=x;rw[O]at e;simp only at e⊢;have U:=B.cells.size;rw[<-U,<-h.size];split at e
   .cases e
   .rename_i W;rw[if_neg W];refine Dl place hl ?_ e;have:=Bd off 0 B.cells h;rw[<-a7,<-a7,aE,aE];exact this
theorem xm{z:Array Value}(h:ep m z z)(n:Nat):ep m ((a3 n).map (z[· % z.size]!)) ((a3 n).map (z[· % z.size]!)):=by
 refine .refl λv B=>?_;simp only[a4,ge]at B;obtain⟨i,_,rfl⟩:=B;by_cases hi:i % z.size<z.size
 .rw[getElem!_pos z _ hi];exact h.idx _ hi hi
 .rw[getElem!_neg z _ hi];exact .bool _
theorem AV{Q:Ren->β->β->Prop}(hm:∀m m' a b,m.Le m'->Q m a b->Q m' a b)(g:α->Sem β)(B:∀m x,dw P Q m (g x) (g x)):∀(l:List α)(m:Ren),dw P (λm=>dO (Q m)) m (l.mapM g) (l.mapM g)
 |[],m=>.pure .nil
 |x::l,m=>by
  simp only[gc];exact dC (B m x) λm' a b _ h=>dC (AV hm g B l m') λO c d U W=>.pure (.cons (hm _ _ _ _ U h) W)
theorem dO.eq:∀{l l':List α},dO (λa b=>a=b) l l'->l=l'
 |_,_,.nil=>rfl
 |_,_,.cons rfl h=>by rw[dO.eq h]
theorem GH{B:Array Field}:dw P wX m (B.mapM (λx=>do pure (x.offset,<-bf x.type))) (B.mapM (λx=>do pure (x.offset,<-bf x.type))):=by
 rw[a0];refine dC (AV (Q:=wX) (λ_ _ _ _ _ h=>h) _ (λm x=>eD λn=>.pure rfl) _ m) λm' a b _ h=>.pure ?_;exact congrArg _ (dO.eq h)
theorem Qv(hP:lX P)(h:dO (J6 m) ps.toList ps'.toList):dw P VR m (cz t ps) (cz t ps'):=by
 refine fG hP λz hz=>dA λd hd=>?_
 have hf:∀m',m.Le m'->∀place,dw P VR m' (match bC place z.cells ps.toList with|some cells=>pure (.agg cells)|_=>stuck "build: a part of the wrong size") (match bC place z.cells ps'.toList with|some cells=>pure (.agg cells)|_=>stuck "build: a part of the wrong size"):=by
  intro m' B place
  cases W:bC place .. with
  |none=>exact .dz trivial
  |some r=>
   obtain⟨r',O,U⟩:=Dl place (h.mono λ_ _ x=>⟨x.1,x.2.mono B⟩) (hz.cells.mono B) W;rw[O];exact .pure (.L0 U)
 have Y:∀m',m.Le m'->∀place,dw P VR m' (match bC place z.cells ps.toList with|some cells=>pure (.agg cells)|_=>stuck "build: no such field, or a part of the wrong size") (match bC place z.cells ps'.toList with|some cells=>pure (.agg cells)|_=>stuck "build: no such field, or a part of the wrong size"):=by
  intro m' B place
  cases W:bC place .. with
  |none=>exact .dz trivial
  |some r=>
   obtain⟨r',O,U⟩:=Dl place (h.mono λ_ _ x=>⟨x.1,x.2.mono B⟩) (hz.cells.mono B) W;rw[O];exact .pure (.L0 U)
 cases d<;>first|exact .dz trivial|skip
 .exact eD λn=>hf m (.refl m) _
 .refine dC GH λm' a b B aa=>?_;cases aa;exact Y m' B _
theorem Cr(W:lX P)(h:dO (J6 m) ps.toList ps'.toList):dw P VR m (bV t n ps) (bV t n ps'):=by
 refine dA λd hd=>?_;cases d<;>first|exact .dz trivial|skip
 rename_i elem;dsimp only;refine eD λsize=>?_;split
 .exact .dz trivial
 have fin:∀z,ep m z z->dw P VR m
   (match bC (λi=>some (i*size,size)) ((a3 (n*size)).map (z[· % z.size]!)) ps.toList with|some cells=>(do pure (.slice (some (<-ba elem cells)) n n))|_=>stuck "buildSlice: a part of the wrong size")
   (match bC (λi=>some (i*size,size)) ((a3 (n*size)).map (z[· % z.size]!)) ps'.toList with|some cells=>(do pure (.slice (some (<-ba elem cells)) n n))|_=>stuck "buildSlice: a part of the wrong size"):=by
  intro z B
  cases Y:bC .. with
  |none=>exact .dz trivial
  |some r=>
   obtain⟨r',O,U⟩:=Dl _ h (xm B _) Y;rw[O];exact dC (oZ U) λm' a a' _ ha=>.pure (.slice _ _ ha.1)
 split
 .exact fin _ (.nil m)
 .exact fG W λz B=>fin _ B.cells
theorem MD{a a':Value}(h:VR m a a'):dw P VR m (cq t a) (cq t a'):=ml h λ_ _ B=>BI B
theorem LZ{a a':Value}(h:VR m a a')(B:VR m v v'):dw P zZ m (cg t a v) (cg t a' v'):=ml h λ_ _ O=>Iy O B
theorem qZ{RB:Ren->γ->δ->Prop}{a:Addr}{f:Unit->Sem γ}{f':Unit->Sem δ}(B:AR m a a')(h:dw P RB m (f ()) (f' ())):dw P RB m (noView a >>= f) (noView a' >>= f'):=by
 refine dw.shape B.blk λx=>?_
 cases x with
 |some y=>exact h
 |none=>
  refine dw.getObj B.blk λo o' O=>?_;cases O<;>exact h
theorem nD{a:Addr}(B:AR m a a'):dw P wX m (b9 a) (b9 a'):=by
 unfold b9;rw[B.spot,B.off]
 cases O:a.spot with
 |some s=>exact .pure rfl
 |none=>
  refine gS (qZ B (jr B.blk λx=>?_))
  cases x with
  |none=>exact .dz trivial
  |some y=>
   refine dH (λ_=>.pure rfl) (λ_=>?_);split
   .exact .pure rfl
   .exact .dz trivial
theorem Ov{a:Addr}(U:AR m a a')(c b:Nat):dw P AR m (partAt a c b) (partAt a' c b):=by
 cases U with
 |mk hb=>
 refine dC (nD (.mk hb)) λm' x y O h=>?_;cases h;refine dC (nD (.mk (O.blk _ _ hb))) λW x' y' B h=>?_;cases h;refine .pure ?_;split<;>exact .mk (B.blk _ _ (O.blk _ _ hb))
theorem Ds{a:Addr}(B:AR m a a')(f:Field):dw P AR m (b7 a f) (b7 a' f):=by
 exact eD λn=>dH (λ_=>Ov B ..) (λ_=>.pure (B.add _))
theorem Mr{s:aN}{x x':Value}(h:VR m x x')(f:Nat):dw P VR m (cl s x f) (cl s x' f):=by
 refine dA λd W=>?_;cases d<;>first|exact .dz trivial|skip
 rename_i B;dsimp only
 cases B[f]? with
 |none=>exact .dz trivial
 |some O=>exact ml h λa a' U=>dC (Ds U O) λm' b b' _ hb=>.pure (.ptr hb)
theorem Ly{x x':Value}(h:VR m x x')(hi:VR m i i'):dw P VR m (ck t x i) (ck t x' i'):=by
 refine yO hi λk n _=>dA λd U=>?_
 have fin:∀(len:Nat)(elem:aN)(B:Bool){a a':Addr},AR m a a'->dw P VR m
   (if 0<=n/\n<len then(do pure (.pointer (some (a.add (n.toNat*(<-bf elem))))))else if B=true then unsupported (.noEntry "op/indexAddr.an index out of range at an array of length 0 or 1 (ledger 616)")else aV k n len .index)
   (if 0<=n/\n<len then(do pure (.pointer (some (a'.add (n.toNat*(<-bf elem))))))else if B=true then unsupported (.noEntry "op/indexAddr.an index out of range at an array of length 0 or 1 (ledger 616)")else aV k n len .index):=by
  intro len elem B a a' O;exact dH (λ_=>eD λs=>.pure (.ptr (O.add _))) (λ_=>dH (λ_=>.dz trivial) (λ_=>oE))
 cases d<;>first|exact .dz trivial|skip
 .cases h with
  |ft l c=>exact dA λd2 _=>oE
  |slice l c O=>exact dA λd2 _=>fin l _ _ O
  |_=>exact .dz trivial
 .exact ml h λa a' O=>dA λd2 _=>fin _ _ _ O
theorem zV{RB:Ren->γ->δ->Prop}{k:IntKind}{x y:Int}{f:α->Sem γ}{f':β->Sem δ}:dw P RB m (aV k x y c >>= f) (aV k x y c >>= f'):=
 dC (RA:=λ_ _ _=>False) oE nofun
theorem Aw{RB:Ren->γ->δ->Prop}(h:VR m v v'){y:Nat}{f:Nat->Sem γ}{f':Nat->Sem δ}(B:∀n,dw P RB m (f n) (f' n)) :
  dw P RB m (bN v y c >>= f) (bN v' y c >>= f'):=by
 cases h with
 |int k n=>
  have e:bN (.int k n) y c=if 0<=n/\n<=y then pure _ else aV k n y c:=rfl
  rw[e];split
  .exact B _
  .exact zV
 |_=>exact .dz trivial
inductive l5{α β:Type}(R:α->β->Prop):Option α->Option β->Prop
 |none:l5 R none none
 |some {a b}:R a b->l5 R (some a) (some b)
theorem l5.mono{R S:α->β->Prop}(h:∀a b,R a b->S a b){o:Option α}{o':Option β}(x:l5 R o o'):l5 S o o':=by
 cases x with
 |none=>exact .none
 |some B=>exact .some (h _ _ B)
theorem j8{RB:Ren->γ->δ->Prop}{b:Bool}{len cap:Nat}(B:l5 (VR m) l l')(O:l5 (VR m) h h')(U:l5 (VR m) x x'){f:Nat×Nat×Nat->Sem γ}{f':Nat×Nat×Nat->Sem δ}(W:∀n,dw P RB m (f n) (f' n)) :
  dw P RB m (bM b len cap l h x >>= f) (bM b len cap l' h' x' >>= f'):=by
 unfold bM
 cases U<;>cases O<;>cases B<;>simp only[bind_assoc,pure_bind] <;>
  repeat first|exact W _|exact .dz trivial|refine Aw (by assumption) λ_=>?_
theorem QF(Y:VR m v v')(O:l5 (VR m) l l')(U:l5 (VR m) h h')(W:l5 (VR m) x x'):dw P VR m (cr t v l h x) (cr t v' l' h' x'):=by
 refine dA λd hd=>?_;cases d<;>first|exact .dz trivial|skip
 .cases Y<;>first|exact .dz trivial|skip
  have ex:x.isSome=x'.isSome:=by cases W<;>rfl
  dsimp only;rw[ex];split
  .exact .dz trivial
  .exact j8 O U .none λn=>.pure (.string _)
 .exact Bm Y λa a' B=>dA λd2 _=>by
   cases d2<;>first|exact .dz trivial|skip
   refine j8 O U W λn=>eD λs=>.pure ?_;split
   .exact .slice _ _ B
   .exact .slice _ _ (B.add _)
 .cases Y<;>first|exact .dz trivial|skip
  .refine j8 O U W λn=>eD λs=>.pure ?_;split<;>exact .ft ..
  .rename_i B;refine j8 O U W λn=>eD λs=>.pure ?_;split
   .exact .slice _ _ B
   .exact .slice _ _ (B.add _)
theorem My(B:VR m v v')(O:l5 (VR m) l l')(U:l5 (VR m) h h')(W:l5 (VR m) x x'):dw P VR m (ci t v l h x) (ci t v' l' h' x'):=by
 refine dA λd hd=>?_;cases d<;>first|exact QF B O U W|skip
 refine ml B λa a' Y=>j8 O U W λn=>eD λs=>.pure ?_;split
 .exact .slice _ _ Y
 .exact .slice _ _ (Y.add _)
theorem Qt(B:VR m v v')(f:Nat):dw P VR m (cx t v f) (cx t v' f):=by
 refine dA λd W=>?_;cases d<;>first|exact .dz trivial|skip
 rename_i O;dsimp only
 cases O[f]? with
 |none=>exact .dz trivial
 |some Y=>exact NB B λc c' U=>mw U _
theorem PB(B:VR m v v')(hi:VR m i i'):dw P VR m (cw t v i) (cw t v' i'):=by
 refine yO hi λk n _=>dA λd W=>?_;cases d<;>first|exact .dz trivial|skip
 .cases B<;>first|exact .dz trivial|skip
  dsimp only;split
  .exact .pure (.int ..)
  .exact oE
 .cases B<;>first|exact .dz trivial|skip
  rename_i O U;exact dH (λ_=>eD λs=>mw (.ib O U) _) (λ_=>oE)
theorem LD(B:VR m v v')(i:Nat):dw P VR m (bP v i) (bP v' i):=by
 cases B<;>first|exact .dz trivial|skip
 .rename_i O U;unfold bP;dsimp only
  cases W:(_:Array Value)[i]? with
  |none=>exact .dz trivial
  |some u=>obtain⟨u',Y,hr⟩:=(ep.ib O U).get W; rw[Y]; exact .pure hr
theorem wP(B:VR m v v'):dw P VR m (bR t v) (bR t v'):=by
 refine dA λd O=>?_;cases d<;>first|exact .dz trivial|exact .pure (.iface _ B)
theorem Ls{r r':Option Value}(h:l5 (VR m) r r'):dw P VR m (cj t r) (cj t r'):=by
 have fin:dw P VR m .. :=
  dw.new (.map 0 .nil) (nofun) λm' i i' O hb _=>.pure (.map hb)
 cases h with
 |none=>exact fin
 |some B=>
  refine dA λd U=>?_;cases d<;>first|exact .dz trivial|exact j9 B λn=>fin
theorem km{RB:Ren->γ->δ->Prop}{f:Unit->Sem γ}{f':Unit->Sem δ}(h:dw P RB m (f ()) (f' ())):dw P RB m (bp n >>= f) (bp n >>= f'):=by
 unfold bp;split
 .exact dw.mark trivial h
 .exact h
theorem EF(O:lX P){l l' c c':Value}(U:VR m l l')(W:VR m c c'):dw P VR m (bX t l c) (bX t l' c'):=by
 refine dA λd hd=>?_;cases d<;>first|exact .dz trivial|skip
 rename_i elem;refine j9 U λln=>j9 W λcn=>dQ λti _=>?_
 have fin:∀{a b:Nat}{x y:Nat},dw P VR m
   (do bp a; let n <-bf elem; if b*n=0 then(do let zero <-pure #[]; let r <-ba elem (aC (λx=>zero[x % zero.size]!) (a3 (b*n))); pure (Value.slice (some r) x y))else(do let z <-aQ elem; let zero <-pure z.cells; let r <-ba elem (aC (λx=>zero[x % zero.size]!) (a3 (b*n))); pure (Value.slice (some r) x y)))
   (do bp a; let n <-bf elem; if b*n=0 then(do let zero <-pure #[]; let r <-ba elem (aC (λx=>zero[x % zero.size]!) (a3 (b*n))); pure (Value.slice (some r) x y))else(do let z <-aQ elem; let zero <-pure z.cells; let r <-ba elem (aC (λx=>zero[x % zero.size]!) (a3 (b*n))); pure (Value.slice (some r) x y))):=by
  refine km (eD λn=>dH (λ_=>?_) (λ_=>fG O λz Y=>?_))
  .exact dC (RA:=He) (oZ (xm (z:=#[]) (.nil m) _)) λm' r r' _ B=>dw.pure (VR.slice _ _ B.1)
  .exact dC (RA:=He) (oZ (xm Y.cells _)) λm' r r' _ B=>dw.pure (VR.slice _ _ B.1)
 refine dH (λ_=>dH (λ_=>?_) (λ_=>dH (λ_=>?_) (λ_=>gz λn=>?_))) (λ_=>fin)
 all_goals exact dS (e:=.error _) trivial
theorem I4{f:aX}(B:m.fu f){a a' b b':Array Value}(O:ep m a a')(hb:ep m b b'):dw P VR m (ce (.func f) a b) (ce (.func f) a' b'):=.pure (.J5 (.func f B) O hb)
theorem I1(hm:m.ig){s s':Value}(B:VR m s s'):dw P VR m (cf t s) (cf t s'):=by
 refine j9 B λn=>dA λd O=>?_;cases d<;>first|exact .dz trivial|skip
 refine dQ λU _=>dH (λ_=>dS (e:=.plain _) trivial) (λ_=>?_);exact dw.pV hm λm' i i' _ hb=>.pure (.chan hb)
theorem Qf(O:VR m v v'):dw P VR m (cu t v) (cu t v'):=by
 refine dA λd W=>?_
 have fin:∀{o o':Obj},OR m o o'->(∀e c f,o≠.cells e c f)->dw P VR m (do pure (.pointer (some ⟨<-bt o,0,none⟩))) (do pure (.pointer (some ⟨<-bt o',0,none⟩))):=by
  intro o o' B U;exact dw.new B (λe c f h=>absurd h (U e c f)) λm' i i' _ hb _=>.pure (.ptr (.mk hb))
 cases d<;>first|exact .dz trivial|skip
 .cases O<;>first|exact .dz trivial|exact fin (.stringIter ..) (nofun)
 .cases O<;>first|exact .dz trivial|skip
  .exact fin (.fU ..) (nofun)
  .rename_i hb;refine fI hb λo o' B=>?_;cases B<;>first|exact .dz trivial|exact fin (.mapIter _ _ _ hb) (nofun)
  .exact .gone ‹_›
theorem El{RB:Ren->γ->δ->Prop}{f:aN->Sem γ}{f':aN->Sem δ}(h:∀n,dw P RB m (f n) (f' n)):dw P RB m (b8 t >>= f) (b8 t >>= f'):=by
 unfold b8;simp only[bind_assoc];refine dA λd B=>?_;cases d<;>first|exact .dz trivial|exact h _
theorem GI{RA:Ren->α->β->Prop}:dw P RA m (aW .panicNil) (aW .panicNil):=by
 refine .program ?_;refine El λn=>dC (RA:=He) (xL (.L0 (.nil m))) λm' r r' _ B=>.panic (.iface _ (.ptr B.1))
theorem QQ(B:VR m v v'):dw P VR m (cv v) (cv v'):=by
 cases B<;>first|exact .dz trivial|exact .panic (.iface _ ‹_›)|skip
 refine dw.env λr=>?_;cases r<;>first|exact .dz trivial|skip
 refine dw.program ?_;exact dH (λ_=>.panic .nilIface) (λ_=>GI)
end
end
section
variable {a a' b b':Addr} {α γ δ σ:Type}
def nJ(P:Program):Nat->aN->Bool
 |0,_=>true
 |d+1,t=>match P.underlying t with
  |some (.pointer _)|some .unsafePointer|some (.interface _)=>false
  |some (.struct B)=>B.all λf=>nJ P d f.type
  |some (.array _ e)=>nJ P d e
  |_=>true
def gF(m:Ren):Prop:=∀r,¬m.loose r
theorem gF.mono{m m':Ren}(h:m.Le m')(x:gF m):gF m':=λr B=>x r (h.less r B)
section
variable {P:Program} {m:Ren}
theorem vQ{RB:Ren->γ->δ->Prop}(O:gF m)(B:AR m a a'){f:Bool->Sem γ}{f':Bool->Sem δ}(h:∀b,dw P RB m (f b) (f' b)):dw P RB m (stringish a >>= f) (stringish a' >>= f'):=by
 refine mW B (O _) λx=>?_;cases x
 .refine jr B.blk λy=>?_
  cases y with
  |none=>exact h _
  |some z=>exact mW (.mk B.blk) (O _) λb=>h b
 .exact h _
theorem zt{RB:Ren->γ->δ->Prop}(B:gF m)(O:AR m a a')(hb:AR m b b'){f:Bool->Sem γ}{f':Bool->Sem δ}(h:∀b,dw P RB m (f b) (f' b)):dw P RB m (bu a b >>= f) (bu a' b' >>= f'):=by
 unfold bu;simp only[bind_assoc];exact vQ B O λsa=>vQ B hb λU=>jr O.blk λx=>jr hb.blk λy=>h _
theorem yE(O:gF m)(B:AR m a a')(hb:AR m b b'):dw P wX m (bs a b) (bs a' b'):=by
 unfold bs;have U:(a.block==b.block)=(a'.block==b'.block):=by rw[dl]; simp only[beq_iff_eq]; exact B.rH hb
 have W:(a==b)=(a'==b'):=by rw[dl]; simp only[beq_iff_eq]; exact B.eq_iff hb
 rw[U,W];refine dH (λ_=>.pure rfl) (λ_=>?_);refine mW B (O _) λx=>?_;exact mW hb (O _) λy=>dH (λ_=>.dz trivial) (λ_=>qZ B (qZ hb (zt O B hb λx=>dH (λ_=>gz λn=>.pure rfl) (λ_=>.pure rfl))))
theorem dW{RB:Ren->γ->δ->Prop}(B:AR m a a'){f:Addr×Bool->Sem γ}{f':Addr×Bool->Sem δ}(h:∀p O l,AR m p O->dw P RB m (f (p,l)) (f' (O,l))) :
  dw P RB m (b1 a >>= f) (b1 a' >>= f'):=by
 refine jr B.blk λx=>?_
 cases x with
 |some y=>exact h _ _ _ B
 |none=>
  refine fI B.blk λo o' U=>?_
  cases U with
  |number l W=>exact h _ _ _ W
  |_=>exact h _ _ _ B
theorem pw{f f':α->σ->Sem (ForInStep σ)}:∀(l:List α)(s:σ)(m':Ren),m.Le m'->(∀m' a s,a∈l->m.Le m'->dw P wX m' (f a s) (f' a s))->dw P wX m' (forIn l s f) (forIn l s f')
 |[],s,m',_,_=>.pure rfl
 |a::l,s,m',W,h=>by
  simp only[ga];refine dC (h m' a s (by simp) W) λB x y O U=>?_;cases U
  cases x with
  |done b=>exact .pure rfl
  |yield b=>exact pw l b B (W.trans O) λY a s ha=>h Y a s (by simp[ha])
theorem oy{f f':α->σ->Sem (ForInStep σ)}(xs:Array α)(s:σ)(h:∀m' a s,a∈xs.toList->m.Le m'->dw P wX m' (f a s) (f' a s)):dw P wX m (forIn xs s f) (forIn xs s f'):=by
 rw[<-a6,<-a6];exact pw _ s m (.refl m) h
theorem oz{f f':Nat->σ->Sem (ForInStep σ)}(n:Nat)(s:σ)(h:∀m' a s,m.Le m'->dw P wX m' (f a s) (f' a s)):dw P wX m (forIn [:n] s f) (forIn [:n] s f'):=by
 rw[hC,hC];exact pw _ s m (.refl m) λB a s _=>h B a s
theorem LV{RB:Ren->γ->δ->Prop}{t:aN}{f:String->Sem γ}{f':String->Sem δ}(h:∀n,dw P RB m (f n) (f' n)):dw P RB m (bx t >>= f) (bx t >>= f'):=by
 unfold bx;simp only[bind_assoc];refine dQ λB _=>?_;split
 .exact .dz trivial
 .exact h _
theorem Ty(B:AR m a a')(hb:AR m b b'):(a==b)=(a'==b'):=by rw[dl]; simp only[beq_iff_eq]; exact B.eq_iff hb
theorem oG:∀(d:Nat)(m:Ren)(t:aN){x x' y y':Value},m.G=P.globals.size->VR m x x'->VR m y y'->gF m\/nJ P d t=true->dw P wX m (cC d t x y) (cC d t x' y')
 |0,m,t,_,_,_,_,_,_,_,_=>.dz trivial
 |d+1,m,t,x,x',y,y',hG,W,O,B=>by
  unfold cC
  refine dA λde hd=>?_
  cases de with
  |bool=>cases W<;>first|exact .dz trivial|(cases O<;>first|exact .dz trivial|exact .pure rfl)
  |string=>cases W<;>first|exact .dz trivial|(cases O<;>first|exact .dz trivial|exact .pure rfl)
  |int k=>
   cases W with
   |int k n=>
    cases O with
    |int k' n'=>exact dH (λ_=>.pure rfl) (λ_=>.dz trivial)
    |ptr ha=>
     cases n with
     |ofNat n=>cases n<;>first|exact .pure rfl|exact .dz trivial
     |negSucc n=>exact .dz trivial
    |_=>exact .dz trivial
   |ptr ha=>
    cases O with
    |int k' n'=>
     cases n' with
     |ofNat n=>cases n<;>first|exact .pure rfl|exact .dz trivial
     |negSucc n=>exact .dz trivial
    |ptr hb=>
     refine dW ha λp p' l hp=>dW hb λq q' l' hq=>gS ?_
     have e1:(p.block==q.block)=(p'.block==q'.block):=by rw[dl]; simp only[beq_iff_eq]; exact hp.rH hq
     have e2:(p==q)=(p'==q'):=by rw[dl]; simp only[beq_iff_eq]; exact hp.eq_iff hq
     have e3:decide (p.block<P.globals.size)=decide (p'.block<P.globals.size):=by rw[<-hG]; exact decide_eq_decide.2 (m.oh _ _ hp.blk)
     rw[e1,e2,e3];refine dH (λ_=>?_) (λ_=>dQ λti _=>?_)
     .refine dC (nD hp) λm' x y Y h=>?_;cases h;refine dC (nD (hq.mono Y)) λad x' y' Y h=>?_;cases h;exact .pure rfl
     .split
      .exact dH (λ_=>.pure rfl) (λ_=>.dz trivial)
      .exact .dz trivial
    |_=>exact .dz trivial
   |gM=>exact .dz trivial
   |_=>cases O<;>exact .dz trivial
  |pointer e=>
   cases W with
   |gM=>cases O<;>first|exact .dz trivial|exact .pure rfl
   |ptr ha=>
    cases O with
    |gM=>exact .pure rfl
    |ptr hb=>
     rcases B with B|B
     .refine eD λn=>dH (λ_=>yE B ha hb) (λ_=>?_);rw[Ty ha hb];exact dH (λ_=>.pure rfl) (λ_=>gz λn=>.pure rfl)
     .simp[nJ,hd]at B
    |_=>exact .dz trivial
   |_=>exact .dz trivial
  |interface ms=>
   cases W with
   |nilIface=>cases O<;>first|exact .dz trivial|exact .pure rfl
   |iface tx ab=>
    cases O with
    |nilIface=>exact .pure rfl
    |iface ty ac=>
     rcases B with B|B
     .refine dH (λ_=>.pure rfl) (λae=>dQ λti _=>dH (λ_=>gS (gS ?_)) (λ_=>oG d m tx hG ab ac (.inl B)));dsimp only;exact dH (λ_=>.dz trivial) (λ_=>LV λn=>fl (e:=.error _) trivial)
     .simp[nJ,hd]at B
    |_=>exact .dz trivial
   |_=>exact .dz trivial
  |struct fs=>
   cases W<;>first|exact .dz trivial|(cases O<;>first|exact .dz trivial|skip)
   rename_i h1 h2 c c' h3 h4
   have aa:∀f∈fs.toList,gF m\/nJ P d f.type=true:=by
    intro f hf;rcases B with B|B
    .exact .inl B
    .right;simp only[nJ,hd,aB]at B;exact B f (by simpa using hf)
   refine gS ?_;dsimp only;refine dH (λ_=>.dz trivial) (λ_=>?_);refine dC (RA:=wX) (oy _ _ λm' f s hf Y=>dH (λ_=>?_) (λ_=>.pure rfl)) λm' a b _ U=>?_
   .refine dC (mw ((ep.ib h1 h2).mono Y) _) λm1 u u' l1 hu=>dC (mw ((ep.ib h3 h4).mono (Y.trans l1)) _) λm2 v v' l2 hv=>?_;have l3:=(Y.trans l1).trans l2;refine dC (oG d m2 _ (by rw[l3.G,hG]) (hu.mono l2) hv ((aa f hf).imp (λx=>x.mono l3) id)) λm3 a b _ U=>?_;cases U;exact dH (λ_=>.pure rfl) (λ_=>.pure rfl)
   .cases U;obtain⟨o,_⟩:=a;cases o<;>exact .pure rfl
  |array n e=>
   cases W<;>first|exact .dz trivial|(cases O<;>first|exact .dz trivial|skip)
   rename_i h1 h2 c c' h3 h4
   have aa:gF m\/nJ P d e=true:=by
    rcases B with B|B
    .exact .inl B
    .right;simpa only[nJ,hd]using B
   refine eD λsz=>?_;refine dC (RA:=wX) (oz _ _ λm' i s Y=>?_) λm' a b _ U=>?_
   .refine dC (mw ((ep.ib h1 h2).mono Y) _) λm1 u u' l1 hu=>dC (mw ((ep.ib h3 h4).mono (Y.trans l1)) _) λm2 v v' l2 hv=>?_;have l3:=(Y.trans l1).trans l2;refine dC (oG d m2 _ (by rw[l3.G,hG]) (hu.mono l2) hv (aa.imp (λx=>x.mono l3) id)) λm3 a b _ U=>?_;cases U;exact dH (λ_=>.pure rfl) (λ_=>.pure rfl)
   .cases U;obtain⟨o,_⟩:=a;cases o<;>exact .pure rfl
  |slice e=>cases W<;>first|exact .dz trivial|(cases O<;>first|exact .dz trivial|exact .pure rfl)
  |map k e=>cases W<;>first|exact .dz trivial|(cases O<;>first|exact .dz trivial|exact .pure rfl)
  |func a b c=>cases W<;>first|exact .dz trivial|(cases O<;>first|exact .dz trivial|exact .pure rfl)
  |unsafePointer=>
   rcases B with B|B
   .cases W<;>first|exact .dz trivial|(cases O<;>first|exact .dz trivial|exact .pure rfl|exact yE B ‹_› ‹_›)
   .simp[nJ,hd]at B
  |chan a b=>
   cases W<;>first|exact .dz trivial|(cases O<;>first|exact .dz trivial|exact .pure rfl|skip)
   rename_i r r' h1 s s' h2;refine .pure ?_;show((some r==some s)=(some r'==some s'));rw[dl];simp only[beq_iff_eq,gg];constructor
   .intro e; subst e; rw[h1]at h2; cases h2; rfl
   .intro e; subst e; exact m.uB _ _ _ h1 h2
  |_=>cases W<;>exact .dz trivial
end
end
section
variable {γ:Type} {d:TypeDesc} {t:aN} {a a' b b' k k' x x':Value}
def qq(P:Program):Nat->aN->Bool
 |0,_=>true
 |d+1,t=>match P.underlying t with
  |some (.interface _)=>false
  |some (.struct B)=>B.all λf=>qq P d f.type
  |some (.array _ e)=>qq P d e
  |_=>true
section
variable {P:Program} {m:Ren}
theorem nv(b:Bool):∀(n:Nat)(m:Ren)(t:aN){v v':Value},VR m v v'->qq P n t=true->dw P zZ m (bI b n t v) (bI b n t v')
 |0,m,t,_,_,_,_=>.dz trivial
 |n+1,m,t,v,v',hv,B=>by
  refine dA λd O=>?_
  cases d with
  |interface ms=>simp[qq,O]at B
  |struct fs=>
   simp only[qq,O,aB]at B;cases hv<;>first|exact .dz trivial|skip
   rename_i U W;refine(dC (RA:=wX) (oy _ _ λm' f s hf Y=>dH (λ_=>?_) (λ_=>.pure rfl)) λ_ _ _ _ _=>.pure trivial);refine dC (mw ((ep.ib U W).mono Y) _) λm1 u u' l1 hu=>dC (nv b n m1 _ hu (B f (by simpa using hf))) λ_ _ _ _ _=>.pure rfl
  |array l e=>
   simp only[qq,O]at B;cases hv<;>first|exact .dz trivial|skip
   rename_i U W;refine(dC (RA:=wX) (oz _ _ λm' i s Y=>eD λsz=>?_) λ_ _ _ _ _=>.pure trivial);refine dC (mw ((ep.ib U W).mono Y) _) λm1 u u' l1 hu=>dC (nv b n m1 _ hu B) λ_ _ _ _ _=>.pure rfl
  |_=>exact .pure trivial
def Hb(m:Ren):Option (Nat×Value)->Option (Nat×Value)->Prop:=l5 λx y=>y.1=x.1/\VR m x.2 y.2
theorem tA(U:∀m',m.Le m'->gF m'\/nJ P c6 t=true)(W:m.G=P.globals.size)(Y:VR m k k'):∀{es es':List MapEntry}(i:Nat)(m':Ren),m.Le m'->dO (sQ m) es es'->dw P Hb m' (bG t k es i) (bG t k' es' i)
 |_,_,_,m',_,.nil=>by unfold bG; exact .pure .none
 |_,_,i,m',B,.cons he h=>by
  refine dC (oG _ m' t (by rw[B.G,W]) (Y.mono B) (he.key.mono B) (U m' B)) λm2 a b l2 O=>?_;cases O;exact dH (λ_=>.pure (.some ⟨rfl,he.val.mono (B.trans l2)⟩)) (λ_=>tA U W Y _ m2 (B.trans l2) h)
theorem Kz(B:VR m k k')(O:VR m x x')(b:Bool)(h:bB d k x=some b):bB d k' x'=some b:=by
 cases d with
 |bool=>
  cases B with
  |bool c=>cases O with|bool e=>exact h|_=>cases h
  |_=>cases h
 |int j=>
  cases B with
  |int c n=>cases O with|int e U=>exact h|_=>cases h
  |_=>cases h
 |string=>
  cases B with
  |string c=>cases O with|string e=>exact h|_=>cases h
  |_=>cases h
 |_=>cases h
theorem CN(W:P.underlying t=some d)(O:VR m k k')(U:VR m x x')(h:bB d k x=none){b:Bool}(h':bB d k' x'=some b):eh P (c5 t k x):=by
 have key:∀{γ:Type}(f:TypeDesc->Sem γ),eh P (f d)->eh P (aT t >>= f):=by
  intro γ f Y;show eh P ((match P.underlying t with|some d=>pure d|none=>stuck _) >>= f);rw[W]; exact Y
 cases d with
 |bool=>
  cases O with
  |bool c=>cases U with
   |bool e=>cases h
   |fJ v B=>exact key _ trivial
   |_=>cases h'
  |fJ v B=>exact key _ trivial
  |_=>cases h'
 |int j=>
  cases O with
  |int c n=>cases U with
   |int e n'=>rw[show bB .. = some b from h']at h; cases h
   |fJ v B=>exact key _ trivial
   |_=>cases h'
  |fJ v B=>exact key _ (by cases x<;>trivial)
  |_=>cases h'
 |string=>
  cases O with
  |string c=>cases U with
   |string e=>cases h
   |fJ v B=>exact key _ trivial
   |_=>cases h'
  |fJ v B=>exact key _ trivial
  |_=>cases h'
 |_=>cases h'
theorem Eu(B:P.underlying t=some d)(h:bB d k x=some false)(f:Bool->Sem γ)(O:eh P (f false)):eh P (c5 t k x >>= f):=by
 have key:∀(g:TypeDesc->Sem Bool),g d=pure false->eh P ((aT t >>= g) >>= f):=by
  intro g U;show eh P (((match P.underlying t with|some d=>pure d|none=>stuck _) >>= g) >>= f);rw[B];show eh P (g d >>= f);rw[U]; exact O
 match d,k,x,h with
 |.bool,.bool a,.bool b,h=>exact key _ (by simp only[bB,gg]at h; simp[h])
 |.string,.string a,.string b,h=>exact key _ (by simp only[bB,gg]at h; simp[h])
 |.int j,.int k a,.int k' b,h=>
  refine key _ ?_;simp only[bB]at h;split at h
  .simp only[gg]at h
   rename_i e;simp[e,h]
  .cases h
theorem AJ(B:P.underlying t=some d)(O:VR m k k'):∀{es es':List MapEntry}(i:Nat),dO (sQ m) es es'->
  (∀r,bE d k es i=some r->∃r',bE d k' es' i=some r'/\Hb m r r')/\(bE d k es i=none->bE d k' es' i=none\/∀j,eh P (bG t k es j))
 |_,_,i,.nil=>by
  exact⟨λr h=>by cases h; exact⟨_,rfl,.none⟩,nofun⟩
 |e::es,e'::es',i,.cons U h=>by
  obtain⟨W,Y⟩:=AJ B O _ h
  unfold bE
  cases hs:bB d k _ with
  |some b=>
   rw[Kz O U.key b hs]
   cases b with
   |true=>exact⟨λr h=>by cases h; exact⟨_,rfl,.some ⟨rfl,U.val⟩⟩,nofun⟩
   |false=>
    refine⟨W,λhn=>(Y hn).imp id λhD j=>?_⟩;exact Eu B hs _ (hD _)
  |none=>
   refine⟨(nofun),λ_=>?_⟩
   cases aa:bB d k' _ with
   |none=>exact .inl rfl
   |some b=>
    refine .inr λj=>?_;exact(CN B O U.key hs aa).bind
theorem vc(U:gF m\/nJ P c6 t=true)(W:m.G=P.globals.size)(B:VR m k k'){es es':List MapEntry}(h:dO (sQ m) es es'):dw P Hb m (bJ t k es) (bJ t k' es'):=by
 refine dA λd Y=>?_;obtain⟨h1,h2⟩:=AJ Y B 0 h
 cases O:bE d k es 0 with
 |some r=>
  obtain⟨r',e,hr⟩:=h1 r O;rw[e];exact .pure hr
 |none=>
  rcases h2 O with e|hD
  .rw[e];exact tA (λm' hl=>U.imp (λx=>x.mono hl) id) W B 0 m (.refl m) h
  .exact .dz (hD 0)
theorem OI(Y:lX P)(hG:m.G=P.globals.size)(hK:∀k e,P.underlying t=some (.map k e)->qq P 10000 k=true/\(gF m\/nJ P c6 k=true)){i i':Value}(hx:VR m x x')(hi:VR m i i')(b:Bool):dw P VR m (cp t x i b) (cp t x' i' b):=by
 refine dA λd hd=>?_;cases d<;>first|exact .dz trivial|skip
 rename_i k e;obtain⟨U,W⟩:=hK k e hd
 have fin:∀{es es':Array MapEntry},dO (sQ m) es.toList es'.toList->dw P VR m
   (do bI es.isEmpty 10000 k i; match <-bJ k i es.toList with|some (_,v)=>(do let y <-pure (v,true); match y with|(v,ok)=>pure (if b=true then .tuple #[v,.bool ok]else v))|none=>(do let z <-aQ e; let y <-pure (z,false); match y with|(v,ok)=>pure (if b=true then .tuple #[v,.bool ok]else v)))
   (do bI es'.isEmpty 10000 k i'; match <-bJ k i' es'.toList with|some (_,v)=>(do let y <-pure (v,true); match y with|(v,ok)=>pure (if b=true then .tuple #[v,.bool ok]else v))|none=>(do let z <-aQ e; let y <-pure (z,false); match y with|(v,ok)=>pure (if b=true then .tuple #[v,.bool ok]else v))):=by
  intro es es' h
  have he:es.isEmpty=es'.isEmpty:=by
   have:=h.length;simp only[a5]at this;simp[aA,this]
  rw[he];refine dC (nv _ _ m _ hi U) λm1 _ _ B _=>dC (vc (W.imp (λx=>x.mono B) id) (by rw[B.G,hG]) (hi.mono B) (h.mono λ_ _ x=>x.mono B)) λm2 r r' l2 hr=>?_
  have pr:∀(m':Ren)(v v':Value)(o:Bool),VR m' v v'->VR m' (if b=true then .tuple #[v,.bool o]else v) (if b=true then .tuple #[v',.bool o]else v'):=by
   intro m' v v' o O;split
   .exact .kS (.cons O (.cons (.bool _) .nil))
   .exact O
  cases hr with
  |none=>exact fG Y λz hz=>.pure (pr _ _ _ _ hz)
  |some O=>exact .pure (pr _ _ _ _ O.2)
 cases hx<;>first|exact .dz trivial|skip
 .exact fin .nil
 .rename_i hb;refine fI hb λo o' ho=>?_;cases ho<;>first|exact .dz trivial|exact fin ‹_›
 .exact .gone ‹_›
theorem Ff:∀(n:Nat)(a b:Value),bA n a b=true->a=b:=by
 intro n
 induction n with
 |zero=>
  intro a b h;unfold bA at h;split at h
  .rw[eq_of_beq h]
  .simp only[dk,beq_iff_eq]at h; rw[h.1,h.2]
  .simp only[dk,beq_iff_eq]at h; rw[h.1,h.2]
  .simp only[dk,beq_iff_eq]at h; rw[h.1.1,h.1.2,h.2]
  .rw[(Go.MapKept.bytes_beq ..).1 h]
  .rw[eq_of_beq h]
  .rw[eq_of_beq h]
  .rfl
  .rename_i e; cases e
  .rename_i e; cases e
  .cases h
 |succ n B=>
  intro a b h;unfold bA at h;split at h
  .rw[eq_of_beq h]
  .simp only[dk,beq_iff_eq]at h; rw[h.1,h.2]
  .simp only[dk,beq_iff_eq]at h; rw[h.1,h.2]
  .simp only[dk,beq_iff_eq]at h; rw[h.1.1,h.1.2,h.2]
  .rw[(Go.MapKept.bytes_beq ..).1 h]
  .rw[eq_of_beq h]
  .rw[eq_of_beq h]
  .rfl
  .rename_i e; cases e;simp only[dk,beq_iff_eq]at h;rw[h.1,B _ _ h.2]
  .rename_i x y e; cases e;simp only[dk,beq_iff_eq,fB]at h
   have:=by
    apply Array.ext h.1;intro i O U;refine B _ _ (h.2 (x[i],y[i]) ?_);rw[fm];exact⟨i,by simp[fk,O,U]⟩
   rw[this]
  .cases h
theorem rB(Y:VR m a a')(hb:VR m b b'):(∀p q,a=.pointer p->b=.pointer q->∃B O,a'=.pointer B/\b'=.pointer O/\(p==q)=(B==O))/\(∀p q,a=.chan p->b=.chan q->∃B O,a'=.chan B/\b'=.chan O/\(p==q)=(B==O)):=by
 constructor
 .intro p q U W;subst U W
  cases Y with
  |gM=>cases hb with
   |gM=>exact⟨_,_,rfl,rfl,rfl⟩
   |ptr h=>exact⟨_,_,rfl,rfl,rfl⟩
  |ptr h=>cases hb with
   |gM=>exact⟨_,_,rfl,rfl,rfl⟩
   |ptr h'=>exact⟨_,_,rfl,rfl,by rw[dl]; simp only[beq_iff_eq,gg]; exact h.eq_iff h'⟩
 .intro p q U W;subst U W
  cases Y with
  |iR=>cases hb with
   |iR=>exact⟨_,_,rfl,rfl,rfl⟩
   |chan h=>exact⟨_,_,rfl,rfl,rfl⟩
  |chan h=>cases hb with
   |iR=>exact⟨_,_,rfl,rfl,rfl⟩
   |chan h'=>
    refine⟨_,_,rfl,rfl,?_⟩;rw[dl]; simp only[beq_iff_eq,gg];constructor
    .intro e; subst e; rw[h]at h'; cases h'; rfl
    .intro e; subst e; exact m.uB _ _ _ h h'
theorem Fh:∀(n:Nat){a b a' b':Value},VR m a a'->VR m b b'->bA n a b=true->bA n a' b'=true:=by
 intro n
 induction n with
 |zero=>
  intro a b a' b' B hb h;unfold bA at h;split at h
  .cases B; cases hb; simpa[bA]using h
  .cases B; cases hb; simpa[bA]using h
  .cases B
  .cases B
  .cases B; cases hb; simpa[bA]using h
  .obtain⟨W,Y,rfl,rfl,e⟩:=(rB B hb).1 _ _ rfl rfl; rw[e]at h; simpa[bA]using h
  .obtain⟨W,Y,rfl,rfl,e⟩:=(rB B hb).2 _ _ rfl rfl; rw[e]at h; simpa[bA]using h
  .cases B; cases hb; rfl
  .rename_i e; cases e
  .rename_i e; cases e
  .cases h
 |succ n ih=>
  intro a b a' b' B hb h;unfold bA at h;split at h
  .cases B; cases hb; simpa[bA]using h
  .cases B; cases hb; simpa[bA]using h
  .cases B
  .cases B
  .cases B; cases hb; simpa[bA]using h
  .obtain⟨W,Y,rfl,rfl,e⟩:=(rB B hb).1 _ _ rfl rfl; rw[e]at h; simpa[bA]using h
  .obtain⟨W,Y,rfl,rfl,e⟩:=(rB B hb).2 _ _ rfl rfl; rw[e]at h; simpa[bA]using h
  .cases B; cases hb; rfl
  .rename_i e; cases e
   cases B with
   |iface t h1=>cases hb with
    |iface u h2=>
     simp only[dk,beq_iff_eq]at h;simp only[bA,dk,beq_iff_eq];exact⟨h.1,ih h1 h2 h.2⟩
  .rename_i x y e; cases e
   cases B with
   |agg s1 h1=>cases hb with
    |agg s2 h2=>
     simp only[dk,beq_iff_eq,fB]at h;simp only[bA,dk,beq_iff_eq,fB];refine⟨by rw[<-s1,<-s2]; exact h.1,λp hp=>?_⟩;rw[fm]at hp;obtain⟨i,hi⟩:=hp;simp only[fk,az]at hi;obtain⟨g1,g2⟩:=hi;obtain⟨k1,e1⟩:=ay.1 g1;obtain⟨k2,e2⟩:=ay.1 g2;have O:i<x.size:=by rw[s1]; exact k1
     have U:i<y.size:=by rw[s2]; exact k2
     rw[<-e1,<-e2];refine ih (h1 i O k1) (h2 i U k2) (h.2 (x[i],y[i]) ?_);rw[fm];exact⟨i,by simp[fk,O,U]⟩
  .cases h
theorem yp{δ:Type}{RB:Ren->γ->δ->Prop}(B:VR m a a')(hb:VR m b b'){f:Value->Sem γ}{f':Value->Sem δ}(W:∀v,fO (f v))(h:∀v v',VR m v v'->dw P RB m (f v) (f' v')) :
  kM P RB m (bK a b >>= f) (bK a' b' >>= f'):=by
 unfold bK;by_cases O:bA 10000 a b=true
 .rw[if_pos O,if_pos (Fh _ B hb O)];exact .base (h _ _ hb)
 .rw[if_neg O];by_cases U:bA 10000 a' b'=true
  .have e:=Ff _ _ _ U;refine kM.TF (λn=>?_) (λn=>?_)
   .exact W _
   .show dw P RB m (f _) _;split
    .exact h _ _ hb
    .exact h _ _ (e▸B)
  .rw[if_neg U];refine .base (dw.choose λn=>?_);show dw P RB m (f _) (f' _);split
   .exact h _ _ hb
   .exact h _ _ B
end
end
section
variable {es es':Array MapEntry} {α β γ δ:Type} {i' k k' mp mp' v v':Value}
section
variable {P:Program} {m:Ren}
theorem fO.bind{s:Sem α}{f:α->Sem β}(h:fO s)(O:∀a,fO (f a)):fO (s.bind f):=by
 induction s with
 |pure a=>exact O a
 |load m a k B=>exact λv=>B v (h v)
 |store m a v k B=>exact B h
 |new o k B=>exact λv=>B v (h v)
 |shape r k B=>exact λv=>B v (h v)
 |freeze a n k B=>exact B h
 |frozen a k B=>exact λv=>B v (h v)
 |getObj r k B=>exact λv=>B v (h v)
 |setObj r o k B=>exact B h
 |choose q k B=>exact h.elim
 |sys c k B=>exact λv=>B v (h v)
 |program k B=>exact λv=>B v (h v)
 |mark m k B=>exact B h
 |halt x=>trivial
theorem kM.map{RA:Ren->α->β->Prop}{RB:Ren->γ->δ->Prop}{s:Sem α}{s':Sem β}{g:α->γ}{g':β->δ}(h:kM P RA m s s')(U:∀m' a b,m.Le m'->RA m' a b->RB m' (g a) (g' b)) :
  kM P RB m (s.bind λa=>.pure (g a)) (s'.bind λb=>.pure (g' b)):=by
 induction h with
 |base h=>exact .base (h.bind λm' a b B O=>.pure (U m' a b B O))
 |bind h _ ih=>
  rw[cP,cP];exact .bind h λm' a b B O=>ih m' a b B O λW c d Y aa=>U W c d (B.trans Y) aa
 |TF hd h=>exact .TF (λn=>(hd n).bind λ_=>trivial) λn=>(h n).bind λm' a b B O=>.pure (U m' a b B O)
theorem oe{RC:Ren->γ->δ->Prop}{RA:Ren->α->β->Prop}{s:Sem γ}{s':Sem δ}{f:γ->Sem α}{f':δ->Sem β}(h:dw P RC m s s')(B:∀m' a b,m.Le m'->RC m' a b->kM P RA m' (f a) (f' b)):kM P RA m (s >>= f) (s' >>= f'):=.bind h B
theorem tW{t:aN}:dw P (λ_ a b=>a=b/\P.underlying t=some a) m (aT t) (aT t):=by
 have:=dA (P:=P) (m:=m) (t:=t) (RB:=λ_ a b=>a=b/\P.underlying t=some a) (f:=pure) (f':=pure) λd B=>.pure ⟨rfl,B⟩;simpa using this
theorem Gb{r r':Nat}(hb:m.blk r=some r'):dw P OR m (getObj r) (getObj r'):=.getObj hb λ_ _ h=>.pure h
theorem zX(h:dO (sQ m) es.toList es'.toList)(i:Nat){f f':MapEntry->MapEntry}(hf:∀e W,sQ m e W->sQ m (f e) (f' W)):dO (sQ m) (es.modify i f).toList (es'.modify i f').toList:=by
 refine dO.H8 (by simpa using h.length) λj a b B hb=>?_;simp only[az,a2]at B hb;by_cases e:i=j
 .simp only[e,if_true,Option.map_eq_some_iff]at B hb;obtain⟨x,hx,rfl⟩:=B;obtain⟨y,Y,rfl⟩:=hb;obtain⟨z,O,U⟩:=h.get (i:=j) (a:=x) (by simpa using hx);simp only[az]at O;rw[O]at Y; cases Y;exact hf _ _ U
 .simp only[e,if_false]at B hb;obtain⟨z,O,U⟩:=h.get (i:=j) (a:=a) (by simpa using B);simp only[az]at O;rw[O]at hb; cases hb;exact U
theorem ue(h:dO (sQ m) es.toList es'.toList){e B:MapEntry}(O:sQ m e B):dO (sQ m) (es.push e).toList (es'.push B).toList:=by
 simp only[aI];exact h.append (.cons O .nil)
theorem AG(h:dO (sQ m) es.toList es'.toList)(i:Nat):l5 (sQ m) es[i]? es'[i]?:=by
 cases B:es[i]? with
 |none=>
  have:=h.get_none (i:=i) (by simpa using B);simp only[az]at this;rw[this]; exact .none
 |some x=>
  obtain⟨y,O,U⟩:=h.get (i:=i) (a:=x) (by simpa using B);simp only[az]at O;rw[O]; exact .some U
theorem mR{c:Nat}:∀x y z,Obj.map es c≠.cells x y z:=nofun
theorem FG(hG:m.G=P.globals.size){t:aN}(hK:∀k e,P.underlying t=some (.map k e)->qq P 10000 k=true/\(gF m\/nJ P c6 k=true))(hm:VR m mp mp')(W:VR m k k')(hv:VR m v v') :
  kM P zZ m (bW t mp k v) (bW t mp' k' v'):=by
 refine oe tW λm1 d d' l1 hd=>?_;obtain⟨rfl,hd⟩:=hd;cases d<;>first|exact .base (.dz trivial)|skip
 rename_i kt et;obtain⟨ac,ad⟩:=hK kt et hd;have hm:=hm.mono l1;cases hm<;>first|exact .base (.dz trivial)|exact .base (fl (e:=.plain _) trivial)|skip
 case map.gone=>exact .base (.gone ‹_›)
 rename_i r r' hb;refine oe (Gb hb) λm2 o o' l2 ho=>?_;have ae:=l2.blk _ _ hb;cases ho<;>first|exact .base (.dz trivial)|skip
 rename_i es es' clock Y;have aa:=l1.trans l2;refine oe (nv _ _ m2 _ (W.mono aa) ac) λm3 _ _ l3 _=>?_;have U:=aa.trans l3;refine oe (vc (ad.imp (λx=>x.mono U) id) (by rw[U.G,hG]) (W.mono U) (Y.mono λ_ _ x=>x.mono l3)) λm4 a b l4 af=>?_;have B:=U.trans l4;have O:=Y.mono λ_ _ x=>x.mono (l3.trans l4);have ab:=(l3.trans l4).blk _ _ ae
 cases af with
 |none=>exact .base (pG ab (.map _ (ue O ⟨W.mono B,hv.mono B,rfl⟩)) mR)
 |some hx=>
  rename_i x y;obtain⟨i,u⟩:=x;obtain⟨i',u'⟩:=y;obtain⟨hi,_⟩:=hx;subst hi;refine yp ?_ (W.mono B) (λ_=>trivial) λq q' hq=>pG ab (.map _ (zX O _ λe e' he=>⟨hq,hv.mono B,he.born⟩)) mR;have:=AG O i';revert this;generalize es[i']?=p;generalize es'[i']?=p';intro hp
  cases hp with
  |none=>exact W.mono B
  |some he=>exact he.key
theorem GF(hP:lX P)(hG:m.G=P.globals.size){t:aN}(hK:∀k e,P.underlying t=some (.map k e)->qq P 10000 k=true/\(gF m\/nJ P c6 k=true))(hm:VR m mp mp')(Y:VR m k k') :
  kM P VR m (cd t mp k) (cd t mp' k'):=by
 refine oe tW λm1 d d' l1 hd=>?_;obtain⟨rfl,hd⟩:=hd;cases d<;>first|exact .base (.dz trivial)|skip
 rename_i kt et;obtain⟨ad,ae⟩:=hK kt et hd;have hm:=hm.mono l1;cases hm<;>first|exact .base (.dz trivial)|exact .base (fl (e:=.plain _) trivial)|skip
 case map.gone=>exact .base (.gone ‹_›)
 rename_i r r' hb;refine oe (Gb hb) λm2 o o' l2 ho=>?_;have af:=l2.blk _ _ hb;cases ho<;>first|exact .base (.dz trivial)|skip
 rename_i es es' clock aa;have ab:=l1.trans l2;refine oe (nv _ _ m2 _ (Y.mono ab) ad) λm3 _ _ l3 _=>?_;have O:=ab.trans l3;refine oe (vc (ae.imp (λx=>x.mono O) id) (by rw[O.G,hG]) (Y.mono O) (aa.mono λ_ _ x=>x.mono l3)) λm4 a b l4 ag=>?_;have U:=O.trans l4;have B:=aa.mono λ_ _ x=>x.mono (l3.trans l4);have ac:=(l3.trans l4).blk _ _ af
 cases ag with
 |none=>exact .base (fG hP λz hz=>jH ac (.map _ (ue B ⟨Y.mono U,hz,rfl⟩)) mR (.pure (.kS (.cons hz (.cons (.int ..) .nil)))))
 |some hx=>
  rename_i x y;obtain⟨i,u⟩:=x;obtain⟨i',u'⟩:=y;obtain⟨hi,hu⟩:=hx;subst hi;have hg:=AG B i';refine yp ?_ (Y.mono U) (λ_=>trivial) λq q' hq=>jH ac (.map _ (zX B _ λe e' W=>⟨hq,W.val,W.born⟩)) mR (.pure (.kS (.cons hu (.cons ?_ .nil))))
  .revert hg;generalize es[i']?=p;generalize es'[i']?=p';intro hp
   cases hp with
   |none=>exact Y.mono U
   |some W=>exact W.key
  .revert hg;generalize es[i']?=p;generalize es'[i']?=p';intro hp
   cases hp with
   |none=>exact .int ..
   |some W=>rw[gn,gn,W.born]; exact .int ..
theorem KA{es es':List MapEntry}(h:dO (sQ m) es es')(p:Nat->Bool):es.findIdx? (λe=>p e.born)=es'.findIdx? (λe=>p e.born):=by
 induction h with
 |nil=>rfl
 |cons B _ O=>simp only[List.findIdx?_cons,B.born,O]
theorem D4{t:aN}{s s':Value}(hm:VR m mp mp')(U:VR m s s')(W:VR m v v'):dw P zZ m (bU t mp s v) (bU t mp' s' v'):=by
 cases hm<;>first|exact .dz trivial|skip
 case gone=>exact .gone ‹_›
 rename_i r r' hb;refine fI hb λo o' Y=>?_;cases Y<;>first|exact .dz trivial|skip
 rename_i es es' clock B;refine j9 U λn=>?_
 have e:es.findIdx? (λe=>e.born==n)=es'.findIdx? (λe=>e.born==n):=by
  have:=KA B (λb=>b==n);obtain⟨a⟩:=es;obtain⟨a'⟩:=es';simpa using this
 rw[e];split
 .exact pG hb (.map _ (zX B _ λe e' O=>⟨O.key,W,O.born⟩)) mR
 .exact .dz trivial
theorem SE{es es':List MapEntry}(h:dO (sQ m) es es')(p:Nat->Bool):l5 (sQ m) (es.find? λe=>p e.born) (es'.find? λe=>p e.born):=by
 induction h with
 |nil=>exact .none
 |cons B _ O=>
  simp only[List.find?_cons,B.born];split
  .exact .some B
  .exact O
theorem Q8{i:Value}(h:VR m i i'):dw P VR m (cy i) (cy i'):=by
 cases h<;>first|exact .dz trivial|skip
 rename_i Y
 cases Y with
 |@mk b b' o s hb=>
 cases o<;>first|exact .dz trivial|skip
 refine fI hb λo o' O=>?_;cases O<;>first|exact .dz trivial|skip
 rename_i r r' x y z hm;dsimp only
 cases y.back? with
 |none=>exact .dz trivial
 |some B=>
  refine fI hm λo o' O=>?_;cases O<;>first|exact .dz trivial|skip
  rename_i es es' clock U;dsimp only;split
  .exact .dz trivial
  .have:=SE U (λb=>b==B);simp only[Array.find?_toList]at this;revert this;generalize es.find? _=p;generalize es'.find? _=p';intro hp
   cases hp with
   |none=>exact .dz trivial
   |some W=>exact .pure (.kS (.cons W.key (.cons W.val .nil)))
theorem zu{es es':List MapEntry}(h:dO (sQ m) es es')(p:Nat->Bool):dO (sQ m) (es.filter λe=>p e.born) (es'.filter λe=>p e.born):=by
 induction h with
 |nil=>exact .nil
 |cons B _ O=>
  simp only[List.filter_cons,B.born];split
  .exact .cons B O
  .exact O
theorem Tb{es es':List MapEntry}(h:dO (sQ m) es es')(p:Nat->Bool):es.all (λe=>p e.born)=es'.all (λe=>p e.born):=by
 induction h with
 |nil=>rfl
 |cons B _ O=>simp only[List.all_cons,B.born,O]
def GO(aR:Array Nat)(B:Nat)(es:Array MapEntry):Array (Option MapEntry):=
 (if(a1 (λx=>decide (x.born<B)) (a1 (λe=>!aR.contains e.born) es)).isEmpty=true then #[none]else #[]) ++
  aC some (a1 (λx=>decide (x.born<B)) (a1 (λe=>!aR.contains e.born) es)++a1 (λx=>decide (x.born ≥ B)) (a1 (λe=>!aR.contains e.born) es))
theorem RU(aR:Array Nat)(B:Nat)(h:dO (sQ m) es.toList es'.toList):dO (l5 (sQ m)) (GO aR B es).toList (GO aR B es').toList:=by
 have O:=zu h (λb=>!aR.contains b);have U:=zu O (λb=>decide (b<B));have W:=zu O (λb=>decide (b ≥ B));unfold GO
 have e:(a1 (λx=>decide (x.born<B)) (a1 (λe=>!aR.contains e.born) es)).isEmpty=(a1 (λx=>decide (x.born<B)) (a1 (λe=>!aR.contains e.born) es')).isEmpty:=by
  have:=U.length;simp only[<-aF,a5]at this;simp only[aA,this]
 rw[e];simp only[aG,a4,aF];refine dO.append ?_ (dO.map (λa b h=>.some h) (dO.append U W));split
 .exact .cons .none .nil
 .exact .nil
theorem RQ{i:Value}(h:VR m i i')(b:Bool)(t:aN):dw P VR m (bS i b t) (bS i' b t):=by
 unfold bS;cases h<;>first|exact .dz trivial|skip
 rename_i ha
 cases ha with
 |@mk c c' o s hb=>
 cases o<;>first|exact .dz trivial|skip
 dsimp only;refine fI hb λo o' U=>?_;cases U<;>cases b<;>first|exact .dz trivial|skip
 .dsimp only;refine dH (λ_=>jH hb (.stringIter _ _) (λ_ _ _ h=>by cases h) (.pure (.kS (.cons (.bool _) (.cons (.int ..) (.cons (.int ..) .nil)))))) (λ_=>.pure (.kS (.one (.bool _))))
 .exact .pure (.kS (.one (.bool _)))
 .rename_i r r' B aR last hm;refine fI hm λo o' U=>?_;cases U<;>first|exact .dz trivial|skip
  rename_i es es' clock O;have Y:=O.length;simp only[a5]at Y;have e1:es.isEmpty=es'.isEmpty:=by simp only[aA,Y]
  have e2:es.all (λx=>decide (x.born ≥ last))=es'.all (λx=>decide (x.born ≥ last)):=by
   have:=Tb O (λb=>decide (b ≥ last));rw[<-aL,<-aL]; exact this
  dsimp only;rw[e1,e2];refine dH (λ_=>.dz trivial) (λ_=>?_)
  change dw P VR m (choose (.mapNext (GO aR B es).size) >>= λn=>match (GO aR B es)[n]? with
    |some (some e)=>(do setObj c _; pure _)
    |some none=>pure _
    |none=>stuck _)
   (choose _ >>= λn=>match (GO aR B es')[n]? with
     |some (some e)=>(do setObj c' _; pure _)
     |some none=>pure _
     |none=>stuck _)
  have hc:=RU aR B O;have e3:=by simpa using hc.length
  rw[e3];refine gz λn=>?_
  cases hn:(GO aR B es)[n]? with
  |none=>exact .dz trivial
  |some x=>
   obtain⟨y,hy,hr⟩:=hc.get (i:=n) (a:=x) (by simpa using hn);simp only[az]at hy;rw[hy]
   cases hr with
   |none=>exact .pure (.kS (.one (.bool _)))
   |some W=>
    dsimp only;rw[W.born];exact jH hb (.mapIter _ _ _ hm) (nofun) (.pure (.kS (.cons (.bool _) (.cons W.key (.cons W.val .nil)))))
end
end
section
variable {a':Addr} {r r':Nat} {x x' y y':Value}
section
variable {P:Program} {m:Ren}
theorem Cd(U:lX P)(W:VR m x x')(t u:aN):dw P VR m (bT x t u true) (bT x' t u true):=by
 have B:dw P VR m (do pure (.tuple #[<-aQ u,.bool false])) _:=
  fG U λz Y=>.pure (.kS (.cons Y (.cons (.bool _) .nil)))
 refine dA λd hd=>?_
 cases W with
 |nilIface=>cases d<;>exact B
 |iface s O=>
  cases d
  case interface ms=>
   refine dQ λti _=>?_
   cases Instr.missingMethod ms _ with
   |none=>exact .pure (.kS (.cons (.iface _ O) (.cons (.bool _) .nil)))
   |some _=>exact B
  all_goals exact dH (λ_=>.pure (.kS (.cons O (.cons (.bool _) .nil)))) (λ_=>B)
 |_=>cases d<;>exact .dz trivial
theorem xI(op:BinOp)(k:IntKind)(a b:Int):dw P VR m (cA op k a b) (cA op k a b):=by
 cases op<;>first|exact .dz trivial|exact .pure (.int ..)
theorem Bf(op:BinOp)(k:IntKind)(a b:Int):dw P VR m (cB op k a b) (cB op k a b):=by
 cases op<;>first|exact .dz trivial|exact .pure (.int ..)
theorem OY(op:BinOp)(a b:Int):dw P VR m (cF op a b) (cF op a b):=by
 cases op<;>first|exact .dz trivial|exact .pure (.bool _)
theorem Oq(op:BinOp)(k:IntKind)(a b:Int):dw P VR m (cE op k a b) (cE op k a b):=by
 refine dH (λ_=>fl (e:=.error _) trivial) (λ_=>?_);cases op<;>first|exact .dz trivial|exact .pure (.int ..)
theorem JM(op:BinOp)(k j:IntKind)(a b:Int):dw P VR m (cH op k a j b) (cH op k a j b):=by
 refine dH (λ_=>fl (e:=.error _) trivial) (λ_=>?_);cases op<;>first|exact .dz trivial|exact .pure (.int ..)
theorem GK(op:BinOp)(a b:ByteArray):dw P VR m (c9 op a b) (c9 op a b):=by
 cases op<;>first|exact .dz trivial|exact .pure (.bool _)|exact dH (λ_=>.dz trivial) (λ_=>.pure (.string _))
theorem PI(op:UnOp)(h:VR m x x'):dw P VR m (cG op x) (cG op x'):=by
 cases h<;>cases op<;>first|exact .dz trivial|exact .pure (.bool _)|skip
 .rename_i k n;show dw P VR m (cA .sub k 0 n) _;exact xI ..
 .rename_i k n;show dw P VR m (cB .xor k _ n) _;exact Bf ..
theorem Ph{γ δ:Type}{RB:Ren->γ->δ->Prop}(hb:m.blk r=some r'){f:Option (Addr×aN)->Sem γ}{f':Option (Addr×aN)->Sem δ}(h:dw P RB m (f none) (f' none)):dw P RB m (viewAt r >>= f) (viewAt r' >>= f'):=by
 refine jr hb λx=>?_
 cases x with
 |some y=>exact h
 |none=>
  refine fI hb λo o' B=>?_;cases B<;>exact h
def Um(m:Ren)(v v':Value):Prop:=∃a a',v=.pointer (some a)/\v'=.pointer (some a')/\AR m a a'
theorem rl{a:Array aN}{t:aN}(U:VR m x x')(O:VR m y y'):dw P Um m (cR a t #[x,y]) (cR a t #[x',y']):=by
 cases U<;>first|exact .dz trivial|skip
 .refine j9 O λn=>?_;dsimp only;split
  .exact .dz trivial
  .split<;>exact .dz trivial
 .rename_i B;refine j9 O λn=>?_;dsimp only;split
  .refine Ph B.blk ?_;exact .pure ⟨_,_,rfl,rfl,B⟩
  .split
   .exact .dz trivial
   .refine jr B.blk λz=>?_
    cases z with
    |none=>exact .dz trivial
    |some z=>
     refine gS ?_
     cases B with
     |mk hb=>
     dsimp only;split
     .exact .pure ⟨_,_,rfl,rfl,.mk hb⟩
     .exact .dz trivial
theorem Hq(hb:m.blk r=some r'):dw P (λm=>l5 λx y=>AR m x.1 y.1/\y.2=x.2) m (numberAt r) (numberAt r'):=by
 refine jr hb λx=>?_
 cases x with
 |some y=>exact .pure .none
 |none=>
  refine fI hb λo o' B=>?_
  cases B with
  |number l O=>exact .pure (.some ⟨O,rfl⟩)
  |_=>exact .pure .none
theorem H5{a:Addr}(B:AR m a a')(l:Bool):dw P VR m (asNumber a l) (asNumber a' l):=
 dw.new (.number l B) (nofun) λm' r r' _ hb _=>.pure (.ptr (.mk hb))
theorem ja{t:aN}(O:VR m x x')(B:VR m y y'):dw P VR m (b5 t x y) (b5 t x' y'):=by
 refine dA λd hd=>?_;dsimp only;split
 .exact .dz trivial
 .cases O with
  |ptr U=>
   refine dW U λp p' l W=>?_;refine dC (rl (.ptr W) B) λm' v v' hl Y=>?_;obtain⟨b,b',rfl,rfl,hb⟩:=Y;exact H5 hb l
  |gM=>exact(rl (a:=#[]) (t:=t) .gM B).mono λm' v v' _ h=>by obtain⟨b,b',rfl,rfl,hb⟩:=h; exact .ptr hb
  |_=>exact .dz trivial
theorem qN{t:aN}(O:VR m x x')(U:VR m y y'):dw P VR m (b0 t x y) (b0 t x' y'):=by
 have fin:∀m',m.Le m'->dw P VR m' (cR #[] t _) _:=λm' B=>(rl (O.mono B) (U.mono B)).mono λm' v v' _ h=>by obtain⟨b,b',rfl,rfl,hb⟩:=h; exact .ptr hb
 cases O with
 |ptr W=>
  refine dC (Hq W.blk) λm' o o' B Y=>?_
  cases Y with
  |none=>exact fin m' B
  |some _=>exact .dz trivial
 |fJ v hv=>exact .dz trivial
 |_=>exact fin m (.refl m)
theorem vw{t:aN}(y:Value):eh P (c5 t (.tuple #[]) y):=by
 show eh P ((match P.underlying t with|some d=>pure d|none=>stuck _) >>= _)
 cases P.underlying t with
 |none=>trivial
 |some d=>cases d<;>first|trivial|(cases y<;>trivial)
theorem vo{t:aN}(x:Value):eh P (c5 t x (.tuple #[])):=by
 show eh P ((match P.underlying t with|some d=>pure d|none=>stuck _) >>= _)
 cases P.underlying t with
 |none=>trivial
 |some d=>cases d<;>first|trivial|(cases x<;>first|trivial|(rename_i a; cases a<;>trivial)|(cases b<;>first|trivial|(cases c<;>trivial))|(rename_i a b c; cases a<;>trivial))
theorem DQ(U:m.G=P.globals.size){a b b':Addr}(B:AR m a a')(hb:AR m b b'):dw P wX m (c7 a b) (c7 a' b'):=by
 refine gS ?_
 have W:(a.block != b.block)=(a'.block != b'.block):=by
  have:(a.block==b.block)=(a'.block==b'.block):=by rw[dl]; simp only[beq_iff_eq]; exact B.rH hb
  simp only[bne,this]
 have Y:decide (a.block ≥ P.globals.size)=decide (a'.block ≥ P.globals.size):=by
  have:=m.oh _ _ B.blk;rw[U]at this;exact decide_eq_decide.2 ⟨λh=>er λx=>absurd (this.2 x) (by omega),λh=>er λx=>absurd (this.1 x) (by omega)⟩
 rw[W,Y];refine dH (λ_=>.dz trivial) (λ_=>?_);refine dC (nD B) λm' x y O h=>?_;cases h;refine dC (nD (hb.mono O)) λaa x' y' O h=>?_;cases h;exact .pure rfl
theorem uN{k:IntKind}{a:Addr}(B:AR m a a')(n:Int):dw P VR m (cD k a n) (cD k a' n):=by
 refine jr B.blk λx=>?_
 cases x with
 |none=>exact .dz trivial
 |some y=>
  refine dQ λO _=>?_;refine dH (λ_=>.dz trivial) (λ_=>?_);refine dC (nD B) λm' x y U h=>?_;cases h;exact .pure (.int ..)
theorem Jl(O:m.G=P.globals.size){t:aN}(U:gF m\/nJ P c6 t=true)(W:VR m x x')(Y:VR m y y'):dw P VR m (do pure (.bool (<-c5 t x y))) (do pure (.bool (<-c5 t x' y')))/\dw P VR m (do pure (.bool (!(<-c5 t x y)))) (do pure (.bool (!(<-c5 t x' y')))):=by
 have h:=oG (P:=P) _ m t O W Y U;constructor
 .exact dC h λm' a b _ B=>by cases B; exact .pure (.bool _)
 .exact dC h λm' a b _ B=>by cases B; exact .pure (.bool _)
theorem Mc(op:BinOp)(t:aN)(k k':IntKind)(a b:Int):dw P VR m (binOp op t (.int k a) (.int k' b)) (binOp op t (.int k a) (.int k' b)):=by
 cases op
 case shl=>exact JM .shl k k' a b
 case shr=>exact JM .shr k k' a b
 all_goals
  refine dH (λ_=>.dz trivial) (λ_=>?_)
  first|exact xI ..|exact Oq ..|exact Bf ..|exact OY ..
theorem Ci(op:BinOp)(W:m.G=P.globals.size){t:aN}(hE:op=.eql\/op=.neq->gF m\/nJ P c6 t=true)(Y:VR m x x')(O:VR m y y'):dw P VR m (binOp op t x y) (binOp op t x' y'):=by
 have heq:op=.eql->dw P VR m (do pure (.bool (<-c5 t x y))) (do pure (.bool (<-c5 t x' y'))):=λe=>(Jl W (hE (.inl e)) Y O).1;have hne:op=.neq->dw P VR m (do pure (.bool (!(<-c5 t x y)))) (do pure (.bool (!(<-c5 t x' y')))):=λe=>(Jl W (hE (.inr e)) Y O).2
 have B:∀(z:Value),y=.tuple #[]->op=.eql\/op=.neq->x=z->dw P VR m (binOp op t x y) (binOp op t x' y'):=by
  intro z e1 e2 e3;subst e1;refine .dz ?_;rcases e2 with rfl|rfl
  .cases x<;>exact(vo _).bind
  .cases x<;>exact(vo _).bind
 cases Y with
 |fJ v U=>
  refine .dz ?_;cases op
  case eql=>exact(vw _).bind
  case neq=>exact(vw _).bind
  all_goals(cases y<;>trivial)
 |int k a=>
  cases O with
  |int k' b=>exact Mc op t k k' a b
  |fJ v U=>cases op<;>first|exact .dz trivial|exact B _ rfl (.inl rfl) rfl|exact B _ rfl (.inr rfl) rfl
  |gM=>cases op<;>first|exact .dz trivial|exact heq rfl|exact hne rfl|exact ja .gM (.int _ _)
  |ptr hb=>
   cases op
   case add=>exact ja (.ptr hb) (.int _ _)
   case and=>exact dW hb λp p' l hp=>uN hp _
   all_goals first|exact .dz trivial|exact heq rfl|exact hne rfl
  |_=>cases op<;>first|exact .dz trivial|exact heq rfl|exact hne rfl
 |string a=>
  cases O with
  |string b=>
   have e:∀op,binOp op t (.string a) (.string b)=c9 op a b:=λop=>by cases op<;>rfl
   rw[e]; exact GK _ a b
  |fJ v U=>cases op<;>first|exact .dz trivial|exact B _ rfl (.inl rfl) rfl|exact B _ rfl (.inr rfl) rfl
  |_=>cases op<;>first|exact .dz trivial|exact heq rfl|exact hne rfl
 |gM=>
  cases O with
  |fJ v U=>cases op<;>first|exact .dz trivial|exact B _ rfl (.inl rfl) rfl|exact B _ rfl (.inr rfl) rfl
  |int k n=>
   cases op
   case add=>
    refine dA λd hd=>?_;exact dH (λ_=>qN .gM (.int _ _)) (λ_=>ja .gM (.int _ _))
   case sub=>exact ja .gM (.int _ _)
   all_goals first|exact .dz trivial|exact heq rfl|exact hne rfl
  |_=>cases op<;>first|exact .dz trivial|exact heq rfl|exact hne rfl
 |ptr ha=>
  cases O with
  |fJ v U=>cases op<;>first|exact .dz trivial|exact B _ rfl (.inl rfl) rfl|exact B _ rfl (.inr rfl) rfl
  |int k n=>
   cases op
   case add=>
    refine dA λd hd=>?_;exact dH (λ_=>qN (.ptr ha) (.int _ _)) (λ_=>ja (.ptr ha) (.int _ _))
   case sub=>exact ja (.ptr ha) (.int _ _)
   case rem=>exact dW ha λp p' l hp=>uN hp _
   case and=>exact dW ha λp p' l hp=>uN hp _
   all_goals first|exact .dz trivial|exact heq rfl|exact hne rfl
  |ptr hb=>
   have two:∀(f:Nat×Nat->Sem Value),(∀m' p,dw P VR m' (f p) (f p))->∀{a a' b b':Addr},AR m a a'->AR m b b'->dw P VR m (c7 a b >>= f) (c7 a' b' >>= f):=
    λf hf a a' b b' h1 h2=>dC (DQ W h1 h2) λm' p q _ aa=>by cases aa; exact hf m' p
   cases op
   case eql=>exact heq rfl
   case neq=>exact hne rfl
   case sub=>exact dW ha λp p' l hp=>dW hb λq q' l' hq=>two _ (λm' p=>.pure (.int _ _)) hp hq
   case lss=>exact dW ha λp p' l hp=>dW hb λq q' l' hq=>two _ (λm' p=>.pure (.bool _)) hp hq
   case leq=>exact dW ha λp p' l hp=>dW hb λq q' l' hq=>two _ (λm' p=>.pure (.bool _)) hp hq
   case gtr=>exact dW ha λp p' l hp=>dW hb λq q' l' hq=>two _ (λm' p=>.pure (.bool _)) hp hq
   case geq=>exact dW ha λp p' l hp=>dW hb λq q' l' hq=>two _ (λm' p=>.pure (.bool _)) hp hq
   all_goals exact .dz trivial
  |_=>cases op<;>first|exact .dz trivial|exact heq rfl|exact hne rfl
 |_=>
  cases op
  case eql=>exact heq rfl
  case neq=>exact hne rfl
  all_goals(cases O<;>exact .dz trivial)
end
end
section
variable {a a':Addr} {n:Nat} {γ δ:Type} {x x':Value}
section
variable {P:Program} {m:Ren}
theorem xb{RB:Ren->γ->δ->Prop}(B:AR m a a')(O:¬m.loose a.block){f:Unit->Sem γ}{f':Unit->Sem δ}(h:dw P RB m (f ()) (f' ())):dw P RB m (bw a >>= f) (bw a' >>= f'):=by
 refine jr B.blk λx=>?_
 cases x with
 |none=>exact h
 |some y=>exact dw.freeze (.mk B.blk) O h
theorem B8(s:ByteArray):ep m (s.data.map λb=>Value.int .u8 b.toNat) (s.data.map λb=>Value.int .u8 b.toNat):=by
 refine .refl λv B=>?_;simp only[a4,ge]at B;obtain⟨i,_,rfl⟩:=B;exact .int ..
theorem wJ{e:aN}{s:ByteArray}:dw P VR m (gA e s) (gA e s):=by
 refine gz λcap=>?_;refine dC (RA:=He) (oZ ((B8 s).append (.replicate _ (.int ..)))) λm' a a' _ B=>?_;exact xb B.1 B.2 (.pure (.slice _ _ B.1))
theorem FE{c c':List Value}(h:dO (VR m) c c'):∀(s:ByteArray),dw P wX m
  (forIn c s λc s=>match c with|.int .u8 n=>pure (ForInStep.yield (s.push (UInt8.ofNat n.toNat)))|_=>(do stuck "bytesToString: byte expected"; pure (ForInStep.yield s)))
  (forIn c' s λc s=>match c with|.int .u8 n=>pure (ForInStep.yield (s.push (UInt8.ofNat n.toNat)))|_=>(do stuck "bytesToString: byte expected"; pure (ForInStep.yield s))):=by
 induction h with
 |nil=>intro s; exact .pure rfl
 |cons B _ O=>
  intro s;simp only[ga]
  cases B with
  |int k n=>cases k<;>first|exact .dz trivial|exact O _
  |_=>exact .dz trivial
theorem wG(O:VR m x x'):dw P VR m (g9 x) (g9 x'):=by
 cases O<;>first|exact .dz trivial|exact .pure (.string _)|skip
 rename_i l c U;refine dC (wF U l) λm' c c' _ W=>?_;rw[<-a6,<-a6];exact dC (FE W _) λm' a b _ B=>by cases B; exact .pure (.string _)
theorem Dj{RB:Ren->γ->δ->Prop}(U:AR m a a'){f:Array Value->Sem γ}{f':Array Value->Sem δ}(h:∀c c',ep m c c'->dw P RB m (f c) (f' c')):dw P RB m (bi a n >>= f) (bi a' n >>= f'):=by
 have key:∀(n i:Nat)(acc B:Array Value),ep m acc B->dw P RB m (bd a i n acc >>= f) (bd a' i n B >>= f'):=by
  intro n
  induction n with
  |zero=>intro i acc B O; exact h _ _ O
  |succ n W=>intro i acc B O; exact dw.load (U.add i) λv v' Y=>W _ _ _ (O.push Y)
 exact key n 0 _ _ (.nil m)
theorem eo{RB:Ren->γ->δ->Prop}{size:Nat}(B:VR m x x'){f:Array Value->Sem γ}{f':Array Value->Sem δ}(h:∀c c',ep m c c'->dw P RB m (f c) (f' c')):dw P RB m (dc size n x >>= f) (dc size n x' >>= f'):=by
 cases B<;>first|exact .dz trivial|exact Dj ‹_› h|exact h _ _ (B8 _)|exact h _ _ (.nil m)
theorem oO{RB:Ren->γ->δ->Prop}(B:VR m x x'){f:Nat->Sem γ}{f':Nat->Sem δ}(h:∀n,dw P RB m (f n) (f' n)):dw P RB m (dg x >>= f) (dg x' >>= f'):=by
 cases B<;>first|exact .dz trivial|exact h _
theorem rj{z:Array Value}(h:ep m z z)(n:Nat):ep m (cQ z n) (cQ z n):=xm h _
theorem lU{α:Type}{size sLen:Nat}{base:Option Addr}{f:Bool->Sem α}(h:∀b,eh P (f b)):eh P (dd size sLen n base x >>= f):=by
 have hold:∀(a:Addr)(k:Nat)(g:Bool->Sem α),(∀b,eh P (g b))->eh P (db a k >>= g):=by
  intro a k g B;intro r
  cases r with
  |none=>exact B _
  |some y=>exact B _
 have tail:∀b:Bool,eh P ((match x with|.slice (some b) .. =>(do pure (!(<-db b (n*size)) || base.any (·.block==b.block)))|_=>pure false) >>= f):=by
  intro _
  cases x with
  |slice a l c=>
   cases a with
   |none=>exact h _
   |some a=>
    simp only[bind_assoc];exact hold a _ _ λb=>h _
  |_=>exact h _
 unfold dd
 cases base with
 |none=>exact tail true
 |some a=>
  simp only[bind_assoc];refine hold a _ _ λb=>?_;intro r;show eh P ((if(!(b && !r))=true then pure true else _) >>= f);split
  .exact h _
  .exact tail true
theorem Jm(B:lX P){RB:Ren->γ->δ->Prop}{elem:aN}{size:Nat}{f:Array Value->Sem γ}{f':Array Value->Sem δ}(h:∀c c',ep m c c'->dw P RB m (f c) (f' c')) :
  dw P RB m ((if n*size=0 then pure #[]else do pure (cQ (<-aQ elem).cells n)) >>= f) ((if n*size=0 then pure #[]else do pure (cQ (<-aQ elem).cells n)) >>= f'):=by
 split
 .exact h _ _ (.nil m)
 .simp only[bind_assoc];exact fG B λz O=>h _ _ (rj O.cells _)
theorem O4(hP:lX P){ats:Array aN}{t:aN}{args args':Array Value}(h:ep m args args'):dw P VR m (cS ats t args) (cS ats t args'):=by
 unfold cS
 cases ats[0]? with
 |none=>exact .dz trivial
 |some st=>
 cases h0:args[0]? with
 |none=>exact .dz trivial
 |some s=>
 cases h1:args[1]? with
 |none=>exact .dz trivial
 |some x=>
 obtain⟨s',ad,hs⟩:=h.get h0;obtain⟨x',ae,hx⟩:=h.get h1;rw[ad,ae];refine dA λd hd=>?_;cases d<;>first|exact .dz trivial|skip
 rename_i elem
 have W:∀{base U:Option Addr}{sLen aa size:Nat}{c c':Array Value}{k:Nat},l5 (AR m) base U->ep m c c'->dw P VR m
   (match base with|some a=>(do let r <-be (a.add (sLen*size)) c.toList; pure (Value.slice base k aa))|_=>pure (Value.slice base k aa))
   (match U with|some a=>(do let r <-be (a.add (sLen*size)) c'.toList; pure (Value.slice U k aa))|_=>pure (Value.slice U k aa)):=by
  intro base U sLen aa size c c' k hb O
  cases hb with
  |none=>exact .pure (.ft _ _)
  |some ha=>exact dC (lg (ha.add _) 0 O) λm' _ _ hl _=>.pure (.slice _ _ (ha.mono hl))
 have B:∀{old ab new ac:Array Value}{k cap q:Nat},ep m old ab->ep m new ac->dw P VR m
   (do let z <-aQ elem; let a <-ba elem (old++new++cQ z.cells q); pure (Value.slice (some a) k cap))
   (do let z <-aQ elem; let a <-ba elem (ab++ac++cQ z.cells q); pure (Value.slice (some a) k cap)):=by
  intro old ab new ac k cap q ho hn;exact fG hP λz hz=>dC (RA:=He) (oZ ((ho.append hn).append (rj hz.cells _))) λm' a a' _ ha=>.pure (.slice _ _ ha.1)
 cases hs<;>first|exact .dz trivial|skip
 .rename_i l c;have hs:VR m (.slice none l c) (.slice none l c):=.ft l c;refine eD λsize=>?_;dsimp only
  cases ats[1]? with
  |none=>
   refine oO hx λn=>?_;refine dH (λ_=>?_) (λ_=>?_)
   .exact eo hx λc c' O=>W (sLen:=l) (size:=size) .none O
   .refine dQ λY _=>dH (λ_=>dS (e:=.error _) trivial) (λ_=>?_);refine dQ λY _=>dH (λ_=>?_) (λ_=>?_)
    .exact .dz (eh.bind (lU λb=>by cases b<;>trivial))
    .refine gz λq=>dQ λY _=>km ?_;exact eo hs λo o' ho=>eo hx λc c' O=>B ho O
  |some xt=>
   refine dA λd2 _=>?_
   cases d2 with
   |int kk=>
    refine j9 hx λnn=>?_;refine dH (λ_=>dS (e:=.error _) trivial) (λ_=>?_);refine dQ λY _=>dH (λ_=>gz λ_=>dS (e:=.error _) trivial) (λ_=>?_);refine dH (λ_=>?_) (λ_=>?_)
    .exact Jm hP λc c' O=>W (sLen:=l) (size:=size) .none O
    .refine dQ λY _=>dH (λ_=>dS (e:=.error _) trivial) (λ_=>?_);refine dQ λY _=>dH (λ_=>?_) (λ_=>?_)
     .exact dS (e:=.error _) trivial
     .refine gz λq=>dQ λY _=>km ?_;exact eo hs λo o' ho=>Jm hP λc c' O=>B ho O
   |_=>
    refine oO hx λn=>?_;refine dH (λ_=>?_) (λ_=>?_)
    .exact eo hx λc c' O=>W (sLen:=l) (size:=size) .none O
    .refine dQ λY _=>dH (λ_=>dS (e:=.error _) trivial) (λ_=>?_);refine dQ λY _=>dH (λ_=>?_) (λ_=>?_)
     .exact .dz (eh.bind (lU λb=>by cases b<;>trivial))
     .refine gz λq=>dQ λY _=>km ?_;exact eo hs λo o' ho=>eo hx λc c' O=>B ho O
 .rename_i a a' l c ha;have hs:VR m (.slice (some a) l c) (.slice (some a') l c):=.slice l c ha;refine eD λsize=>?_;dsimp only
  cases ats[1]? with
  |none=>
   refine oO hx λn=>?_;refine dH (λ_=>?_) (λ_=>?_)
   .exact eo hx λc c' O=>W (sLen:=l) (size:=size) (.some ha) O
   .refine dQ λY _=>dH (λ_=>dS (e:=.error _) trivial) (λ_=>?_);refine dQ λY _=>dH (λ_=>?_) (λ_=>?_)
    .exact .dz (eh.bind (lU λb=>by cases b<;>trivial))
    .refine gz λq=>dQ λY _=>km ?_;exact eo hs λo o' ho=>eo hx λc c' O=>B ho O
  |some xt=>
   refine dA λd2 _=>?_
   cases d2 with
   |int kk=>
    refine j9 hx λnn=>?_;refine dH (λ_=>dS (e:=.error _) trivial) (λ_=>?_);refine dQ λY _=>dH (λ_=>gz λ_=>dS (e:=.error _) trivial) (λ_=>?_);refine dH (λ_=>?_) (λ_=>?_)
    .exact Jm hP λc c' O=>W (sLen:=l) (size:=size) (.some ha) O
    .refine dQ λY _=>dH (λ_=>dS (e:=.error _) trivial) (λ_=>?_);refine dQ λY _=>dH (λ_=>?_) (λ_=>?_)
     .exact dS (e:=.error _) trivial
     .refine gz λq=>dQ λY _=>km ?_;exact eo hs λo o' ho=>Jm hP λc c' O=>B ho O
   |_=>
    refine oO hx λn=>?_;refine dH (λ_=>?_) (λ_=>?_)
    .exact eo hx λc c' O=>W (sLen:=l) (size:=size) (.some ha) O
    .refine dQ λY _=>dH (λ_=>dS (e:=.error _) trivial) (λ_=>?_);refine dQ λY _=>dH (λ_=>?_) (λ_=>?_)
     .exact .dz (eh.bind (lU λb=>by cases b<;>trivial))
     .refine gz λq=>dQ λY _=>km ?_;exact eo hs λo o' ho=>eo hx λc c' O=>B ho O
end
end
section
variable {ats:Array aN} {args args':Array Value} {t:aN} {x x' y y':Value}
section
variable {P:Program} {m:Ren}
theorem Si(h:ep m args args'):dw P VR m (cU ats t args) (cU ats t args'):=by
 unfold cU
 cases ats[0]? with
 |none=>exact .dz trivial
 |some st=>
 cases Y:args[0]? with
 |none=>exact .dz trivial
 |some s=>
 cases h1:args[1]? with
 |none=>exact .dz trivial
 |some x=>
 obtain⟨s',O,hs⟩:=h.get Y;obtain⟨x',U,B⟩:=h.get h1;rw[O,U];refine dA λd hd=>?_;cases d<;>first|exact .dz trivial|skip
 cases hs<;>first|exact .dz trivial|skip
 .exact oO B λn=>eD λsz=>eo B λc c' W=>.pure (.int ..)
 .rename_i ha;exact oO B λn=>eD λsz=>eo B λc c' W=>dC (lg ha 0 W) λm' _ _ _ _=>.pure (.int ..)
def rq(P:Program)(t:aN):Bool:=match P.underlying t with|some (.chan ..)=>false|_=>true
theorem TB(B:∀t,ats[0]?=some t->rq P t=true)(h:ep m args args'):dw P VR m (cY ats t args) (cY ats t args'):=by
 unfold cY
 cases U:ats[0]? with
 |none=>exact .dz trivial
 |some st=>
 cases W:args[0]? with
 |none=>exact .dz trivial
 |some s=>
 obtain⟨s',O,Y⟩:=h.get W;rw[O];have B:=B st U;refine dA λd hd=>?_;cases d<;>first|exact .dz trivial|exact .pure (.int ..)|skip
 .refine dA λd2 _=>?_;cases d2<;>first|exact .dz trivial|exact .pure (.int ..)
 .cases Y<;>first|exact .dz trivial|exact .pure (.int ..)
 .simp[rq,hd]at B
theorem Tt(B:∀t,ats[0]?=some t->rq P t=true)(h:ep m args args'):dw P VR m (cX ats t args) (cX ats t args'):=by
 unfold cX
 cases ht:ats[0]? with
 |none=>exact .dz trivial
 |some st=>
 cases h0:args[0]? with
 |none=>exact .dz trivial
 |some s=>
 obtain⟨s',O,U⟩:=h.get h0;rw[O];have B:=B st ht;refine dA λd hd=>?_
 cases d with
 |array n e=>exact .pure (.int ..)
 |pointer e=>
  refine dA λd2 _=>?_;cases d2<;>first|exact .dz trivial|exact .pure (.int ..)
 |string=>cases U<;>first|exact .dz trivial|exact .pure (.int ..)
 |slice e=>cases U<;>first|exact .dz trivial|exact .pure (.int ..)
 |map k e=>
  cases U<;>first|exact .dz trivial|exact .pure (.int ..)|skip
  case gone=>exact .gone ‹_›
  rename_i hb;refine fI hb λo o' ho=>?_;cases ho<;>first|exact .dz trivial|skip
  rename_i W;have Y:=W.length;simp only[a5]at Y;dsimp only;rw[Y];exact .pure (.int ..)
 |chan a b=>simp[rq,hd]at B
 |_=>exact .dz trivial
theorem Qc(U:lX P)(h:ep m args args'):dw P VR m (cT ats t args) (cT ats t args'):=by
 have fin:∀m',dw P VR m' .. := λm'=>.pure (.undef m');unfold cT
 cases ht:ats[0]? with
 |none=>exact .dz trivial
 |some st=>
 cases W:args[0]? with
 |none=>exact .dz trivial
 |some s=>
 obtain⟨s',B,Y⟩:=h.get W;rw[B];refine dA λd O=>?_
 cases Y with
 |mz=>exact fin m
 |ft l c=>exact fin m
 |map hb=>
  refine fI hb λo o' ho=>?_;cases ho<;>first|exact .dz trivial|exact jH hb (.map _ .nil) mR (fin m)
 |gone O=>exact .gone O
 |slice l c ha=>
  cases l with
  |zero=>exact fin m
  |succ l=>
   cases d<;>first|exact .dz trivial|skip
   exact fG U λz hz=>dC (lg ha 0 (rj hz.cells _)) λm' _ _ _ _=>fin m'
 |_=>exact .dz trivial
theorem Sp(O:VR m x x')(B:VR m y y'):dw P VR m (dj x y) (dj x' y'):=by
 cases O with
 |int k n=>cases B<;>first|exact .dz trivial|exact .pure (.int ..)
 |string s=>
  cases B with
  |string t=>exact .pure (.string _)
  |_=>exact .dz trivial
 |ptr U=>exact .dz trivial
 |_=>cases B<;>exact .dz trivial
theorem RI(O:VR m x x')(B:VR m y y'):dw P VR m (di x y) (di x' y'):=by
 cases O with
 |int k n=>cases B<;>first|exact .dz trivial|exact .pure (.int ..)
 |string s=>
  cases B with
  |string t=>exact .pure (.string _)
  |_=>exact .dz trivial
 |ptr U=>exact .dz trivial
 |_=>cases B<;>exact .dz trivial
theorem yC{g:Value->Value->Sem Value}(U:∀m x x' y y',VR m x x'->VR m y y'->dw P VR m (g x y) (g x' y')):∀{l l':List Value}{m:Ren}{x x':Value},dO (VR m) l l'->VR m x x'->dw P VR m (l.foldlM g x) (l'.foldlM g x')
 |_,_,m,_,_,.nil,B=>.pure B
 |_,_,m,_,_,.cons W h,B=>by
  exact dC (U m _ _ _ _ B W) λm' a b Y O=>yC U (h.mono λ_ _ z=>z.mono Y) O
theorem TL(h:ep m args args'):dw P VR m (cW ats t args) (cW ats t args'):=by
 unfold cW;unfold ep at h;revert h;generalize args.toList=l;generalize args'.toList=l';intro h
 cases h with
 |nil=>exact .dz trivial
 |cons B h=>exact yC (λm x x' y y'=>Sp) h B
theorem T5(h:ep m args args'):dw P VR m (cV ats t args) (cV ats t args'):=by
 unfold cV;unfold ep at h;revert h;generalize args.toList=l;generalize args'.toList=l';intro h
 cases h with
 |nil=>exact .dz trivial
 |cons B h=>exact yC (λm x x' y y'=>RI) h B
theorem vP:∀(n:Nat){a a':Addr}(acc:ByteArray),AR m a a'->dw P wX m (bh a acc n) (bh a' acc n)
 |0,_,_,_,_=>.pure rfl
 |n+1,a,a',acc,B=>by
  unfold bh;refine CH B λv v' O=>?_
  cases O with
  |int k x=>cases k<;>first|exact .dz trivial|exact vP n _ (B.add 1)
  |_=>exact .dz trivial
theorem A8{γ δ:Type}{RB:Ren->γ->δ->Prop}{a a':Addr}(B:AR m a a'){u:aN}{n:Nat}{f:Bool->Sem γ}{f':Bool->Sem δ}(h:∀b,dw P RB m (f b) (f' b)):dw P RB m (b4 a u n >>= f) (b4 a' u n >>= f'):=by
 refine gS (jr B.blk λx=>?_);rw[B.off];cases x<;>exact h _
theorem zO(Y:gF m)(hx:VR m x x')(U:VR m y y'):dw P VR m (cZ ats t #[x,y]) (cZ ats t #[x',y']):=by
 cases hx<;>first|exact .dz trivial|skip
 .refine j9 U λn=>?_
  cases ats[0]? with
  |none=>exact .dz trivial
  |some pt=>
   refine dH (λ_=>dS (e:=.error _) trivial) (λ_=>dH (λ_=>.dz trivial) (λ_=>dH (λ_=>.pure (.string _)) (λ_=>fl (e:=.error _) trivial)))
 .rename_i B;refine j9 U λn=>?_
  cases ats[0]? with
  |none=>exact .dz trivial
  |some pt=>
   refine dH (λ_=>dS (e:=.error _) trivial) (λ_=>dH (λ_=>.dz trivial) (λ_=>dH (λ_=>.pure (.string _)) (λ_=>?_)));refine El λet=>A8 B λb=>dH (λ_=>?_) (λ_=>.dz trivial);refine dC (vP _ _ B) λm' s s' W O=>?_;cases O;exact dw.freeze (B.mono W) (Y.mono W _) (.pure (.string _))
def Dp(P:Program)(s d:aN):Bool:=match P.underlying s,P.underlying d with
 |some (.int _),some (.int _)=>true
 |some .string,some (.slice e)=>(match P.underlying e with|some (.int .u8)=>true|_=>false)
 |some (.slice e),some .string=>(match P.underlying e with|some (.int .u8)=>true|_=>false)
 |_,_=>false
theorem M2{s d:aN}(ho:Dp P s d=true)(O:VR m x x'):dw P VR m (convert s d x) (convert s d x'):=by
 unfold Dp at ho;unfold convert;refine dA λd1 Y=>dA λd2 h2=>?_;rw[Y,h2]at ho;cases d1<;>cases d2<;>first|(simp at ho; done)|skip
 .cases O<;>first|exact .dz trivial|exact .pure (.int _ _)
 .rename_i e;cases O<;>first|exact .dz trivial|skip
  refine dA λd3 B=>?_;simp only[B]at ho;cases d3<;>first|exact .dz trivial|skip
  rename_i k;cases k<;>first|exact .dz trivial|exact wJ|(simp at ho; done)
 .rename_i e
  have W:P.underlying e=some (.int .u8):=by
   simp only at ho;revert ho
   cases P.underlying e with
   |none=>intro ho; cases ho
   |some d3=>
    cases d3<;>intro ho<;>first|(cases ho; done)|skip
    rename_i k;cases k<;>first|(cases ho; done)|rfl
  have fin:∀{y y':Value},VR m y y'->dw P VR m (aT e >>= λd=>match d with|.int .u8=>g9 y|.int .i32=>gB y|_=>stuck "Convert: a slice of what to string?") (aT e >>= λd=>match d with|.int .u8=>g9 y'|.int .i32=>gB y'|_=>stuck "Convert: a slice of what to string?"):=by
   intro y y' hy;refine dA λd3 B=>?_;rw[W]at B;cases B;exact wG hy
  cases O with
  |int k n=>exact .pure (.string _)
  |string s=>exact .pure (.string _)
  |fJ v hv=>
   refine .dz ?_;show eh P ((match P.underlying e with|some d=>pure d|none=>stuck _) >>= _);rw[W];trivial
  |ft l c=>exact fin (.ft l c)
  |slice l c U=>exact fin (.slice l c U)
  |bool b=>exact fin (.bool b)
  |gM=>exact fin .gM
  |ptr U=>exact fin (.ptr U)
  |mz=>exact fin .mz
  |map hb=>exact fin (.map hb)
  |gone hb=>exact fin (.gone hb)
  |iR=>exact fin .iR
  |chan hb=>exact fin (.chan hb)
  |func a b c d e=>exact fin (.func a b c d e)
  |qx a b c=>exact fin (.qx a b c)
  |nilFunc=>exact fin .nilFunc
  |iface t h=>exact fin (.iface t h)
  |nilIface=>exact fin .nilIface
  |agg a b=>exact fin (.agg a b)
  |tuple a b=>exact fin (.tuple a b)
end
end
section
variable {args args':Array Value} {m':Ren} {α:Type}
structure BQ(m:Ren)(c c':CommCase):Prop where
 chan:VR m c.chan c'.chan
 send:l5 (VR m) c.send c'.send
 zero:VR m c.zero c'.zero
def JD(c:Array CommCase)(b:Bool)(s:CommShape):Prop:=b=true/\s=.send/\∃ch v z,c=#[{chan:=ch,send:=some v,zero:=z}]
inductive gP(P:Program)(m:Ren):Go.Next->Go.Next->Prop
 |value {v v'}:VR m v v'->gP P m (.value v) (.value v')
 |skip:gP P m .skip .skip
 |enter {f a a'}:m.fu f->(∃fn c,P.funcs[f]?=some fn/\fn.body=some c)->ep m a a'->gP P m (.enter f a) (.enter f a')
 |round {l l' f t t' a b}:m.blk l=some l'->ep m t t'->fD m.ok a->fD m.ok b->gP P m (.round l f t a b) (.round l' f t' a b)
 |defer {d d'}:DR m d d'->gP P m (.defer d) (.defer d')
 |recover:gP P m .recover .recover
 |spawn {d d'}:m.ig->DR m d d'->gP P m (.spawn d) (.spawn d')
 |comm {c c'} (b s):m.ig\/JD c b s->dO (BQ m) c.toList c'.toList->gP P m (.comm c b s) (.comm c' b s)
section
variable {P:Program} {m:Ren}
theorem Iq(O:gF m){ps rs:Array aN}(h:ep m args args'):dw P VR m (hj ps rs args) (hj ps rs args'):=by
 obtain⟨l⟩:=args;obtain⟨l'⟩:=args';unfold ep at h;simp only at h
 cases h with
 |nil=>exact .dz trivial
 |cons U h=>
 cases h with
 |nil=>cases U<;>exact .dz trivial
 |cons W h=>
 cases h with
 |cons hz h=>cases U<;>first|exact .dz trivial|(cases W<;>exact .dz trivial)
 |nil=>
 cases U<;>first|exact .dz trivial|(cases W<;>first|exact .dz trivial|skip)
 all_goals
  unfold hj;dsimp only;cases ps[0]?<;>first|exact .dz trivial|skip
  refine dA λd hd=>?_;cases d<;>first|exact .dz trivial|skip
  refine eD λsz=>?_
  first|exact .pure (.bool _)|skip
 rename_i a a' la ca B b b' lb cb hb st e;have Y:(a.block==b.block)=(a'.block==b'.block):=by rw[dl]; simp only[beq_iff_eq]; exact B.rH hb
 have e0:(a.block != b.block)=(a'.block != b'.block):=by simp only[bne,Y]
 dsimp only;rw[Y,e0,B.off,hb.off];refine dH (λ_=>.pure (.bool _)) (λ_=>?_);refine mW B (O _) λx=>mW hb (O _) λy=>dH (λ_=>.dz trivial) (λ_=>dH (λ_=>?_) (λ_=>.pure (.bool _)));exact qZ B (qZ hb (zt O B hb λx=>dH (λ_=>gz λn=>.pure (.bool _)) (λ_=>.pure (.bool _))))
theorem sZ:∀(n:Nat){a a':Addr}(acc:ByteArray),AR m a a'->dw P wX m (h9 a n acc) (h9 a' n acc)
 |0,_,_,_,_=>.pure rfl
 |n+1,a,a',acc,B=>by
  unfold h9;refine CH B λv v' O=>?_
  cases O with
  |int k x=>cases k<;>first|exact .dz trivial|exact sZ n _ (B.add 1)
  |_=>exact .dz trivial
theorem AE{x x':Value}(B:VR m x x'):dw P wX m (hB x) (hB x'):=by
 cases B<;>first|exact .dz trivial|exact .pure rfl|exact sZ _ _ ‹_›
theorem K9(h:ep m args args'):dw P VR m (Extern.BytealgCompare.compare args) (Extern.BytealgCompare.compare args'):=by
 obtain⟨l⟩:=args;obtain⟨l'⟩:=args'
 cases h with
 |nil=>exact .dz trivial
 |cons U h=>
 cases h with
 |nil=>exact .dz trivial
 |cons W h=>
 cases h with
 |cons hz h=>exact .dz trivial
 |nil=>
 refine dC (AE U) λm' a b O B=>?_;cases B;refine dC (AE (W.mono O)) λY a b O B=>?_;cases B;exact .pure (.int ..)
def nB(P:Program)(m:Ren)(f:aX):Prop:=
 ∃fn,P.funcs[f]?=some fn/\fn.name≠ "runtime.NumGoroutine"/\
  ((∃c,fn.body=some c/\fD m.ok c)\/(fn.body=none/\Extern.findNext fn=none/\∃e,Extern.find fn=some e/\∀m' args args',m.Le m'->ep m' args args'->dw P VR m' (e args) (e args')))
theorem nB.mono(h:m.Le m'){f:aX}(x:nB P m f):nB P m' f:=by
 obtain⟨fn,W,Y,h3⟩:=x;refine⟨fn,W,Y,?_⟩;rcases h3 with⟨c,B,O⟩|⟨B,O,e,h6,h7⟩
 .exact .inl ⟨c,B,h.ok▸O⟩
 .exact .inr ⟨B,O,e,h6,λU a a' hl=>h7 U a a' (h.trans hl)⟩
theorem GP{f:aX}(W:m.fu f)(Y:nB P m f)(h:ep m args args'):dw P (gP P) m (callFunc f args) (callFunc f args'):=by
 obtain⟨fn,O,h2,h3⟩:=Y;refine gS ?_;rw[O];dsimp only;have e2:(fn.name == "runtime.NumGoroutine")=false:=by simpa using h2
 rw[e2];rcases h3 with⟨c,B,U⟩|⟨B,U,e,h6,h7⟩
 .rw[B];exact .pure (.enter W ⟨fn,c,O,B⟩ h)
 .rw[B,U,h6];refine dw.mark trivial ?_;show dw P _ m (e args >>= λv=>pure _) (e args' >>= λv=>pure _);exact dC (h7 m args args' (.refl m) h) λm' v v' _ hv=>dw.pure (gP.value hv)
structure tQ(P:Program)(m:Ren):Prop where
 prog:lX P
 G:m.G=P.globals.size
 calls:∀f,m.fu f->nB P m f
 RM:P.follows .rangeFuncRecover=true
theorem tQ.mono(h:m.Le m')(x:tQ P m):tQ P m':=⟨x.prog,h.G.trans x.G,λf B=>(x.calls f (h.fu▸B)).mono h,x.RM⟩
theorem Qu{l l':Nat}(O:m.blk l=some l')(h:ep m args args'):dw P (gP P) m (bQ l args) (bQ l' args'):=by
 unfold bQ bO;simp only[bind_assoc];refine fI O λo o' W=>?_;cases W<;>first|exact .dz trivial|skip
 rename_i p p' B;have e:∀(q:Loop)(k:Loop->Sem Go.Next),(pure q >>= k)=k q:=λq k=>rfl;simp only[e];rw[<-B.params,<-h.size,<-B.fn,<-B.assign,<-B.body];refine dH (λ_=>.dz trivial) (λ_=>.pure (.round O ?_ B.SR B.xh))
 have key:∀(ps:List Tmp){l l':List Value}{t t':Array Value},dO (VR m) l l'->ep m t t'->ep m ((ps.zip l).foldl (λtmps x=>tmps.setIfInBounds x.1 x.2) t) ((ps.zip l').foldl (λtmps x=>tmps.setIfInBounds x.1 x.2) t'):=by
  intro ps
  induction ps with
  |nil=>simpa using U
  |cons p ps Y=>
   intro l l' t t' O U
   cases O with
   |nil=>simpa using U
   |cons hv O=>simpa using Y O (U.set p hv)
 have:=key p.params.toList h B.tmps;rw[<-a7,<-a7,aK,aK];exact this
theorem Nz(O:lX P)(t:aN)(x:Value)(k:aX×Value->Sem α):eh P (program >>= λp=>b3 (p.types.size+Made.depth) t x "" >>= k):=by
 unfold b3 bq
 cases hi:P.info? t with
 |none=>
  show eh P ((((match P.info? t with|some i=>pure i|none=>stuck _) >>= _) >>= _));rw[hi];trivial
 |some i=>
  have U:=O.Uz t i hi;show eh P ((((match P.info? t with|some i=>pure i|none=>stuck _) >>= _) >>= _));rw[hi];have W:∀{β:Type}(B:TypeInfo->Sem β),((match some i with|some i=>pure i|none=>stuck "no such type") >>= B)=B i:=λ_=>rfl;rw[W];simp only[U];trivial
theorem QZ(O:lX P)(t:aN)(x:Value)(k:Option Bool->Sem α):eh P (program >>= λp=>bv (p.types.size+Made.depth) t x "" >>= k):=by
 unfold bv bq
 cases hi:P.info? t with
 |none=>
  show eh P ((((match P.info? t with|some i=>pure i|none=>stuck _) >>= _) >>= _));rw[hi];trivial
 |some i=>
  have U:=O.Uz t i hi;show eh P ((((match P.info? t with|some i=>pure i|none=>stuck _) >>= _) >>= _));rw[hi];have W:∀{β:Type}(B:TypeInfo->Sem β),((match some i with|some i=>pure i|none=>stuck "no such type") >>= B)=B i:=λ_=>rfl;rw[W];simp only[U];trivial
theorem qS(U:tQ P m){t t':Target}(W:TR m t t')(Y:∀b x y z,t≠.builtin b x y z)(h:ep m args args'):dw P (gP P) m (invoke t args) (invoke t' args'):=by
 cases W with
 |nil=>exact fl (e:=.nilDeref) trivial
 |collected _=>exact .dz trivial
 |mark _ _ _ _=>exact .dz trivial
 |builtin x y z hm=>exact absurd rfl (Y _ x y z)
 |fn B=>
  rcases B with⟨B,hc⟩|⟨rfl,n,rfl⟩
  .cases B with
   |func f B=>exact GP B (U.calls f B) (h.append hc)
   |yield hl=>exact Qu hl h
  .unfold invoke
   cases ha:args[0]? with
   |none=>exact .dz trivial
   |some x=>
    obtain⟨x',O,hx⟩:=h.get ha;rw[O]
    cases hx with
    |nilIface=>exact fl (e:=.nilDeref) trivial
    |iface t hv=>exact .dz (Nz U.prog t ..)
    |_=>exact .dz trivial
def dP(fu:aX->Prop)(gl:Nat->Prop):Operand->Prop
 |.tmp _=>True
 |.const v=>Plain v
 |.global g=>gl g
 |.func f=>fu f
def uZ(P:Program)(st:Bool)(ats:Array aN)(n:Nat):Builtin->Prop
 |.append|.clear|.copy|.max|.min|.recover=>True
 |.cap|.len=>∀t,ats[0]?=some t->rq P t=true
 |.unsafeString=>st=true/\n=2
 |.close=>True
 |_=>False
def Pg(P:Program)(st:Bool)(t:aN):Prop:=∀k e,P.underlying t=some (.map k e)->qq P 10000 k=true/\(st=true\/nJ P c6 k=true)
def isNil:Operand->Bool
 |.const (.pointer none)|.const .nilIface=>true
 |_=>false
def T9(P:Program)(st:Bool)(t:aN)(y:Operand):Prop:=st=true\/nJ P c6 t=true\/(isNil y=true/\∀d,P.underlying t=some d->(∃e,d=.pointer e)\/(∃e,d=.interface e))
def OkOp(P:Program)(fu:aX->Prop)(gl:Nat->Prop)(st:Bool)(op:Op):Prop:=
 (∀x∈op.operands.toList,dP fu gl x)/\match op with
 |.move _|.assign _|.pick ..|.alloc _|.box ..|.build ..|.buildSlice ..|.load ..|.store ..|.nilCheck _|.unOp ..|.makeInterface ..|.makeMap ..|.makeSlice ..|.slice ..|.fieldAddr ..|.field ..
 |.indexAddr ..|.index ..|.entryStore ..|.range ..|.next ..|.entry _|.extract ..|.panic _|.send .. => True
 |.select .. => False
 |.makeChan .. => False
 |.binOp o t _ y _=>o=.eql\/o=.neq->T9 P st t y
 |.convert s d _=>Dp P s d=true
 |.makeFunc (.func f) _ _=>fu f
 |.lookup t ..|.mapUpdate t ..|.mapEntry t .. => Pg P st t
 |.typeAssert _ _ _ ok=>ok=true
 |.call c=>match c.callee with
  |.value _=>True
  |.builtin b=>uZ P st c.argTypes c.args.size b/\b≠.close
  |.invoke .. => False
 |.go c=>False/\match c.callee with
  |.value _=>True
  |_=>False
 |.defer c=>match c.callee with
  |.value _=>True
  |.builtin b=>b=.close/\False
  |_=>False
 |_=>False
end
end
section
variable {fu:aX->Prop} {gl:Nat->Prop} {ρ ρ':Operand->Value} {t:aN} {x x' y:Value}
section
variable {P:Program} {m:Ren}
theorem nP:∀(d:Nat)(m:Ren)(t:aN){x x' y y':Value},VR m x x'->VR m y y'->dw P wX m (c8 d t x y) (c8 d t x' y')
 |0,m,t,_,_,_,_,_,_=>.dz trivial
 |d+1,m,t,x,x',y,y',W,Y=>by
  unfold c8
  refine dA λde hd=>?_
  cases de with
  |interface ms=>
   cases W with
   |nilIface=>cases Y with
    |fJ v B=>cases y'<;>first|exact .pure rfl|exact B.elim
    |_=>exact .pure rfl
   |fJ v B=>cases x'<;>first|exact .pure rfl|exact B.elim
   |_=>exact .pure rfl
  |struct fs=>
   cases W with
   |agg h1 h2=>
    cases Y with
    |agg h3 h4=>
     refine dC (RA:=wX) (oy _ _ λm' f s hf U=>dH (λ_=>?_) (λ_=>.pure rfl)) λm' a b _ O=>?_
     .refine dC (mw ((ep.ib h1 h2).mono U) _) λm1 u u' l1 hu=>dC (mw ((ep.ib h3 h4).mono (U.trans l1)) _) λm2 v v' l2 B=>?_
      refine dC (nP d m2 _ (hu.mono l2) B) λm3 a b _ O=>?_
      cases O
      exact dH (λ_=>.pure rfl) (λ_=>.pure rfl)
     .cases O
      obtain⟨o,_⟩:=a
      cases o<;>exact .pure rfl
    |fJ v B=>cases y'<;>first|exact .pure rfl|exact B.elim
    |_=>exact .pure rfl
   |fJ v B=>cases x'<;>first|exact .pure rfl|exact B.elim
   |_=>exact .pure rfl
  |array n e=>
   cases W with
   |agg h1 h2=>
    cases Y with
    |agg h3 h4=>
     refine eD λsz=>?_;refine dC (RA:=wX) (oz _ _ λm' i s U=>?_) λm' a b _ O=>?_
     .refine dC (mw ((ep.ib h1 h2).mono U) _) λm1 u u' l1 hu=>dC (mw ((ep.ib h3 h4).mono (U.trans l1)) _) λm2 v v' l2 B=>?_;refine dC (nP d m2 _ (hu.mono l2) B) λm3 a b _ O=>?_;cases O;exact dH (λ_=>.pure rfl) (λ_=>.pure rfl)
     .cases O;obtain⟨o,_⟩:=a;cases o<;>exact .pure rfl
    |fJ v B=>cases y'<;>first|exact .pure rfl|exact B.elim
    |_=>exact .pure rfl
   |fJ v B=>cases x'<;>first|exact .pure rfl|exact B.elim
   |_=>exact .pure rfl
  |_=>exact .pure rfl
theorem Lr(op:BinOp)(t:aN)(p q:Operand){y':Value}(W:VR m x x')(U:VR m y y'):dw P zZ m (eqGuard op t p q x y) (eqGuard op t p q x' y'):=by
 refine dH (λ_=>.pure trivial) (λ_=>?_)
 cases W with
 |nilIface=>
  cases U with
  |nilIface=>
   refine dH (λ_=>.pure trivial) (λ_=>?_);refine dC (nP _ m t .nilIface .nilIface) λm' a b _ B=>?_;cases B;exact dH (λ_=>.dz trivial) (λ_=>.pure trivial)
  |fJ v O=>cases y'<;>first|exact .pure trivial|exact O.elim
  |_=>exact .pure trivial
 |agg Y h2=>
  cases U with
  |agg h3 h4=>
   refine gS (gS (dH (λ_=>.pure trivial) (λ_=>?_)));refine dC (nP _ m t (.agg Y h2) (.agg h3 h4)) λm' a b _ B=>?_;cases B;exact dH (λ_=>.dz trivial) (λ_=>.pure trivial)
  |fJ v O=>cases y'<;>first|exact .pure trivial|exact O.elim
  |_=>exact .pure trivial
 |fJ v O=>cases x'<;>first|exact .pure trivial|exact O.elim
 |_=>exact .pure trivial
theorem EL(B:∀d,P.underlying t=some d->(∃e,d=.pointer e)\/(∃e,d=.interface e))(O:VR m x x')(U:y=.pointer none\/y=.nilIface):dw P wX m (c5 t x y) (c5 t x' y):=by
 refine dA λd h=>?_;rcases B d h with⟨e,rfl⟩|⟨e,rfl⟩<;>rcases U with rfl|rfl<;>cases O<;>first|exact .dz trivial|exact .pure rfl
theorem EX(op:BinOp)(Y:op=.eql\/op=.neq)(hd:∀d,P.underlying t=some d->(∃e,d=.pointer e)\/(∃e,d=.interface e))(hx:VR m x x')(O:y=.pointer none\/y=.nilIface):dw P VR m (binOp op t x y) (binOp op t x' y):=by
 have h:=EL hd hx O
 have U:∀z,binOp .eql t z y=(do pure (.bool (<-c5 t z y))):=by
  intro z;rcases O with rfl|rfl<;>cases z<;>rfl
 have W:∀z,binOp .neq t z y=(do pure (.bool (!(<-c5 t z y)))):=by
  intro z;rcases O with rfl|rfl<;>cases z<;>rfl
 rcases Y with rfl|rfl
 .rw[U,U];exact dC h λm' a b _ B=>by cases B; exact .pure (.bool _)
 .rw[W,W];exact dC h λm' a b _ B=>by cases B; exact .pure (.bool _)
theorem kh(B:∀x,dP fu gl x->VR m (ρ x) (ρ' x)){a:Array Operand}(h:∀x∈a.toList,dP fu gl x):ep m (a.map ρ) (a.map ρ'):=by
 unfold ep;simp only[a4];generalize a.toList=l at h
 induction l with
 |nil=>exact .nil
 |cons x l O=>exact .cons (B x (h x (by simp))) (O λy U=>h y (by simp[U]))
theorem zr(B:∀x,dP fu gl x->VR m (ρ x) (ρ' x)){o:Option Operand}(h:∀x,o=some x->dP fu gl x):l5 (VR m) (o.map ρ) (o.map ρ'):=by
 cases o with
 |none=>exact .none
 |some x=>exact .some (B x (h x rfl))
theorem Ev(B:∀x,dP fu gl x->VR m (ρ x) (ρ' x)){a:Array (Nat×Operand)}(h:∀x∈a.toList.map (·.2),dP fu gl x) :
  dO (J6 m) (a.map λ(i,x)=>(i,ρ x)).toList (a.map λ(i,x)=>(i,ρ' x)).toList:=by
 simp only[a4];generalize a.toList=l at h
 induction l with
 |nil=>exact .nil
 |cons x l O=>exact .cons ⟨rfl,B _ (h _ (by simp))⟩ (O λy U=>h y (by simp only[List.map_cons,gd]; exact .inr U))
theorem Hv(hP:lX P)(hx:VR m x x'){a:Operand}(e:ρ a=x)(e':ρ' a=x'){d:Option Tmp}{p:String}{af:Array Edge}{g:Option (Nat×Bool)} :
  dw P (gP P) m (bo ρ ⟨d,.nilCheck a,t,p,af,g⟩) (bo ρ' ⟨d,.nilCheck a,t,p,af,g⟩):=by
 unfold bo;dsimp only;rw[e,e']
 cases hx with
 |gM=>exact fl (e:=.nilDeref) trivial
 |nilIface=>exact fl (e:=.nilDeref) trivial
 |nilFunc=>exact fl (e:=.nilDeref) trivial
 |@qx lf n f c U W Y=>
  dsimp only;have hA:ep m lf f:=ep.ib U W
  cases O:lf[0]? with
  |none=>
   rw[hA.get_none O];exact .pure (.value (.qx U W Y))
  |some y=>
   obtain⟨y',aa,hy⟩:=hA.get O;rw[aa]
   have ab:∀t u,y'=.iface t u->∃z,y=.iface t z:=λt u e=>by
    obtain⟨z,hz⟩:=Y t u (by rw[aa,e]);rw[O]at hz;exact⟨z,gi hz⟩
   cases hy with
   |nilIface=>exact fl (e:=.nilDeref) trivial
   |iface t B=>exact .dz (QZ hP t _ _)
   |fJ v B=>
    have:∀t u,y'≠.iface t u:=λt u e=>by obtain⟨z,hz⟩:=ab t u e; cases hz
    cases y'<;>first|exact B.elim|exact absurd rfl (this _ _)|exact .pure (.value (.qx U W Y))
   |_=>exact .pure (.value (.qx U W Y))
 |func hf U W Y h4=>cases hf<;>exact .pure (.value (.func (by first|exact .func _ ‹_›|exact .yield ‹_›) U W Y h4))
 |fJ v B=>cases x'<;>first|exact .pure (.value (.fJ _ B))|exact B.elim|(rename_i q; cases q<;>first|exact .pure (.value (.fJ _ B))|exact B.elim)|(rename_i q _ _; cases q<;>first|exact .pure (.value (.fJ _ B))|exact B.elim|exact .dz trivial)
 |bool b=>exact .pure (.value (.bool b))
 |int k n=>exact .pure (.value (.int k n))
 |string s=>exact .pure (.value (.string s))
 |ptr O=>exact .pure (.value (.ptr O))
 |ft l c=>exact .pure (.value (.ft l c))
 |slice l c O=>exact .pure (.value (.slice l c O))
 |mz=>exact .pure (.value .mz)
 |map h=>exact .pure (.value (.map h))
 |gone h=>exact .pure (.value (.gone h))
 |iR=>exact .pure (.value .iR)
 |chan h=>exact .pure (.value (.chan h))
 |iface t h=>exact .pure (.value (.iface t h))
 |agg a b=>exact .pure (.value (.agg a b))
 |tuple a b=>exact .pure (.value (.tuple a b))
theorem oT{f f':Value}(hf:VR m f f'){a a':Array Value}(B:ep m a a'):dw P (λm d d'=>DR m d d'/\∀b x y z,d.target≠.builtin b x y z) m (Deferred.ofValue f a) (Deferred.ofValue f' a'):=by
 cases hf<;>first|exact .dz trivial|skip
 .rename_i O U Y W h4;exact .pure ⟨⟨.fn (.inl ⟨O,.ib W h4⟩),(ep.ib U Y).append B⟩,nofun⟩
 .exact .pure ⟨⟨.nil,B⟩,nofun⟩
 .rename_i W U Y;exact .pure ⟨⟨.fn (.inr ⟨rfl,_,rfl⟩),(ep.ib W U).append B⟩,nofun⟩
theorem s6{α β:Type}{Q:Ren->β->β->Prop}(hm:∀m m' a b,m.Le m'->Q m a b->Q m' a b){g g':α->Sem β}:∀(l:List α)(m:Ren),(∀x∈l,∀m',m.Le m'->dw P Q m' (g x) (g' x))->dw P (λm=>dO (Q m)) m (l.mapM g) (l.mapM g')
 |[],m,_=>.pure .nil
 |x::l,m,O=>by
  simp only[gc];exact dC (O x (by simp) m (.refl m)) λm' a b B h=>dC (s6 hm l m' λy U W Y=>O y (by simp[U]) W (B.trans Y)) λaa c d B hc=>.pure (.cons (hm _ _ _ _ B h) hc)
theorem BQ.mono{m m':Ren}(h:m.Le m'){a b:CommCase}(x:BQ m a b):BQ m' a b:=⟨x.chan.mono h,x.send.mono λ_ _ y=>y.mono h,x.zero.mono h⟩
end
end
section
section
variable {P:Program} {m:Ren}
theorem rO{s s':Sem Value}(h:dw P VR m s s'):kM P (gP P) m (do pure (.value (<-s))) (do pure (.value (<-s'))):=.base (dC h λ_ _ _ _ B=>.pure (.value B))
theorem Us{s s':Sem Unit}(h:dw P zZ m s s'):kM P (gP P) m (do s; pure .skip) (do s'; pure .skip):=.base (dC h λ_ _ _ _ _=>.pure .skip)
theorem Ma(W:tQ P m){st:Bool}(O:st=true->gF m){b:Builtin}{ats:Array aN}{t:aN}{cs:Array Bool}{args args':Array Value}(h:ep m args args')(B:uZ P st ats args.size b)(hc:b≠.close):kM P (gP P) m (builtin b ats t cs args) (builtin b ats t cs args'):=by
 cases b<;>simp only[uZ]at B<;>first|exact B.elim|exact absurd rfl hc|skip
 .exact rO (O4 W.prog h)
 .exact rO (TB B h)
 .exact rO (Qc W.prog h)
 .exact rO (Si h)
 .exact rO (Tt B h)
 .exact rO (TL h)
 .exact rO (T5 h)
 .exact .base (.pure .recover)
 .obtain⟨h1,Y⟩:=B;have U:args'.size=2:=by rw[<-h.size]; exact Y
  obtain⟨x,y,rfl⟩:∃x y,args=#[x,y]:=by
   obtain⟨l⟩:=args
   match l,Y with
   |[x,y],_=>exact⟨x,y,rfl⟩
  obtain⟨x',y',rfl⟩:∃x y,args'=#[x,y]:=by
   obtain⟨l⟩:=args'
   match l,U with
   |[x,y],_=>exact⟨x,y,rfl⟩
  cases h with
  |cons hx h=>cases h with
   |cons hy h=>exact rO (zO (O h1) hx hy)
theorem Er(hE:tQ P m){st:Bool}(ac:st=true->gF m)(ab:False->m.ig){gl:Nat->Prop}{ρ ρ':Operand->Value}(W:∀x,dP m.fu gl x->VR m (ρ x) (ρ' x))(ad:∀c,ρ (.const c)=c/\ρ' (.const c)=c)(o:Oper)(ho:OkOp P m.fu gl st o.op):kM P (gP P) m (bo ρ o) (bo ρ' o):=by
 obtain⟨ah,op,ag,pos,after,guard⟩:=o;obtain⟨O,U⟩:=ho;have B:∀x,x∈op.operands.toList->VR m (ρ x) (ρ' x):=λx Y=>W x (O x Y);have aa:∀t,Pg P st t->∀k e,P.underlying t=some (.map k e)->qq P 10000 k=true/\(gF m\/nJ P c6 k=true):=λt h k e hd=>⟨(h k e hd).1,(h k e hd).2.imp ac id⟩
 cases op with
 |move x=>exact .base (.pure (.value (B x (by simp[c4]))))
 |assign x=>exact .base (.pure (.value (B x (by simp[c4]))))
 |pick c a b=>
  refine .base (Lo (B c (by simp[c4])) λt=>.pure (.value ?_));cases t
  .exact B b (by simp[c4])
  .exact B a (by simp[c4])
 |alloc e=>exact rO (Re hE.prog)
 |box e x=>exact rO (Tz (B x (by simp[c4])))
 |build t ps=>exact rO (Qv hE.prog (Ev W (by simpa[c4]using O)))
 |buildSlice t n ps=>exact rO (Cr hE.prog (Ev W (by simpa[c4]using O)))
 |load t x=>exact rO (MD (B x (by simp[c4])))
 |store t x y=>exact Us (LZ (B x (by simp[c4])) (B y (by simp[c4])))
 |nilCheck x=>exact .base (Hv hE.prog (B x (by simp[c4])) rfl rfl)
 |binOp o t x y yt=>
  refine rO (dC (Lr o t x y (B x (by simp[c4])) (B y (by simp[c4]))) λm' _ _ hl _=>?_);have Y:=(B x (by simp[c4])).mono hl;have hy:=(B y (by simp[c4])).mono hl;by_cases hq:o=.eql\/o=.neq
  .rcases U hq with h|h|⟨h,hd⟩
   .exact Ci o (hl.G.trans hE.G) (λ_=>.inl ((ac h).mono hl)) Y hy
   .exact Ci o (hl.G.trans hE.G) (λ_=>.inr h) Y hy
   .cases y with
    |const c=>
     obtain⟨e1,e2⟩:=ad c;rw[e1,e2]
     have hc:c=.pointer none\/c=.nilIface:=by
      cases c<;>first|cases h; done|exact .inr rfl|skip
      rename_i p;cases p
      .exact .inl rfl
      .cases h
     exact EX o hq hd Y hc
    |_=>cases h
  .exact Ci o (hl.G.trans hE.G) (λh=>absurd h hq) Y hy
 |unOp o t x=>exact rO (PI o (B x (by simp[c4])))
 |convert s d x=>exact rO (M2 U (B x (by simp[c4])))
 |makeInterface t x=>exact rO (wP (B x (by simp[c4])))
 |makeFunc f a b=>
  cases f<;>simp only at U<;>first|exact U.elim|skip
  exact rO (I4 U (kh W λx Y=>O x (by simp[c4]; exact .inl (by simpa using Y))) (kh W λx Y=>O x (by simp[c4]; exact .inr (by simpa using Y))))
 |makeMap t r=>exact rO (Ls (zr W λx Y=>O x (by simp[c4,Y])))
 |makeChan t s=>exact rO (I1 (ab U) (B s (by simp[c4])))
 |makeSlice t l c=>exact rO (EF hE.prog (B l (by simp[c4])) (B c (by simp[c4])))
 |slice t x l h mx=>exact rO (My (B x (by simp[c4])) (zr W λy hy=>O y (by simp[c4,hy])) (zr W λy hy=>O y (by simp[c4,hy])) (zr W λy hy=>O y (by simp[c4,hy])))
 |fieldAddr t x f=>exact rO (Mr (B x (by simp[c4])) f)
 |field t x f=>exact rO (Qt (B x (by simp[c4])) f)
 |indexAddr t x i=>exact rO (Ly (B x (by simp[c4])) (B i (by simp[c4])))
 |index t x i=>exact rO (PB (B x (by simp[c4])) (B i (by simp[c4])))
 |lookup t x i b=>exact rO (OI hE.prog hE.G (aa t U) (B x (by simp[c4])) (B i (by simp[c4])) b)
 |mapUpdate t a b c=>exact(FG hE.G (aa t U) (B a (by simp[c4])) (B b (by simp[c4])) (B c (by simp[c4]))).map λ_ _ _ _ _=>.skip
 |mapEntry t a b=>exact(GF hE.prog hE.G (aa t U) (B a (by simp[c4])) (B b (by simp[c4]))).map λ_ _ _ _ h=>.value h
 |entryStore t a b c=>exact Us (D4 (B a (by simp[c4])) (B b (by simp[c4])) (B c (by simp[c4])))
 |range t x=>exact rO (Qf (B x (by simp[c4])))
 |next x b=>exact rO (RQ (B x (by simp[c4])) b _)
 |entry x=>exact rO (Q8 (B x (by simp[c4])))
 |typeAssert x a b c=>
  simp only at U;subst U;exact rO (Cd hE.prog (B x (by simp[c4])) _ _)
 |extract x i=>exact rO (LD (B x (by simp[c4])) i)
 |panic x=>exact rO (QQ (B x (by simp[c4])))
 |send c x=>exact .base (.pure (.comm _ _ (.inr ⟨rfl,rfl,_,_,_,rfl⟩) (.cons ⟨B c (by simp[c4]),.some (B x (by simp[c4])),.undef m⟩ .nil)))
 |select cs b=>
  refine .base ?_;show dw P (gP P) m (cs.mapM (λs=>do pure {chan:=ρ s.chan,send:=s.send.map ρ,zero:=<-aQ s.elem:CommCase}) >>= λc=>pure (.comm c b .select)) (cs.mapM (λs=>do pure {chan:=ρ' s.chan,send:=s.send.map ρ',zero:=<-aQ s.elem:CommCase}) >>= λc=>pure (.comm c b .select));rw[a0,a0];simp only[map_eq_pure_bind,bind_assoc,pure_bind];refine dC (s6 (Q:=BQ) (λ_ _ _ _ h x=>x.mono h) cs.toList m λs hs m' hl=>?_) λm' a b' ae af=>.pure (.comm _ _ (.inl (by rw[ae.ig]; exact ab U)) af);refine fG hE.prog λz hz=>.pure ⟨(B s.chan ?_).mono hl,(zr W λy hy=>O y ?_).mono λ_ _ x=>x.mono hl,hz⟩
  .simp only[c4,aD,aJ];exact⟨s,by simpa using hs,by simp⟩
  .simp only[c4,aD,aJ];exact⟨s,by simpa using hs,by simp[hy]⟩
 |call c=>
  obtain⟨callee,args,ats⟩:=c
  cases callee with
  |invoke r n=>exact U.elim
  |builtin b=>
   have ha:ep m (args.map ρ) (args.map ρ'):=kh W λx Y=>O x (by simp[c4,gt]; simpa using Y);exact Ma hE ac ha (by simpa using U.1) U.2
  |value f=>
   have ha:ep m (args.map ρ) (args.map ρ'):=kh W λx Y=>O x (by simp[c4,gt]; exact .inr (by simpa using Y));refine .base (dC (oT (B f (by simp[c4,gt])) ha) λm' d d' hl hd=>?_);exact qS (hE.mono hl) hd.1.target hd.2 hd.1.args
 |go c=>
  obtain⟨callee,args,ats⟩:=c
  cases callee with
  |invoke r n=>exact U.2.elim
  |builtin b=>exact U.2.elim
  |value f=>
   have ha:ep m (args.map ρ) (args.map ρ'):=kh W λx Y=>O x (by simp[c4,gt]; exact .inr (by simpa using Y));exact .base (dC (oT (B f (by simp[c4,gt])) ha) λm' d d' hl hd=>.pure (.spawn (by rw[hl.ig]; exact ab U.1) hd.1))
 |defer c=>
  obtain⟨callee,args,ats⟩:=c
  cases callee with
  |invoke r n=>exact U.elim
  |builtin b=>
   have ha:ep m (args.map ρ) (args.map ρ'):=kh W λx Y=>O x (by simp[c4,gt]; simpa using Y);obtain⟨U,hs⟩:=U;subst U;exact .base (.pure (.defer ⟨.builtin _ _ _ (ab hs),ha⟩))
  |value f=>
   have ha:ep m _ _:=kh W λx Y=>O x (by simp[c4,gt]; exact .inr (by simpa using Y));exact .base (dC (oT (B f (by simp[c4,gt])) ha) λm' d d' hl hd=>.pure (.defer hd.1))
 |_=>exact U.elim
end
end
section
open Go.Conc
def Bc(y:Code):Code:=.cond (.global 0) y .skip
inductive jz(m:Ren):Item->Item->Prop
 |EB (y):jz m (.code (Bc y)) (.code y)
 |ma (y):jz m (.inLoop (Bc y)) (.inLoop y)
 |code (c):fD m.ok c->jz m (.code c) (.code c)
 |inBlock (i):jz m (.inBlock i) (.inBlock i)
 |inLoop (c):fD m.ok c->jz m (.inLoop c) (.inLoop c)
 |inScope (c):fD m.ok c->jz m (.inScope c) (.inScope c)
 |inRegion (ops t):(∀o∈ops.toList,m.ok o)->jz m (.inRegion ops t) (.inRegion ops t)
 |inRangeFunc {l l'}:m.blk l=some l'->jz m (.inRangeFunc l) (.inRangeFunc l')
 |endRangeFunc {l l'}:m.blk l=some l'->jz m (.endRangeFunc l) (.endRangeFunc l')
 |beginRound:jz m .beginRound .beginRound
structure Rp(m:Ren)(p p':PanicEntry):Prop where
 v:VR m p.v p'.v
 rv:p'.recovered=p.recovered
 ex:p'.goexit=p.goexit
inductive sk(m:Ren):FrameMode->FrameMode->Prop
 |run:sk m .run .run
 |returning:sk m .returning .returning
 |panicking {c c'}:dO (Rp m) c c'->sk m (.panicking c) (.panicking c')
structure fK(m:Ren)(fr fr':Frame):Prop where
 fn:fr'.fn=fr.fn
 tmps:ep m fr.tmps fr'.tmps
 todo:dO (jz m) fr.todo fr'.todo
 defers:dO (DR m) fr.defers fr'.defers
 mode:sk m fr.mode fr'.mode
 round:l5 (λr r'=>m.blk r=some r') fr.roundOf fr'.roundOf
section
variable {m m':Ren}
theorem jz.mono(h:m.Le m'){a b:Item}(x:jz m a b):jz m' a b:=by
 cases x with
 |EB y=>exact .EB y
 |ma y=>exact .ma y
 |code c B=>exact .code c (h.ok▸B)
 |inBlock i=>exact .inBlock i
 |inLoop c B=>exact .inLoop c (h.ok▸B)
 |inScope c B=>exact .inScope c (h.ok▸B)
 |inRegion o t U=>exact .inRegion o t (h.ok▸U)
 |inRangeFunc O=>exact .inRangeFunc (h.blk _ _ O)
 |endRangeFunc O=>exact .endRangeFunc (h.blk _ _ O)
 |beginRound=>exact .beginRound
theorem Rp.mono(h:m.Le m'){a b:PanicEntry}(x:Rp m a b):Rp m' a b:=⟨x.v.mono h,x.rv,x.ex⟩
theorem sk.mono(h:m.Le m'){a b:FrameMode}(x:sk m a b):sk m' a b:=by
 cases x with
 |run=>exact .run
 |returning=>exact .returning
 |panicking B=>exact .panicking (B.mono λ_ _ y=>y.mono h)
theorem fK.mono(h:m.Le m'){a b:Frame}(x:fK m a b):fK m' a b:=
 ⟨x.fn,x.tmps.mono h,x.todo.mono λ_ _ y=>y.mono h,x.defers.mono λ_ _ y=>y.mono h,x.mode.mono h,x.round.mono λ_ _ y=>h.blk _ _ y⟩
theorem fK.eval{fr fr':Frame}(h:fK m fr fr'){gl:Nat->Prop}(B:∀g,gl g->m.blk g=some g)(x:Operand)(O:dP m.fu gl x):VR m (fr.eval x) (fr'.eval x):=by
 cases x with
 |tmp t=>exact h.tmps.getD t
 |const v=>exact VR.plain O
 |global g=>exact .ptr (.mk (B g O))
 |func f=>exact .J5 (.func f O) (.nil m) (.nil m)
theorem fK.finish{fr fr':Frame}(h:fK m fr fr'){v v':Value}(hv:VR m v v'):fK m (fr.finish v) (fr'.finish v')/\(fr.finish v).kind=fr.kind/\(fr'.finish v').kind=fr'.kind:=by
 obtain⟨fn,tmps,todo,defers,mode,ag,round⟩:=fr;obtain⟨ah,aa,ad,ab,ae,af,ac⟩:=fr';obtain⟨O,B,h3,U,W,Y⟩:=h
 cases h3 with
 |nil=>exact⟨⟨O,B,.nil,U,W,Y⟩,rfl,rfl⟩
 |cons hi ht=>
  cases hi with
  |inRegion ops t ho=>
   cases t with
   |nil=>exact⟨⟨O,B,.cons (.inRegion _ _ ho) ht,U,W,Y⟩,rfl,rfl⟩
   |cons i t=>
    refine⟨⟨O,?_,.cons (.inRegion _ _ ho) ht,U,W,Y⟩,rfl,rfl⟩;show ep m (match (ops[i]?).bind _ with|some d=>tmps.setIfInBounds d v|none=>tmps) (match (ops[i]?).bind _ with|some d=>aa.setIfInBounds d v'|none=>aa)
    cases(ops[i]?).bind _ with
    |none=>exact B
    |some d=>exact B.set d hv
  |inRangeFunc hl=>exact⟨⟨O,B,.cons (.endRangeFunc hl) ht,U,W,Y⟩,rfl,rfl⟩
  |beginRound=>exact⟨⟨O,B,ht,U,W,Y⟩,rfl,rfl⟩
  |EB y=>exact⟨⟨O,B,.cons (.EB y) ht,U,W,Y⟩,rfl,rfl⟩
  |ma y=>exact⟨⟨O,B,.cons (.ma y) ht,U,W,Y⟩,rfl,rfl⟩
  |code c hc=>exact⟨⟨O,B,.cons (.code c hc) ht,U,W,Y⟩,rfl,rfl⟩
  |inBlock i=>exact⟨⟨O,B,.cons (.inBlock i) ht,U,W,Y⟩,rfl,rfl⟩
  |inLoop c hc=>exact⟨⟨O,B,.cons (.inLoop c hc) ht,U,W,Y⟩,rfl,rfl⟩
  |inScope c hc=>exact⟨⟨O,B,.cons (.inScope c hc) ht,U,W,Y⟩,rfl,rfl⟩
  |endRangeFunc hl=>exact⟨⟨O,B,.cons (.endRangeFunc hl) ht,U,W,Y⟩,rfl,rfl⟩
theorem fK.raise{fr fr':Frame}(h:fK m fr fr'){vs vs':List PanicEntry}(U:dO (Rp m) vs vs'):fK m (fr.raise vs) (fr'.raise vs')/\(fr.raise vs).kind=fr.kind/\(fr'.raise vs').kind=fr'.kind:=by
 obtain⟨fn,tmps,todo,defers,mode,ac,round⟩:=fr;obtain⟨ad,W,Y,B,aa,ab,O⟩:=fr';obtain⟨h1,h2,h3,h4,h5,h6⟩:=h
 cases h5 with
 |run=>exact⟨⟨h1,h2,h3,h4,.panicking U,h6⟩,rfl,rfl⟩
 |returning=>exact⟨⟨h1,h2,h3,h4,.panicking U,h6⟩,rfl,rfl⟩
 |panicking hc=>exact⟨⟨h1,h2,h3,h4,.panicking (U.append hc),h6⟩,rfl,rfl⟩
theorem Cv{P:Program}{f:aX}(Y:nB P m f)(hb:∃fn c,P.funcs[f]?=some fn/\fn.body=some c){a a':Array Value}(h:ep m a a')(k k':CallKind):fK m (fa P f a k) (fa P f a' k'):=by
 obtain⟨fn,c,U,W⟩:=hb;obtain⟨aa,B,_,h3⟩:=Y;rw[U]at B;cases B
 have hc:fD m.ok c:=by
  rcases h3 with⟨c',O,h5⟩|⟨O,_⟩
  .rw[W]at O; cases O; exact h5
  .rw[W]at O; cases O
 refine⟨rfl,?_,?_,.nil,.run,.none⟩
 .simp only[fa,U,gn,gj,h.size];exact h.append (.replicate _ (.undef m))
 .simp only[fa,U,gs,W,gj];exact .cons (.code c hc) .nil
end
def G8(k:CallKind):Prop:=k=.normal\/k=.deferred
def door(P:Program):Frame:={fn:=P.funcs.size,tmps:=#[],todo:=[.call {target:=.nil,args:=#[]} false "fmt's door" #[]],defers:=[],mode:=.run,kind:=.normal}
def Cw(k:CallKind)(T:List Frame):Prop:=(k=.normal/\∀ps,T=[ps]->ps.mode≠.panicking [br])\/(k=.deferred/\∃ps,T=[ps]/\ps.mode=.panicking [br])
inductive dR(P:Program)(m:Ren)(T:List Frame):List Frame->List Frame->Prop
 |one {fr fr'}:fK m fr fr'->fr.kind=.normal->Cw fr'.kind T->fr.roundOf=none->dR P m T (fr::[door P]) (fr'::T)
 |cons {fr fr' c c' cs cs'}:fK m fr fr'->fr'.kind=fr.kind->G8 fr.kind->dR P m T (c::cs) (c'::cs')->dR P m T (fr::c::cs) (fr'::c'::cs')
section
variable {P:Program} {m m':Ren} {T:List Frame}
theorem dR.mono(h:m.Le m'){l l':List Frame}(x:dR P m T l l'):dR P m' T l l':=by
 induction x with
 |one B O U W=>exact .one (B.mono h) O U W
 |cons B O U _ Y=>exact .cons (B.mono h) O U Y
theorem dR.pS{fr fr':Frame}{cs cs':List Frame}(x:dR P m T (fr::cs) (fr'::cs')):fK m fr fr':=by cases x<;>assumption
theorem dR.set(h:m.Le m'){fr fr' g g':Frame}{cs cs':List Frame}(x:dR P m T (fr::cs) (fr'::cs'))(W:fK m' g g')(k:g.kind=fr.kind)(k':g'.kind=fr'.kind)(Y:g.roundOf=fr.roundOf)(_hn:g.fn=fr.fn):dR P m' T (g::cs) (g'::cs'):=by
 cases x with
 |one hf B O U=>exact .one W (k.trans B) (k'▸O) (Y.trans U)
 |cons hf B O U=>exact .cons W (by rw[k,k',B]) (k▸O) (U.mono h)
theorem dR.push{fr fr' g g':Frame}{cs cs':List Frame}(x:dR P m T (fr::cs) (fr'::cs'))(B:fK m g g')(k:g'.kind=g.kind)(O:G8 g.kind):dR P m T (g::fr::cs) (g'::fr'::cs'):=.cons B k O x
end
end
section
open Go.Conc
variable {fr fr':Frame} {cs cs':List Frame}
def nt(P:Program)(m:Ren)(T:List Frame)(s':GStep)(w':World)(fr:Frame)(cs:List Frame)(w₁:World):Prop:=
 ∃dy fr' cs' B es,s'=.go (G fr' cs') B es/\m.Le dy/\dR P dy T (fr::cs) (fr'::cs')/\WR dy w₁ B/\fw m dy w' B/\∀e∈es,oA dy e
section
variable {P:Program} {m:Ren} {T:List Frame}
theorem R7(h:fK m fr fr'):(match fr.todo with|.call _ true _ _::_=>CallKind.wrapped|_=>.normal)=.normal/\(match fr'.todo with|.call _ true _ _::_=>CallKind.wrapped|_=>.normal)=.normal:=by
 have:=h.todo;revert this;generalize fr.todo=l;generalize fr'.todo=l';intro h
 cases h with
 |nil=>exact⟨rfl,rfl⟩
 |cons hi _=>cases hi<;>exact⟨rfl,rfl⟩
theorem tB{P:Program}{m:Ren}{T:List Frame}(h:dR P m T (fr::cs) (fr'::cs')) :
  l5 (λx y=>VR m x.1 y.1/\dR P m T (fr::x.2) (fr'::y.2)) (aO fr cs) (aO fr' cs'):=by
 have e1:∀(f:Frame)(c:List Frame),f.kind=.normal->aO f c=none:=by
  intro f c hk; unfold aO; rw[hk]
 cases h with
 |one hf h1 B h3=>
  rw[e1 fr _ h1];rcases B with⟨B,_⟩|⟨B,ps,rfl,h4⟩
  .rw[e1 fr' _ B]; exact .none
  .have e2:aO fr' [ps]=none:=by
    unfold aO;simp only[B];rw[h4];rfl
   rw[e2]; exact .none
 |cons hf h1 B h3=>
  rename_i c c' cs cs';rcases B with B|B
  .rw[e1 fr _ B,e1 fr' _ (h1.trans B)];exact .none
  .have ac:=h1.trans B
   cases h3 with
   |one O g1 g2 g3=>
    have hm:=O.mode;obtain⟨ak,am,an,ao,ap,aq,ar⟩:=c;obtain⟨ad,ae,af,ag,ah,ai,aj⟩:=c';unfold aO;rw[B,ac]
    cases hm with
    |run=>exact .none
    |returning=>exact .none
    |panicking hc=>
     cases hc with
     |nil=>exact .none
     |cons hp ht=>
      rename_i p p' Y W;obtain⟨v,r,x⟩:=p;obtain⟨v',r',x'⟩:=p';obtain⟨U,aa,ab⟩:=hp;subst aa ab;cases r'<;>cases x'<;>first|exact .none|skip
      exact .some ⟨U,.cons hf h1 (.inr B) (.one ⟨O.fn,O.tmps,O.todo,O.defers,.panicking (.cons ⟨U,rfl,rfl⟩ ht),O.round⟩ g1 g2 g3)⟩
   |cons O g1 g2 g3=>
    have hm:=O.mode;obtain⟨ak,am,an,ao,ap,aq,ar⟩:=c;obtain⟨ad,ae,af,ag,ah,ai,aj⟩:=c';unfold aO;rw[B,ac]
    cases hm with
    |run=>exact .none
    |returning=>exact .none
    |panicking hc=>
     cases hc with
     |nil=>exact .none
     |cons hp ht=>
      rename_i p p' Y W;obtain⟨v,r,x⟩:=p;obtain⟨v',r',x'⟩:=p';obtain⟨U,aa,ab⟩:=hp;subst aa ab;cases r'<;>cases x'<;>first|exact .none|skip
      exact .some ⟨U,.cons hf h1 (.inr B) (.cons ⟨O.fn,O.tmps,O.todo,O.defers,.panicking (.cons ⟨U,rfl,rfl⟩ ht),O.round⟩ g1 g2 g3)⟩
theorem fg(fr:Frame)(v:Value):(fr.finish v).roundOf=fr.roundOf:=by
 unfold fd;split<;>rfl
theorem nW(fr:Frame)(v:List PanicEntry):(fr.raise v).roundOf=fr.roundOf:=by
 unfold eC;split<;>rfl
theorem gQ(fr:Frame)(v:Value):(fr.finish v).fn=fr.fn:=by
 unfold fd;split<;>rfl
theorem tn(fr:Frame)(v:List PanicEntry):(fr.raise v).fn=fr.fn:=by
 unfold eC;split<;>rfl
theorem tc{dy:Ren}{f:aX}{c:Prop}[Decidable c]{es₁:Array Event}(h:∀e∈es₁,oA dy e):∀e∈aR P f (if c then #[]else es₁)++#[],oA dy e:=by
 intro e B;have:=mem_seen B;split at this
 .simp at this
 .exact h e this
theorem Ko(hE:tQ P m)(U:dR P m T (fr::cs) (fr'::cs')){s s':Sem Go.Next}(hs:kM P (gP P) m s s'){w w':World}(hw:WR m w w')(ae:Al w w'){eZ:Frame}{fc:List Frame}{w₁:World}{es:Array Event}
  (h:cI P true fr cs none s w=.go (G eZ fc) w₁ es):nt P m T (cI P true fr' cs' none s' w') w' eZ fc w₁:=by
 have hr:=hs.run w w' #[] hw ae;unfold cI at h⊢;simp only[if_true]at h⊢;rcases hrt:s.runT P w #[]with⟨r,ar⟩;have af:s.run P w=r:=by rw[<-cM P s w #[],hrt]
 rw[af]at hr;rw[hrt]at h;have au:=R7 U.pS
 cases r with
 |ok n wn=>
  obtain⟨dy,n',aa,es₁,e1,W,e3,e4,_,e6,e7⟩:=hr;rw[e1];simp only[a8]at h⊢
  have out:∀{X:Array Event}{g g':Frame}{c c':List Frame},dR P dy T (g::c) (g'::c')->cK X (.go {frame:=g,callers:=c,status:=.running,dying:=none} wn)=.go (G eZ fc) w₁ es->
    nt P m T (cK (aR P fr'.fn (if(fr'.kind==CallKind.early)=true then #[]else es₁)) (.go {frame:=g',callers:=c',status:=.running,dying:=none} aa)) w' eZ fc w₁:=by
   intro X g g' c c' ab hh;simp only[cK,G,hH,Goroutine.mk.injEq]at hh;obtain⟨⟨rfl,rfl,_⟩,rfl,_⟩:=hh;exact⟨dy,g',c',aa,_,rfl,W,ab,e4,e6,tc e7⟩
  cases e3 with
  |value hv=>
   have O:=(U.pS.mono W).finish hv;exact out (U.set W O.1 O.2.1 O.2.2 (fg _ _) (gQ _ _)) h
  |skip=>
   have O:=(U.pS.mono W).finish (.undef dy);exact out (U.set W O.1 O.2.1 O.2.2 (fg _ _) (gQ _ _)) h
  |enter O ac ha=>
   have ab:=(U.mono W).push (Cv ((hE.mono W).calls _ O) ac ha .normal .normal) rfl (.inl rfl);have Y:=U.pS.todo;obtain⟨fn,tm,td,df,md,kd,rd⟩:=fr;obtain⟨ag,ah,ai,aj,ak,am,an⟩:=fr';simp only at Y
   cases Y with
   |nil=>exact out ab h
   |cons hi _=>cases hi<;>exact out ab h
  |round hl Y ha ac=>
   rename_i l l' f t t' a c;have ao:fK dy (e8 l f t a c .normal) (e8 l' f t' a c .normal):=⟨rfl,Y,.cons (.code _ ha) (.cons .beginRound (.cons (.code _ ac) .nil)),.nil,.run,.some hl⟩;exact out ((U.mono W).push ao rfl (.inl rfl)) h
  |defer hd=>
   have ap:fK dy {fr with defers:=_::fr.defers} {fr' with defers:=_::fr'.defers}:=⟨U.pS.fn,U.pS.tmps.mono W,(U.pS.mono W).todo,.cons hd (U.pS.mono W).defers,(U.pS.mono W).mode,(U.pS.mono W).round⟩;have O:=ap.finish (.undef dy);exact out (U.set W O.1 O.2.1 O.2.2 (fg _ _) (gQ _ _)) h
  |recover=>
   have aq:=U.mono W;have Y:=tB aq;have ad:=U.pS.round;obtain⟨fn,tm,td,df,md,kd,rd⟩:=fr;obtain⟨ag,ah,ai,aj,ak,am,an⟩:=fr';simp only at ad
   cases ad with
   |none=>
    dsimp only at h⊢;revert Y h;generalize aO _ _=p;generalize aO _ _=p';intro h Y
    cases Y with
    |none=>
     have O:=(U.pS.mono W).finish (.nilIface (m:=dy));exact out (U.set W O.1 O.2.1 O.2.2 (fg _ _) (gQ _ _)) h
    |some hx=>
     rename_i x y;obtain⟨v,c⟩:=x;obtain⟨v',c'⟩:=y;have O:=(U.pS.mono W).finish hx.1;exact out (hx.2.set (.refl dy) O.1 O.2.1 O.2.2 (fg _ _) (gQ _ _)) h
   |some av=>
    dsimp only at h⊢;rw[if_pos hE.RM]at h⊢;revert Y h;generalize aO _ _=p;generalize aO _ _=p';intro h Y
    cases Y with
    |none=>
     have O:=(U.pS.mono W).finish (.nilIface (m:=dy));exact out (U.set W O.1 O.2.1 O.2.2 (fg _ _) (gQ _ _)) h
    |some hx=>
     rename_i x y;obtain⟨v,c⟩:=x;obtain⟨v',c'⟩:=y;have O:=(U.pS.mono W).finish hx.1;exact out (hx.2.set (.refl dy) O.1 O.2.1 O.2.2 (fg _ _) (gQ _ _)) h
  |spawn aw hd=>
   exfalso;dsimp only at h;generalize aR P fr.fn _=X at h;rw[apply_ite (cK X)]at h
   have key:∀(c:Prop)[Decidable c] (A B C:GStep),(if c then A else B)=C->A=C\/B=C:=by
    intro c _ A B C hh;split at hh
    .exact .inl hh
    .exact .inr hh
   rcases key _ _ _ _ h with h|h
   .simp[aU,bj,cK,G]at h
   .simp[cK]at h
  |comm bl sh hq hc=>cases h
 |halt x wn=>
  cases x with
  |panic v=>
   obtain⟨dy,v',aa,es₁,e1,W,e3,e4,_,e6,e7⟩:=hr;rw[e1];simp only[a8]at h⊢;have O:=(U.pS.mono W).raise (vs:=[{v,recovered:=false}]) (vs':=[{v:=v',recovered:=false}]) (.cons ⟨e3,rfl,rfl⟩ .nil);obtain⟨⟨rfl,rfl,_⟩,rfl,_⟩:=h;exact⟨dy,_,cs',aa,_,rfl,W,U.set W O.1 O.2.1 O.2.2 (nW ..) (tn ..),e4,e6,tc e7⟩
  |unsupported u=>cases u<;>first|exact hr.elim|cases h
  |stuck y=>cases h
  |throw y=>simp[aU,bj,cK,G]at h
  |_=>exact hr.elim
end
end
section
open Go.Conc
variable {t t':Array Value} {l l':Nat}
section
variable {P:Program} {m:Ren} {T:List Frame}
theorem yU(id:Nat):∀{k k':List Item},dO (jz m) k k'->l5 (dO (jz m)) (bn id k) (bn id k')
 |_,_,.nil=>.none
 |_,_,.cons hi h=>by
  cases hi with
  |inBlock i=>
   unfold bn;split
   .exact .some h
   .exact yU id h
  |_=>unfold bn; exact yU id h
theorem py{ok:Oper->Prop}(l:Nat):∀(c c':Code),fD ok c->bg c l=some c'->fD ok c'
 |.seq a b,c',h,e=>by
  unfold bg at e
  cases B:bg a l with
  |some r=>
   rw[B]at e;simp only[gg]at e;subst e;exact⟨py l a r h.1 B,h.2⟩
  |none=>
   rw[B]at e;exact py l b c' h.2 e
 |.label l',c',h,e=>by
  unfold bg at e;split at e
  .cases e; trivial
  .cases e
 |.skip,_,_,e|.region ..,_,_,e|.cond ..,_,_,e|.block ..,_,_,e|.loop ..,_,_,e|.rangeFunc ..,_,_,e|.exit ..,_,_,e|.scope ..,_,_,e|.goto ..,_,_,e|.ret,_,_,e|.refuse ..,_,_,e=>by cases e
theorem yG(l:Nat):∀{k k':List Item},dO (jz m) k k'->l5 (dO (jz m)) (bm l k) (bm l k')
 |_,_,.nil=>.none
 |_,_,.cons hi h=>by
  cases hi with
  |inScope c B=>
   unfold bm
   cases O:bg c l with
   |none=>exact yG l h
   |some r=>exact .some (.cons (.code r (py l c r B O)) (.cons (.inScope c B) h))
  |_=>unfold bm; exact yG l h
theorem lO(ops:Array Oper)(h:ep m t t')(j:Nat):bc ops t' j=bc ops t j:=by
 unfold bc
 cases(ops[j]?).bind _ with
 |none=>rfl
 |some d=>
  simp only[gs]
  cases O:t[d]? with
  |none=>rw[h.get_none O]
  |some v=>
   obtain⟨v',B,U⟩:=h.get O;rw[B];cases U<;>first|rfl|skip
   rename_i W;cases v'<;>first|rfl|exact W.elim
theorem lF{fn:Func}(h:ep m t t'):dw P VR m (bz fn t) (bz fn t'):=by
 unfold bz;rw[a0,a0];simp only[map_eq_pure_bind,bind_assoc,pure_bind];refine dC (s6 (Q:=VR) (λ_ _ _ _ h x=>x.mono h) _ m λr _ m' Y=>?_) λm' a c _ U=>?_
 .cases r with
  |tmp t=>exact .pure ((h.mono Y).getD t)
  |cell a t=>exact Bm ((h.mono Y).getD a) λp p' hp=>BI hp
 .refine .pure ?_;have B:ep m' .. := U;by_cases O:a.toArray.size=1
  .have W:c.toArray.size=1:=by rw[<-B.size]; exact O
   rw[dif_pos O,dif_pos W];exact B.idx 0 ..
  .have W:¬c.toArray.size=1:=by rw[<-B.size]; exact O
   rw[dif_neg O,dif_neg W];exact .kS B
theorem Gs{o o':List PanicEntry}(h:dO (Rp m) o o'):dO (Rp m) (o.dropWhile (!·.goexit)) (o'.dropWhile (!·.goexit)):=by
 induction h with
 |nil=>exact .nil
 |cons B _ O=>
  simp only[List.dropWhile_cons,B.ex];split
  .exact O
  .exact .cons B ‹_›
theorem Ja{fr fr' c c':Frame}{cs cs':List Frame}(hS:dR P m T (fr::c::cs) (fr'::c'::cs'))(hk:fr'.kind=fr.kind)(ho:G8 fr.kind)(U:dR P m T (c::cs) (c'::cs')){v v':Value}(hv:VR m v v'){main main':Bool}{w w':World}(hw:WR m w w'){eZ:Frame}{fc:List Frame}{w₁:World}{es:Array Event}
  (h:aP P main fr (c::cs) none v w=.go (G eZ fc) w₁ es):∃B,aP P main' fr' (c'::cs') none v' w'=.go (G B cs') w'/\dR P m T (eZ::fc) (B::cs')/\w₁=w:=by
 unfold aP at h⊢;rw[hk];rcases ho with ho|ho
 .rw[ho]at h⊢;obtain⟨⟨rfl,rfl,_⟩,rfl,_⟩:=h;have hf:=U.pS.finish hv;exact⟨_,rfl,U.set (.refl m) hf.1 hf.2.1 hf.2.2 (fg ..) (gQ ..),rfl⟩
 .rw[ho]at h⊢;have hm:=U.pS.mode;obtain⟨ah,ai,aj,ak,ar,am,an⟩:=c;obtain⟨Y,aa,ab,ac,aq,ad,ae⟩:=c'
  have kZ:∀{md O},sk m md O->dR P m T (⟨ah,ai,aj,ak,md,am,an⟩::cs) (⟨Y,aa,ab,ac,O,ad,ae⟩::cs'):=λaf=>
   U.set (.refl m) ⟨U.pS.fn,U.pS.tmps,U.pS.todo,U.pS.defers,af,U.pS.round⟩ rfl rfl rfl rfl
  have fin:∀{md O},sk m md O->GStep.go (G ⟨ah,ai,aj,ak,md,am,an⟩ cs) w=.go (G eZ fc) w₁ es->∃B,GStep.go (G ⟨Y,aa,ab,ac,O,ad,ae⟩ cs') w'=.go (G B cs') w'/\dR P m T (eZ::fc) (B::cs')/\w₁=w:=by
   intro md O af hh;obtain⟨⟨rfl,rfl,_⟩,rfl,_⟩:=hh;exact⟨_,rfl,kZ af,rfl⟩
  cases hm with
  |run=>exact fin .run h
  |returning=>exact fin .returning h
  |panicking ao=>
   cases ao with
   |nil=>exact fin (.panicking .nil) h
   |cons hp ht=>
    rename_i p p' ag W;obtain⟨pv,pr,px⟩:=p;obtain⟨au,ap,av⟩:=p';obtain⟨h1,h2,h3⟩:=hp;subst h2 h3
    cases ap with
    |false=>
     have hp:Rp m .. := ⟨h1,rfl,rfl⟩;exact fin (.panicking (.cons hp ht)) h
    |true=>
     have hd:=Gs ht;simp only at h⊢;revert hd h;generalize ag.dropWhile _=o;generalize W.dropWhile _=o';intro h hd
     cases hd with
     |nil=>exact fin .returning h
     |cons hq hr=>exact fin (.panicking (.cons hq hr)) h
theorem pb{γ δ:Type}{RB:Ren->γ->δ->Prop}(O:m.blk l=some l'){f:Loop->Sem γ}{f':Loop->Sem δ}(h:∀p B,wm m p B->dw P RB m (f p) (f' B)):dw P RB m (bO l >>= f) (bO l' >>= f'):=by
 refine fI O λo o' U=>?_;cases U<;>first|exact .dz trivial|exact h _ _ ‹_›
theorem n9{l:Loop}:∀x y z,Obj.loop l≠.cells x y z:=nofun
theorem Hy(O:m.blk l=some l'){j:Option Code}(U:∀c,j=some c->fD m.ok c):dw P VR m (bD l j) (bD l' j):=by
 refine pb O λp W B=>jH O (.loop ⟨rfl,rfl,U,B.fn,B.tmps,B.params,B.assign,B.body,B.SR,B.xh,B.defers⟩) n9 (.pure (.bool _))
theorem Cg(O:m.blk l=some l'):dw P zZ m (bH l) (bH l'):=by
 refine pb O λp U B=>jH O (.loop ⟨rfl,B.pending,B.TD,B.fn,B.tmps,B.params,B.assign,B.body,B.SR,B.xh,B.defers⟩) n9 ?_;rw[<-B.state];cases p.state<;>first|exact .pure trivial|exact fl (e:=.error _) trivial
theorem KP(O:m.blk l=some l'):dw P (λm a b=>a=b/\∀c,a=some c->fD m.ok c) m (cm l) (cm l'):=by
 refine pb O λp U B=>?_
 have fin:dw P (λm a b=>a=b/\∀c,a=some c->fD m.ok c) m (do setObj l (.loop {p with state:=.exhausted}); pure _) (do setObj l' (.loop {U with state:=.exhausted}); pure _):=
  jH O (.loop ⟨rfl,B.pending,B.TD,B.fn,B.tmps,B.params,B.assign,B.body,B.SR,B.xh,B.defers⟩) n9 (.pure ⟨B.pending,B.TD⟩)
 rw[<-B.state];exact dH (λ_=>dS (e:=.error _) trivial) (λ_=>fin)
theorem yn(U:m.blk l=some l'){d d':Deferred}(W:DR m d d'):dw P zZ m (bL l d) (bL l' d'):=by
 refine pb U λp p' O=>fI O.defers λo o' Y=>?_
 cases Y with
 |deferred B=>exact pG O.defers (.deferred (.cons W B)) (nofun)
 |eR=>exact .dz trivial
 |_=>exact .dz trivial
theorem zg(O:m.blk l=some l'):dw P (λm=>dO (DR m)) m (bF l) (bF l'):=by
 refine fI O λo o' U=>?_
 cases U with
 |deferred B=>exact jH O .eR (nofun) (.pure B)
 |_=>exact .dz trivial
theorem Ei{fn:aX}(W:ep m t t'){ps:Array Tmp}{a c:Code}(Y:fD m.ok a)(hc:fD m.ok c){r r':Option Nat}(hr:l5 (λx y=>m.blk x=some y) r r'):dw P (λm x y=>m.blk x.1=some y.1/\dO (DR m) x.2 y.2) m (bY fn t ps a c r) (bY fn t' ps a c r'):=by
 have fin:∀{m':Ren}{q O:Nat}{d d':List Deferred},m.Le m'->m'.blk q=some O->dO (DR m') d d'->dw P (λm x y=>m.blk x.1=some y.1/\dO (DR m) x.2 y.2) m' (do pure (<-bt (.loop {state:=.ready,pending:=none,fn,tmps:=t,params:=ps,assign:=a,body:=c,defers:=q}),d)) (do pure (<-bt (.loop {state:=.ready,pending:=none,fn,tmps:=t',params:=ps,assign:=a,body:=c,defers:=O}),d')):=by
  intro m' q O d d' B hq hd;exact dw.new (.loop ⟨rfl,rfl,(nofun),rfl,W.mono B,rfl,rfl,rfl,B.ok▸Y,B.ok▸hc,hq⟩) (nofun) λaa i i' U hb _=>.pure ⟨hb,hd.mono λ_ _ x=>x.mono U⟩
 cases hr with
 |some hx=>exact pb hx λp p' hp=>fin (.refl m) hp.defers .nil
 |none=>exact dw.new (.deferred .nil) (nofun) λm' i i' B hb _=>fin B hb (.cons ⟨.collected hb,.nil m'⟩ .nil)
end
end
section
open Go.Conc
variable {X es:Array Event} {fr fr' eZ:Frame} {cs cs' fc:List Frame} {dy:Ren} {w w' w₁:World}
structure l6(P:Program)(m:Ren)(gl:Nat->Prop)(st:Bool):Prop where
 env:tQ P m
 strict:st=true->gF m
 ig:False->m.ig
 oh:∀g,gl g->m.blk g=some g
 ops:∀o,m.ok o->OkOp P m.fu gl st o.op
theorem l6.mono{P:Program}{m m':Ren}{gl:Nat->Prop}{st:Bool}(h:m.Le m')(x:l6 P m gl st):l6 P m' gl st:=
 ⟨x.env.mono h,λs=>(x.strict s).mono h,nofun,λg B=>h.blk _ _ (x.oh g B),λo O=>h.fu▸x.ops o (h.ok▸O)⟩
def AtClose(fr:Frame):Prop:=fr.mode≠.run/\∃a t c args ds,fr.defers={target:=.builtin .close a t c,args}::ds
section
variable {P:Program} {m:Ren} {T:List Frame} {gl:Nat->Prop} {st:Bool}
theorem tN{s:GStep}{g:Goroutine}(h:cK X s=.go g w es):∃B,s=.go g w B:=by
 cases s<;>simp[cK]at h;obtain⟨rfl,rfl,_⟩:=h;exact⟨_,rfl⟩
theorem Q1(hl:m.Le dy)(hS:dR P dy T (fr::cs) (fr'::cs'))(hn:cs=[door P]->fr.roundOf=none->False){v v':Value}(hv:VR dy v v'){main':Bool}{B:World}(hw:WR dy w B)(hk:fw m dy w' B){X':Array Event}(W:∀e∈X',oA dy e)
  (h:cK X (aP P true fr cs none v w)=.go (G eZ fc) w₁ es):nt P m T (cK X' (aP P main' fr' cs' none v' B)) w' eZ fc w₁:=by
 obtain⟨aa,h⟩:=tN h
 cases hS with
 |one hf Y h2 U=>exact(hn rfl U).elim
 |cons hf Y h2 U=>
  obtain⟨O,e1,e2,e3⟩:=Ja (.cons hf Y h2 U) Y h2 U hv (main:=true) (main':=main') hw h;subst e3;rw[e1];exact⟨dy,O,_,B,_,rfl,hl,e2,hw,hk,by simpa using W⟩
theorem mQ{f:aX}{es₁:Array Event}(h:∀e∈es₁,oA dy e):∀e∈aR P f es₁,oA dy e:=λe B=>h e (mem_seen B)
theorem still{g g':Frame}(B:WR m w w')(O:dR P m T (g::cs) (g'::cs'))
  (h:GStep.go {frame:=g,callers:=cs,status:=.running,dying:=none} w=.go (G eZ fc) w₁ es):nt P m T (GStep.go {frame:=g',callers:=cs',status:=.running,dying:=none} w') w' eZ fc w₁:=by
 obtain⟨⟨rfl,rfl,_⟩,rfl,_⟩:=h;exact⟨m,g',cs',w',#[],rfl,.refl m,O,B,.refl m w',by simp⟩
theorem GR(h:fK m fr fr'){k k':List Item}(B:dO (jz m) k k'):fK m {fr with todo:=k} {fr' with todo:=k'}:=⟨h.fn,h.tmps,B,h.defers,h.mode,h.round⟩
theorem S9(h:fK m fr fr'){k k':FrameMode}(B:sk m k k'):fK m {fr with mode:=k} {fr' with mode:=k'}:=⟨h.fn,h.tmps,h.todo,h.defers,B,h.round⟩
theorem nt.after{s':GStep}{B:World}(W:m.Le dy)(Y:fw m dy w' B)(hX:∀e∈X,oA dy e)(h:nt P dy T s' B eZ fc w₁):nt P m T (cK X s') w' eZ fc w₁:=by
 obtain⟨m₂,f,c,O,es,rfl,U,h3,h4,h5,h6⟩:=h;refine⟨m₂,f,c,O,X++es,rfl,W.trans U,h3,h4,Y.trans W U h5,λe he=>?_⟩;rcases a9.1 he with x|x
 .exact(hX e x).mono U
 .exact h6 e x
theorem K8{ρ ρ':Operand->Value}(U:∀x,dP m.fu gl x->VR m (ρ x) (ρ' x)){c:Call}(hc:(∀x∈c.operands.toList,dP m.fu gl x)/\match c.callee with|.value _=>True|.builtin b=>b=.close/\m.ig|_=>False)(t:aN):dw P DR m (bk ρ c t) (bk ρ' c t):=by
 obtain⟨B,O⟩:=hc;obtain⟨callee,args,ats⟩:=c
 cases callee with
 |invoke r n=>exact O.elim
 |builtin bb=>
  have W:=kh U λx Y=>B x (by simp[gt]; simpa using Y);obtain⟨O,aa⟩:=O;subst O;exact .pure ⟨.builtin _ _ _ aa,W⟩
 |value f=>
  have W:=kh U λx Y=>B x (by simp[gt]; exact .inr (by simpa using Y));exact(oT (U f (B f (by simp[gt]))) W).mono λ_ _ _ _ h=>h.1
theorem LY{r:Nat}(B:m.dead r)(O:WR m w w'):∃x w₁,(bF r).run P w=.halt x w₁:=by
 obtain⟨_,c,e,f,U⟩:=O.dead r B;unfold bF;exact⟨_,_,by simp only[getObj,bind,Sem.bind,cL,U]; rfl⟩
theorem mS(s:GStep):cK #[] s=s:=by cases s<;>simp[cK]
end
end
section
open Go.Conc
variable {P:Program} {m:Ren} {s:Sem Go.Next} {α β:Type} {w w' w₁:World}
def tp(w:World)(τ:Nat->Question->Nat):World:={w with tape:=τ}
def D3{α:Type}:Result α->World
 |.ok _ w=>w
 |.halt _ w=>w
def xU{α:Type}(P:Program)(s:Sem α)(w:World)(τ:Nat->Question->Nat):Result α->Prop
 |.ok a w₁=>s.run P (tp w τ)=.ok a (tp w₁ τ)
 |.halt (.panic v) w₁=>s.run P (tp w τ)=.halt (.panic v) (tp w₁ τ)
 |_=>True
def uR(τ:Nat->Question->Nat)(w w₁:World):Prop:=∀i,w.drawn<=i->i<w₁.drawn->τ i=w.tape i
def Rl{α:Type}(P:Program)(s:Sem α)(w:World):Prop:=
 w.drawn<=(D3 (s.run P w)).drawn/\(D3 (s.run P w)).tape=w.tape/\∀τ,uR τ w (D3 (s.run P w))->xU P s w τ (s.run P w)
def Loc{α:Type}(P:Program)(s:Sem α)(w:World):Prop:=(∃x w₁,s.run P w=.halt x w₁/\jS x)\/Rl P s w
theorem Loc.step{s:Sem α}{k:Sem α}(h:Loc P k w₁)(e:s.run P w=k.run P w₁)(hd:w₁.drawn=w.drawn)(ht:w₁.tape=w.tape)(O:∀τ,s.run P (tp w τ)=k.run P (tp w₁ τ)):Loc P s w:=by
 rcases h with⟨x,U,W,Y⟩|⟨W,Y,h3⟩
 .exact .inl ⟨x,U,e.trans W,Y⟩
 .refine .inr ⟨by rw[e,<-hd]; exact W,by rw[e,Y,ht],λτ B=>?_⟩;rw[e]at B⊢;have:=h3 τ λi a b=>by rw[ht]; exact B i (hd▸a) b
  revert this
  cases k.run P w₁ with
  |ok a w2=>intro h; show s.run P _=_; rw[O]; exact h
  |halt x w2=>cases x<;>intro h<;>first|trivial|(show s.run P _=_; rw[O]; exact h)
theorem dw.loc{RA:Ren->α->β->Prop}{s:Sem α}{s':Sem β}(h:dw P RA m s s'):∀(w w':World),WR m w w'->Loc P s w:=by
 induction h with
 |dz hd=>exact λw w' _=>.inl (hd.run w)
 |pure hr=>exact λw w' _=>.inr ⟨eg _,rfl,λτ _=>rfl⟩
 |@load m a a' k k' ha _ O=>
  intro w w' B
  cases Y:w.cell? a with
  |some v=>
   obtain⟨v',aj,hv⟩:=B.cell ha Y;refine(O v v' hv w w' B).step (by simp only[cL,Y]) rfl rfl λτ=>?_;have aa:(tp w τ).cell? a=some v:=Y;simp only[cL,aa]
  |none=>
   obtain⟨y,hy⟩:=B.Pw ha Y P (Mode.plain==.atomic);exact .inl ⟨.stuck y,w,by simp only[cL,Y,hy],trivial⟩
 |@store m a a' v v' k k' ha hv _ O=>
  intro w w' B;by_cases U:∃c,v=.agg c
  .obtain⟨c,rfl⟩:=U;exact .inl ⟨.stuck "store: not the value of one cell",w,by simp only[cL],trivial⟩
  by_cases h2:∃c,v=.tuple c
  .obtain⟨c,rfl⟩:=h2;exact .inl ⟨.stuck "store: not the value of one cell",w,by simp only[cL],trivial⟩
  have e1:∀w:World,(Sem.store Mode.plain a v k).run P w=match w.cell? a with
    |some _=>if w.frozen? a then .halt (.unsupported (.unsafePointer "a write to bytes that a string shares")) w else k.run P (w.setCell a v)
    |none=>match w.farStore P a v (Mode.plain==.atomic)with
     |.ok (w,_)=>k.run P w
     |.error h=>.halt h w:=by
   intro w;rw[cL]
   .rfl
   .exact λc e=>U ⟨c,e⟩
   .exact λc e=>h2 ⟨c,e⟩
  cases Y:w.cell? a with
  |none=>
   obtain⟨y,hy⟩:=B.J0 ha Y P v (Mode.plain==.atomic);exact .inl ⟨.stuck y,w,by rw[e1,Y]; simp only[hy],trivial⟩
  |some u=>
   by_cases hf:w.frozen? a=true
   .exact .inl ⟨.unsupported (.unsafePointer "a write to bytes that a string shares"),w,by rw[e1,Y]; simp only[hf,if_true],trivial⟩
   .refine(O (w.setCell a v) _ (B.setCell ha hv λah=>by cases v<;>first|exact ah.elim|exact U ⟨_,rfl⟩|exact h2 ⟨_,rfl⟩)).step (by rw[e1,Y]; simp only[hf,if_false,dr]) rfl rfl λτ=>?_;have aa:(tp w τ).cell? a=some u:=Y;have ai:¬(tp w τ).frozen? a=true:=hf;rw[e1,aa];simp only[ai,if_false,dr];rfl
 |@new m o o' k k' ho Y _ O=>
  intro w w' B;have ab:=Ren.uv B.gH B.lH B.Sl;have ac:(m.ext w.heap.size w'.heap.size B.gH B.lH B.Sl).blk w.heap.size=some w'.heap.size:=by simp[Ren.ext]
  exact(O _ _ _ ab ac (by simp[Ren.ext]) {w with heap:=w.heap.push o} _ (B.push ho Y)).step rfl rfl rfl λτ=>rfl
 |@pV m c b x s r t c' b' x' s' r' t' k k' ak _ O=>
  intro w w' B;have ab:=Ren.xp B.qe B.nC;have ac:(m.sV w.heap.size w'.heap.size B.qe B.nC).ch w.heap.size=some w'.heap.size:=by simp[Ren.sV]
  exact(O _ _ _ ab ac {w with heap:=w.heap.push (.chan c b x s r t)} _ (B.Ow (.chan c b x s r t) (.chan c' b' x' s' r' t'))).step rfl rfl rfl λτ=>rfl
 |shape hb _ O=>exact λw w' B=>(O _ w w' B).step rfl rfl rfl λτ=>rfl
 |@freeze m a a' n k k' ha hn _ O=>
  intro w w' B;refine(O (w.freeze a n) _ (B.freeze ha hn n)).step rfl (by unfold gv; split<;>rfl) (by unfold gv; split<;>rfl) λτ=>?_;have:(tp w τ).freeze a n=tp (w.freeze a n) τ:=by unfold gv; split<;>rfl
  simp only[cL,this]
 |frozen ha hn _ O=>exact λw w' B=>(O _ w w' B).step rfl rfl rfl λτ=>rfl
 |getObj hb _ O=>
  intro w w' B;obtain⟨x,x',U,h2,ho⟩:=B.obj _ _ hb;have W:∀τ,(tp w τ).heap[_]?=some x:=λ_=>U
  cases ho with
  |cells=>exact .inl ⟨.stuck "getObj: a row of cells",w,by simp only[cL,U],trivial⟩
  |map clock he=>exact(O _ _ (.map clock he) w w' B).step (by simp only[cL,U]) rfl rfl λτ=>by simp only[cL,W]
  |number l hx=>exact(O _ _ (.number l hx) w w' B).step (by simp only[cL,U]) rfl rfl λτ=>by simp only[cL,W]
  |stringIter s p=>exact(O _ _ (.stringIter s p) w w' B).step (by simp only[cL,U]) rfl rfl λτ=>by simp only[cL,W]
  |fU a b c=>exact(O _ _ (.fU a b c) w w' B).step (by simp only[cL,U]) rfl rfl λτ=>by simp only[cL,W]
  |mapIter a b c hm=>exact(O _ _ (.mapIter a b c hm) w w' B).step (by simp only[cL,U]) rfl rfl λτ=>by simp only[cL,W]
  |loop hl=>exact(O _ _ (.loop hl) w w' B).step (by simp only[cL,U]) rfl rfl λτ=>by simp only[cL,W]
  |eR=>exact(O _ _ .eR w w' B).step (by simp only[cL,U]) rfl rfl λτ=>by simp only[cL,W]
  |deferred hd=>exact(O _ _ (.deferred hd) w w' B).step (by simp only[cL,U]) rfl rfl λτ=>by simp only[cL,W]
 |@setObj m r r' o o' k k' hb ho Y _ O=>
  intro w w' B;obtain⟨x,x',U,h2,hx⟩:=B.obj _ _ hb;have W:∀τ,(tp w τ).heap[r]?=some x:=λ_=>U;rcases Classical.em (m.loose r)with ad|ad
  .obtain⟨c,e,f,hy⟩:=B.lk _ _ hb ad;exact .inl ⟨.stuck "setObj: a row of cells",w,by simp only[cL,hy],trivial⟩
  have ae:=B.turn hb ho (λc e f c' e' f' e1 _=>absurd e1 (Y c e f)) (λh=>absurd h ad) (λc e f c' e' f' e1 _=>absurd e1 (Y c e f));have fin:=O {w with heap:=w.heap.setIfInBounds r o} _ ae
  cases hx with
  |cells=>exact .inl ⟨.stuck "setObj: a row of cells",w,by simp only[cL,U],trivial⟩
  |_=>
   refine fin.step ?_ rfl rfl λτ=>?_
   .simp only[cL,U]
   .simp only[cL,W];rfl
 |@choose m q k k' _ O=>
  intro w w' B;by_cases hf:q.forced=true
  .exact(O 0 w w' B).step (by simp only[cL,hf,if_true]) rfl rfl λτ=>by simp only[cL,hf,if_true]
  .have e:(Sem.choose q k).run P w=(k (q.cut (w.tape w.drawn q))).run P {w with drawn:=w.drawn+1}:=by simp only[cL,hf,if_false,dr]
   rcases O (q.cut (w.tape w.drawn q)) {w with drawn:=w.drawn+1} w' (B.draw _ w'.drawn)with⟨x,ag,U,h2⟩|⟨U,h2,h3⟩
   .exact .inl ⟨x,ag,e.trans U,h2⟩
   .refine .inr ⟨by rw[e]; exact ee (ev _) U,by rw[e,h2],λτ af=>?_⟩;rw[e]at af⊢;have e0:τ w.drawn=w.tape w.drawn:=af _ (eg _) (ek U)
    have e2:(Sem.choose q k).run P (tp w τ)=(k (q.cut (w.tape w.drawn q))).run P (tp {w with drawn:=w.drawn+1} τ):=by
     simp only[cL,hf,if_false,dr];show(k (q.cut (τ w.drawn q))).run P _=_;rw[e0]; rfl
    have:=h3 τ λi a b=>af i (en a) b;revert this
    cases(k _).run P _ with
    |ok a w2=>intro h; show(Sem.choose q k).run P _=_; rw[e2]; exact h
    |halt x w2=>cases x<;>intro h<;>first|trivial|(show(Sem.choose q k).run P _=_; rw[e2]; exact h)
 |gone hd=>
  intro w w' B;obtain⟨_,c,e,f,hx⟩:=B.dead _ hd;exact .inl ⟨.stuck "getObj: a row of cells",w,by simp only[cL,hx],trivial⟩
 |env _ O=>exact λw w' B=>(O _ w w' B).step rfl rfl rfl λτ=>rfl
 |program _ O=>exact λw w' B=>(O w w' B).step rfl rfl rfl λτ=>rfl
 |mark hm _ O=>exact λw w' B=>(O w w' B).step rfl rfl rfl λτ=>rfl
 |panic hv=>exact λw w' _=>.inr ⟨eg _,rfl,λτ _=>rfl⟩
theorem align(h:WR m w w'):∃B:World,WR m w B/\Al w B/\B.heap=w'.heap:=by
 refine⟨{w' with tape:=λi q=>w.tape (i-w'.drawn+w.drawn) q},⟨h.obj,h.fz,h.all,h.M5,h.M4,h.JP,h.os,h.kJ,h.lk,h.dead,h.rP⟩,λi q=>?_,rfl⟩;show w.tape _ q=w.tape _ q;have:w'.drawn+i-w'.drawn+w.drawn=w.drawn+i:=by omega
 rw[this]
theorem kM.loc{RA:Ren->α->β->Prop}{s:Sem α}{s':Sem β}(h:kM P RA m s s'):∀(w w':World),WR m w w'->Loc P s w:=by
 induction h with
 |base h=>exact h.loc
 |@bind γ δ RC m s s' f f' h _ ih=>
  intro w w' hw;obtain⟨ab,ac,ad,_⟩:=align hw;have O:=h.run w ab #[] ac (.inl ad);rcases h.loc w w' hw with⟨x,U,W,Y⟩|⟨W,Y,h3⟩
  .exact .inl ⟨x,U,by rw[cO,W]; rfl,Y⟩
  .cases hr:s.run P w with
   |halt x wn=>
    have eb:(s.bind f).run P w=.halt x wn:=by rw[cO,hr]; rfl
    rw[hr]at W Y h3 O
    cases x with
    |panic v=>
     refine .inr ⟨by rw[eb]; exact W,by rw[eb]; exact Y,λτ B=>?_⟩;rw[eb]at B⊢;have:=h3 τ B;show(s.bind f).run P (tp w τ)=_;rw[cO,show s.run P (tp w τ)=.halt (.panic v) (tp wn τ)from this];rfl
    |unsupported u=>cases u<;>first|exact O.elim|exact .inl ⟨_,wn,eb,trivial⟩
    |stuck y=>exact .inl ⟨_,wn,eb,trivial⟩
    |throw y=>exact .inl ⟨_,wn,eb,trivial⟩
    |_=>exact O.elim
   |ok a wn=>
    rw[hr]at W Y h3 O;obtain⟨dy,b,ae,es₁,e1,e2,e3,e4,_⟩:=O;have eb:(s.bind f).run P w=(f a).run P wn:=by rw[cO,hr]; rfl
    rcases ih dy a b e2 e3 wn ae e4 with⟨x,U,g1,g2⟩|⟨g1,g2,g3⟩
    .exact .inl ⟨x,U,eb.trans g1,g2⟩
    .refine .inr ⟨by rw[eb]; exact ee W g1,by rw[eb,g2]; exact Y,λτ B=>?_⟩;rw[eb]at B⊢;have ha:=h3 τ λi x y=>B i x (ej y g1);have hb:=g3 τ λi x y=>by rw[show wn.tape=w.tape from Y]; exact B i (ee W x) y
     have aa:(s.bind f).run P (tp w τ)=(f a).run P (tp wn τ):=by rw[cO,ha]; rfl
     revert hb
     cases(f a).run P wn with
     |ok c w2=>intro h; show(s.bind f).run P _=_; rw[aa]; exact h
     |halt x w2=>cases x<;>intro h<;>first|trivial|(show(s.bind f).run P _=_; rw[aa]; exact h)
 |@TF m q k s' hd h=>
  intro w w' hw;by_cases hf:q.forced=true
  .exact((h 0).loc w w' hw).step (by simp only[cL,hf,if_true]) rfl rfl λτ=>by simp only[cL,hf,if_true]
  .have e:(Sem.choose q k).run P w=(k (q.cut (w.tape w.drawn q))).run P {w with drawn:=w.drawn+1}:=by simp only[cL,hf,if_false,dr]
   rcases(h _).loc _ w' (hw.draw _ _)with⟨x,U,W,Y⟩|⟨W,Y,h3⟩
   .exact .inl ⟨x,U,e.trans W,Y⟩
   .refine .inr ⟨by rw[e]; exact ee (ev _) W,by rw[e,Y],λτ B=>?_⟩;rw[e]at B⊢;have e0:=B _ (eg _) (ek W)
    have e2:(Sem.choose q k).run P (tp w τ)=(k (q.cut (w.tape w.drawn q))).run P (tp {w with drawn:=w.drawn+1} τ):=by
     simp only[cL,hf,if_false,dr];show(k (q.cut (τ w.drawn q))).run P _=_;rw[e0]; rfl
    have:=h3 τ λi a b=>B i (en a) b;revert this
    cases(k _).run P _ with
    |ok a w2=>intro h; show(Sem.choose q k).run P _=_; rw[e2]; exact h
    |halt x w2=>cases x<;>intro h<;>first|trivial|(show(Sem.choose q k).run P _=_; rw[e2]; exact h)
def xA(P:Program)(s:World->GStep)(w:World)(eZ:Frame)(fc:List Frame)(w₁:World):Prop:=
 w.drawn<=w₁.drawn/\w₁.tape=w.tape/\∀τ,uR τ w w₁->∃es,s (tp w τ)=.go (G eZ fc) (tp w₁ τ) es
theorem gq{s:Sem α}{r:Result α}(h:s.run P w=r):∃es,s.runT P w #[]=(r,es):=by
 refine⟨(s.runT P w #[]).2,?_⟩;rw[<-h,<-cM P s w _]
theorem Mt(Y:P.follows .rangeFuncRecover=true){fr:Frame}{cs:List Frame}(U:Loc P s w)(ac:∀n O,s.run P w=.ok n O->∃m n',gP P m n n')(ab:∀x O,s.run P w=.halt x O->(∃v,x=.panic v)\/jS x){eZ:Frame}{fc:List Frame}{es:Array Event}
  (h:cI P true fr cs none s w=.go (G eZ fc) w₁ es):xA P (cI P true fr cs none s) w eZ fc w₁:=by
 rcases hrt:s.runT P w #[]with⟨r,ag⟩;have W:s.run P w=r:=by rw[<-cM P s w #[],hrt]
 unfold cI at h;simp only[if_true]at h;rw[hrt]at h;rcases U with⟨x,af,h1,h2⟩|⟨h1,h2,h3⟩
 .rw[W]at h1;subst h1;exfalso
  cases x with
  |unsupported u=>cases u<;>first|exact h2.elim|cases h
  |stuck y=>cases h
  |throw y=>simp[aU,bj,cK,G]at h
  |_=>exact h2.elim
 .rw[W]at h1 h2 h3
  have fin:∀{X:Array Event}{g:Goroutine}{O:World},D3 r=O->cK X (.go g O)=.go (G eZ fc) w₁ es->(∀τ,xU P s w τ r->∃X',cI P true fr cs none s (tp w τ)=cK X' (.go g (tp O τ)))->xA P (cI P true fr cs none s) w eZ fc w₁:=by
   intro X g O e hh hk;simp only[cK,hH]at hh;obtain⟨rfl,rfl,_⟩:=hh;subst e;refine⟨h1,h2,λτ ad=>?_⟩;obtain⟨X',e⟩:=hk τ (h3 τ ad);exact⟨_,e⟩
  have plain:∀{X:Array Event}{g:Goroutine}{O:World},D3 r=O->cK X (.go g O)=.go (G eZ fc) w₁ es->(∀τ es',s.runT P (tp w τ) #[]=(match r with|.ok n w=>.ok n (tp w τ)|.halt x w=>.halt x (tp w τ),es')->∃X',cI P true fr cs none s (tp w τ)=cK X' (.go g (tp O τ)))->(∃n O,r=.ok n O)\/(∃v O,r=.halt (.panic v) O)->xA P (cI P true fr cs none s) w eZ fc w₁:=by
   intro X g O e hh hk hr;refine fin e hh λτ U=>?_;rcases hr with⟨n,O,rfl⟩|⟨v,O,rfl⟩
   .obtain⟨e',e⟩:=gq U;exact hk τ e' e
   .obtain⟨e',e⟩:=gq U;exact hk τ e' e
  cases r with
  |ok n O=>
   obtain⟨m,n',hn⟩:=ac n O W
   cases hn with
   |value hv=>exact plain rfl h (λτ es' e=>by unfold cI; simp only[if_true,e]; exact⟨_,rfl⟩) (.inl ⟨_,_,rfl⟩)
   |skip=>exact plain rfl h (λτ es' e=>by unfold cI; simp only[if_true,e]; exact⟨_,rfl⟩) (.inl ⟨_,_,rfl⟩)
   |enter hf ae ha=>exact plain rfl h (λτ es' e=>by unfold cI; simp only[if_true,e]; exact⟨_,rfl⟩) (.inl ⟨_,_,rfl⟩)
   |round U ht ha ae=>exact plain rfl h (λτ es' e=>by unfold cI; simp only[if_true,e]; exact⟨_,rfl⟩) (.inl ⟨_,_,rfl⟩)
   |defer hd=>exact plain rfl h (λτ es' e=>by unfold cI; simp only[if_true,e]; exact⟨_,rfl⟩) (.inl ⟨_,_,rfl⟩)
   |comm bl sh hq hc=>cases h
   |spawn ah hd=>
    exfalso;clear plain fin h1 h2 h3 hrt W;dsimp only at h;generalize aR P fr.fn _=X at h;rw[apply_ite (cK X)]at h
    have key:∀(c:Prop)[Decidable c] (A B C:GStep),(if c then A else B)=C->A=C\/B=C:=by
     intro c _ A B C hh;split at hh
     .exact .inl hh
     .exact .inr hh
    rcases key _ _ _ _ h with h|h
    .simp[aU,bj,cK,G]at h
    .simp[cK]at h
   |recover=>
    clear plain;obtain⟨fn,tm,td,df,md,kd,rd⟩:=fr
    cases rd with
    |none=>
     dsimp only at h;revert h;generalize aa:aO _ cs=p;intro h
     cases p with
     |none=>
      refine fin rfl h λτ U=>?_;obtain⟨e',e⟩:=gq U;unfold cI;simp only[if_true,e];rw[aa];exact⟨_,rfl⟩
     |some x=>
      obtain⟨v,c⟩:=x;refine fin rfl h λτ U=>?_;obtain⟨e',e⟩:=gq U;unfold cI;simp only[if_true,e];rw[aa];exact⟨_,rfl⟩
    |some l=>
     dsimp only at h;rw[if_pos Y]at h;revert h;generalize aa:aO _ cs=p;intro h
     cases p with
     |none=>
      refine fin rfl h λτ U=>?_;obtain⟨e',e⟩:=gq U;unfold cI;simp only[if_true,e,Y];rw[aa];exact⟨_,rfl⟩
     |some x=>
      refine fin rfl h λτ U=>?_;obtain⟨e',e⟩:=gq U;unfold cI;simp only[if_true,e,Y];rw[aa];exact⟨_,rfl⟩
  |halt x O=>
   cases x with
   |panic v=>exact plain rfl h (λτ es' e=>by unfold cI; simp only[if_true,e]; exact⟨_,rfl⟩) (.inr ⟨_,_,rfl⟩)
   |stuck y=>cases h
   |throw y=>simp[aU,bj,cK,G]at h
   |unsupported u=>
    rcases ab _ _ W with⟨v,hv⟩|hv
    .cases hv
    .cases u<;>first|exact hv.elim|cases h
   |_=>
    rcases ab _ _ W with⟨v,hv⟩|hv
    .cases hv
    .exact hv.elim
theorem kM.outs{s':Sem Go.Next}(h:kM P (gP P) m s s')(hw:WR m w w'):(∀n B,s.run P w=.ok n B->∃m n',gP P m n n')/\(∀x B,s.run P w=.halt x B->(∃v,x=.panic v)\/jS x):=by
 obtain⟨U,W,Y,_⟩:=align hw;have O:=h.run w U #[] W Y;constructor
 .intro n B e;rw[e]at O;obtain⟨dy,b,_,_,_,_,e3,_⟩:=O;exact⟨dy,b,e3⟩
 .intro x B e;rw[e]at O;cases x<;>first|exact .inl ⟨_,rfl⟩|exact .inr O
end
section
open Go.Conc
variable {d':Deferred} {fr fr':Frame} {cs cs':List Frame} {s':Sem Go.Next} {w' w₁:World}
def lz(P:Program)(d:Deferred):Goroutine:={frame:={(default:Frame)with fn:=P.funcs.size,defers:=[d],mode:=.panicking [br]},callers:=[],status:=.running,dying:=none}
inductive oH(P:Program):GStep->Prop
 |go (g c w es):oH P (.go (G g c) w es)
 |ended (o w es):oH P (.ended o w es)
 |dies (g w es):Goroutine.dyingOn P g->oH P (.go g w es)
 |comm (g c k b s w es):oH P (.comm (G g c) k b s w es)
 |spawn (g c d w es):oH P (.spawn (G g c) (lz P d) w es)
theorem oH.after{P:Program}{s:GStep}(h:oH P s)(X:Array Event):oH P (cK X s):=by
 cases h with
 |go g c w es=>exact .go ..
 |ended o w es=>exact .ended ..
 |dies g w es h=>exact .dies _ _ _ h
 |comm g c k b s w es=>exact .comm ..
 |spawn g c d w es=>exact .spawn ..
theorem sG{P:Program}(fr:Frame)(y:String)(w:World):oH P (aU fr y w):=.dies _ _ _ (dieOf_okD (P:=P) fr [] y false w)
section
variable {P:Program} {m:Ren} {T:List Frame} {gl:Nat->Prop} {st:Bool}
def Js(P:Program)(m:Ren)(T:List Frame)(s':GStep)(w':World)(g:Goroutine)(k:Array CommCase)(b:Bool)(sh:CommShape)(w₁:World):Prop:=
 ∃fr cs dy fr' cs' k' B es,g=G fr cs/\s'=.comm (G fr' cs') k' b sh B es/\(m.ig\/JD k b sh)/\m.Le dy/\dR P dy T (fr::cs) (fr'::cs')/\dO (BQ dy) k.toList k'.toList/\WR dy w₁ B/\fw m dy w' B/\∀e∈es,oA dy e
def Jf(P:Program)(m:Ren)(T:List Frame)(s':GStep)(w':World)(g ch:Goroutine)(w₁:World):Prop:=
 ∃fr cs d dy fr' cs' d' B es,g=G fr cs/\ch=lz P d/\s'=.spawn (G fr' cs') (lz P d') B es/\m.ig/\m.Le dy/\dR P dy T (fr::cs) (fr'::cs')/\DR dy d d'/\WR dy w₁ B/\fw m dy w' B/\∀e∈es,oA dy e
theorem GY(h:fK m fr fr'):fr'.noResult P=fr.noResult P:=by
 have B:=h.todo;unfold Frame.noResult
 have:fr'.oper?=fr.oper?:=by
  unfold ff;revert B;generalize fr.todo=l;generalize fr'.todo=l';intro B
  cases B with
  |nil=>rfl
  |cons hi _=>
   cases hi with
   |inRegion ops t O=>cases t<;>rfl
   |_=>rfl
 rw[this]
theorem zb{d:Deferred}(h:DR m d d'):((d'.target matches .nil):Bool)=(d.target matches .nil):=by
 have:=h.target;revert this;generalize d.target=a;generalize d'.target=b;intro x;cases x<;>rfl
theorem HJ{d:Deferred}(h:DR m d d'):d'.args.isEmpty=d.args.isEmpty:=by
 have:=h.args.size;simp[aA,this]
theorem Hi(ac:P.follows .rangeFuncRecover=true){s:Sem Go.Next}{w:World}(aa:∀n W,s.run P w=.ok n W->∃m n',gP P m n n')(Y:∀x W,s.run P w=.halt x W->(∃v,x=.panic v)\/jS x):oH P (cI P true fr cs none s w):=by
 rcases hrt:s.runT P w _ with⟨r,ad⟩;have U:s.run P w=r:=by rw[<-cM P s w _,hrt]
 unfold cI;rw[hrt];refine oH.after ?_ _
 cases r with
 |ok n W=>
  obtain⟨m,n',hn⟩:=aa n W U
  cases hn with
  |value O=>exact .go ..
  |skip=>exact .go ..
  |enter hf ab ha=>exact .go ..
  |round hl ht ha ab=>exact .go ..
  |defer hd=>exact .go ..
  |comm bl sh hq hc=>exact .comm ..
  |spawn ae hd=>
   have key:∀(c:Prop)[Decidable c] (A B:GStep),oH P A->oH P B->oH P (if c then A else B):=by
    intro c _ A B h1 h2;split
    .exact h1
    .exact h2
   exact key _ _ _ (sG ..) (.spawn ..)
  |recover=>
   obtain⟨fn,tm,td,df,md,kd,rd⟩:=fr
   cases rd with
   |none=>
    dsimp only;split<;>exact .go ..
   |some l=>
    dsimp only;split<;>exact .go ..
 |halt x W=>
  cases x with
  |panic v=>exact .go ..
  |stuck y=>exact .ended ..
  |throw y=>exact sG ..
  |unsupported u=>
   rcases Y _ _ U with⟨v,O⟩|O
   .cases O
   .cases u<;>first|exact O.elim|exact .ended ..
  |_=>
   rcases Y _ _ U with⟨v,O⟩|O
   .cases O
   .exact O.elim
theorem IP(hE:tQ P m)(hS:dR P m T (fr::cs) (fr'::cs')){s:Sem Go.Next}(hs:kM P (gP P) m s s'){w:World}(hw:WR m w w')(Y:Al w w'){g:Goroutine}{k:Array CommCase}{b:Bool}{sh:CommShape}{es:Array Event}
  (h:cI P true fr cs none s w=.comm g k b sh w₁ es):Js P m T (cI P true fr' cs' none s' w') w' g k b sh w₁:=by
 have hr:=hs.run w w' #[] hw Y;have W:=(hs.outs hw).2;unfold cI at h⊢;simp only[if_true]at h⊢;rcases hrt:s.runT P w #[]with⟨r,ab⟩;have O:s.run P w=r:=by rw[<-cM P s w #[],hrt]
 rw[O]at hr;rw[hrt]at h
 cases r with
 |ok n wn=>
  obtain⟨dy,n',aa,es₁,e1,e2,e3,e4,_,e6,e7⟩:=hr;rw[e1];simp only[a8]at h⊢
  cases e3 with
  |comm bl sh hq hc=>
   simp only[cK,GStep.comm.injEq]at h;obtain⟨rfl,rfl,rfl,rfl,rfl,_⟩:=h;exact⟨fr,cs,dy,fr',cs',_,aa,_,rfl,rfl,hq.imp (λx=>e2.ig▸x) id,e2,hS.mono e2,hc,e4,e6,tc e7⟩
  |spawn ac hd=>
   have key:∀(X:Array Event)(c:Prop)[Decidable c] (A B C:GStep),cK X (if c then A else B)=C->(c/\cK X A=C)\/(¬c/\cK X B=C):=by
    intro X c _ A B C hh;split at hh
    .exact .inl ⟨‹_›,hh⟩
    .exact .inr ⟨‹_›,hh⟩
   rcases key _ _ _ _ _ h with⟨_,h⟩|⟨hc,h⟩
   .simp[aU,bj,cK]at h
   .simp[cK]at h
  |recover=>
   obtain⟨fn,tm,td,df,md,kd,rd⟩:=fr
   cases rd with
   |none=>
    revert h;generalize aO _ cs=p;intro h;cases p<;>cases h
   |some l=>
    dsimp only at h;rw[if_pos hE.RM]at h;revert h;generalize aO _ cs=p;intro h;cases p<;>cases h
  |_=>cases h
 |halt x wn=>
  cases x with
  |panic v=>cases h
  |stuck y=>cases h
  |throw y=>cases h
  |unsupported u=>
   rcases W _ _ O with⟨v,U⟩|U
   .cases U
   .cases u<;>first|exact U.elim|cases h
  |_=>
   rcases W _ _ O with⟨v,U⟩|U
   .cases U
   .exact U.elim
theorem Gh(hE:tQ P m)(hS:dR P m T (fr::cs) (fr'::cs')){s:Sem Go.Next}(hs:kM P (gP P) m s s'){w:World}(hw:WR m w w')(aa:Al w w'){g ch:Goroutine}{es:Array Event}
  (h:cI P true fr cs none s w=.spawn g ch w₁ es):Jf P m T (cI P true fr' cs' none s' w') w' g ch w₁:=by
 have hr:=hs.run w w' #[] hw aa;have W:=(hs.outs hw).2;unfold cI at h⊢;simp only[if_true]at h⊢;rcases hrt:s.runT P w #[]with⟨r,af⟩;have O:s.run P w=r:=by rw[<-cM P s w #[],hrt]
 rw[O]at hr;rw[hrt]at h
 cases r with
 |ok n wn=>
  obtain⟨dy,n',ab,es₁,e1,Y,e3,e4,_,e6,e7⟩:=hr;rw[e1];simp only[a8]at h⊢
  cases e3 with
  |comm bl sh hq hc=>cases h
  |spawn ac hd=>
   rename_i d d';dsimp only at h⊢
   have key:∀(X:Array Event)(c:Prop)[Decidable c] (A B C:GStep),cK X (if c then A else B)=C->(c/\cK X A=C)\/(¬c/\cK X B=C):=by
    intro X c _ A B C hh;split at hh
    .exact .inl ⟨‹_›,hh⟩
    .exact .inr ⟨‹_›,hh⟩
   rcases key _ _ _ _ _ h with⟨_,h⟩|⟨hc,h⟩
   .simp[aU,bj,cK]at h
   .have ad:¬((P.follows .goNilFatal&&(d'.target matches .nil)&&d'.args.isEmpty&&fr'.noResult P)=true):=by
     rw[zb hd,HJ hd,GY hS.pS];exact hc
    have hf:=(hS.pS.mono Y).finish (.undef dy);have ae:=hS.set Y hf.1 hf.2.1 hf.2.2 (fg ..) (gQ ..);obtain⟨rfl,rfl,rfl,_⟩:=h;exact⟨_,_,d,dy,_,_,d',ab,_,rfl,rfl,(congrArg _ (if_neg ad)).trans rfl,Y.ig▸ac,Y,ae,hd,e4,e6,tc e7⟩
  |recover=>
   obtain⟨fn,tm,td,df,md,kd,rd⟩:=fr
   cases rd with
   |none=>
    revert h;generalize aO _ cs=p;intro h;cases p<;>cases h
   |some l=>
    dsimp only at h;rw[if_pos hE.RM]at h;revert h;generalize aO _ cs=p;intro h;cases p<;>cases h
  |_=>cases h
 |halt x wn=>
  cases x with
  |panic v=>cases h
  |stuck y=>cases h
  |throw y=>cases h
  |unsupported u=>
   rcases W _ _ O with⟨v,U⟩|U
   .cases U
   .cases u<;>first|exact U.elim|cases h
  |_=>
   rcases W _ _ O with⟨v,U⟩|U
   .cases U
   .exact U.elim
end
end
section
open Go.Conc
variable {fr fr':Frame} {cs cs':List Frame}
inductive jb:GStep->Prop
 |go (g w es):jb (.go g w es)
 |ended (o w es):jb (.ended o w es)
theorem jb.after{s:GStep}(h:jb s)(X:Array Event):jb (cK X s):=by
 cases h with
 |go g w es=>exact .go ..
 |ended o w es=>exact .ended ..
section
variable {P:Program} {m:Ren} {T:List Frame} {gl:Nat->Prop} {st:Bool}
def P4(P:Program)(m:Ren)(T:List Frame)(r r':GStep)(w':World):Prop:=
 (∃dy X X' fr cs fr' cs' s s' w₁ B,r=cK X (cI P true fr cs none s w₁)/\r'=cK X' (cI P true fr' cs' none s' B)/\m.Le dy/\tQ P dy/\dR P dy T (fr::cs) (fr'::cs')/\kM P (gP P) dy s s'/\WR dy w₁ B/\Al w₁ B/\fw m dy w' B/\∀e∈X',oA dy e)\/jb r
theorem R9{u:Frame}{d:List Frame}{x:World}{g:Frame}{c:List Frame}{B:World}{e:Array Event}(h:GStep.go {frame:=u,callers:=d,status:=.running,dying:=none} x=.go (G g c) B e):B=x/\∀y,∃O,GStep.go {frame:=u,callers:=d,status:=.running,dying:=none} y=.go (G g c) y O:=by
 simp only[hH]at h;obtain⟨U,rfl,_⟩:=h;exact⟨rfl,λy=>⟨#[],by rw[U]⟩⟩
theorem Cm(fr:Frame)(c:Frame)(cs:List Frame)(v:Value):∀x g d B e,aP P true fr (c::cs) none v x=.go (G g d) B e->B=x/\∀y,∃O,aP P true fr (c::cs) none v y=.go (G g d) y O:=by
 intro x g d B e h;unfold aP at h⊢;cases U:fr.kind<;>rw[U]at h<;>dsimp only at h⊢ <;> simp only[hH]at h<;>obtain⟨W,rfl,_⟩:=h<;>exact⟨rfl,λy=>⟨#[],by rw[W]⟩⟩
theorem CS(O:dR P m T (fr::cs) (fr'::cs')):∃c B,cs=c::B:=by cases O<;>exact⟨_,_,rfl⟩
theorem QC(g:Frame)(c:List Frame)(w:World):oH P (.go {frame:=g,callers:=c,status:=.running,dying:=none} w):=.go g c w _
theorem Ap(fr c:Frame)(cs:List Frame)(v:Value)(w:World):oH P (aP P true fr (c::cs) none v w):=by
 unfold aP;cases fr.kind<;>exact QC ..
theorem P4.direct(O:tQ P m)(U:dR P m T (fr::cs) (fr'::cs')){s s':Sem Go.Next}(W:kM P (gP P) m s s'){w w':World}(Y:WR m w w')(B:Al w w'):P4 P m T (cI P true fr cs none s w) (cI P true fr' cs' none s' w') w':=
 .inl ⟨m,#[],#[],fr,cs,fr',cs',s,s',w,w',(mS _).symm,(mS _).symm,.refl m,O,U,W,Y,B,.refl m w',by simp⟩
theorem q9(fr c:Frame)(cs:List Frame)(v:Value)(w:World):jb (aP P true fr (c::cs) none v w):=by
 unfold aP;cases fr.kind<;>exact .go ..
theorem s9{dy m₂:Ren}(B:dy.Le m₂){X Y:Array Event}(O:∀e∈X,oA dy e)(U:∀e∈Y,oA m₂ e):∀e∈X++Y,oA m₂ e:=λe W=>(a9.1 W).elim (λx=>(O e x).mono B) (U e)
end
end
section
open Go.Conc
variable {k:Array CommCase} {es:Array Event} {b:Bool} {sh:CommShape} {fr:Frame} {g:Goroutine} {cs:List Frame} {s:Sem Go.Next} {w w₁:World}
def Fy(P:Program)(s:World->GStep)(w:World)(g:Goroutine)(k:Array CommCase)(b:Bool)(sh:CommShape)(w₁:World):Prop:=
 w.drawn<=w₁.drawn/\w₁.tape=w.tape/\∀τ,uR τ w w₁->∃es,s (tp w τ)=.comm g k b sh (tp w₁ τ) es
section
variable {P:Program} {m:Ren} {T:List Frame} {gl:Nat->Prop} {st:Bool}
theorem U'{r:GStep}(B:jb r)(h:r=.comm g k b sh w es){X:Prop}:X:=by
 rw[h]at B;cases B
theorem Ha{X:Array Event}{s:GStep}(h:cK X s=.comm g k b sh w es):∃B,s=.comm g k b sh w B:=by
 cases s<;>simp[cK]at h;obtain⟨rfl,rfl,rfl,rfl,rfl,_⟩:=h;exact⟨_,rfl⟩
theorem yx(Y:P.follows .rangeFuncRecover=true)(ab:∀n W,s.run P w=.ok n W->∃m n',gP P m n n')(aa:∀x W,s.run P w=.halt x W->(∃v,x=.panic v)\/jS x)
  (h:cI P true fr cs none s w=.comm g k b sh w₁ es):g=G fr cs/\s.run P w=.ok (.comm k b sh) w₁:=by
 rcases hrt:s.runT P w _ with⟨r,ac⟩;have O:s.run P w=r:=by rw[<-cM P s w _,hrt]
 unfold cI at h;rw[hrt]at h;rw[O]
 cases r with
 |ok n W=>
  obtain⟨m,n',hn⟩:=ab n W O
  cases hn with
  |comm bl sh hq hc=>
   obtain⟨rfl,rfl,rfl,rfl,rfl,_⟩:=h;exact⟨rfl,rfl⟩
  |spawn ad hd=>
   have key:∀(X:Array Event)(c:Prop)[Decidable c] (A B C:GStep),cK X (if c then A else B)=C->(c/\cK X A=C)\/(¬c/\cK X B=C):=by
    intro X c _ A B C hh;split at hh
    .exact .inl ⟨‹_›,hh⟩
    .exact .inr ⟨‹_›,hh⟩
   rcases key _ _ _ _ _ h with⟨_,h⟩|⟨hc,h⟩
   .simp[aU,bj,cK]at h
   .simp[cK]at h
  |recover=>
   obtain⟨fn,tm,td,df,md,kd,rd⟩:=fr
   cases rd with
   |none=>
    revert h;generalize aO _ cs=p;intro h;cases p<;>cases h
   |some l=>
    dsimp only at h;rw[if_pos Y]at h;revert h;generalize aO _ cs=p;intro h;cases p<;>cases h
  |_=>cases h
 |halt x W=>
  cases x with
  |panic v=>cases h
  |stuck y=>cases h
  |throw y=>cases h
  |unsupported u=>
   rcases aa _ _ O with⟨v,U⟩|U
   .cases U
   .cases u<;>first|exact U.elim|cases h
  |_=>
   rcases aa _ _ O with⟨v,U⟩|U
   .cases U
   .exact U.elim
theorem IF(B:P.follows .rangeFuncRecover=true)(hl:Loc P s w)(U:∀n W,s.run P w=.ok n W->∃m n',gP P m n n')(Y:∀x W,s.run P w=.halt x W->(∃v,x=.panic v)\/jS x)
  (h:cI P true fr cs none s w=.comm g k b sh w₁ es):Fy P (cI P true fr cs none s) w g k b sh w₁:=by
 obtain⟨rfl,hr⟩:=yx B U Y h;rcases hl with⟨x,ab,O,h2⟩|⟨O,h2,h3⟩
 .rw[hr]at O;cases O
 .rw[hr]at O h2 h3;refine⟨O,h2,λτ aa=>?_⟩;have h4:=h3 τ aa;obtain⟨e',e⟩:=gq h4;unfold cI;simp only[if_true,e];exact⟨_,rfl⟩
end
end
section
open Go.Conc
variable {k:Array CommCase} {b:Bool} {sh:CommShape} {eZ:Frame} {fc:List Frame} {w':World}
structure NE(P:Program)(r:GStep):Prop where
 go:∀{g c w es},r≠.go (G g c) w es
 outs:oH P r
 plain:jb r
theorem NE.after{P:Program}{r:GStep}(h:NE P r)(X:Array Event):NE P (cK X r):=⟨λe=>(tN e).elim λ_ e=>h.go e,h.outs.after X,h.plain.after X⟩
theorem NE.ended{P:Program}(o:Outcome)(w:World)(es:Array Event):NE P (.ended o w es):=⟨λe=>(by cases e),.ended ..,.ended ..⟩
theorem NE.throw{P:Program}(fr:Frame)(y:String)(w:World):NE P (aU fr y w):=⟨nofun,sG ..,.go ..⟩
inductive wR(P:Program)(T:List Frame)(main':Bool)(ok:Prop):Ren->(World->GStep)->(World->GStep)->Prop
 |stay {m f f' g g' cs cs'}:dR P m T (g::cs) (g'::cs')->(∀x,f x=.go (G g cs) x)->(∀x,f' x=.go (G g' cs') x)->wR P T main' ok m f f'
 |low {m f f' g cs}:(ok->False)->(∀x,f x=.go (G g cs) x)->wR P T main' ok m f f'
 |bad {m f f'}:(∀x x',WR m x x'->NE P (f x))->wR P T main' ok m f f'
 |app {m f f' fr fr' cs cs' s s'}:tQ P m->dR P m T (fr::cs) (fr'::cs')->kM P (gP P) m s s'->(∀x,f x=cI P true fr cs none s x)->(∀x,f' x=cI P true fr' cs' none s' x)->wR P T main' ok m f f'
 |ret {m f f' fr fr' cs cs' v v'}:dR P m T (fr::cs) (fr'::cs')->(ok->cs=[door P]->fr.roundOf=none->False)->VR m v v'->(∀x,f x=aP P true fr cs none v x)->(∀x,f' x=aP P main' fr' cs' none v' x)->wR P T main' ok m f f'
 |run {m f f'} {α β:Type} {RA:Ren->α->β->Prop} {t t'} {E:Result α->Array Event->Array Event} {E':Result β->Array Event->Array Event} {K:Result α->GStep} {K':Result β->GStep}:dw P RA m t t'->
   (∀x r es,t.runT P x #[]=(r,es)->f x=cK (E r es) (K r))->(∀x r es,t'.runT P x #[]=(r,es)->f' x=cK (E' r es) (K' r))->(∀dy r es,(∀e∈es,oA dy e)->∀e∈E' r es,oA dy e)->
   (∀dy a a',m.Le dy->RA dy a a'->wR P T main' ok dy (λw=>K (.ok a w)) (λw=>K' (.ok a' w)))->
   (∀dy v v',m.Le dy->VR dy v v'->wR P T main' ok dy (λw=>K (.halt (.panic v) w)) (λw=>K' (.halt (.panic v') w)))->
   (∀x w,jS x->NE P (K (.halt x w)))->wR P T main' ok m f f'
section
variable {P:Program} {m:Ren} {T:List Frame} {gl:Nat->Prop} {st main':Bool} {ok:Prop} {f f':World->GStep}
theorem wR.out(F:wR P T main' ok m f f')(W:ok):∀{w w':World},WR m w w'->Al w w'->∀{eZ:Frame}{fc:List Frame}{w₁:World}{es:Array Event},f w=.go (G eZ fc) w₁ es->nt P m T (f' w') w' eZ fc w₁:=by
 induction F with
 |stay hg h h'=>intro w w' U B eZ fc w₁ es e; rw[h]at e; rw[h']; exact still U hg e
 |low hn h=>exact(hn W).elim
 |bad h=>intro w w' U B eZ fc w₁ es e; exact absurd e (h w w' U).go
 |app hE hS hs h h'=>intro w w' U B eZ fc w₁ es e; rw[h]at e; rw[h']; exact Ko hE hS hs U B e
 |ret hS hn hv h h'=>
  intro w w' U B eZ fc w₁ es e;have:=Q1 (main':=main') (X:=#[]) (X':=#[]) (.refl _) hS (hn W) hv U (.refl _ w') (by simp) (by rw[mS,<-h]; exact e);rw[mS]at this;rw[h'];exact this
 |@run m f f' α β RA t t' E E' K K' ht h h' hE _ _ Y aa ab=>
  intro w w' U B eZ fc w₁ es e;have O:=ht.run w w' #[] U (.inl B);rw[<-cM P _ w _]at O;rcases hrt:t.runT P w _ with⟨r,ad⟩;rw[hrt]at O;rw[h _ _ _ hrt]at e;obtain⟨ae,e⟩:=tN e
  cases r with
  |ok a wn=>
   obtain⟨dy,a',ac,es₁,g1,g2,g3,g4,g5,g6,g7⟩:=O;rw[h' _ _ _ g1];exact nt.after g2 g6 (hE _ _ _ (by simpa using g7)) (aa dy a a' g2 g3 g4 (g5 B) e)
  |halt x wn=>
   cases x with
   |panic v=>
    obtain⟨dy,a',ac,es₁,g1,g2,g3,g4,g5,g6,g7⟩:=O;rw[h' _ _ _ g1];exact nt.after g2 g6 (hE _ _ _ (by simpa using g7)) (ab dy v a' g2 g3 g4 (g5 B) e)
   |_=>refine absurd e (Y _ _ ?_).go; exact O
def JR(R:World->Array Event->GStep)(s:World->GStep)(w w₁:World):Prop:=
 w.drawn<=w₁.drawn/\w₁.tape=w.tape/\∀τ,uR τ w w₁->∃es,s (tp w τ)=R (tp w₁ τ) es
structure Kind(P:Program)(R:World->Array Event->GStep):Prop where
 off:∀{X s w es},cK X s=R w es->∃e,s=R w e
 on:∀X w es,∃e,cK X (R w es)=R w e
 bad:∀{r w es},NE P r->r≠R w es
 go:∀{g c x w es},GStep.go (G g c) x=R w es->w=x/\∀y,∃e,GStep.go (G g c) y=R y e
 ret:∀{fr c cs v x w es},aP P true fr (c::cs) none v x=R w es->w=x/\∀y,∃e,aP P true fr (c::cs) none v y=R y e
 app:∀{fr cs s w w₁ es},Loc P s w->(∀n wn,s.run P w=.ok n wn->∃m n',gP P m n n')->(∀x wn,s.run P w=.halt x wn->(∃v,x=.panic v)\/jS x)->cI P true fr cs none s w=R w₁ es->JR R (cI P true fr cs none s) w w₁
theorem wR.loc(F:wR P T main' ok m f f'){R:World->Array Event->GStep}(k:Kind P R):∀{w w':World},WR m w w'->∀{w₁:World}{es:Array Event},f w=R w₁ es->JR R f w w₁:=by
 induction F with
 |stay _ h _|low _ h=>intro w w' O w₁ es e; rw[h]at e; obtain⟨rfl,q⟩:=k.go e; exact⟨eg _,rfl,λτ _=>by rw[h]; exact q _⟩
 |bad h=>intro w w' O w₁ es e; exact absurd e (k.bad (h w w' O))
 |app hE hS hs h h'=>
  intro w w' O w₁ es e;rw[h]at e;obtain⟨a,b,c⟩:=k.app (hs.loc w w' O) (hs.outs O).1 (hs.outs O).2 e;exact⟨a,b,λτ U=>by rw[h]; exact c τ U⟩
 |ret hS hn hv h h'=>
  obtain⟨c,ak,rfl⟩:=CS hS;intro w w' O w₁ es e;rw[h]at e;obtain⟨rfl,q⟩:=k.ret e;exact⟨eg _,rfl,λτ _=>by rw[h]; exact q _⟩
 |@run m f f' α β RA t t' E E' K K' ht h h' hE _ _ Y aa ab=>
  intro w w' O w₁ es e;obtain⟨ac,ad,ae,_⟩:=align O;have B:=ht.run w ac #[] ad (.inl ae);have hl:=ht.loc w w' O;obtain⟨am,af⟩:=gq (P:=P) (s:=t) (w:=w) rfl;rw[h _ _ _ af]at e;obtain⟨_,e⟩:=k.off e
  have key:∀{r:Result α}{W:World},D3 r=W->JR R (λw=>K (match r with|.ok a _=>.ok a w|.halt x _=>.halt x w)) W w₁->(∀τ,xU P t w τ r->t.run P (tp w τ)=match r with|.ok a _=>.ok a (tp W τ)|.halt x _=>.halt x (tp W τ))->t.run P w=r->Rl P t w->JR R f w w₁:=by
   rintro r W rfl ⟨k1,k2,k3⟩ ag hr ⟨h1,h2,h3⟩;rw[hr]at h1 h2 h3;refine⟨ee h1 k1,k2.trans h2,λτ U=>?_⟩;have ha:=ag τ (h3 τ λi x y=>U i x (ej y k1));obtain⟨an,k4⟩:=k3 τ λi x y=>by rw[h2]; exact U i (ee h1 x) y
   obtain⟨ao,ah⟩:=gq ha;have k4:K _=R .. := k4;rw[h _ _ _ ah,k4];exact k.on ..
  rcases hl with⟨q,aj,h1,h2⟩|hl
  .rw[h1]at e;exact absurd e (k.bad (Y _ _ h2))
  .cases hq:t.run P w with
   |ok a W=>
    rw[hq]at e B;obtain⟨dy,a',ai,es₁,g1,g2,g3,g4,_⟩:=B;exact key (r:=.ok a W) rfl (aa dy a a' g2 g3 g4 e) (λ_ h=>h) hq hl
   |halt x W=>
    rw[hq]at e B
    cases x with
    |panic v=>
     obtain⟨dy,a',ai,es₁,g1,g2,g3,g4,_⟩:=B;exact key (r:=.halt _ W) rfl (ab dy v a' g2 g3 g4 e) (λ_ h=>h) hq hl
    |_=>refine absurd e (k.bad (Y _ _ ?_)); exact B
theorem wR.outs(F:wR P T main' ok m f f'):∀{w w':World},WR m w w'->oH P (f w):=by
 induction F with
 |stay _ h _|low _ h=>intro w w' O; rw[h]; exact .go ..
 |bad h=>exact λO=>(h _ _ O).outs
 |app hE hS hs h h'=>intro w w' O; rw[h]; exact Hi hE.RM (hs.outs O).1 (hs.outs O).2
 |ret hS hn hv h h'=>obtain⟨c,af,rfl⟩:=CS hS; intro w w' O; rw[h]; exact Ap ..
 |@run m f f' α β RA t t' E E' K K' ht h h' hE _ _ U W Y=>
  intro w w' O;obtain⟨aa,ab,ac,_⟩:=align O;have B:=ht.run w aa #[] ab (.inl ac);obtain⟨ag,ad⟩:=gq (P:=P) (s:=t) (w:=w) rfl;rw[h _ _ _ ad];refine oH.after ?_ _
  cases hq:t.run P w with
  |ok a wn=>rw[hq]at B; obtain⟨dy,a',ae,es₁,g1,g2,g3,g4,_⟩:=B; exact W dy a a' g2 g3 g4
  |halt x wn=>
   rw[hq]at B
   cases x with
   |panic v=>obtain⟨dy,a',ae,es₁,g1,g2,g3,g4,_⟩:=B; exact Y dy v a' g2 g3 g4
   |_=>refine(U _ _ ?_).outs; exact B
theorem P4.after{dy:Ren}{r r':GStep}{O:World}{X X':Array Event}(W:m.Le dy)(hk:fw m dy w' O)(hX:∀e∈X',oA dy e)(h:P4 P dy T r r' O):P4 P m T (cK X r) (cK X' r') w':=by
 have aa:∀(X Y:Array Event)(s:GStep),cK X (cK Y s)=cK (X++Y) s:=λX Y s=>by cases s<;>simp[cK]
 rcases h with⟨m₂,Y,Y',fr,cs,fr',cs',s,s',w₁,B,rfl,rfl,U,h2,h3,h4,h5,h6,h7,h8⟩|h
 .exact .inl ⟨m₂,_,_,fr,cs,fr',cs',s,s',w₁,B,aa ..,aa ..,W.trans U,h2,h3,h4,h5,h6,hk.trans W U h7,s9 U hX h8⟩
 .exact .inr (h.after _)
theorem wR.via(F:wR P T main' ok m f f'):∀{w w':World},WR m w w'->Al w w'->P4 P m T (f w) (f' w') w':=by
 induction F with
 |stay _ h _|low _ h=>intro w w' U O; rw[h]; exact .inr (.go ..)
 |bad h=>exact λU _=>.inr (h _ _ U).plain
 |app hE hS hs h h'=>intro w w' U O; rw[h,h']; exact P4.direct hE hS hs U O
 |ret hS hn hv h h'=>obtain⟨c,ae,rfl⟩:=CS hS; intro w w' U O; rw[h]; exact .inr (q9 ..)
 |@run m f f' α β RA t t' E E' K K' ht h h' hE _ _ W aa ab=>
  intro w w' U O;have B:=ht.run w w' #[] U (.inl O);obtain⟨af,ac⟩:=gq (P:=P) (s:=t) (w:=w) rfl;rw[h _ _ _ ac]
  cases hq:t.run P w with
  |ok a wn=>
   rw[hq]at B;obtain⟨dy,a',ad,es₁,g1,Y,g3,g4,g5,g6,g7⟩:=B;rw[h' _ _ _ g1];exact P4.after Y g6 (hE _ _ _ (by simpa using g7)) (aa dy a a' Y g3 g4 (g5 O))
  |halt x wn=>
   rw[hq]at B
   cases x with
   |panic v=>
    obtain⟨dy,a',ad,es₁,g1,Y,g3,g4,g5,g6,g7⟩:=B;rw[h' _ _ _ g1];exact P4.after Y g6 (hE _ _ _ (by simpa using g7)) (ab dy v a' Y g3 g4 (g5 O))
   |_=>refine .inr (jb.after (W _ _ ?_).plain _); exact B
theorem pA{fr fr':Frame}{cs cs':List Frame}(B:fr.roundOf≠none)(U:dR P m T (fr::cs) (fr'::cs')){l l':Nat}(W:m.blk l=some l')(j:Option Code)(Y:∀c,j=some c->fD m.ok c){q O:Outcome}
  (h:∀x,f x=cK (aR P fr.fn ((bD l j).runT P x #[]).2) (match ((bD l j).runT P x #[]).1 with|.ok v w=>aP P true fr cs none v w|.halt _ w=>.ended q w))
  (h':∀x,f' x=cK (aR P fr'.fn ((bD l' j).runT P x #[]).2) (match ((bD l' j).runT P x #[]).1 with|.ok v w=>aP P main' fr' cs' none v w|.halt _ w=>.ended O w)):wR P T main' ok m f f':=
 .run (E:=λ_ es=>aR P _ es) (E':=λ_ es=>aR P _ es) (K:=λr=>match r with|.ok v w=>aP P true fr cs none v w|.halt _ w=>.ended q w) (K':=λr=>match r with|.ok v w=>aP P main' fr' cs' none v w|.halt _ w=>.ended O w) (Hy (P:=P) W Y)
  (λx r es e=>by rw[h,e]) (λx r es e=>by rw[h',e]) (λ_ _ _ h=>mQ h) (λdy a a' hm ha=>.ret (U.mono hm) (λ_ _ h=>B h) ha (λ_=>rfl) (λ_=>rfl)) (λ_ _ _ _ _=>.bad λ_ _ _=>.ended ..) (λ_ _ _=>.ended ..)
theorem mU{fr:Frame}{cs:List Frame}{ops:Array Oper}{i:Nat}{t:List Nat}{k:List Item}{o:Oper}(B:fr.todo=.inRegion ops (i::t)::k)(O:ops[i]?=some o)(U:hJ o (bc ops fr.tmps)=true)(x:World) :
  cJ P b true fr cs none x=match fr.roundOf,o.op with
   |some l,.defer c=>cI P true fr cs none (do bL l (<-bk fr.eval c o.type); pure .skip) x
   |_,_=>cI P true fr cs none (bo fr.eval o) x:=by
 unfold cJ;simp only[B,O,gn,gj];rw[if_pos U];unfold aS.oper;simp only[ff,B,O];rfl
theorem Mz(hX:l6 P m gl st){fr fr':Frame}{cs cs':List Frame}(hS:dR P m T (fr::cs) (fr'::cs')):wR P T main' ok m (cJ P true true fr cs none) (cJ P main' true fr' cs' none):=by
 have hF:=hS.pS;have ht:=hF.todo;have ad:=hF.round;have ao:=hF.fn;obtain⟨fn,tm,td,df,md,kd,rd⟩:=fr;obtain⟨B,O,ap,Y,ab,aa,U⟩:=fr';simp only at ht ad ao;subst ao;have W:∀{k k':List Item},dO (jz m) k k'->dR P m T (⟨B,tm,k,df,md,kd,rd⟩::cs) (⟨B,O,k',Y,ab,aa,U⟩::cs'):=λhk=>hS.set (.refl m) (GR hF hk) rfl rfl rfl rfl;have ai:dR P m T (⟨B,tm,td,df,.returning,kd,rd⟩::cs) (⟨B,O,ap,Y,.returning,aa,U⟩::cs'):=hS.set (.refl m) (S9 hF .returning) rfl rfl rfl rfl;have ak:∀x,dP m.fu gl x->VR m (ew ⟨B,tm,td,df,md,kd,rd⟩ x) (ew ⟨B,O,ap,Y,ab,aa,U⟩ x):=λx hx=>hF.eval hX.oh x hx
 cases ht with
 |nil=>
  cases ad with
  |none=>exact .stay ai (λ_=>rfl) (λ_=>rfl)
  |some hl=>exact pA (by simp) hS hl none (λ_ h=>by cases h) (λ_=>rfl) (λ_=>rfl)
 |cons hi hk=>
  rename_i k k'
  cases hi with
  |EB y=>exact .bad λ_ _ _=>.ended _ _ _
  |ma y=>exact .stay (W (.cons (.EB y) (.cons (.ma y) hk))) (λ_=>rfl) (λ_=>rfl)
  |inBlock i=>exact .stay (W hk) (λ_=>rfl) (λ_=>rfl)
  |inScope c hc=>exact .stay (W hk) (λ_=>rfl) (λ_=>rfl)
  |inLoop c hc=>exact .stay (W (.cons (.code c hc) (.cons (.inLoop c hc) hk))) (λ_=>rfl) (λ_=>rfl)
  |inRangeFunc hl=>exact .bad λ_ _ _=>.ended _ _ _
  |beginRound=>
   refine .app hX.env hS (s:=do rd.elim (stuck "beginRound: no round") bH; pure .skip) (s':=do U.elim (stuck "beginRound: no round") bH; pure .skip) ?_ (λ_=>rfl) (λ_=>rfl)
   cases ad with
   |none=>exact .base (.dz trivial)
   |some hl=>exact Us (Cg hl)
  |endRangeFunc hl=>
   rename_i l l'
   refine .run (KP (P:=P) hl) (E:=λ_ es=>aR P B es) (E':=λ_ es=>aR P B es)
    (K:=λr=>match r with|.ok af w=>.go {frame:=⟨B,tm,(af.map Item.code).toList++k,df,md,kd,rd⟩,callers:=cs,status:=.running,dying:=none} w|.halt (.panic v) w=>.go {frame:=eC ⟨B,tm,.endRangeFunc l::k,df,md,kd,rd⟩ [{v,recovered:=false}],callers:=cs,status:=.running,dying:=none} w|.halt _ w=>.ended (.stuck "range over a function: no such loop" (ez P ⟨B,tm,.endRangeFunc l::k,df,md,kd,rd⟩)) w)
    (K':=λr=>match r with|.ok af w=>.go {frame:=⟨B,O,(af.map Item.code).toList++k',Y,ab,aa,U⟩,callers:=cs',status:=.running,dying:=none} w|.halt (.panic v) w=>.go {frame:=eC ⟨B,O,.endRangeFunc l'::k',Y,ab,aa,U⟩ [{v,recovered:=false}],callers:=cs',status:=.running,dying:=none} w|.halt _ w=>.ended (.stuck "range over a function: no such loop" (ez P ⟨B,O,.endRangeFunc l'::k',Y,ab,aa,U⟩)) w)
    (λx r es e=>by unfold cJ; dsimp only; rw[e]; rfl) (λx r es e=>by unfold cJ; dsimp only; rw[e]; rfl) (λ_ _ _ h=>mQ h) ?_ ?_ ?_
   .rintro dy a b hm ⟨rfl,ha⟩;refine .stay (hS.set hm (g:=⟨B,tm,_,df,md,kd,rd⟩) (g':=⟨B,O,_,Y,ab,aa,U⟩) (GR (hF.mono hm) (dO.append ?_ (hk.mono λ_ _ x=>x.mono hm))) rfl rfl rfl rfl) (λ_=>rfl) (λ_=>rfl)
    cases a with
    |none=>exact .nil
    |some c=>exact .cons (.code c (ha c rfl)) .nil
   .intro dy v v' hm hv;have hf:=(hF.mono hm).raise (vs:=[{v,recovered:=false}]) (vs':=[{v:=v',recovered:=false}]) (.cons ⟨hv,rfl,rfl⟩ .nil);exact .stay (hS.set hm hf.1 hf.2.1 hf.2.2 (nW _ _) (tn _ _)) (λ_=>rfl) (λ_=>rfl)
   .intro x w hx;cases x<;>first|exact hx.elim|exact .ended _ _ _
  |inRegion ops t ho=>
   cases t with
   |nil=>exact .stay (W hk) (λ_=>rfl) (λ_=>rfl)
   |cons i t=>
    have hy:bc ops O=bc ops tm:=funext (lO ops hF.tmps);have hf:=hF.finish (.undef m);have aj:=hS.set (.refl m) hf.1 hf.2.1 hf.2.2 (fg _ _) (gQ _ _)
    cases ac:ops[i]? with
    |none=>exact .stay aj (λx=>by unfold cJ; dsimp only; rw[ac]; rfl) (λx=>by unfold cJ; dsimp only; rw[ac]; rfl)
    |some o=>
     by_cases ag:hJ o (bc ops tm)=true
     .have ah:hJ o (bc ops O)=true:=by rw[hy]; exact ag
      have am:=hX.ops o (ho o (by rw[<-az]at ac; exact List.mem_of_getElem? ac));have aq:=Er hX.env hX.strict hX.ig ak (λc=>⟨rfl,rfl⟩) o am
      cases ad with
      |none=>exact .app hX.env hS aq (λx=>by rw[mU rfl ac ag]) (λx=>by rw[mU rfl ac ah])
      |some hl=>
       obtain⟨od,oo,ot,op,oa,og⟩:=o;cases oo<;>first|exact .app hX.env hS aq (λx=>mU rfl ac ag x) (λx=>mU rfl ac ah x)|skip
       rename_i c;refine .app hX.env hS (.base ?_) (λx=>mU rfl ac ag x) (λx=>mU rfl ac ah x);refine dC (K8 ak ⟨am.1,?_⟩ _) λm' d d' av hd=>dC (yn (av.blk _ _ hl) hd) λ_ _ _ _ _=>.pure .skip;have h2:=am.2;obtain⟨cc,ca,ct⟩:=c;cases cc<;>first|trivial|exact⟨h2.1,hX.ig h2.2⟩|exact h2.elim
     .refine .stay aj (λx=>?_) (λx=>?_)
      all_goals
       unfold cJ;dsimp only;rw[ac];simp only[gn,gj]
       try rw[hy]
       rw[if_neg ag];rfl
  |code c hc=>
   cases c with
   |skip=>exact .stay (W hk) (λ_=>rfl) (λ_=>rfl)
   |label l=>exact .stay (W hk) (λ_=>rfl) (λ_=>rfl)
   |ret=>
    cases ad with
    |none=>exact .stay ai (λ_=>rfl) (λ_=>rfl)
    |some hl=>exact pA (by simp) hS hl (some .ret) (λ_ h=>by cases h; trivial) (λ_=>rfl) (λ_=>rfl)
   |seq x y=>exact .stay (W (.cons (.code x hc.1) (.cons (.code y hc.2) hk))) (λ_=>rfl) (λ_=>rfl)
   |cond c x y=>
    have hv:=ak c (by have:=hc.1; cases c<;>first|exact this|exact this.elim);generalize hp:ew _ c=p at hv;generalize ae:ew _ c=p' at hv;cases hv<;>first|exact .bad (λx _ _=>by unfold cJ; dsimp only; rw[hp]; exact .ended _ _ _)|skip
    rename_i t;refine .stay (W (.cons (.code (if t then x else y) ?_) hk)) (λx=>by unfold cJ; dsimp only; rw[hp]; rfl) (λx=>by unfold cJ; dsimp only; rw[ae]; rfl);cases t
    .exact hc.2.2
    .exact hc.2.1
   |block i x=>exact .stay (W (.cons (.code x hc) (.cons (.inBlock i) hk))) (λ_=>rfl) (λ_=>rfl)
   |loop x=>exact .stay (W (.cons (.code x hc) (.cons (.inLoop x hc) hk))) (λ_=>rfl) (λ_=>rfl)
   |scope x=>exact .stay (W (.cons (.code x hc) (.cons (.inScope x hc) hk))) (λ_=>rfl) (λ_=>rfl)
   |exit i=>
    have he:=yU i hk;generalize hp:bn i k=p at he;generalize ae:bn i k'=p' at he
    cases he with
    |some an=>exact .stay (W an) (λx=>by unfold cJ; dsimp only; rw[hp]; rfl) (λx=>by unfold cJ; dsimp only; rw[ae]; rfl)
    |none=>
     cases ad with
     |none=>exact .bad (λx _ _=>by unfold cJ; dsimp only; rw[hp]; exact .ended _ _ _)
     |some hl=>exact pA (by simp) hS hl (some (.exit i)) (λ_ h=>by cases h; trivial) (λx=>by unfold cJ; dsimp only; rw[hp]; rfl) (λx=>by unfold cJ; dsimp only; rw[ae]; rfl)
   |goto l=>
    have he:=yG l hk;generalize hp:bm l k=p at he;generalize ae:bm l k'=p' at he
    cases he with
    |some an=>exact .stay (W an) (λx=>by unfold cJ; dsimp only; rw[hp]; rfl) (λx=>by unfold cJ; dsimp only; rw[ae]; rfl)
    |none=>
     cases ad with
     |none=>exact .bad (λx _ _=>by unfold cJ; dsimp only; rw[hp]; exact .ended _ _ _)
     |some hl=>exact pA (by simp) hS hl (some (.goto l)) (λ_ h=>by cases h; trivial) (λx=>by unfold cJ; dsimp only; rw[hp]; rfl) (λx=>by unfold cJ; dsimp only; rw[ae]; rfl)
   |rangeFunc f ps a x=>
    refine .run (Ei (P:=P) (fn:=B) (ps:=ps) hF.tmps hc.2.1 hc.2.2 ad) (E:=λ_ es=>aR P B es) (E':=λ_ es=>aR P B es)
     (K:=λr=>match r with|.ok (l,mark) w=>cI P true ⟨B,tm,.inRangeFunc l::k,mark++df,md,kd,rd⟩ cs none (do let d <-bk (ew ⟨B,tm,.inRangeFunc l::k,mark++df,md,kd,rd⟩) {callee:=.value f,args:=#[.const (.func (.yield l) #[] #[])],argTypes:=#[]} 0; invoke d.target d.args) w|.halt _ w=>.ended (.stuck "range over a function: no such loop" (ez P ⟨B,tm,.code (.rangeFunc f ps a x)::k,df,md,kd,rd⟩)) w)
     (K':=λr=>match r with|.ok (l,mark) w=>cI P true ⟨B,O,.inRangeFunc l::k',mark++Y,ab,aa,U⟩ cs' none (do let d <-bk (ew ⟨B,O,.inRangeFunc l::k',mark++Y,ab,aa,U⟩) {callee:=.value f,args:=#[.const (.func (.yield l) #[] #[])],argTypes:=#[]} 0; invoke d.target d.args) w|.halt _ w=>.ended (.stuck "range over a function: no such loop" (ez P ⟨B,O,.code (.rangeFunc f ps a x)::k',Y,ab,aa,U⟩)) w)
     (λx r es e=>by unfold cJ; dsimp only; rw[e]; rfl) (λx r es e=>by unfold cJ; dsimp only; rw[e]; rfl) (λ_ _ _ h=>mQ h) ?_ (λ_ _ _ _ _=>.bad λ_ _ _=>.ended _ _ _) (λ_ _ _=>.ended _ _ _)
    rintro dy ⟨l,mk⟩ ⟨l',mk'⟩ hm ⟨ar,aw⟩
    have au:fK dy ⟨B,tm,.inRangeFunc l::k,mk++df,md,kd,rd⟩ ⟨B,O,.inRangeFunc l'::k',mk'++Y,ab,aa,U⟩:=
     ⟨rfl,hF.tmps.mono hm,.cons (.inRangeFunc ar) (hk.mono λ_ _ y=>y.mono hm),aw.append ((hF.mono hm).defers),(hF.mono hm).mode,(hF.mono hm).round⟩
    refine .app (hX.mono hm).env (hS.set hm au rfl rfl rfl rfl) (.base (dC (oT (au.eval (hX.mono hm).oh f (by have:=hc.1; cases f<;>first|exact this|exact this.elim)) (by simpa[ew]using ep.one (VR.J5 (M7.yield ar) (.nil dy) (.nil dy)))) λm' d d' hl hd=>?_)) (λ_=>rfl) (λ_=>rfl);exact qS ((hX.mono hm).env.mono hl) hd.1.target hd.2 hd.1.args
   |region i ops d=>
    cases d with
    |false=>exact .stay (W (.cons (.inRegion ops _ hc) hk)) (λ_=>rfl) (λ_=>rfl)
    |true=>
     refine .run (RA:=wX) (t:=choose (.order B i)) (t':=choose (.order B i)) (E:=λ_ _=>#[]) (E':=λ_ _=>#[])
      (K:=λr=>match r with|.ok t w=>.go {frame:=⟨B,tm,.inRegion ops (hL (P.follows .mixedOrders) ops t)::k,df,md,kd,rd⟩,callers:=cs,status:=.running,dying:=none} w|.halt _ w=>.ended (.stuck "order" (ez P ⟨B,tm,.code (.region i ops true)::k,df,md,kd,rd⟩)) w)
      (K':=λr=>match r with|.ok t w=>.go {frame:=⟨B,O,.inRegion ops (hL (P.follows .mixedOrders) ops t)::k',Y,ab,aa,U⟩,callers:=cs',status:=.running,dying:=none} w|.halt _ w=>.ended (.stuck "order" (ez P ⟨B,O,.code (.region i ops true)::k',Y,ab,aa,U⟩)) w)
      (.choose λn=>.pure rfl) (λx r es e=>?_) (λx r es e=>?_) (λ_ _ _ _ e h=>by simp at h) ?_ (λ_ _ _ _ _=>.bad λ_ _ _=>.ended _ _ _) (λ_ _ _=>.ended _ _ _)
     .have q:(choose (.order B i)).run P x=r:=by rw[<-cM P _ x #[],e]
      rw[mS,<-q];rfl
     .have q:(choose (.order B i)).run P x=r:=by rw[<-cM P _ x #[],e]
      rw[mS,<-q];rfl
     .rintro dy a b hm rfl;exact .stay (hS.set hm (g:=⟨B,tm,_,df,md,kd,rd⟩) (g':=⟨B,O,_,Y,ab,aa,U⟩) (GR (hF.mono hm) (.cons (.inRegion ops _ (hm.ok▸hc)) (hk.mono λ_ _ y=>y.mono hm))) rfl rfl rfl rfl) (λ_=>rfl) (λ_=>rfl)
   |refuse y=>exact hc.elim
theorem wR.eq{g g':World->GStep}(F:wR P T main' ok m f f')(h:∀x,g x=f x)(h':∀x,g' x=f' x):wR P T main' ok m g g':=by rw[funext h,funext h']; exact F
theorem nT(hX:l6 P m gl st){fr fr':Frame}{cs cs':List Frame}(hS:dR P m T (fr::cs) (fr'::cs')){d d':Deferred}(hd:DR m d d')(hn:∀x y z,d.target≠.builtin .close x y z):wR P T main' ok m (aZ P fr cs none d) (aZ P fr' cs' none d'):=by
 have Y:dw P (gP P) m (invoke d.target d.args) (invoke d'.target d'.args):=qS hX.env hd.target (by
  intro bb x y z e;have B:=hd.target;rw[e]at B;revert B;generalize d'.target=t';intro B;cases B
  exact hn x y z e) hd.args
 have O:=hS.pS.mode;have aa:=zb hd
 have ab:((fr'.mode matches .panicking _):Bool)=(fr.mode matches .panicking _):=by
  revert O;generalize fr.mode=q;generalize fr'.mode=q';intro h;cases h<;>rfl
 by_cases hc:((d.target matches .nil)&&(fr.mode matches .panicking _))=true
 .exact .bad λx _ _=>by rw[show aZ P fr cs none d x=_ from if_pos hc]; exact .ended _ _ _
 .refine .run Y (E:=λr es=>aR P fr.fn (match r with|.halt .blocked _|.halt .waiting _=>#[]|_=>es)) (E':=λr es=>aR P fr'.fn (match r with|.halt .blocked _|.halt .waiting _=>#[]|_=>es)) (λx r es e=>by rw[show aZ P fr cs none d x=_ from if_neg hc,e]; rfl)
   (λx r es e=>by rw[show aZ P fr' cs' none d' x=_ from if_neg λh=>hc ((congr (congrArg and aa) ab).symm.trans h),e]; rfl) (λdy r es h=>mQ (by split<;>simp_all)) ?_ ?_ ?_
  .intro dy a a' hm ha;have W:=hS.mono hm
   cases ha with
   |enter hf U ha=>exact .stay (W.push (Cv ((hX.env.mono hm).calls _ hf) U ha .deferred .deferred) rfl (.inr rfl)) (λ_=>rfl) (λ_=>rfl)
   |round hl B ha U=>
    rename_i l l' f t t' a c;have ac:fK dy (e8 l f t a c .deferred) (e8 l' f t' a c .deferred):=⟨rfl,B,.cons (.code _ ha) (.cons .beginRound (.cons (.code _ U) .nil)),.nil,.run,.some hl⟩;exact .stay (W.push ac rfl (.inr rfl)) (λ_=>rfl) (λ_=>rfl)
   |recover=>
    have B:=tB W;generalize hq:fr.mode=q at O;generalize ad:fr'.mode=q' at O
    cases O with
    |run|panicking=>exact .stay W (λ_=>rfl) (λ_=>rfl)
    |returning=>
     generalize hp:aO _ cs=p at B;generalize ae:aO _ cs'=p' at B
     cases B with
     |none=>exact .stay W (λ_=>rfl) (λ_=>rfl)
     |some hx=>exact .stay hx.2 (λ_=>rfl) (λ_=>rfl)
   |_=>exact .stay W (λ_=>rfl) (λ_=>rfl)
  .intro dy v v' hm hv;have hf:=(hS.pS.mono hm).raise (vs:=[{v,recovered:=false}]) (vs':=[{v:=v',recovered:=false}]) (.cons ⟨hv,rfl,rfl⟩ .nil);exact .stay (hS.set hm hf.1 hf.2.1 hf.2.2 (nW ..) (tn ..)) (λ_=>rfl) (λ_=>rfl)
  .intro x w hx
   cases x with
   |throw y=>exact .throw ..
   |stuck y=>exact .ended ..
   |unsupported u=>exact .ended ..
   |_=>exact hx.elim
theorem Eh(hX:l6 P m gl st){fr fr':Frame}{cs cs':List Frame}(hS:dR P m T (fr::cs) (fr'::cs'))(hm:fr.mode≠.run)(hn:¬AtClose fr)(O:ok->cs=[door P]->fr.mode≠.run->fr.defers=[]->fr.roundOf=none->False):wR P T main' ok m (aY P true fr cs none) (aY P main' fr' cs' none):=by
 have hF:=hS.pS;have ab:=hF.defers;have U:=hF.mode;have ac:=hF.fn;unfold AtClose at hn;obtain⟨fn,tm,td,df,md,kd,rd⟩:=fr;obtain⟨B,ad,ae,ar,af,ag,ah⟩:=fr';simp only at ab U hm hn O ac;subst ac
 cases ab with
 |cons hd ai=>
  rename_i d d' ds aj;have ak:dR P m T (⟨B,tm,td,ds,md,kd,rd⟩::cs) (⟨B,ad,ae,aj,af,ag,ah⟩::cs'):=hS.set (.refl m) ⟨hF.fn,hF.tmps,hF.todo,ai,U,hF.round⟩ rfl rfl rfl rfl;have ht:=hd.target;obtain⟨dt,da⟩:=d;obtain⟨au,am⟩:=d';simp only at ht
  cases ht with
  |collected an=>
   rename_i r r';refine .run (zg (P:=P) an) (E:=λ_ es=>aR P B es) (E':=λ_ es=>aR P B es) (λx r es e=>by unfold aY; dsimp only; rw[e]; dsimp only) (λx r es e=>by unfold aY; dsimp only; rw[e]; dsimp only) (λ_ _ _ h=>mQ h) (λdy a a' Y ha=>?_) (λ_ _ _ _ _=>.bad λ_ _ _=>?_) (λ_ _ _=>?_)<;>try exact .ended _ _ _
   exact .stay (hS.set Y (g:=⟨B,tm,td,a++ds,md,kd,rd⟩) (g':=⟨B,ad,ae,a'++aj,af,ag,ah⟩) ⟨hF.fn,hF.tmps.mono Y,(hF.mono Y).todo,ha.append (ai.mono λ_ _ x=>x.mono Y),U.mono Y,(hF.mono Y).round⟩ rfl rfl rfl rfl) (λ_=>rfl) (λ_=>rfl)
  |nil=>exact(nT hX ak (d:=⟨.nil,da⟩) (d':=⟨.nil,am⟩) ⟨.nil,hd.args⟩ (λ_ _ _ h=>by cases h)).eq (λ_=>rfl) (λ_=>rfl)
  |fn hf=>exact(nT hX ak (d:=⟨_,da⟩) (d':=⟨_,am⟩) ⟨.fn hf,hd.args⟩ (λ_ _ _ h=>by cases h)).eq (λ_=>rfl) (λ_=>rfl)
  |builtin x y z av=>exact absurd ⟨hm,x,y,z,_,_,rfl⟩ hn
  |mark x y z ao=>
   refine .bad λx _ hw=>?_;obtain⟨q,aq,e1⟩:=LY (P:=P) ao hw;rw[<-cM P _ x #[]]at e1;unfold aY;dsimp only;rw[e1];exact NE.after (.ended _ _ _) _
 |nil=>
  cases U with
  |run=>exact absurd rfl hm
  |returning=>
   cases W:P.funcs[B]? with
   |none=>exact .ret hS (λo e h=>O o e (by simp) rfl h) (hF.tmps.getD 0) (λx=>by unfold aY; dsimp only; rw[W]) (λx=>by unfold aY; dsimp only; rw[W])
   |some f=>
    refine .run (lF (P:=P) (fn:=f) hF.tmps) (E:=λ_ es=>aR P B es) (E':=λ_ es=>aR P B es) (λx r es e=>by unfold aY; dsimp only; rw[W]; dsimp only; rw[e]; dsimp only) (λx r es e=>by unfold aY; dsimp only; rw[W]; dsimp only; rw[e]; dsimp only) (λ_ _ _ h=>mQ h)
     (λdy a a' Y ha=>?_) (λ_ _ _ _ _=>.bad λ_ _ _=>?_) (λx _ _=>?_)
    .exact .ret (hS.mono Y) (λo e h=>O o e (by simp) rfl h) ha (λ_=>rfl) (λ_=>rfl)
    .exact .ended _ _ _
    .cases x<;>exact .ended _ _ _
  |panicking ap=>
   have jQ:∀{q q':Frame},fK m q q'->fb P q=false/\fb P q'=false:=by
    intro q q' hq;have:=hq.todo;unfold fb;revert this;generalize q.todo=l;generalize q'.todo=l';intro ht
    cases ht with
    |nil=>constructor <;>(split<;>first|rfl|simp_all)
    |cons hi _=>cases hi <;>(constructor <;>(split<;>first|rfl|simp_all))
   have aa:=jQ hF
   cases hS with
   |one hf h1 h2 h3=>exact .low (λo=>O o rfl (by simp) rfl h3) (λx=>by unfold aY; dsimp only; rw[aa.1]; rfl)
   |cons hf h1 h2 h3=>
    have hr:=h3.pS.raise ap;exact .stay (h3.set (.refl m) hr.1 hr.2.1 hr.2.2 (nW ..) (tn ..)) (λx=>by unfold aY; rw[aa.1]; rfl) (λx=>by unfold aY; rw[aa.2]; rfl)
theorem EU(hX:l6 P m gl st){fr fr':Frame}{cs cs':List Frame}(W:dR P m T (fr::cs) (fr'::cs'))(hn:¬AtClose fr)(O:ok->cs=[door P]->fr.mode≠.run->fr.defers=[]->fr.roundOf=none->False):wR P T main' ok m (aS P true (G fr cs)) (aS P main' (G fr' cs')):=by
 have B:=W.pS.mode;generalize Y:fr.mode=q at B;generalize U:fr'.mode=q' at B
 cases B with
 |run=>exact(Mz hX W).eq (λx=>by unfold aS; simp only[G,Y]) (λx=>by unfold aS; simp only[G,U])
 |returning|panicking=>exact(Eh hX W (by rw[Y]; simp) hn O).eq (λx=>by unfold aS; simp only[G,Y]) (λx=>by unfold aS; simp only[G,U])
theorem zM(U:l6 P m gl st){fr fr':Frame}{cs cs':List Frame}(W:dR P m T (fr::cs) (fr'::cs'))(Y:¬AtClose fr)(B:cs=[door P]->fr.mode≠.run->fr.defers=[]->fr.roundOf=none->False){w:World}(hw:WR m w w')(O:Al w w'){main':Bool}{w₁:World}{es:Array Event}
  (h:aS P true (G fr cs) w=.go (G eZ fc) w₁ es):nt P m T (aS P main' (G fr' cs') w') w' eZ fc w₁:=(EU (ok:=True) U W Y λ_=>B).out trivial hw O h
theorem xl(B:l6 P m gl st){fr fr':Frame}{cs cs':List Frame}(O:dR P m T (fr::cs) (fr'::cs'))(U:¬AtClose fr):wR P T main' False m (aS P true (G fr cs)) (aS P main' (G fr' cs')):=EU B O U False.elim
theorem Qr(B:l6 P m gl st){fr fr':Frame}{cs cs':List Frame}(O:dR P m T (fr::cs) (fr'::cs'))(U:¬AtClose fr){w:World}(W:WR m w w'){w₁:World}{es:Array Event}
  (h:aS P true (G fr cs) w=.go (G eZ fc) w₁ es):xA P (aS P true (G fr cs)) w eZ fc w₁:=
 (xl (main':=true) B O U).loc (R:=λx es=>.go _ x es) ⟨tN,λ_ _ _=>⟨_,rfl⟩,λh=>h.go,R9,λh=>Cm _ _ _ _ _ _ _ _ _ h,λa b c h=>Mt B.env.RM a b c h⟩ W h
theorem Oa(B:l6 P m gl st){fr fr':Frame}{cs cs':List Frame}(O:dR P m T (fr::cs) (fr'::cs'))(U:¬AtClose fr){w:World}(W:WR m w w'):oH P (aS P true (G fr cs) w):=(xl (main':=true) B O U).outs W
theorem JC(O:l6 P m gl st){fr fr':Frame}{cs cs':List Frame}(U:dR P m T (fr::cs) (fr'::cs'))(W:¬AtClose fr){w:World}(Y:WR m w w')(B:Al w w'){main':Bool}:P4 P m T (aS P true (G fr cs) w) (aS P main' (G fr' cs') w') w':=(xl O U W).via Y B
theorem tK(hX:l6 P m gl st){fr fr':Frame}{cs cs':List Frame}(hS:dR P m T (fr::cs) (fr'::cs'))(hn:¬AtClose fr){w:World}(hw:WR m w w')(W:Al w w'){main':Bool}{g:Goroutine}{w₁:World}{es:Array Event}
  (h:aS P true (G fr cs) w=.comm g k b sh w₁ es):Js P m T (aS P main' (G fr' cs') w') w' g k b sh w₁:=by
 have hv:=JC hX hS hn hw W (main':=main');rw[h]at hv;rcases hv with⟨dy,X,X',f,c,f',c',s,s',w2,ae,Y,e2,hl,hE,aa,hs,ab,B,hk,hx⟩|hp
 .rw[e2];generalize hr:cI P true f c none s w2=r at Y;cases r<;>simp only[cK,GStep.comm.injEq,reduceCtorEq]at Y;obtain⟨rfl,rfl,rfl,rfl,rfl,_⟩:=Y;obtain⟨ac,ad,m₂,O,U,k',w3,af,rfl,g1,g0,g2,g3,g4,g5,g6,g7⟩:=IP hE aa hs ab B hr;rw[g1];exact⟨ac,ad,m₂,O,U,k',w3,_,rfl,rfl,g0.imp (λx=>hl.ig▸x) id,hl.trans g2,g3,g4,g5,hk.trans hl g2 g6,s9 g2 hx g7⟩
 .cases hp
theorem K2(hX:l6 P m gl st){fr fr':Frame}{cs cs':List Frame}(hS:dR P m T (fr::cs) (fr'::cs'))(hn:¬AtClose fr){w:World}(hw:WR m w w')(W:Al w w'){main':Bool}{g ch:Goroutine}{w₁:World}{es:Array Event}
  (h:aS P true (G fr cs) w=.spawn g ch w₁ es):Jf P m T (aS P main' (G fr' cs') w') w' g ch w₁:=by
 have hv:=JC hX hS hn hw W (main':=main');rw[h]at hv;rcases hv with⟨dy,X,X',f,c,f',c',s,s',w2,ae,Y,e2,hl,hE,aa,hs,ab,B,hk,hx⟩|hp
 .rw[e2];generalize hr:cI P true f c none s w2=r at Y;cases r<;>simp only[cK,GStep.spawn.injEq,reduceCtorEq]at Y;obtain⟨rfl,rfl,rfl,_⟩:=Y;obtain⟨ac,ad,d,m₂,O,U,d',w3,af,rfl,rfl,g1,g0,g2,g3,g4,g5,g6,g7⟩:=Gh hE aa hs ab B hr;rw[g1];exact⟨ac,ad,d,m₂,O,U,d',w3,_,rfl,rfl,rfl,hl.ig▸g0,hl.trans g2,g3,g4,g5,hk.trans hl g2 g6,s9 g2 hx g7⟩
 .cases hp
theorem Ni(B:l6 P m gl st){fr fr':Frame}{cs cs':List Frame}(O:dR P m T (fr::cs) (fr'::cs'))(U:¬AtClose fr){w:World}(W:WR m w w'){g:Goroutine}{w₁:World}{es:Array Event}
  (h:aS P true (G fr cs) w=.comm g k b sh w₁ es):Fy P (aS P true (G fr cs)) w g k b sh w₁:=
 (xl (main':=true) B O U).loc (R:=λx es=>.comm g k b sh x es) ⟨Ha,λ_ _ _=>⟨_,rfl⟩,λh e=>U' h.plain e,nofun,λh=>U' (q9 ..) h,λa b c h=>IF B.env.RM a b c h⟩ W h
end
end
end Go.Proofs.YtocbogeoffeolaaGreatDoor
