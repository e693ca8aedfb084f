import GoSem.Step
import Derived.Conc.Events
import Derived.Laws.Tables
import Derived.MapKept
import Derived.Conc.Listed
set_option linter.all false
set_option maxHeartbeats 8000000
set_option maxRecDepth 1000000
open Array renaming getElem?_setIfInBounds_ne->ax,getElem?_eq_some_iff->ay,getElem?_toList->az,mapM_eq_mapM_toList->a0,filter->a1,getElem?_modify->a2,range->a3,toList_map->a4,length_toList->a5,forIn_toList->a6,foldl_toList->a7,all_eq_true_iff_forall_mem->a8,mem_append->a9,map->aA,isEmpty->aB,mem_toList_iff->aC,toList_zipIdx->aD,toList_filter->aE,toList_append->aF,empty_append->aG,append_assoc->aH,toList_push->aI,mem_flatMap->aJ,toList_zip->aK,all_toList->aL,replicate->aM
open Go.Instr renaming sameBits->aN,sameNow->aO,fill->aP,findNow->aQ,takeDeferred->aR,findAsking->aS,checkKey->aT,findKey->aU,keyThatStays->aV,sliceBounds->aW,sliceBound->aX,getLoop->aY,extract->aZ,yield->ba,makeInterface->bc,next->bd,deferInRound->be,typeAssert->bf,entryStore->bg,buildSlice->bh,beginRound->bi,mapUpdate->bj,makeSlice->bk,enterLoop->bm,sureAddr->bn,mapEntry->bo,makeFunc->bp,makeChan->bq,endRound->br,storeAt->bs,sliceAt->bt,makeMap->bu,indexAt->bv,fieldAt->bw,endLoop->bx,lookup->bz,loadAt->b0,slice->b1,range->b3,panic->b4,index->b5,field->b6,entry->b7,build->b8,alloc->b9,box->bA
open Go renaming TypeId->bB,tryRecover->bC,zeroValue->bD,underlying->bE,boundsPanic->bF,runtimePanic->bG,FuncId->bH,seen->bI,newRow->bJ,loadCellsFrom->bK,storeCells->bL,sizeOf->bM,findLabel->bN,doReturn->bO,loadBytes->bP,loadCells->bQ,askRoom->bR,typeInfo->bS,execOp->bT,sameAddr->bU,newObj->bV,mayBeOne->bW,gotoIn->bX,exitTo->bY,nilAhead->bZ,markStringish->cc,yielded->cd,typeStr->ce,results->cf,movedPointer->cg,behindNumber->ci,method->cj,variablesAt->ck,movedNumber->cl,goexitEntry->cm,undef->cp,fieldPlace->cq,elemOf->cr,byteOf->ct
open Go.Op renaming operands->cu,equal->cv,maxDepth->cw,twoPlaces->cx,eqGuardIn->cy,stringOp->cz,intArith->c0,intBits->c3,equalIn->c4,addrMod->c5,intDiv->c6,intCmp->c7,unary->c8,shift->c9
open Go.Builtin renaming zeroCells->cA,unsafeAdd_->cB,append_->cC,clear_->cD,copy_->cE,min_->cF,max_->cG,len_->cH,cap_->cI,unsafeString_->cJ,holdsCells->cK,firstCells->cL,mayShare->cM,lenOf->cN,min2->cO,max2->cP
open Bool renaming and_eq_true->cQ,eq_iff_iff->cR
open Go.Sem renaming run->cS,runT->cT,bind_assoc'->cU
open List renaming getElem?_zip_eq_some->cV,mem_iff_getElem?->cW,all_eq_true->cX,forIn_cons->cY,mapM_cons->cZ,mem_cons->da,mem_map->db
open Option.some renaming injEq->dc,inj->dd
open Go.GStep renaming after->dg
open Go.Call renaming operands->di
open Nat renaming le_succ_of_le->dj,le_trans->dk,le_of_not_lt->dr,le_refl->dt
open Go.Conv renaming bytesToString->ee,stringToBytes->eg,runesToString->ei
open Go.Extern.SlicesOverlaps renaming overlaps->ej
open Go.Extern.Bytes renaming loadBytes->ek,bytesOf->en
open Option renaming getD_some->er,map_some->ev,bind_some->ew
open Go.World renaming freeze->ez,frozen?->e8,noCell->eC,cell?->fa
open Go.Frame renaming enter->fb,finish->fd,round->ff,raise->fk
open Std.Legacy.Range renaming forIn_eq_forIn_range'->fm
open Ne renaming symm->fB
namespace Go.Proofs.YtocbogeoffeolaaGreatDoor
section
variable {α β:Type}
inductive dP{α β:Type}(R:α->β->Prop):List α->List β->Prop
 |nil:dP R [] []
 |cons {a b l l'}:R a b->dP R l l'->dP R (a::l) (b::l')
theorem dP.mono{R S:α->β->Prop}(h:∀a b,R a b->S a b):∀{l:List α}{l':List β},dP R l l'->dP S l l'
 |_,_,.nil=>.nil
 |_,_,.cons a b=>.cons (h _ _ a) (dP.mono h b)
theorem dP.length{R:α->β->Prop}:∀{l:List α}{l':List β},dP R l l'->l.length=l'.length
 |_,_,.nil=>rfl
 |_,_,.cons _ b=>by simp[dP.length b]
theorem dP.append{R:α->β->Prop}:∀{l l₂:List α}{l' B:List β},dP R l l'->dP R l₂ B->dP R (l++l₂) (l'++B)
 |_,_,_,_,.nil,h=>h
 |_,_,_,_,.cons a b,h=>.cons a (dP.append b h)
theorem dP.get{R:α->β->Prop}:∀{l:List α}{l':List β},dP R l l'->∀{i:Nat}{a:α},l[i]?=some a->∃b,l'[i]?=some b/\R a b
 |_,_,.nil,i,a,h=>by simp at h
 |_,_,.cons (b:=b) x y,0,a,h=>⟨b,by simp,by simp at h; exact h▸x⟩
 |_,_,.cons x y,i+1,a,h=>by simpa using dP.get y (by simpa using h)
theorem dP.get_none{R:α->β->Prop}{l:List α}{l':List β}(h:dP R l l'){i:Nat}(hi:l[i]?=none):l'[i]?=none:=by
 rw[List.getElem?_eq_none_iff]at hi⊢;rw[<-h.length]; exact hi
theorem dP.H'{R:α->β->Prop}:∀{l:List α}{l':List β},l.length=l'.length->(∀(i:Nat)a b,l[i]?=some a->l'[i]?=some b->R a b)->dP R l l'
 |[],[],_,_=>.nil
 |a::l,b::l',h,g=>.cons (g 0 a b (by simp) (by simp)) (dP.H' (by simpa using h) λi x y B O=>g (i+1) x y (by simpa using B) (by simpa using O))
 |[],b::l',h,_=>by simp at h
 |a::l,[],h,_=>by simp at h
theorem dP.take{R:α->β->Prop}:∀(n:Nat){l:List α}{l':List β},dP R l l'->dP R (l.take n) (l'.take n)
 |0,_,_,_=>by simpa using .nil
 |n+1,_,_,.nil=>by simpa using .nil
 |n+1,_,_,.cons a b=>by simpa using .cons a (dP.take n b)
theorem dP.drop{R:α->β->Prop}:∀(n:Nat){l:List α}{l':List β},dP R l l'->dP R (l.drop n) (l'.drop n)
 |0,_,_,h=>by simpa using h
 |n+1,_,_,.nil=>by simpa using .nil
 |n+1,_,_,.cons a b=>by simpa using dP.drop n b
theorem dP.set{R:α->β->Prop}:∀{l:List α}{l':List β},dP R l l'->∀(i:Nat){a:α}{b:β},R a b->dP R (l.set i a) (l'.set i b)
 |_,_,.nil,_,_,_,_=>by simpa using .nil
 |_,_,.cons x y,0,_,_,h=>by simpa using .cons h y
 |_,_,.cons x y,i+1,_,_,h=>by simpa using .cons x (dP.set y i h)
theorem dP.map{γ δ:Type}{R:α->β->Prop}{S:γ->δ->Prop}{f:α->γ}{g:β->δ}(h:∀a b,R a b->S (f a) (g b)):∀{l:List α}{l':List β},dP R l l'->dP S (l.map f) (l'.map g)
 |_,_,.nil=>.nil
 |_,_,.cons a b=>.cons (h _ _ a) (dP.map h b)
theorem dP.refl{R:α->α->Prop}:∀{l:List α},(∀a∈l,R a a)->dP R l l
 |[],_=>.nil
 |a::l,h=>.cons (h a (by simp)) (dP.refl λx B=>h x (by simp[B]))
structure Ren where
 blk:Nat->Option Nat
 ch:Nat->Option Nat
 loose:Nat->Prop
 ok:Oper->Prop
 fq:bH->Prop
 ic:Prop
 dead:Nat->Prop
 dm:Nat->Nat
 rB:Nat->Nat->Option Value
 kD:Nat->Option Obj
 G:Nat
 nZ:∀r r',blk r=some r'->(r<G↔r'<G)
 inj:∀r s t,blk r=some t->blk s=some t->r=s
 uJ:∀r s t,ch r=some t->ch s=some t->r=s
structure Ren.Le(m m':Ren):Prop where
 blk:∀r r',m.blk r=some r'->m'.blk r=some r'
 ch:∀r r',m.ch r=some r'->m'.ch r=some r'
 loose:∀r r',m.blk r=some r'->(m'.loose r↔m.loose r)
 less:∀r,m'.loose r->m.loose r
 ok:m'.ok=m.ok
 fq:m'.fq=m.fq
 ic:m'.ic=m.ic
 G:m'.G=m.G
 dead:m'.dead=m.dead
 dm:m'.dm=m.dm
 rB:m'.rB=m.rB
theorem Ren.Le.refl(m:Ren):m.Le m:=⟨λ_ _ h=>h,λ_ _ h=>h,λ_ _ _=>Iff.rfl,λ_ h=>h,rfl,rfl,rfl,rfl,rfl,rfl,rfl⟩
theorem Ren.Le.trans{m m' B:Ren}(h:m.Le m')(h':m'.Le B):m.Le B:=
 ⟨λr r' x=>h'.blk r r' (h.blk r r' x),λr r' x=>h'.ch r r' (h.ch r r' x),λr r' x=>(h'.loose r r' (h.blk r r' x)).trans (h.loose r r' x),λr x=>h.less r (h'.less r x),h'.ok.trans h.ok,h'.fq.trans h.fq,h'.ic.trans h.ic,h'.G.trans h.G,h'.dead.trans h.dead,h'.dm.trans h.dm,h'.rB.trans h.rB⟩
inductive AR(m:Ren):Addr->Addr->Prop
 |mk {b b' o s}:m.blk b=some b'->AR m ⟨b,o,s⟩ ⟨b',o,s⟩
theorem AR.blk{m:Ren}{a a':Addr}(h:AR m a a'):m.blk a.block=some a'.block:=by cases h; assumption
theorem AR.off{m:Ren}{a a':Addr}(h:AR m a a'):a'.off=a.off:=by cases h; rfl
theorem AR.spot{m:Ren}{a a':Addr}(h:AR m a a'):a'.spot=a.spot:=by cases h; rfl
theorem AR.mono{m m':Ren}(h:m.Le m'){a a':Addr}(x:AR m a a'):AR m' a a':=by cases x with|mk hb=>exact .mk (h.blk _ _ hb)
theorem AR.add{m:Ren}{a a':Addr}(h:AR m a a')(n:Nat):AR m (a.add n) (a'.add n):=by
 cases h with
 |mk hb=>unfold Addr.add; split<;>exact .mk hb
theorem AR.eq_iff{m:Ren}{a a' b b':Addr}(h:AR m a a')(h':AR m b b'):(a=b↔a'=b'):=by
 cases h with
 |mk hb=>cases h' with
  |mk B=>
   constructor
   .intro e; cases e; rw[hb]at B; cases B; rfl
   .intro e; cases e; have:=m.inj _ _ _ hb B; subst this; rfl
theorem AR.rj{m:Ren}{a a' b b':Addr}(h:AR m a a')(h':AR m b b'):(a.block=b.block↔a'.block=b'.block):=by
 cases h with
 |mk hb=>cases h' with
  |mk B=>
   constructor
   .intro e; subst e; rw[hb]at B; cases B; rfl
   .intro e; subst e; exact m.inj _ _ _ hb B
inductive Ma(m:Ren):Fn->Fn->Prop
 |func (f):m.fq f->Ma m (.func f) (.func f)
 |yield {l l'}:m.blk l=some l'->Ma m (.yield l) (.yield l')
theorem Ma.mono{m m':Ren}(h:m.Le m'){a a':Fn}(x:Ma m a a'):Ma m' a a':=by
 cases x with
 |func f B=>exact .func f (h.fq▸B)
 |yield hb=>exact .yield (h.blk _ _ hb)
def NB:Value->Prop
 |.pointer (some _)|.slice (some _) _ _|.map (some _)|.chan (some _)|.iface ..|.float ..|.complex ..|.tuple _|.func (.func _) _ _|.func (.yield _) _ _|.func (.methodOf _ _) _ _|.func (.via ..) _ _=>True
 |_=>False
inductive VR(m:Ren):Value->Value->Prop
 |fJ (v):NB v->VR m (.tuple #[]) v
 |bool (b):VR m (.bool b) (.bool b)
 |int (k n):VR m (.int k n) (.int k n)
 |string (s):VR m (.string s) (.string s)
 |gJ:VR m (.pointer none) (.pointer none)
 |ptr {a a'}:AR m a a'->VR m (.pointer (some a)) (.pointer (some a'))
 |fl (l c):VR m (.slice none l c) (.slice none l c)
 |slice {a a'} (l c):AR m a a'->VR m (.slice (some a) l c) (.slice (some a') l c)
 |mw:VR m (.map none) (.map none)
 |map {r r'}:m.blk r=some r'->VR m (.map (some r)) (.map (some r'))
 |gone {r}:m.dead r->VR m (.map (some r)) (.map (some (m.dm r)))
 |iS:VR m (.chan none) (.chan none)
 |chan {r r'}:m.ch r=some r'->VR m (.chan (some r)) (.chan (some r'))
 |func {fn fn' f f' c c'}:Ma m fn fn'->f.size=f'.size->(∀i(h:i<f.size)(h':i<f'.size),VR m f[i] f'[i])->c.size=c'.size->(∀i(h:i<c.size)(h':i<c'.size),VR m c[i] c'[i])->VR m (.func fn f c) (.func fn' f' c')
 |nilFunc:VR m .nilFunc .nilFunc
 |iface (t) {v v'}:VR m v v'->VR m (.iface t v) (.iface t v')
 |nilIface:VR m .nilIface .nilIface
 |agg {c c'}:c.size=c'.size->(∀i(h:i<c.size)(h':i<c'.size),VR m c[i] c'[i])->VR m (.agg c) (.agg c')
 |tuple {c c'}:c.size=c'.size->(∀i(h:i<c.size)(h':i<c'.size),VR m c[i] c'[i])->VR m (.tuple c) (.tuple c')
 |qn {lf n f c}:lf.size=f.size->(∀i(h:i<lf.size)(h':i<f.size),VR m lf[i] f[i])->(∀t w,f[0]?=some (.iface t w)->∃x,lf[0]?=some (.iface t x))->VR m (.func (.method "") lf #[.func (.method n) f c]) (.func (.method n) f c)
theorem VR.mono{m m':Ren}(h:m.Le m'){v v':Value}(x:VR m v v'):VR m' v v':=by
 induction x with
 |fJ v Y=>exact .fJ v Y
 |qn B _ U O=>exact .qn B O U
 |bool|int|string|gJ|fl|mw|iS|nilFunc|nilIface=>constructor
 |ptr W=>exact .ptr (W.mono h)
 |slice l c W=>exact .slice l c (W.mono h)
 |map hb=>exact .map (h.blk _ _ hb)
 |gone hd=>rw[<-h.dm]; exact .gone (h.dead▸hd)
 |chan hb=>exact .chan (h.ch _ _ hb)
 |func hf B _ U _ i1 i2=>exact .func (hf.mono h) B i1 U i2
 |iface t _ O=>exact .iface t O
 |agg B _ O=>exact .agg B O
 |tuple B _ O=>exact .tuple B O
def ed(m:Ren)(c c':Array Value):Prop:=dP (VR m) c.toList c'.toList
theorem ed.mono{m m':Ren}(h:m.Le m'){c c':Array Value}(x:ed m c c'):ed m' c c':=dP.mono (λ_ _=>VR.mono h) x
theorem ed.size{m:Ren}{c c':Array Value}(h:ed m c c'):c.size=c'.size:=by simpa using dP.length h
theorem ed.gS{m:Ren}{c c':Array Value}(O:c.size=c'.size)(h:∀i(h:i<c.size)(h':i<c'.size),VR m c[i] c'[i]):ed m c c':=by
 refine dP.H' (by simpa using O) λi a b B hb=>?_;simp only[az]at B hb;obtain⟨U,rfl⟩:=ay.1 B;obtain⟨W,rfl⟩:=ay.1 hb;exact h i U W
theorem ed.idx{m:Ren}{c c':Array Value}(x:ed m c c'):∀i(h:i<c.size)(h':i<c'.size),VR m c[i] c'[i]:=by
 intro i h h';obtain⟨b,hb,B⟩:=dP.get x (i:=i) (a:=c[i]) (by simp[h]);simp only[az,Array.getElem?_eq_getElem h',dc]at hb;exact hb▸B
theorem VR.KD{m:Ren}{c c':Array Value}(h:ed m c c'):VR m (.agg c) (.agg c'):=.agg h.size h.idx
theorem VR.kL{m:Ren}{c c':Array Value}(h:ed m c c'):VR m (.tuple c) (.tuple c'):=.tuple h.size h.idx
theorem VR.Jt{m:Ren}{fn B:Fn}{f f' c c':Array Value}(O:Ma m fn B)(h:ed m f f')(h':ed m c c'):VR m (.func fn f c) (.func B f' c'):=.func O h.size h.idx h'.size h'.idx
theorem VR.undef(m:Ren):VR m undef undef:=.fJ _ trivial
theorem ed.get{m:Ren}{c c':Array Value}(h:ed m c c'){i:Nat}{v:Value}(B:c[i]?=some v):∃v',c'[i]?=some v'/\VR m v v':=by simpa using dP.get h (i:=i) (a:=v) (by simpa using B)
theorem ed.get_none{m:Ren}{c c':Array Value}(h:ed m c c'){i:Nat}(B:c[i]?=none):c'[i]?=none:=by simpa using dP.get_none h (i:=i) (by simpa using B)
theorem ed.getD{m:Ren}{c c':Array Value}(h:ed m c c')(i:Nat):VR m (c.getD i cp) (c'.getD i cp):=by
 simp only[Array.getD_eq_getD_getElem?]
 cases O:c[i]? with
 |none=>rw[h.get_none O]; exact .undef m
 |some v=>obtain⟨v',B,U⟩:=h.get O; simp only[B,er]; exact U
theorem ed.push{m:Ren}{c c':Array Value}(h:ed m c c'){v v':Value}(B:VR m v v'):ed m (c.push v) (c'.push v'):=by
 unfold ed; simp only[aI]; exact dP.append h (.cons B .nil)
theorem ed.append{m:Ren}{c c' d d':Array Value}(h:ed m c c')(h':ed m d d'):ed m (c++d) (c'++d'):=by
 unfold ed; simp only[aF]; exact dP.append h h'
theorem ed.extract{m:Ren}{c c':Array Value}(h:ed m c c')(i j:Nat):ed m (c.extract i j) (c'.extract i j):=by
 unfold ed; simp only[Array.toList_extract,List.extract_eq_take_drop]; exact dP.take _ (dP.drop _ h)
theorem ed.set{m:Ren}{c c':Array Value}(h:ed m c c')(i:Nat){v v':Value}(B:VR m v v'):ed m (c.setIfInBounds i v) (c'.setIfInBounds i v'):=by
 unfold ed; simp only[Array.toList_setIfInBounds]; exact dP.set h i B
theorem ed.nil(m:Ren):ed m #[] #[]:=dP.nil
theorem ed.one{m:Ren}{v v':Value}(h:VR m v v'):ed m #[v] #[v']:=dP.cons h dP.nil
def Plain:Value->Prop
 |.bool _|.int _ _|.string _|.pointer none|.slice none _ _|.map none|.chan none|.nilFunc|.nilIface=>True
 |_=>False
theorem VR.plain{m:Ren}:∀{v:Value},Plain v->VR m v v:=by
 intro v h
 match v,h with
 |.bool _,_=>constructor
 |.int ..,_=>constructor
 |.string _,_=>constructor
 |.pointer none,_=>constructor
 |.slice none ..,_=>constructor
 |.map none,_=>constructor
 |.chan none,_=>constructor
 |.nilFunc,_=>constructor
 |.nilIface,_=>constructor
theorem VR.cells{m:Ren}{v v':Value}(h:VR m v v'):ed m v.cells v'.cells:=by
 cases h with
 |fJ v B=>
  have:v'.cells=#[v']:=by cases v'<;>first|rfl|exact B.elim
  rw[this];exact ed.one (.fJ _ B)
 |qn a b c=>exact ed.one (.qn a b c)
 |agg O hi=>exact ed.gS O hi
 |bool|int|string|gJ|fl|mw|iS|nilFunc|nilIface=>exact ed.one (by constructor)
 |ptr h=>exact ed.one (.ptr h)
 |slice l c h=>exact ed.one (.slice l c h)
 |map h=>exact ed.one (.map h)
 |gone h=>exact ed.one (.gone h)
 |chan h=>exact ed.one (.chan h)
 |func a b c d e=>exact ed.one (.func a b c d e)
 |iface t h=>exact ed.one (.iface t h)
 |tuple a b=>exact ed.one (.tuple a b)
theorem ed.replicate{m:Ren}{v v':Value}(n:Nat)(h:VR m v v'):ed m (aM n v) (aM n v'):=by
 refine ed.gS (by simp) λi B O=>?_;simpa using h
theorem ed.refl{m:Ren}{c:Array Value}(h:∀v∈c.toList,VR m v v):ed m c c:=dP.refl h
end
section
variable {m':Ren}
def uE:Operand->Prop
 |.tmp _=>True
 |.const v=>Plain v
 |_=>False
def fD(ok:Oper->Prop):Code->Prop
 |.skip|.exit _|.label _|.goto _|.ret=>True
 |.region _ ops _=>∀o∈ops.toList,ok o
 |.seq a b=>fD ok a/\fD ok b
 |.cond c a b=>uE c/\fD ok a/\fD ok b
 |.block _ c|.loop c|.scope c=>fD ok c
 |.rangeFunc f _ a b=>uE f/\fD ok a/\fD ok b
 |.refuse _=>False
structure vE(m:Ren)(l l':Loop):Prop where
 state:l.state=l'.state
 pending:l.pending=l'.pending
 Su:∀c,l.pending=some c->fD m.ok c
 fn:l.fn=l'.fn
 tmps:ed m l.tmps l'.tmps
 params:l.params=l'.params
 assign:l.assign=l'.assign
 body:l.body=l'.body
 RR:fD m.ok l.assign
 wN:fD m.ok l.body
 defers:m.blk l.defers=some l'.defers
def Tn(m:Ren)(f f':Fn)(c c':Array Value):Prop:=(Ma m f f'/\ed m c c')\/(f=.method ""/\∃n,f'=.method n)
theorem Tn.mono{m:Ren}(h:m.Le m'){f f':Fn}{c c':Array Value}(x:Tn m f f' c c'):Tn m' f f' c c':=x.imp (λy=>⟨y.1.mono h,y.2.mono h⟩) id
inductive TR(m:Ren):Target->Target->Prop
 |fn {f f' c c'}:Tn m f f' c c'->TR m (.fn f c) (.fn f' c')
 |nil:TR m .nil .nil
 |builtin (a t c):m.ic->TR m (.builtin .close a t c) (.builtin .close a t c)
 |mark {r} (a t c):m.dead r->TR m (.collected r) (.builtin .close a t c)
 |collected {r r'}:m.blk r=some r'->TR m (.collected r) (.collected r')
structure DR(m:Ren)(d d':Deferred):Prop where
 target:TR m d.target d'.target
 args:ed m d.args d'.args
structure su(m:Ren)(e e':MapEntry):Prop where
 key:VR m e.key e'.key
 val:VR m e.val e'.val
 born:e'.born=e.born
inductive OR(m:Ren):Obj->Obj->Prop
 |cells {c c'} (e f f'):ed m c c'->OR m (.cells c e f) (.cells c' e f')
 |map {es es'} (clock):dP (su m) es.toList es'.toList->OR m (.map es clock) (.map es' clock)
 |number {a a'} (l):AR m a a'->OR m (.number a l) (.number a' l)
 |stringIter (s p):OR m (.stringIter s p) (.stringIter s p)
 |fT (a b c):OR m (.mapIter none a b c) (.mapIter none a b c)
 |mapIter {r r'} (a b c):m.blk r=some r'->OR m (.mapIter (some r) a b c) (.mapIter (some r') a b c)
 |loop {l l'}:vE m l l'->OR m (.loop l) (.loop l')
 |eR:OR m (.deferred none) (.deferred none)
 |deferred {ds ds'}:dP (DR m) ds ds'->OR m (.deferred (some ds)) (.deferred (some ds'))
theorem TR.mono{m:Ren}(h:m.Le m'){a a':Target}(x:TR m a a'):TR m' a a':=by
 cases x with
 |fn B=>exact .fn (B.mono h)
 |nil=>exact .nil
 |builtin a t c hm=>exact .builtin a t c (h.ic▸hm)
 |mark a t c O=>exact .mark a t c (h.dead▸O)
 |collected hb=>exact .collected (h.blk _ _ hb)
theorem DR.mono{m:Ren}(h:m.Le m'){a a':Deferred}(x:DR m a a'):DR m' a a':=⟨x.target.mono h,x.args.mono h⟩
theorem su.mono{m:Ren}(h:m.Le m'){a a':MapEntry}(x:su m a a'):su m' a a':=⟨x.key.mono h,x.val.mono h,x.born⟩
theorem vE.mono{m:Ren}(h:m.Le m'){a a':Loop}(x:vE m a a'):vE m' a a':=
 ⟨x.state,x.pending,λc B=>h.ok▸x.Su c B,x.fn,x.tmps.mono h,x.params,x.assign,x.body,h.ok▸x.RR,h.ok▸x.wN,h.blk _ _ x.defers⟩
theorem OR.mono{m:Ren}(h:m.Le m'){a a':Obj}(x:OR m a a'):OR m' a a':=by
 cases x with
 |cells e f f' B=>exact .cells e f f' (B.mono h)
 |map clock O=>exact .map clock (dP.mono (λ_ _ y=>y.mono h) O)
 |number l U=>exact .number l (U.mono h)
 |stringIter s p=>exact .stringIter s p
 |fT a b c=>exact .fT a b c
 |mapIter a b c hb=>exact .mapIter a b c (h.blk _ _ hb)
 |loop W=>exact .loop (W.mono h)
 |eR=>exact .eR
 |deferred Y=>exact .deferred (dP.mono (λ_ _ y=>y.mono h) Y)
def dY(P:Program){α:Type}:Sem α->Prop
 |.pure _=>False
 |.load _ _ _=>False
 |.store _ _ (.agg _) _=>True
 |.store _ _ (.tuple _) _=>True
 |.store _ _ _ _=>False
 |.new _ k=>∀r,dY P (k r)
 |.shape _ k=>∀r,dY P (k r)
 |.freeze _ _ k=>dY P k
 |.frozen _ k=>∀r,dY P (k r)
 |.getObj _ k=>∀r,dY P (k r)
 |.setObj _ _ k=>dY P k
 |.choose _ k=>∀r,dY P (k r)
 |.sys _ k=>∀r,dY P (k r)
 |.program k=>dY P (k P)
 |.mark _ k=>dY P k
 |.halt (.unsupported (.initOrder _))=>False
 |.halt (.unsupported _)=>True
 |.halt (.stuck _)=>True
 |.halt (.throw _)=>True
 |.halt _=>False
def fO{α:Type}:Sem α->Prop
 |.pure _=>True
 |.load _ _ k=>∀v,fO (k v)
 |.store _ _ _ k=>fO k
 |.new _ k=>∀r,fO (k r)
 |.shape _ k=>∀r,fO (k r)
 |.freeze _ _ k=>fO k
 |.frozen _ k=>∀r,fO (k r)
 |.getObj _ k=>∀r,fO (k r)
 |.setObj _ _ k=>fO k
 |.choose _ _=>False
 |.sys _ k=>∀r,fO (k r)
 |.program k=>∀P,fO (k P)
 |.mark _ k=>fO k
 |.halt _=>True
def O6:Mark->Prop
 |.noRoom|.extern _=>True
 |_=>False
inductive dv(P:Program){α β:Type}(RA:Ren->α->β->Prop):Ren->Sem α->Sem β->Prop
 |dy {m s s'}:dY P s->dv P RA m s s'
 |pure {m a b}:RA m a b->dv P RA m (.pure a) (.pure b)
 |load {m a a' k k'}:AR m a a'->(∀v v',VR m v v'->dv P RA m (k v) (k' v'))->dv P RA m (.load .plain a k) (.load .plain a' k')
 |store {m a a' v v' k k'}:AR m a a'->VR m v v'->dv P RA m k k'->dv P RA m (.store .plain a v k) (.store .plain a' v' k')
 |new {m o o' k k'}:OR m o o'->(∀e c f,o=.cells e c f->∃e',o'=.cells e' c f)->(∀m' r r',m.Le m'->m'.blk r=some r'->¬m'.loose r->dv P RA m' (k r) (k' r'))->dv P RA m (.new o k) (.new o' k')
 |pq {m c b x s r t c' b' x' s' r' t' k k'}:m.ic->(∀m' i i',m.Le m'->m'.ch i=some i'->dv P RA m' (k i) (k' i'))->dv P RA m (.new (.chan c b x s r t) k) (.new (.chan c' b' x' s' r' t') k')
 |shape {m r r' k k'}:m.blk r=some r'->(∀x,dv P RA m (k x) (k' x))->dv P RA m (.shape r k) (.shape r' k')
 |freeze {m a a' n k k'}:AR m a a'->¬m.loose a.block->dv P RA m k k'->dv P RA m (.freeze a n k) (.freeze a' n k')
 |frozen {m a a' k k'}:AR m a a'->¬m.loose a.block->(∀x,dv P RA m (k x) (k' x))->dv P RA m (.frozen a k) (.frozen a' k')
 |getObj {m r r' k k'}:m.blk r=some r'->(∀o o',OR m o o'->dv P RA m (k o) (k' o'))->dv P RA m (.getObj r k) (.getObj r' k')
 |setObj {m r r' o o' k k'}:m.blk r=some r'->OR m o o'->(∀c e f,o≠.cells c e f)->dv P RA m k k'->dv P RA m (.setObj r o k) (.setObj r' o' k')
 |choose {m q k k'}:(∀n,dv P RA m (k n) (k' n))->dv P RA m (.choose q k) (.choose q k')
 |env {m k k'}:(∀r,dv P RA m (k r) (k' r))->dv P RA m (.sys .env k) (.sys .env k')
 |program {m k k'}:dv P RA m (k P) (k' P)->dv P RA m (.program k) (.program k')
 |mark {m x k k'}:O6 x->dv P RA m k k'->dv P RA m (.mark x k) (.mark x k')
 |gone {m r k s'}:m.dead r->dv P RA m (.getObj r k) s'
 |panic {m v v'}:VR m v v'->dv P RA m (.halt (.panic v)) (.halt (.panic v'))
section
variable {P:Program} {α β γ δ:Type}
theorem dY.bind{s:Sem α}{f:α->Sem γ}(h:dY P s):dY P (s.bind f):=by
 induction s with
 |pure a=>exact h.elim
 |load m a k B=>exact h.elim
 |store m a v k B=>cases v<;>exact h
 |new o k B=>exact λv=>B v (h v)
 |shape r k B=>exact λv=>B v (h v)
 |freeze a n k B=>exact B h
 |frozen a k B=>exact λv=>B v (h v)
 |getObj r k B=>exact λv=>B v (h v)
 |setObj r o k B=>exact B h
 |choose q k B=>exact λv=>B v (h v)
 |sys c k B=>exact λv=>B v (h v)
 |program k B=>exact B P h
 |mark m k B=>exact B h
 |halt x=>cases x<;>first|exact h|(rename_i u; cases u<;>exact h)
theorem dv.bind{RA:Ren->α->β->Prop}{RB:Ren->γ->δ->Prop}{m:Ren}{s:Sem α}{s':Sem β}{f:α->Sem γ}{f':β->Sem δ}
  (h:dv P RA m s s') (O:∀m' a b,m.Le m'->RA m' a b->dv P RB m' (f a) (f' b)):dv P RB m (s.bind f) (s'.bind f'):=by
 induction h with
 |dy hd=>exact .dy hd.bind
 |pure hr=>exact O _ _ _ (.refl _) hr
 |load U _ B=>exact .load U λv v' hv=>B v v' hv O
 |store U hv _ B=>exact .store U hv (B O)
 |new ho hc _ B=>exact .new ho hc λm' r r' hl hb hn=>B m' r r' hl hb hn λW a b Y hr=>O W a b (hl.trans Y) hr
 |pq hm _ B=>exact .pq hm λm' i i' hl hb=>B m' i i' hl hb λW a b Y hr=>O W a b (hl.trans Y) hr
 |shape hb _ B=>exact .shape hb λx=>B x O
 |freeze U hn _ B=>exact .freeze U hn (B O)
 |frozen U hn _ B=>exact .frozen U hn λx=>B x O
 |getObj hb _ B=>exact .getObj hb λo o' ho=>B o o' ho O
 |setObj hb ho hc _ B=>exact .setObj hb ho hc (B O)
 |choose _ B=>exact .choose λn=>B n O
 |env _ B=>exact .env λn=>B n O
 |program _ B=>exact .program (B O)
 |mark hm _ B=>exact .mark hm (B O)
 |gone hd=>exact .gone hd
 |panic hv=>exact .panic hv
theorem dv.mono{RA RB:Ren->α->β->Prop}{m:Ren}{s:Sem α}{s':Sem β}(h:dv P RA m s s')(O:∀m' a b,m.Le m'->RA m' a b->RB m' a b):dv P RB m s s':=by
 induction h with
 |dy hd=>exact .dy hd
 |pure x=>exact .pure (O _ _ _ (.refl _) x)
 |load U _ B=>exact .load U λv v' hv=>B v v' hv O
 |store U hv _ B=>exact .store U hv (B O)
 |new ho hc _ B=>exact .new ho hc λm' r r' hl hb hn=>B m' r r' hl hb hn λW a b Y x=>O W a b (hl.trans Y) x
 |pq hm _ B=>exact .pq hm λm' i i' hl hb=>B m' i i' hl hb λW a b Y x=>O W a b (hl.trans Y) x
 |shape hb _ B=>exact .shape hb λx=>B x O
 |freeze U hn _ B=>exact .freeze U hn (B O)
 |frozen U hn _ B=>exact .frozen U hn λx=>B x O
 |getObj hb _ B=>exact .getObj hb λo o' ho=>B o o' ho O
 |setObj hb ho hc _ B=>exact .setObj hb ho hc (B O)
 |choose _ B=>exact .choose λn=>B n O
 |env _ B=>exact .env λn=>B n O
 |program _ B=>exact .program (B O)
 |mark hm _ B=>exact .mark hm (B O)
 |gone hd=>exact .gone hd
 |panic hv=>exact .panic hv
end
def inside(f:Nat×Nat)(o:Nat):Prop:=f.1<=o/\o<f.2
def nJ:Value->Prop
 |.agg _|.tuple _=>True
 |_=>False
def TQ(m:Ren)(w w':World):Prop:=∀r o v,m.rB r o=some v->∃r',m.blk r=some r'/\∀c e f c' B f' x,w.heap[r]?=some (.cells c e f)->w'.heap[r']?=some (.cells c' B f')->c[o]?=some x->nJ x->c'[o]?=some v
structure WR(m:Ren)(w w':World):Prop where
 obj:∀r r',m.blk r=some r'->∃o o',w.heap[r]?=some o/\w'.heap[r']?=some o'/\OR m o o'
 fz:∀r r' c e f c' e' f',m.blk r=some r'->w.heap[r]?=some (.cells c e f)->w'.heap[r']?=some (.cells c' e' f')->¬m.loose r->f'=f
 all:∀r r' c e f c' e' f',m.blk r=some r'->w.heap[r]?=some (.cells c e f)->w'.heap[r']?=some (.cells c' e' f')->m.loose r->∀o,o<c.size->inside f o
 LW:∀r r',m.ch r=some r'->r<w.heap.size/\r'<w'.heap.size
 LX:m.G<=w.heap.size
 Jd:m.G<=w'.heap.size
 os:w'.os=w.os
 kD:∀r o,m.kD r=some o->w.heap[r]?=some o/\∃c b x s y t,o=.chan c b x s y t
 lk:∀r r',m.blk r=some r'->m.loose r->∃c e f,w.heap[r]?=some (.cells c e f)
 dead:∀r,m.dead r->m.blk r=none/\∃c e f,w.heap[r]?=some (.cells c e f)
 rB:TQ m w w'
def Al(w w':World):Prop:=∀i q,w'.tape (w'.drawn+i) q=w.tape (w.drawn+i) q
def oy(m:Ren)(e:Event):Prop:=
 match e.loc with
 |.cell a'=>e.sync=false/\∃a,AR m a a'/\(e.write=true->¬m.loose a.block)
 |.obj r'=>e.sync=false/\∃r,m.blk r=some r'/\¬m.loose r
 |.mark k=>O6 k
 |.output=>True
 |_=>False
structure fv(m dx:Ren)(w w₁:World):Prop where
 old:∀r',r'<w.heap.size->(∀r,m.blk r≠some r')->w₁.heap[r']?=w.heap[r']?
 size:w.heap.size<=w₁.heap.size
 fresh:∀r',w.heap.size<=r'->r'<w₁.heap.size->(∃r,dx.blk r=some r')\/(∃r,dx.ch r=some r')
 news:∀r r',dx.blk r=some r'->m.blk r=some r'\/w.heap.size<=r'
 S8:∀r r',dx.ch r=some r'->m.ch r=some r'\/w.heap.size<=r'
 tape:w₁.tape=w.tape
 output:w₁.output=w.output
 os:w₁.os=w.os
 ml:¬m.ic->dx.ch=m.ch
 kD:dx.kD=m.kD
 still:∀r r',m.blk r=some r'->m.loose r->w₁.heap[r']?=w.heap[r']?
theorem fv.refl(m:Ren)(w:World):fv m m w w:=⟨λ_ _ _=>rfl,dt _,λr' h h'=>absurd h' (by omega),λ_ _ h=>.inl h,λ_ _ h=>.inl h,rfl,rfl,rfl,λ_=>rfl,rfl,λ_ _ _ _=>rfl⟩
theorem oy.mono{m:Ren}(h:m.Le m'){e:Event}(x:oy m e):oy m' e:=by
 unfold oy at x⊢;split<;>simp_all only
 .obtain⟨_,a,B,O⟩:=x;exact⟨trivial,a,B.mono h,λU=>by rw[h.loose _ _ B.blk]; exact O U⟩
 .obtain⟨_,a,B,W⟩:=x;exact⟨trivial,a,h.blk _ _ B,λy=>W ((h.loose _ _ B).1 y)⟩
theorem fv.trans{m dx m₂:Ren}{w w₁ B:World}(W:m.Le dx)(O:dx.Le m₂)(h:fv m dx w w₁)(h':fv dx m₂ w₁ B):fv m m₂ w B:=by
 refine⟨λr' U hn=>?_,dk h.size h'.size,λr' U Y=>?_,λr r' hb=>?_,λr r' hb=>?_,h'.tape.trans h.tape,h'.output.trans h.output,h'.os.trans h.os,λhm=>(h'.ml (by rw[W.ic]; exact hm)).trans (h.ml hm),h'.kD.trans h.kD,λr r' hb hx=>(h'.still r r' (W.blk _ _ hb) ((W.loose _ _ hb).2 hx)).trans (h.still r r' hb hx)⟩
 .rw[h'.old r' (Nat.lt_of_lt_of_le U h.size) λr hb=>?_,h.old r' U hn];rcases h.news r r' hb with x|x
  .exact hn r x
  .omega
 .by_cases hc:r'<w₁.heap.size
  .rcases h.fresh r' U hc with⟨r,x⟩|⟨r,x⟩
   .exact .inl ⟨r,O.blk _ _ x⟩
   .exact .inr ⟨r,O.ch _ _ x⟩
  .exact h'.fresh r' (by omega) Y
 .rcases h'.news r r' hb with x|x
  .exact h.news r r' x
  .exact .inr (dk h.size x)
 .rcases h'.S8 r r' hb with x|x
  .exact h.S8 r r' x
  .exact .inr (dk h.size x)
section
variable {m:Ren} {w w':World}
theorem WR.lt(h:WR m w w'){r r':Nat}(hb:m.blk r=some r'):r<w.heap.size/\r'<w'.heap.size:=by
 obtain⟨o,o',B,O,_⟩:=h.obj r r' hb;exact⟨(ay.1 B).1,(ay.1 O).1⟩
theorem WR.cell(h:WR m w w'){a a':Addr}(B:AR m a a'){v:Value}(hv:w.cell? a=some v):∃v',w'.cell? a'=some v'/\VR m v v':=by
 cases B with
 |@mk b b' o s hb=>
 obtain⟨x,x',O,U,W⟩:=h.obj b b' hb;unfold fa at hv⊢;simp only[O,U]at hv⊢
 cases W with
 |cells e f f' Y=>
  simp only at hv⊢;split at hv
  .cases hv
  .rename_i hs;rw[if_neg hs];exact Y.get hv
 |_=>cases hv
theorem WR.MZ(h:WR m w w'){a a':Addr}(B:AR m a a')(W:w.cell? a=none)(P:Program)(b:Bool):∃y,w.farLoad P a b=.error (.stuck y):=by
 cases B with
 |@mk b b' o s hb=>
 obtain⟨x,x',O,Y,U⟩:=h.obj b b' hb;unfold World.farLoad eC;simp only[O];cases U<;>exact⟨_,rfl⟩
theorem WR.Jf(h:WR m w w'){a a':Addr}(B:AR m a a')(W:w.cell? a=none)(P:Program)(v:Value)(b:Bool):∃y,w.farStore P a v b=.error (.stuck y):=by
 cases B with
 |@mk b b' o s hb=>
 obtain⟨x,x',O,Y,U⟩:=h.obj b b' hb;unfold World.farStore eC;simp only[O];cases U<;>exact⟨_,rfl⟩
end
end
section
variable {a':Addr} {es:Array Event} {h:Array Obj} {r r':Nat} {o o':Obj} {P:Program} {al:Prop} {α β:Type}
def jK:Halt->Prop
 |.unsupported (.initOrder _)=>False
 |.unsupported _=>True
 |.stuck _=>True
 |.throw _=>True
 |_=>False
theorem dY.run{s:Sem α}(h:dY P s):∀w:World,∃x w₁,s.run P w=.halt x w₁/\jK x:=by
 induction s with
 |pure a=>exact h.elim
 |load m a k B=>exact h.elim
 |store m a v k B=>
  intro w;cases v<;>first|exact h.elim|exact⟨_,_,rfl,trivial⟩
 |new o k B=>exact λw=>B _ (h _) _
 |shape r k B=>exact λw=>B _ (h _) _
 |freeze a n k B=>exact λw=>B h _
 |frozen a k B=>exact λw=>B _ (h _) _
 |getObj r k B=>
  intro w;simp only[cS];split
  .exact⟨_,_,rfl,trivial⟩
  .exact B _ (h _) _
  .exact⟨_,_,rfl,trivial⟩
 |setObj r o k B=>
  intro w;simp only[cS];split
  .exact⟨_,_,rfl,trivial⟩
  .exact B h _
  .exact⟨_,_,rfl,trivial⟩
 |choose q k B=>
  intro w;simp only[cS];split
  .exact B _ (h _) _
  .exact B _ (h _) _
 |sys c k B=>exact λw=>B _ (h _) _
 |program k B=>exact λw=>B P h _
 |mark m k B=>exact λw=>B h _
 |halt x=>
  intro w;refine⟨x,w,rfl,?_⟩;cases x<;>first|exact h.elim|trivial|(rename_i u; cases u<;>first|exact h.elim|trivial)
def Ren.ext(m:Ren)(r r':Nat)(_h:m.blk r=none)(h':∀s,m.blk s≠some r')(O:r<m.G↔r'<m.G):Ren where
 blk:=λs=>if s=r then some r' else m.blk s
 ch:=m.ch
 loose:=λs=>if s=r then False else m.loose s
 ok:=m.ok
 fq:=m.fq
 ic:=m.ic
 dead:=m.dead
 dm:=m.dm
 rB:=m.rB
 kD:=m.kD
 G:=m.G
 nZ:=λa b B=>by
  by_cases ea:a=r
  .simp[ea]at B; subst B; rw[ea]; exact O
  .simp[ea]at B; exact m.nZ _ _ B
 inj:=λa b t B hb=>by
  by_cases ea:a=r<;>by_cases eb:b=r
  .rw[ea,eb]
  .simp[ea,eb]at B hb; subst B; exact absurd hb (h' _)
  .simp[ea,eb]at B hb; subst hb; exact absurd B (h' _)
  .simp[ea,eb]at B hb; exact m.inj _ _ _ B hb
 uJ:=m.uJ
def Ren.sw(m:Ren)(r r':Nat)(_h:m.ch r=none)(h':∀s,m.ch s≠some r'):Ren where
 blk:=m.blk
 ch:=λs=>if s=r then some r' else m.ch s
 loose:=m.loose
 ok:=m.ok
 fq:=m.fq
 ic:=m.ic
 dead:=m.dead
 dm:=m.dm
 rB:=m.rB
 kD:=m.kD
 G:=m.G
 nZ:=m.nZ
 inj:=m.inj
 uJ:=λa b t B hb=>by
  by_cases ea:a=r<;>by_cases eb:b=r
  .rw[ea,eb]
  .simp[ea,eb]at B hb; subst B; exact absurd hb (h' _)
  .simp[ea,eb]at B hb; subst hb; exact absurd B (h' _)
  .simp[ea,eb]at B hb; exact m.uJ _ _ _ B hb
theorem Ren.uV{m:Ren}(h:m.blk r=none)(h':∀s,m.blk s≠some r')(O:r<m.G↔r'<m.G):m.Le (m.ext r r' h h' O):=by
 refine⟨λs s' B=>?_,λ_ _ x=>x,λs s' B=>?_,λs B=>?_,rfl,rfl,rfl,rfl,rfl,rfl,rfl⟩
 .have:s≠r:=λe=>by rw[e,h]at B; cases B
  simp[Ren.ext,this,B]
 .have:s≠r:=λe=>by rw[e,h]at B; cases B
  simp[Ren.ext,this]
 .by_cases e:s=r
  .simp[Ren.ext,e]at B
  .simpa[Ren.ext,e]using B
theorem Ren.wW{m:Ren}(h:m.ch r=none)(h':∀s,m.ch s≠some r'):m.Le (m.sw r r' h h'):=by
 refine⟨λ_ _ x=>x,λs s' B=>?_,λs s' B=>Iff.rfl,λ_ h=>h,rfl,rfl,rfl,rfl,rfl,rfl,rfl⟩;have:s≠r:=λe=>by rw[e,h]at B; cases B
 simp[Ren.sw,this,B]
section
variable {m:Ren} {w w':World}
theorem WR.gE(h:WR m w w'):m.blk w.heap.size=none:=by
 cases hb:m.blk _ with
 |none=>rfl
 |some r'=>have:=(h.lt hb).1; omega
theorem WR.lF(h:WR m w w'):∀s,m.blk s≠some w'.heap.size:=λs hb=>by have:=(h.lt hb).2; omega
theorem WR.qd(h:WR m w w'):m.ch w.heap.size=none:=by
 cases hb:m.ch _ with
 |none=>rfl
 |some r'=>have:=(h.LW _ _ hb).1; omega
theorem WR.nh(h:WR m w w'):∀s,m.ch s≠some w'.heap.size:=λs hb=>by have:=(h.LW _ _ hb).2; omega
theorem WR.QU(h:WR m w w'):w.heap.size<m.G↔w'.heap.size<m.G:=⟨λx=>absurd h.LX (by omega),λx=>absurd h.Jd (by omega)⟩
theorem eL(B:r<h.size):(h.push o)[r]?=h[r]?:=by
 rw[Array.getElem?_push];have:r≠h.size:=by omega
 simp[this]
theorem jE(x:h[r]?=some o):r<h.size:=(ay.1 x).1
theorem iF{x:Obj}(B:h[r]?=some x):(h.push o)[r]?=some x:=by rw[eL (jE B)]; exact B
theorem WR.push(h:WR m w w')(ho:OR m o o')(hc:∀e c f,o=.cells e c f->∃e',o'=.cells e' c f) :
  WR (m.ext w.heap.size w'.heap.size h.gE h.lF h.QU) {w with heap:=w.heap.push o} {w' with heap:=w'.heap.push o'}:=by
 have O:=Ren.uV h.gE h.lF h.QU
 have key:∀r r',(m.ext _ _ h.gE h.lF h.QU).blk r=some r'->(r=w.heap.size/\r'=w'.heap.size)\/(m.blk r=some r'/\r<w.heap.size/\r'<w'.heap.size):=by
  intro r r' hb;by_cases e:r=w.heap.size
  .simp[Ren.ext,e]at hb;exact .inl ⟨e,hb.symm⟩
  .simp[Ren.ext,e]at hb;exact .inr ⟨hb,h.lt hb⟩
 refine⟨λr r' hb=>?_,λr r' c e f c' e' f' hb U W hn=>?_,λr r' c e f c' e' f' hb U W hl=>?_,λr r' hb=>?_,by simp; have:=h.LX; first|exact dj this|exact this,by simp; have:=h.Jd; first|exact dj this|exact this,h.os,λr o hr=>⟨iF (h.kD r o hr).1,(h.kD r o hr).2⟩,λr r' hb hl=>?_,λr hr=>⟨?_,?_⟩,λr i v hv=>?_⟩
 .rcases key r r' hb with⟨rfl,rfl⟩|⟨B,Y,l2⟩
  .exact⟨o,o',by simp,by simp,ho.mono O⟩
  .obtain⟨x,x',g1,g2,g3⟩:=h.obj r r' B;exact⟨x,x',by rw[eL Y]; exact g1,by rw[eL l2]; exact g2,g3.mono O⟩
 .rcases key r r' hb with⟨rfl,rfl⟩|⟨B,Y,l2⟩
  .simp at U W;obtain⟨y,hy⟩:=hc _ _ _ U;rw[hy]at W;cases W; rfl
  .simp only[eL Y,eL l2]at U W;refine h.fz r r' _ _ _ _ _ _ B U W λhl=>hn ((O.loose r r' B).2 hl)
 .rcases key r r' hb with⟨rfl,rfl⟩|⟨B,Y,l2⟩
  .simp[Ren.ext]at hl
  .simp only[eL Y,eL l2]at U W;exact h.all r r' _ _ _ _ _ _ B U W ((O.loose r r' B).1 hl)
 .have:=h.LW r r' hb;simp; omega
 .rcases key r r' hb with⟨rfl,rfl⟩|⟨B,Y,l2⟩
  .simp[Ren.ext]at hl
  .obtain⟨c,e,f,hx⟩:=h.lk r r' B ((O.loose r r' B).1 hl);exact⟨c,e,f,iF hx⟩
 .obtain⟨U,c,e,f,hx⟩:=h.dead r hr;have:=Nat.ne_of_lt (jE hx);simp[Ren.ext,this,U]
 .obtain⟨U,c,e,f,hx⟩:=h.dead r hr;exact⟨c,e,f,iF hx⟩
 .obtain⟨r',hb,hp⟩:=h.rB r i v hv;refine⟨r',O.blk _ _ hb,λc e f c' e' f' x g1 g2=>?_⟩;obtain⟨Y,l2⟩:=h.lt hb;simp only[eL Y,eL l2]at g1 g2;exact hp c e f c' e' f' x g1 g2
theorem WR.Mh(h:WR m w w')(o o':Obj):WR (m.sw w.heap.size w'.heap.size h.qd h.nh) {w with heap:=w.heap.push o} {w' with heap:=w'.heap.push o'}:=by
 have aa:=Ren.wW h.qd h.nh;refine⟨λr r' hb=>?_,λr r' c e f c' e' f' hb B W hn=>?_,λr r' c e f c' e' f' hb B W hl=>?_,λr r' hb=>?_,by simp; have:=h.LX; first|exact dj this|exact this,by simp; have:=h.Jd; first|exact dj this|exact this,h.os,λr o Y=>⟨iF (h.kD r o Y).1,(h.kD r o Y).2⟩,λr r' hb hl=>by obtain⟨c,e,f,hx⟩:=h.lk r r' hb hl; exact⟨c,e,f,iF hx⟩,λr Y=>by obtain⟨B,c,e,f,hx⟩:=h.dead r Y; exact⟨B,c,e,f,iF hx⟩,λr i v hv=>?_⟩
 .obtain⟨O,U⟩:=h.lt (show m.blk r=some r' from hb);obtain⟨x,x',g1,g2,g3⟩:=h.obj r r' hb;exact⟨x,x',by rw[eL O]; exact g1,by rw[eL U]; exact g2,g3.mono aa⟩
 .obtain⟨O,U⟩:=h.lt (show m.blk r=some r' from hb);simp only[eL O,eL U]at B W;exact h.fz r r' _ _ _ _ _ _ hb B W hn
 .obtain⟨O,U⟩:=h.lt (show m.blk r=some r' from hb);simp only[eL O,eL U]at B W;exact h.all r r' _ _ _ _ _ _ hb B W hl
 .by_cases e:r=w.heap.size
  .simp[Ren.sw,e]at hb;subst hb;simp[e]
  .simp[Ren.sw,e]at hb;have:=h.LW r r' hb;simp; omega
 .obtain⟨r',hb,hp⟩:=h.rB r i v hv;refine⟨r',hb,λc e f c' e' f' x g1 g2=>?_⟩;obtain⟨O,U⟩:=h.lt hb;simp only[eL O,eL U]at g1 g2;exact hp c e f c' e' f' x g1 g2
theorem WR.turn(h:WR m w w')(hb:m.blk r=some r')(ho:OR m o o')
  (hf:∀c e f c' U f',o=.cells c e f->o'=.cells c' U f'->(¬m.loose r->f'=f)/\(m.loose r->∀i,i<c.size->inside f i)) (aa:m.loose r->∃c e f,o=.cells c e f)
  (ab:∀c e f c' U f',o=.cells c e f->o'=.cells c' U f'->∀i x v,m.rB r i=some v->c[i]?=some x->nJ x->c'[i]?=some v) :
  WR m {w with heap:=w.heap.setIfInBounds r o} {w' with heap:=w'.heap.setIfInBounds r' o'}:=by
 obtain⟨l1,l2⟩:=h.lt hb
 have key:∀s s',m.blk s=some s'->(s=r/\s'=r')\/(s≠r/\s'≠r'):=by
  intro s s' B;by_cases e:s=r
  .subst e; rw[hb]at B; cases B; exact .inl ⟨rfl,rfl⟩
  .exact .inr ⟨e,λU=>e (m.inj _ _ _ (U▸B) hb)⟩
 refine⟨λs s' B=>?_,λs s' c e f c' U f' B O W hn=>?_,λs s' c e f c' U f' B O W hl=>?_,λs s' B=>by simpa using h.LW s s' B,by simpa using h.LX,by simpa using h.Jd,h.os,λs x B=>?_,λs s' B hl=>?_,λs B=>?_,λs i v hv=>?_⟩
 .rcases key s s' B with⟨rfl,rfl⟩|⟨n1,n2⟩
  .exact⟨o,o',by simp[l1],by simp[l2],ho⟩
  .obtain⟨x,x',g1,Y,g3⟩:=h.obj s s' B;exact⟨x,x',by rw[ax (fB n1)]; exact g1,by rw[ax (fB n2)]; exact Y,g3⟩
 .rcases key s s' B with⟨rfl,rfl⟩|⟨n1,n2⟩
  .simp[l1,l2]at O W;exact(hf _ _ _ _ _ _ O W).1 hn
  .simp only[ax (fB n1),ax (fB n2)]at O W;exact h.fz s s' _ _ _ _ _ _ B O W hn
 .rcases key s s' B with⟨rfl,rfl⟩|⟨n1,n2⟩
  .simp[l1,l2]at O W;exact(hf _ _ _ _ _ _ O W).2 hl
  .simp only[ax (fB n1),ax (fB n2)]at O W;exact h.all s s' _ _ _ _ _ _ B O W hl
 .obtain⟨g1,Y⟩:=h.kD s x B;refine⟨?_,Y⟩
  have:r≠s:=by
   rintro rfl;obtain⟨y,y',k1,_,k3⟩:=h.obj r r' hb;obtain⟨c,b,x',s',z,t,rfl⟩:=Y;rw[g1]at k1;cases k1;cases k3
  rw[ax this]; exact g1
 .rcases key s s' B with⟨rfl,rfl⟩|⟨n1,n2⟩
  .obtain⟨c,e,f,rfl⟩:=aa hl;exact⟨c,e,f,by simp[l1]⟩
  .obtain⟨c,e,f,hx⟩:=h.lk s s' B hl;exact⟨c,e,f,by simpa only[ax (fB n1)]using hx⟩
 .obtain⟨O,c,e,f,hx⟩:=h.dead s B;have:r≠s:=by rintro rfl; rw[hb]at O; cases O
  exact⟨O,c,e,f,by simpa only[ax this]using hx⟩
 .obtain⟨s',B,hp⟩:=h.rB s i v hv;refine⟨s',B,λc e f c' U f' x g1 Y=>?_⟩;rcases key s s' B with⟨rfl,rfl⟩|⟨n1,n2⟩
  .simp[l1,l2]at g1 Y;exact λg3 g4=>ab _ _ _ _ _ _ g1 Y i x v hv g3 g4
  .simp only[ax (fB n1),ax (fB n2)]at g1 Y;exact hp c e f c' U f' x g1 Y
theorem pP(h:Array Obj)(r:Nat)(f:Obj->Obj)(o:Obj)(O:h[r]?=some o):h.modify r f=h.setIfInBounds r (f o):=by
 apply Array.ext_getElem?;intro i;obtain⟨B,U⟩:=ay.1 O;by_cases e:r=i
 .subst e;rw[a2];simp[B,U]
 .rw[a2];simp[e]
theorem WR.setCell(h:WR m w w'){a:Addr}(ha:AR m a a'){v v':Value}(hv:VR m v v')(ab:¬nJ v):WR m (w.setCell a v) (w'.setCell a' v'):=by
 cases ha with
 |@mk b b' o s hb=>
 obtain⟨x,x',U,W,ho⟩:=h.obj b b' hb;unfold World.setCell;simp only[pP _ _ _ _ U,pP _ _ _ _ W]
 cases ho with
 |cells e f f' hc=>
  refine h.turn hb (.cells e f f' ?_) (λc e f c' e' f' e1 e2=>?_) (λ_=>⟨_,_,_,rfl⟩) ?_
  .split
   .exact hc
   .exact hc.set _ hv
  .cases e1; cases e2;refine⟨λY=>h.fz b b' _ _ _ _ _ _ hb U W Y,λO i hi=>h.all b b' _ _ _ _ _ _ hb U W O i ?_⟩;revert hi; split<;>simp
  .intro c1 e1 f1 c2 e2 f2 q1 q2 i x u hu B Y;cases q1; cases q2;obtain⟨b2,aa,hp⟩:=h.rB b i u hu;rw[hb]at aa; cases aa;revert B; split
   .exact λB=>hp _ _ _ _ _ _ x U W B Y
   .intro B;by_cases e:o=i
    .subst e;rw[Array.getElem?_setIfInBounds]at B;simp at B;exact absurd (B.2▸Y) ab
    .rw[ax e]at B⊢;exact hp _ _ _ _ _ _ x U W B Y
 |map clock he=>exact h.turn hb (.map clock he) (nofun) (λO=>(by obtain⟨c,e,f,B⟩:=h.lk _ _ hb O; rw[U]at B; cases B)) (nofun)
 |number l B=>exact h.turn hb (.number l B) (nofun) (λO=>(by obtain⟨c,e,f,B⟩:=h.lk _ _ hb O; rw[U]at B; cases B)) (nofun)
 |stringIter s p=>exact h.turn hb (.stringIter s p) (nofun) (λO=>(by obtain⟨c,e,f,B⟩:=h.lk _ _ hb O; rw[U]at B; cases B)) (nofun)
 |fT x y z=>exact h.turn hb (.fT x y z) (nofun) (λO=>(by obtain⟨c,e,f,B⟩:=h.lk _ _ hb O; rw[U]at B; cases B)) (nofun)
 |mapIter x y z hm=>exact h.turn hb (.mapIter x y z hm) (nofun) (λO=>(by obtain⟨c,e,f,B⟩:=h.lk _ _ hb O; rw[U]at B; cases B)) (nofun)
 |loop O=>exact h.turn hb (.loop O) (nofun) (λO=>(by obtain⟨c,e,f,B⟩:=h.lk _ _ hb O; rw[U]at B; cases B)) (nofun)
 |eR=>exact h.turn hb .eR (nofun) (λO=>(by obtain⟨c,e,f,B⟩:=h.lk _ _ hb O; rw[U]at B; cases B)) (nofun)
 |deferred hd=>exact h.turn hb (.deferred hd) (nofun) (λO=>(by obtain⟨c,e,f,B⟩:=h.lk _ _ hb O; rw[U]at B; cases B)) (nofun)
theorem WR.freeze(h:WR m w w'){a:Addr}(ha:AR m a a')(hn:¬m.loose a.block)(n:Nat):WR m (w.freeze a n) (w'.freeze a' n):=by
 cases ha with
 |@mk b b' o s hb=>
 obtain⟨x,x',U,Y,ho⟩:=h.obj b b' hb;unfold ez;split
 .exact h
 simp only[pP _ _ _ _ U,pP _ _ _ _ Y]
 cases ho with
 |cells e f f' hc=>
  have ef:=h.fz b b' _ _ _ _ _ _ hb U Y hn;subst ef;refine h.turn hb (.cells e _ _ hc) (λc e f c' e' f' e1 e2=>?_) (λ_=>⟨_,_,_,rfl⟩) ?_
  .cases e1; cases e2;exact⟨λ_=>rfl,λO=>absurd O hn⟩
  .intro c1 e1 f1 c2 e2 f2 q1 q2 i x u hu B aa;cases q1; cases q2;obtain⟨b2,W,hp⟩:=h.rB b i u hu;rw[hb]at W; cases W;exact hp _ _ _ _ _ _ x U Y B aa
 |map clock he=>exact h.turn hb (.map clock he) (nofun) (λO=>(by obtain⟨c,e,f,B⟩:=h.lk _ _ hb O; rw[U]at B; cases B)) (nofun)
 |number l B=>exact h.turn hb (.number l B) (nofun) (λO=>(by obtain⟨c,e,f,B⟩:=h.lk _ _ hb O; rw[U]at B; cases B)) (nofun)
 |stringIter s p=>exact h.turn hb (.stringIter s p) (nofun) (λO=>(by obtain⟨c,e,f,B⟩:=h.lk _ _ hb O; rw[U]at B; cases B)) (nofun)
 |fT x y z=>exact h.turn hb (.fT x y z) (nofun) (λO=>(by obtain⟨c,e,f,B⟩:=h.lk _ _ hb O; rw[U]at B; cases B)) (nofun)
 |mapIter x y z hm=>exact h.turn hb (.mapIter x y z hm) (nofun) (λO=>(by obtain⟨c,e,f,B⟩:=h.lk _ _ hb O; rw[U]at B; cases B)) (nofun)
 |loop O=>exact h.turn hb (.loop O) (nofun) (λO=>(by obtain⟨c,e,f,B⟩:=h.lk _ _ hb O; rw[U]at B; cases B)) (nofun)
 |eR=>exact h.turn hb .eR (nofun) (λO=>(by obtain⟨c,e,f,B⟩:=h.lk _ _ hb O; rw[U]at B; cases B)) (nofun)
 |deferred hd=>exact h.turn hb (.deferred hd) (nofun) (λO=>(by obtain⟨c,e,f,B⟩:=h.lk _ _ hb O; rw[U]at B; cases B)) (nofun)
theorem WR.draw(h:WR m w w')(a b:Nat):WR m {w with drawn:=a} {w' with drawn:=b}:=⟨h.obj,h.fz,h.all,h.LW,h.LX,h.Jd,h.os,h.kD,h.lk,h.dead,h.rB⟩
theorem Al.draw(h:Al w w'):Al {w with drawn:=w.drawn+1} {w' with drawn:=w'.drawn+1}:=λi q=>by
 have:=h (i+1) q;have B:w'.drawn+1+i=w'.drawn+(i+1):=by omega
 have O:w.drawn+1+i=w.drawn+(i+1):=by omega
 simp only[B,O]; exact this
theorem WR.shape(h:WR m w w')(hb:m.blk r=some r'):w'.shape? r'=w.shape? r:=by
 obtain⟨x,x',B,O,U⟩:=h.obj r r' hb;unfold World.shape?;simp only[B,O];cases U<;>try rfl
 rename_i W;simp[W.size]
theorem WR.frozen(h:WR m w w'){a:Addr}(U:AR m a a')(W:¬m.loose a.block):w'.frozen? a'=w.frozen? a:=by
 cases U with
 |@mk b b' o s hb=>
 obtain⟨x,x',B,O,Y⟩:=h.obj b b' hb;unfold e8;simp only[B,O];cases Y<;>try rfl
 rw[h.fz b b' _ _ _ _ _ _ hb B O W]
end
def iw{α β:Type}(RA:Ren->α->β->Prop)(al:Prop)(m:Ren)(w':World)(es:Array Event)(r:Result β×Array Event):Result α->Prop
 |.ok a w₁=>∃dx b B es₁,r=(.ok b B,es++es₁)/\m.Le dx/\RA dx a b/\WR dx w₁ B/\(al->Al w₁ B)/\fv m dx w' B/\∀e∈es₁,oy dx e
 |.halt (.panic v) w₁=>∃dx v' B es₁,r=(.halt (.panic v') B,es++es₁)/\m.Le dx/\VR dx v v'/\WR dx w₁ B/\(al->Al w₁ B)/\fv m dx w' B/\∀e∈es₁,oy dx e
 |.halt x _=>jK x
theorem iw.ahead{RA:Ren->α->β->Prop}{al₁:Prop}{m dx:Ren}{w' O:World}{es₁:Array Event}{r:Result β×Array Event}{q:Result α}
  (ha:al->al₁) (hl:m.Le dx) (hk:fv m dx w' O) (he:∀e∈es₁,oy dx e) (h:iw RA al₁ dx O (es++es₁) r q):iw RA al m w' es r q:=by
 unfold iw at h⊢;split
 .obtain⟨m₂,b,U,B,h1,W,h3,h4,Y,h5,h6⟩:=h;refine⟨m₂,b,U,es₁++B,by rw[h1,aH],hl.trans W,h3,h4,λx=>Y (ha x),hk.trans hl W h5,λe hx=>?_⟩;rcases a9.1 hx with x|x
  .exact(he e x).mono W
  .exact h6 e x
 .obtain⟨m₂,b,U,B,h1,W,h3,h4,Y,h5,h6⟩:=h;refine⟨m₂,b,U,es₁++B,by rw[h1,aH],hl.trans W,h3,h4,λx=>Y (ha x),hk.trans hl W h5,λe hx=>?_⟩;rcases a9.1 hx with x|x
  .exact(he e x).mono W
  .exact h6 e x
 .rename_i x y hx;cases x<;>first|exact h|exact absurd rfl (hx _)
theorem fv.cell{m:Ren}{w':World}(hb:m.blk r=some r')(O:¬m.loose r)(o:Obj):fv m m w' {w' with heap:=w'.heap.setIfInBounds r' o}:=
 ⟨λx _ U=>by
   have B:r'≠x:=λe=>U r (e▸hb)
   rw[ax B],by simp,λr' h h'=>absurd h' (by simpa using h),λ_ _ h=>.inl h,λ_ _ h=>.inl h,rfl,rfl,rfl,λ_=>rfl,rfl,λs s' W B=>by
   have:r'≠s':=λe=>O (m.inj _ _ _ (e▸W) hb▸B)
   rw[ax this]⟩
theorem fv.modify{m:Ren}{w':World}(hb:m.blk r=some r')(O:¬m.loose r)(f:Obj->Obj):fv m m w' {w' with heap:=w'.heap.modify r' f}:=
 ⟨λx _ U=>by
   have B:¬r'=x:=λe=>U r (e▸hb)
   rw[a2]; simp[B],by simp,λr' h h'=>absurd h' (by simpa using h),λ_ _ h=>.inl h,λ_ _ h=>.inl h,rfl,rfl,rfl,λ_=>rfl,rfl,λs s' W B=>by
   have:r'≠s':=λe=>O (m.inj _ _ _ (e▸W) hb▸B)
   rw[a2]; simp[this]⟩
theorem jy{RA:Ren->α->β->Prop}{m:Ren}{w':World}{r:Result β×Array Event}{q:Result α}{e:Event}
  (B:oy m e) (h:iw RA al m w' (es.push e) r q):iw RA al m w' es r q:=
 iw.ahead (es₁:=#[e]) id (.refl m) (.refl m w') (by simpa using B) (by simpa using h)
theorem dv.run{RA:Ren->α->β->Prop}{m:Ren}{s:Sem α}{s':Sem β}(h:dv P RA m s s') :
  ∀(w w':World)(es:Array Event),WR m w w'->(Al w w'\/fO s)->iw RA (Al w w') m w' es (s'.runT P w' es) (s.run P w):=by
 induction h with
 |dy hd=>
  intro w w' es O B;obtain⟨x,w₁,hr,hh⟩:=hd.run w;rw[hr];cases x<;>first|exact hh|exact hh.elim
 |pure hr=>
  intro w w' es O B;exact⟨_,_,w',#[],by simp[cT],.refl _,hr,O,id,.refl _ _,by simp⟩
 |@load m a a' k k' ha _ U=>
  intro w w' es O B;simp only[cS,cT]
  cases hc:w.cell? a with
  |some v=>
   obtain⟨v',ah,hv⟩:=O.cell ha hc;simp only[ah];exact jy (e:=⟨.cell a',false,false⟩) ⟨rfl,a,ha,by simp⟩ (U v v' hv w w' _ O (B.imp id λx=>x v))
  |none=>
   obtain⟨y,hy⟩:=O.MZ ha hc P (Mode.plain==.atomic);simp only[hy];trivial
 |@store m a a' v v' k k' ha hv _ U=>
  intro w w' es O B;by_cases h1:∃c,v=.agg c
  .obtain⟨c,rfl⟩:=h1;simp only[cS]; trivial
  by_cases h2:∃c,v=.tuple c
  .obtain⟨c,rfl⟩:=h2;simp only[cS]; trivial
  have ai:∀c,v'≠.agg c:=λc e=>by subst e; cases hv<;>first|exact h1 ⟨_,rfl⟩|exact h2 ⟨_,rfl⟩
  have aj:∀c,v'≠.tuple c:=λc e=>by subst e; cases hv<;>first|exact h1 ⟨_,rfl⟩|exact h2 ⟨_,rfl⟩
  have e1:(Sem.store Mode.plain a v k).run P w=match w.cell? a with
    |some _=>if w.frozen? a then .halt (.unsupported (.unsafePointer "a write to bytes that a string shares")) w else k.run P (w.setCell a v)
    |none=>match w.farStore P a v (Mode.plain==.atomic)with
     |.ok (w,_)=>k.run P w
     |.error h=>.halt h w:=by
   rw[cS]
   .rfl
   .exact λc e=>h1 ⟨c,e⟩
   .exact λc e=>h2 ⟨c,e⟩
  have e2:(Sem.store Mode.plain a' v' k').runT P w' es=match w'.cell? a' with
    |some _=>if w'.frozen? a' then(.halt (.unsupported (.unsafePointer "a write to bytes that a string shares")) w',es)else k'.runT P (w'.setCell a' v') (es.push ⟨.cell a',true,Mode.plain==.atomic⟩)
    |none=>match w'.farStore P a' v' (Mode.plain==.atomic)with
     |.ok (w,aa)=>k'.runT P w (es++aa.toArray.map (⟨.cell ·,true,Mode.plain==.atomic⟩))
     |.error h=>(.halt h w',es):=by
   rw[cT]
   .rfl
   .exact ai
   .exact aj
  have ag:¬nJ v:=by
   intro ak;cases v<;>first|exact ak.elim|exact h1 ⟨_,rfl⟩|exact h2 ⟨_,rfl⟩
  rw[e1,e2]
  cases hc:w.cell? a with
  |none=>
   obtain⟨y,hy⟩:=O.Jf ha hc P v (Mode.plain==.atomic);simp only[hy];trivial
  |some u=>
   obtain⟨u',am,_⟩:=O.cell ha hc;simp only[am];by_cases hf:w.frozen? a=true
   .simp only[hf,if_true]; trivial
   have ad:¬m.loose a.block:=by
    intro hl
    cases ha with
    |@mk b b' o s hb=>
    obtain⟨x,x',g1,g2,ho⟩:=O.obj b b' hb;unfold fa at hc;simp only[g1]at hc
    cases ho with
    |cells e f f' au=>
     simp only at hc;split at hc
     .cases hc
     .have an:=(ay.1 hc).1;have:=O.all b b' _ _ _ _ _ _ hb g1 g2 hl o an;apply hf;unfold e8;simp only[g1];simpa[inside]using this
    |_=>cases hc
   have ao:w'.frozen? a'=false:=by rw[O.frozen ha ad]; simpa using hf
   simp only[hf,ao,if_false,Bool.false_eq_true];have ap:(Mode.plain==Mode.atomic)=false:=rfl;rw[ap];refine iw.ahead (es₁:=#[⟨.cell a',true,false⟩]) (al₁:=Al (w.setCell a v) (w'.setCell a' v')) (λh=>h) (.refl _) ?_ ?_ (by simpa using U (w.setCell a v) _ _ (O.setCell ha hv ag) B)
   .cases ha with
    |mk hb=>exact fv.modify hb ad _
   .simp only[List.mem_toArray,da,List.not_mem_nil,or_false,forall_eq];exact⟨rfl,a,ha,λ_=>ad⟩
 |@new m o o' k k' ho hc _ U=>
  intro w w' es O B;simp only[cS,cT];have ab:=Ren.uV O.gE O.lF O.QU;have ac:(m.ext w.heap.size w'.heap.size O.gE O.lF O.QU).blk w.heap.size=some w'.heap.size:=by simp[Ren.ext]
  refine iw.ahead (es₁:=#[]) (al₁:=Al {w with heap:=w.heap.push o} {w' with heap:=w'.heap.push o'}) (λh=>h) ab ?_ (by simp) (by simpa using U _ _ _ ab ac (by simp[Ren.ext]) {w with heap:=w.heap.push o} _ _ (O.push ho hc) (B.imp id λx=>x _));refine⟨λr' hr hn=>eL hr,by simp,λr' h h'=>.inl ⟨w.heap.size,?_⟩,λr r' hb=>?_,λ_ _ h=>.inl h,rfl,rfl,rfl,λ_=>rfl,rfl,λr r' hb _=>eL (O.lt hb).2⟩
  .have:r'=w'.heap.size:=by simp at h'; omega
   rw[this]; exact ac
  .by_cases e:r=w.heap.size
   .simp[Ren.ext,e]at hb; exact .inr (by omega)
   .simp[Ren.ext,e]at hb; exact .inl hb
 |@pq m c b x s r t c' b' x' s' r' t' k k' aq _ U=>
  intro w w' es O B;simp only[cS,cT];have ab:=Ren.wW O.qd O.nh;have ac:(m.sw w.heap.size w'.heap.size O.qd O.nh).ch w.heap.size=some w'.heap.size:=by simp[Ren.sw]
  refine iw.ahead (es₁:=#[]) (al₁:=Al {w with heap:=w.heap.push (.chan c b x s r t)} {w' with heap:=w'.heap.push (.chan c' b' x' s' r' t')}) (λh=>h) ab ?_ (by simp) (by simpa using U _ _ _ ab ac {w with heap:=w.heap.push _} _ _ (O.Mh _ _) (B.imp id λx=>x _));refine⟨λr' hr hn=>eL hr,by simp,λr' h h'=>.inr ⟨w.heap.size,?_⟩,λ_ _ h=>.inl h,λr r' hb=>?_,rfl,rfl,rfl,λhn=>absurd aq hn,rfl,λr r' hb _=>eL (O.lt hb).2⟩
  .have:r'=w'.heap.size:=by simp at h'; omega
   rw[this]; exact ac
  .by_cases e:r=w.heap.size
   .simp[Ren.sw,e]at hb; exact .inr (by omega)
   .simp[Ren.sw,e]at hb; exact .inl hb
 |shape hb _ U=>
  intro w w' es O B;simp only[cS,cT,O.shape hb];exact U _ w w' es O (B.imp id λx=>x _)
 |@freeze m a a' n k k' ha hn _ U=>
  intro w w' es O B;simp only[cS,cT];refine iw.ahead (es₁:=#[]) (al₁:=Al (w.freeze a n) (w'.freeze a' n)) (λh=>by unfold ez; split<;>exact h) (.refl _) ?_ (by simp) (by simpa using U _ _ _ (O.freeze ha hn _) (B.imp (λh=>by unfold ez; split<;>exact h) λx=>x))
  cases ha with
  |mk hb=>
   unfold ez;split
   .exact .refl _ _
   .exact fv.modify hb hn _
 |frozen ha hn _ U=>
  intro w w' es O B;simp only[cS,cT,O.frozen ha hn];exact U _ w w' es O (B.imp id λx=>x _)
 |getObj hb _ U=>
  intro w w' es O B;obtain⟨x,x',h1,h2,ho⟩:=O.obj _ _ hb;simp only[cS,cT,h1,h2];rcases Classical.em (Ren.loose _ _)with W|W
  .obtain⟨c,e,f,hx⟩:=O.lk _ _ hb W;rw[h1]at hx;cases hx;trivial
  have Y:oy _ ⟨.obj _,false,false⟩:=⟨rfl,_,hb,W⟩
  cases ho with
  |cells=>trivial
  |map clock he=>exact jy Y (U _ _ (.map clock he) w w' _ O (B.imp id λx=>x _))
  |number l hx=>exact jy Y (U _ _ (.number l hx) w w' _ O (B.imp id λx=>x _))
  |stringIter s p=>exact jy Y (U _ _ (.stringIter s p) w w' _ O (B.imp id λx=>x _))
  |fT a b c=>exact jy Y (U _ _ (.fT a b c) w w' _ O (B.imp id λx=>x _))
  |mapIter a b c hm=>exact jy Y (U _ _ (.mapIter a b c hm) w w' _ O (B.imp id λx=>x _))
  |loop hl=>exact jy Y (U _ _ (.loop hl) w w' _ O (B.imp id λx=>x _))
  |eR=>exact jy Y (U _ _ .eR w w' _ O (B.imp id λx=>x _))
  |deferred hd=>exact jy Y (U _ _ (.deferred hd) w w' _ O (B.imp id λx=>x _))
 |@setObj m r r' o o' k k' hb ho hc _ U=>
  intro w w' es O B;obtain⟨x,x',h1,h2,hx⟩:=O.obj _ _ hb;have ar:o'.isChan=false:=by cases ho<;>rfl
  rcases Classical.em (m.loose r)with W|W
  .obtain⟨c,e,f,hy⟩:=O.lk _ _ hb W;simp only[cS,hy];trivial
  have ae:=O.turn hb ho (λc e f c' e' f' e1 _=>absurd e1 (hc c e f)) (λh=>absurd h W) (λc e f c' e' f' e1 _=>absurd e1 (hc c e f))
  have fin:iw RA (Al w w') m w' es (k'.runT P {w' with heap:=w'.heap.setIfInBounds r' o'} (es.push ⟨.obj r',true,o'.isChan⟩)) (k.run P {w with heap:=w.heap.setIfInBounds r o}):=by
   rw[ar];exact iw.ahead (es₁:=#[⟨.obj r',true,false⟩]) (al₁:=Al {w with heap:=w.heap.setIfInBounds r o} {w' with heap:=w'.heap.setIfInBounds r' o'}) (λh=>h) (.refl _) (fv.cell hb W _) (by simpa using⟨rfl,_,hb,W⟩) (by simpa using U _ _ _ ae B)
  simp only[cS,cT,h1,h2];cases hx<;>first|trivial|exact fin
 |choose _ U=>
  intro w w' es O B;rcases B with af|B
  .simp only[cS,cT];split
   .exact U _ w w' es O (.inl af)
   .have:=af 0;simp only[Nat.add_zero]at this;rw[this];refine iw.ahead (es₁:=#[]) (λh=>h.draw) (.refl _) ?_ (by simp) (by simpa using U _ {w with drawn:=w.drawn+1} _ _ (O.draw _ _) (.inl af.draw));exact⟨λ_ _ _=>rfl,dt _,λr' h h'=>absurd h' (by simpa using h),λ_ _ h=>.inl h,λ_ _ h=>.inl h,rfl,rfl,rfl,λ_=>rfl,rfl,λ_ _ _ _=>rfl⟩
  .exact B.elim
 |gone hd=>
  intro w w' es O B;obtain⟨_,c,e,f,hx⟩:=O.dead _ hd;simp only[cS,hx];trivial
 |env _ U=>
  intro w w' es O B;have e:∀x:World,x.sys .env=(.strings _,x):=λ_=>rfl;simp only[cS,cT,e,O.os];exact jy (e:=⟨.output,true,false⟩) trivial (U _ w w' _ O (B.imp id λx=>x _))
 |program _ U=>exact λw w' es O B=>U w w' es O (B.imp id λx=>x P)
 |@mark m x k k' hm _ U=>exact λw w' es O B=>jy (e:=⟨.mark x,false,true⟩) hm (U w w' _ O B)
 |panic hv=>
  intro w w' es O B;exact⟨_,_,w',#[],by simp[cT],.refl _,hv,O,id,.refl ..,by simp⟩
inductive li(P:Program){α β:Type}(RA:Ren->α->β->Prop):Ren->Sem α->Sem β->Prop
 |base {m s s'}:dv P RA m s s'->li P RA m s s'
 |bind {γ δ:Type} {RC:Ren->γ->δ->Prop} {m} {s:Sem γ} {s':Sem δ} {f:γ->Sem α} {f':δ->Sem β}:dv P RC m s s'->(∀m' a b,m.Le m'->RC m' a b->li P RA m' (f a) (f' b))->li P RA m (s.bind f) (s'.bind f')
 |Sl {m q k s'}:(∀n,fO (k n))->(∀n,dv P RA m (k n) s')->li P RA m (.choose q k) s'
def SZ{α β:Type}(RA:Ren->α->β->Prop)(m:Ren)(w':World)(es:Array Event)(r:Result β×Array Event)(q:Result α):Prop:=iw RA False m w' es r q
theorem iw.QZ{RA:Ren->α->β->Prop}{m:Ren}{w':World}{r:Result β×Array Event}{q:Result α}(h:iw RA al m w' es r q):SZ RA m w' es r q:=
 iw.ahead (es₁:=#[]) (nofun) (.refl m) (.refl m w') (by simp) (by simpa using h)
theorem li.run{RA:Ren->α->β->Prop}{m:Ren}{s:Sem α}{s':Sem β}(h:li P RA m s s') :
  ∀(w w':World)(es:Array Event),WR m w w'->Al w w'->SZ RA m w' es (s'.runT P w' es) (s.run P w):=by
 induction h with
 |base h=>exact λw w' es U O=>(h.run w w' es U (.inl O)).QZ
 |@bind γ δ RC m s s' f f' h _ ih=>
  intro w w' es U O;have W:=h.run w w' es U (.inl O);rw[Sem.run_bind',Sem.runT_bind']
  cases hr:s.run P w with
  |ok a w₁=>
   rw[hr]at W;obtain⟨dx,b,B,es₁,e1,Y,e3,e4,e5,e6,e7⟩:=W;rw[e1];exact iw.ahead (es₁:=es₁) (nofun) Y e6 e7 (ih dx a b Y e3 w₁ B _ e4 (e5 O))
  |halt x w₁=>
   rw[hr]at W
   cases x with
   |panic v=>
    obtain⟨dx,b,B,es₁,e1,Y,e3,e4,e5,e6,e7⟩:=W;rw[e1];exact⟨dx,b,B,es₁,rfl,Y,e3,e4,nofun,e6,e7⟩
   |_=>exact W
 |Sl hd h=>
  intro w w' es U O;simp only[cS];split
  .exact((h _).run w w' es U (.inl O)).QZ
  .exact((h _).run _ w' es (U.draw ..) (.inr (hd _))).QZ
end
section
variable {a a':Addr} {c c':Array Value} {r r':Nat} {o o':Obj} {α β γ δ:Type} {t:bB} {v v' x x':Value}
structure lV(P:Program):Prop where
 zero:∀t i v,P.info? t=some i->i.zero=some v->∀m,VR m v v
 T':∀t i,P.info? t=some i->i.methods.find? (·.name == "")=none
def w9{α:Type}:Ren->α->α->Prop:=λ_ a b=>a=b
def zE{α β:Type}:Ren->α->β->Prop:=λ_ _ _=>True
section
variable {P:Program} {m:Ren}
theorem dA{RA:Ren->α->β->Prop}{RB:Ren->γ->δ->Prop}{s:Sem α}{s':Sem β}{f:α->Sem γ}{f':β->Sem δ}
  (h:dv P RA m s s') (B:∀m' a b,m.Le m'->RA m' a b->dv P RB m' (f a) (f' b)):dv P RB m (s >>= f) (s' >>= f'):=dv.bind h B
theorem dF{RA:Ren->α->β->Prop}{c:Prop}[Decidable c]{s t:Sem α}{s' t':Sem β}(h:c->dv P RA m s s')(h':¬c->dv P RA m t t') :
  dv P RA m (if c then s else t) (if c then s' else t'):=by
 split
 .exact h ‹_›
 .exact h' ‹_›
theorem gP{RB:Ren->γ->δ->Prop}{f:Program->Sem γ}{f':Program->Sem δ}(h:dv P RB m (f P) (f' P)):dv P RB m (program >>= f) (program >>= f'):=.program h
theorem dz{RB:Ren->γ->δ->Prop}{f:TypeDesc->Sem γ}{f':TypeDesc->Sem δ}(h:∀d,P.underlying t=some d->dv P RB m (f d) (f' d)) :
  dv P RB m (bE t >>= f) (bE t >>= f'):=by
 refine .program ?_;show dv P RB m ((match P.underlying t with|some d=>pure d|none=>stuck _) >>= f) ((match P.underlying t with|some d=>pure d|none=>stuck _) >>= f')
 cases B:P.underlying t with
 |none=>exact .dy trivial
 |some d=>exact h d B
theorem dO{RB:Ren->γ->δ->Prop}{f:TypeInfo->Sem γ}{f':TypeInfo->Sem δ}(h:∀d,P.info? t=some d->dv P RB m (f d) (f' d)) :
  dv P RB m (bS t >>= f) (bS t >>= f'):=by
 refine .program ?_;show dv P RB m ((match P.info? t with|some d=>pure d|none=>stuck _) >>= f) ((match P.info? t with|some d=>pure d|none=>stuck _) >>= f')
 cases B:P.info? t with
 |none=>exact .dy trivial
 |some d=>exact h d B
theorem eB{RB:Ren->γ->δ->Prop}{f:Nat->Sem γ}{f':Nat->Sem δ}(h:∀n,dv P RB m (f n) (f' n)):dv P RB m (bM t >>= f) (bM t >>= f'):=by
 refine .program ?_;show dv P RB m (((match P.info? t with|some d=>pure d|none=>stuck _) >>= λi=>pure _) >>= f) (((match P.info? t with|some d=>pure d|none=>stuck _) >>= λi=>pure _) >>= f')
 cases B:P.info? t with
 |none=>exact .dy trivial
 |some d=>exact h _
theorem fH(B:lV P){RB:Ren->γ->δ->Prop}{f:Value->Sem γ}{f':Value->Sem δ}(h:∀v,VR m v v->dv P RB m (f v) (f' v)) :
  dv P RB m (bD t >>= f) (bD t >>= f'):=by
 refine .program ?_;show dv P RB m (((match P.info? t with|some d=>pure d|none=>stuck _) >>= λi=>match i.zero with|some v=>pure v|none=>unsupported _) >>= f) (((match P.info? t with|some d=>pure d|none=>stuck _) >>= λi=>match i.zero with|some v=>pure v|none=>unsupported _) >>= f')
 cases O:P.info? t with
 |none=>exact .dy trivial
 |some d=>
  show dv P RB m ((match d.zero with|some v=>pure v|none=>unsupported _) >>= f) ((match d.zero with|some v=>pure v|none=>unsupported _) >>= f')
  cases U:d.zero with
  |none=>exact .dy trivial
  |some v=>exact h v (B.zero t d v O U m)
theorem Ef{RB:Ren->γ->δ->Prop}{f:Bool->Sem γ}{f':Bool->Sem δ}(h:∀b,dv P RB m (f b) (f' b)):dv P RB m (isAgg t >>= f) (isAgg t >>= f'):=by
 refine .program ?_;show dv P RB m (((match P.underlying t with|some d=>pure d|none=>stuck _) >>= λx=>match x with|.struct _|.array .. => pure true|_=>pure false) >>= f) (((match P.underlying t with|some d=>pure d|none=>stuck _) >>= λx=>match x with|.struct _|.array .. => pure true|_=>pure false) >>= f')
 cases B:P.underlying t with
 |none=>exact .dy trivial
 |some d=>cases d<;>exact h _
theorem BK{RB:Ren->γ->δ->Prop}{f:Value->Sem γ}{f':Value->Sem δ}(B:AR m a a')(h:∀v v',VR m v v'->dv P RB m (f v) (f' v')) :
  dv P RB m (load a >>= f) (load a' >>= f'):=.load B h
theorem Nf{RB:Ren->γ->δ->Prop}{f:Unit->Sem γ}{f':Unit->Sem δ}(B:AR m a a')(O:VR m v v')(h:dv P RB m (f ()) (f' ())) :
  dv P RB m (store a v >>= f) (store a' v' >>= f'):=.store B O h
theorem fI{RB:Ren->γ->δ->Prop}{f:Obj->Sem γ}{f':Obj->Sem δ}(hb:m.blk r=some r')(h:∀o o',OR m o o'->dv P RB m (f o) (f' o')) :
  dv P RB m (getObj r >>= f) (getObj r' >>= f'):=.getObj hb h
theorem j9{RB:Ren->γ->δ->Prop}{f:Unit->Sem γ}{f':Unit->Sem δ}(hb:m.blk r=some r')(B:OR m o o')(O:∀c e f,o≠.cells c e f)(h:dv P RB m (f ()) (f' ())) :
  dv P RB m (setObj r o >>= f) (setObj r' o' >>= f'):=.setObj hb B O h
theorem pZ(hb:m.blk r=some r')(B:OR m o o')(O:∀c e f,o≠.cells c e f):dv P zE m (setObj r o) (setObj r' o'):=.setObj hb B O (.pure trivial)
theorem gu{RB:Ren->γ->δ->Prop}{q:Question}{f:Nat->Sem γ}{f':Nat->Sem δ}(h:∀n,dv P RB m (f n) (f' n)):dv P RB m (choose q >>= f) (choose q >>= f'):=.choose h
theorem ju{RB:Ren->γ->δ->Prop}{f:Option (bB×Nat)->Sem γ}{f':Option (bB×Nat)->Sem δ}(hb:m.blk r=some r')(h:∀x,dv P RB m (f x) (f' x)) :
  dv P RB m (shape r >>= f) (shape r' >>= f'):=.shape hb h
theorem mP{RB:Ren->γ->δ->Prop}{f:Bool->Sem γ}{f':Bool->Sem δ}(B:AR m a a')(O:¬m.loose a.block)(h:∀x,dv P RB m (f x) (f' x)) :
  dv P RB m (frozen a >>= f) (frozen a' >>= f'):=.frozen B O h
def QB:RuntimeError->Prop
 |.bounds ..|.error _|.plain _|.nilDeref=>True
 |_=>False
theorem fh{RA:Ren->α->β->Prop}{e:RuntimeError}(h:QB e):dv P RA m (bG e) (bG e):=by
 refine .program ?_;cases e<;>first|exact h.elim|skip
 .exact .panic (.iface _ (.KD (.refl λv B=>by
   simp at B
   rcases B with rfl|rfl|rfl|rfl<;>constructor)))
 all_goals exact .panic (.iface _ (.string _))
theorem dR{RB:Ren->γ->δ->Prop}{e:RuntimeError}{f:α->Sem γ}{f':β->Sem δ}(h:QB e):dv P RB m (bG e >>= f) (bG e >>= f'):=
 dA (RA:=λ_ _ _=>False) (fh h) nofun
theorem oX{RA:Ren->α->β->Prop}{k:IntKind}{x y:Int}{c:BoundsCode}:dv P RA m (bF k x y c) (bF k x y c):=by
 refine dF (λ_=>?_) (λ_=>?_)
 .exact dv.choose λn=>fh (e:=.bounds _ y _ c) trivial
 .exact fh (e:=.bounds _ y _ c) trivial
theorem yN{RB:Ren->γ->δ->Prop}{f:IntKind×Int->Sem γ}{f':IntKind×Int->Sem δ}(B:VR m x x')(h:∀k n,x=.int k n->dv P RB m (f (k,n)) (f' (k,n))) :
  dv P RB m (asIntOf x >>= f) (asIntOf x' >>= f'):=by
 cases B<;>first|exact h _ _ rfl|exact .dy trivial
theorem jp{RB:Ren->γ->δ->Prop}{f:Int->Sem γ}{f':Int->Sem δ}(B:VR m x x')(h:∀n,dv P RB m (f n) (f' n)) :
  dv P RB m (asInt x >>= f) (asInt x' >>= f'):=by
 cases B<;>first|exact h _|exact .dy trivial
theorem Kr{RB:Ren->γ->δ->Prop}{f:Bool->Sem γ}{f':Bool->Sem δ}(B:VR m x x')(h:∀b,dv P RB m (f b) (f' b)) :
  dv P RB m (asBool x >>= f) (asBool x' >>= f'):=by
 cases B<;>first|exact h _|exact .dy trivial
theorem O3{RB:Ren->γ->δ->Prop}{f f':Array Value->_}(B:VR m x x')(h:∀c c',ed m c c'->dv P RB m (f c:Sem γ) (f' c':Sem δ)) :
  dv P RB m (asAgg x >>= f) (asAgg x' >>= f'):=by
 cases B<;>first|exact h _ _ (.gS ‹_› ‹_›)|exact .dy trivial
theorem BE{RB:Ren->γ->δ->Prop}{f:Addr->Sem γ}{f':Addr->Sem δ}(B:VR m x x')(h:∀a a',AR m a a'->dv P RB m (f a) (f' a')) :
  dv P RB m (asAddr x >>= f) (asAddr x' >>= f'):=by
 cases B<;>first|exact h _ _ ‹_›|exact .dy trivial|exact dR (e:=.nilDeref) trivial
theorem lX{RB:Ren->γ->δ->Prop}{f:Addr->Sem γ}{f':Addr->Sem δ}(B:VR m x x')(h:∀a a',AR m a a'->dv P RB m (f a) (f' a')) :
  dv P RB m (bn x >>= f) (bn x' >>= f'):=by
 cases B<;>first|exact h _ _ ‹_›|exact .dy trivial
theorem qj(O:AR m a a'):∀(n i:Nat)(acc B:Array Value),ed m acc B->dv P ed m (bK a i n acc) (bK a' i n B)
 |0,_,_,_,h=>.pure h
 |n+1,i,_,_,h=>BK (O.add i) λv v' U=>qj O n _ _ _ (h.push U)
theorem vf(B:AR m a a')(n:Nat):dv P ed m (bQ a n) (bQ a' n):=qj B n 0 _ _ (.nil m)
theorem lg(B:AR m a a'):∀{vs vs':List Value}(i:Nat),dP (VR m) vs vs'->dv P zE m (bL a vs i) (bL a' vs' i)
 |_,_,_,.nil=>by unfold bL; exact .pure trivial
 |_,_,i,.cons O h=>Nf (B.add i) O (lg B _ h)
theorem AC(B:AR m a a'):dv P VR m (loadVar t a) (loadVar t a'):=by
 refine Ef λb=>dF (λ_=>?_) (λ_=>.load B λ_ _ O=>.pure O);refine eB λn=>dA (vf B n) λm' c c' _ U=>.pure (.KD U)
theorem I7(O:AR m a a')(B:VR m v v'):dv P zE m (storeVar t a v) (storeVar t a' v'):=by
 refine eB λn=>?_;rw[<-B.cells.size];split
 .exact .dy trivial
 .exact lg O 0 B.cells
def G0(m:Ren)(a a':Addr):Prop:=AR m a a'/\¬m.loose a.block
theorem oV{e:bB}(h:ed m c c'):dv P G0 m (bJ e c) (bJ e c'):=by
 refine .new (.cells e _ _ h) (λx y z B=>by cases B; exact⟨_,rfl⟩) λm' r r' U hb O=>.pure ⟨.mk hb,O⟩
theorem yj{e:bB}(h:VR m v v'):dv P G0 m (newVar e v) (newVar e v'):=oV h.cells
theorem mq(h:ed m c c')(off:Nat):dv P VR m (part t c off) (part t c' off):=by
 refine Ef λb=>dF (λ_=>?_) (λ_=>?_)
 .exact eB λn=>.pure (.KD (h.extract ..))
 .cases O:c[off]? with
  |none=>exact .dy trivial
  |some v=>obtain⟨v',B,U⟩:=h.get O; rw[B]; exact .pure U
end
end
section
variable {a':Addr} {ps ps':Array (Nat×Value)} {c:BoundsCode} {n:Nat} {h h' l l' x x':Option Value} {α β γ δ:Type} {t:bB} {i i' v v':Value}
section
variable {P:Program} {m:Ren}
theorem PQ(B:lV P){e:bB}:dv P VR m (b9 e true (.tuple #[])) (b9 e true (.tuple #[])):=by
 exact fH B λv O=>dA (yj O) λm' a a' _ h=>.pure (.ptr h.1)
theorem Td{e:bB}(B:VR m v v'):dv P VR m (bA e v) (bA e v'):=dA (yj B) λm' a a' _ h=>.pure (.ptr h.1)
theorem AH(off:Nat):∀{l l':List Value}(n:Nat){c c':Array Value},dP (VR m) l l'->ed m c c'->
  ed m ((l.zipIdx n).foldl (λcs (x:Value×Nat)=>cs.setIfInBounds (off+x.2) x.1) c) ((l'.zipIdx n).foldl (λcs (x:Value×Nat)=>cs.setIfInBounds (off+x.2) x.1) c')
 |_,_,_,_,_,.nil,h=>by simpa using h
 |_,_,n,_,_,.cons B O,h=>by
  simp only[List.zipIdx_cons,List.foldl_cons];exact AH off _ O (h.set _ B)
def JM(m:Ren)(x y:Nat×Value):Prop:=x.1=y.1/\VR m x.2 y.2
theorem Cp(place:Nat->Option (Nat×Nat)):∀{ps ps':List (Nat×Value)}{c c' r:Array Value},dP (JM m) ps ps'->ed m c c'->aP place c ps=some r->∃r',aP place c' ps'=some r'/\ed m r r'
 |_,_,c,c',r,.nil,h,e=>by
  simp only[aP,dc]at e⊢
  exact⟨c',rfl,e▸h⟩
 |_,_,c,c',r,.cons (a:=(i,v)) (b:=(i',v')) B hl,h,e=>by
  obtain⟨hi,B⟩:=B
  subst hi;simp only[aP]at e⊢
  cases O:place i with
  |none=>rw[O]at e; cases e
  |some x=>
   obtain⟨off,size⟩:=x;rw[O]at e;simp only at e⊢;have U:=B.cells.size;rw[<-U,<-h.size];split at e
   .cases e
   .rename_i W;rw[if_neg W];refine Cp place hl ?_ e;have:=AH off 0 B.cells h;rw[<-a7,<-a7,aD,aD];exact this
theorem xc{z:Array Value}(h:ed m z z)(n:Nat):ed m ((a3 n).map (z[· % z.size]!)) ((a3 n).map (z[· % z.size]!)):=by
 refine .refl λv B=>?_;simp only[a4,db]at B;obtain⟨i,_,rfl⟩:=B;by_cases hi:i % z.size<z.size
 .rw[getElem!_pos z _ hi];exact h.idx _ hi hi
 .rw[getElem!_neg z _ hi];exact .bool _
theorem Bs{Q:Ren->β->β->Prop}(hm:∀m m' a b,m.Le m'->Q m a b->Q m' a b)(g:α->Sem β)(B:∀m x,dv P Q m (g x) (g x)):∀(l:List α)(m:Ren),dv P (λm=>dP (Q m)) m (l.mapM g) (l.mapM g)
 |[],m=>.pure .nil
 |x::l,m=>by
  simp only[cZ];exact dA (B m x) λm' a b _ h=>dA (Bs hm g B l m') λO c d U W=>.pure (.cons (hm _ _ _ _ U h) W)
theorem dP.eq:∀{l l':List α},dP (λa b=>a=b) l l'->l=l'
 |_,_,.nil=>rfl
 |_,_,.cons rfl h=>by rw[dP.eq h]
theorem GW{B:Array Field}:dv P w9 m (B.mapM (λx=>do pure (x.offset,<-bM x.type))) (B.mapM (λx=>do pure (x.offset,<-bM x.type))):=by
 rw[a0];refine dA (Bs (Q:=w9) (λ_ _ _ _ _ h=>h) _ (λm x=>eB λn=>.pure rfl) _ m) λm' a b _ h=>.pure ?_;exact congrArg _ (dP.eq h)
theorem Qu(hP:lV P)(h:dP (JM m) ps.toList ps'.toList):dv P VR m (b8 t ps) (b8 t ps'):=by
 refine fH hP λz hz=>dz λd hd=>?_
 have hf:∀m',m.Le m'->∀place,dv P VR m' (match aP place z.cells ps.toList with|some cells=>pure (.agg cells)|_=>stuck "build: a part of the wrong size") (match aP place z.cells ps'.toList with|some cells=>pure (.agg cells)|_=>stuck "build: a part of the wrong size"):=by
  intro m' B place
  cases W:aP place .. with
  |none=>exact .dy trivial
  |some r=>
   obtain⟨r',O,U⟩:=Cp place (h.mono λ_ _ x=>⟨x.1,x.2.mono B⟩) (hz.cells.mono B) W;rw[O];exact .pure (.KD U)
 have Y:∀m',m.Le m'->∀place,dv P VR m' (match aP place z.cells ps.toList with|some cells=>pure (.agg cells)|_=>stuck "build: no such field, or a part of the wrong size") (match aP place z.cells ps'.toList with|some cells=>pure (.agg cells)|_=>stuck "build: no such field, or a part of the wrong size"):=by
  intro m' B place
  cases W:aP place .. with
  |none=>exact .dy trivial
  |some r=>
   obtain⟨r',O,U⟩:=Cp place (h.mono λ_ _ x=>⟨x.1,x.2.mono B⟩) (hz.cells.mono B) W;rw[O];exact .pure (.KD U)
 cases d<;>first|exact .dy trivial|skip
 .exact eB λn=>hf m (.refl m) _
 .refine dA GW λm' a b B aa=>?_;cases aa;exact Y m' B _
theorem CG(W:lV P)(h:dP (JM m) ps.toList ps'.toList):dv P VR m (bh t n ps) (bh t n ps'):=by
 refine dz λd hd=>?_;cases d<;>first|exact .dy trivial|skip
 rename_i elem;dsimp only;refine eB λsize=>?_;split
 .exact .dy trivial
 have fin:∀z,ed m z z->dv P VR m
   (match aP (λi=>some (i*size,size)) ((a3 (n*size)).map (z[· % z.size]!)) ps.toList with|some cells=>(do pure (.slice (some (<-bJ elem cells)) n n))|_=>stuck "buildSlice: a part of the wrong size")
   (match aP (λi=>some (i*size,size)) ((a3 (n*size)).map (z[· % z.size]!)) ps'.toList with|some cells=>(do pure (.slice (some (<-bJ elem cells)) n n))|_=>stuck "buildSlice: a part of the wrong size"):=by
  intro z B
  cases Y:aP .. with
  |none=>exact .dy trivial
  |some r=>
   obtain⟨r',O,U⟩:=Cp _ h (xc B _) Y;rw[O];exact dA (oV U) λm' a a' _ ha=>.pure (.slice _ _ ha.1)
 split
 .exact fin _ (.nil m)
 .exact fH W λz B=>fin _ B.cells
theorem M2{a a':Value}(h:VR m a a'):dv P VR m (b0 t a) (b0 t a'):=lX h λ_ _ B=>AC B
theorem K1{a a':Value}(h:VR m a a')(B:VR m v v'):dv P zE m (bs t a v) (bs t a' v'):=lX h λ_ _ O=>I7 O B
theorem qQ{RB:Ren->γ->δ->Prop}{a:Addr}{f:Unit->Sem γ}{f':Unit->Sem δ}(B:AR m a a')(h:dv P RB m (f ()) (f' ())):dv P RB m (noView a >>= f) (noView a' >>= f'):=by
 refine dv.shape B.blk λx=>?_
 cases x with
 |some y=>exact h
 |none=>
  refine dv.getObj B.blk λo o' O=>?_;cases O<;>exact h
theorem np{a:Addr}(B:AR m a a'):dv P w9 m (ct a) (ct a'):=by
 unfold ct;rw[B.spot,B.off]
 cases O:a.spot with
 |some s=>exact .pure rfl
 |none=>
  refine gP (qQ B (ju B.blk λx=>?_))
  cases x with
  |none=>exact .dy trivial
  |some y=>
   refine dF (λ_=>.pure rfl) (λ_=>?_);split
   .exact .pure rfl
   .exact .dy trivial
theorem MD{a:Addr}(U:AR m a a')(c b:Nat):dv P AR m (partAt a c b) (partAt a' c b):=by
 cases U with
 |mk hb=>
 refine dA (np (.mk hb)) λm' x y O h=>?_;cases h;refine dA (np (.mk (O.blk _ _ hb))) λW x' y' B h=>?_;cases h;refine .pure ?_;split<;>exact .mk (B.blk _ _ (O.blk _ _ hb))
theorem Cw{a:Addr}(B:AR m a a')(f:Field):dv P AR m (cq a f) (cq a' f):=by
 exact eB λn=>dF (λ_=>MD B ..) (λ_=>.pure (B.add _))
theorem KY{s:bB}{x x':Value}(h:VR m x x')(f:Nat):dv P VR m (bw s x f) (bw s x' f):=by
 refine dz λd W=>?_;cases d<;>first|exact .dy trivial|skip
 rename_i B;dsimp only
 cases B[f]? with
 |none=>exact .dy trivial
 |some O=>exact lX h λa a' U=>dA (Cw U O) λm' b b' _ hb=>.pure (.ptr hb)
theorem Lh{x x':Value}(h:VR m x x')(hi:VR m i i'):dv P VR m (bv t x i) (bv t x' i'):=by
 refine yN hi λk n _=>dz λd U=>?_
 have fin:∀(len:Nat)(elem:bB)(B:Bool){a a':Addr},AR m a a'->dv P VR m
   (if 0<=n/\n<len then(do pure (.pointer (some (a.add (n.toNat*(<-bM elem))))))else if B=true then unsupported (.noEntry "op/indexAddr.an index out of range at an array of length 0 or 1 (ledger 616)")else bF k n len .index)
   (if 0<=n/\n<len then(do pure (.pointer (some (a'.add (n.toNat*(<-bM elem))))))else if B=true then unsupported (.noEntry "op/indexAddr.an index out of range at an array of length 0 or 1 (ledger 616)")else bF k n len .index):=by
  intro len elem B a a' O;exact dF (λ_=>eB λs=>.pure (.ptr (O.add _))) (λ_=>dF (λ_=>.dy trivial) (λ_=>oX))
 cases d<;>first|exact .dy trivial|skip
 .cases h with
  |fl l c=>exact dz λd2 _=>oX
  |slice l c O=>exact dz λd2 _=>fin l _ _ O
  |_=>exact .dy trivial
 .exact lX h λa a' O=>dz λd2 _=>fin _ _ _ O
theorem xO{RB:Ren->γ->δ->Prop}{k:IntKind}{x y:Int}{f:α->Sem γ}{f':β->Sem δ}:dv P RB m (bF k x y c >>= f) (bF k x y c >>= f'):=
 dA (RA:=λ_ _ _=>False) oX nofun
theorem Aq{RB:Ren->γ->δ->Prop}(h:VR m v v'){y:Nat}{f:Nat->Sem γ}{f':Nat->Sem δ}(B:∀n,dv P RB m (f n) (f' n)) :
  dv P RB m (aX v y c >>= f) (aX v' y c >>= f'):=by
 cases h with
 |int k n=>
  have e:aX (.int k n) y c=if 0<=n/\n<=y then pure _ else bF k n y c:=rfl
  rw[e];split
  .exact B _
  .exact xO
 |_=>exact .dy trivial
inductive l7{α β:Type}(R:α->β->Prop):Option α->Option β->Prop
 |none:l7 R none none
 |some {a b}:R a b->l7 R (some a) (some b)
theorem l7.mono{R S:α->β->Prop}(h:∀a b,R a b->S a b){o:Option α}{o':Option β}(x:l7 R o o'):l7 S o o':=by
 cases x with
 |none=>exact .none
 |some B=>exact .some (h _ _ B)
theorem jx{RB:Ren->γ->δ->Prop}{b:Bool}{len cap:Nat}(B:l7 (VR m) l l')(O:l7 (VR m) h h')(U:l7 (VR m) x x'){f:Nat×Nat×Nat->Sem γ}{f':Nat×Nat×Nat->Sem δ}(W:∀n,dv P RB m (f n) (f' n)) :
  dv P RB m (aW b len cap l h x >>= f) (aW b len cap l' h' x' >>= f'):=by
 unfold aW
 cases U<;>cases O<;>cases B<;>simp only[bind_assoc,pure_bind] <;>
  repeat first|exact W _|exact .dy trivial|refine Aq (by assumption) λ_=>?_
theorem PB(Y:VR m v v')(O:l7 (VR m) l l')(U:l7 (VR m) h h')(W:l7 (VR m) x x'):dv P VR m (b1 t v l h x) (b1 t v' l' h' x'):=by
 refine dz λd hd=>?_;cases d<;>first|exact .dy trivial|skip
 .cases Y<;>first|exact .dy trivial|skip
  have ex:x.isSome=x'.isSome:=by cases W<;>rfl
  dsimp only;rw[ex];split
  .exact .dy trivial
  .exact jx O U .none λn=>.pure (.string _)
 .exact BE Y λa a' B=>dz λd2 _=>by
   cases d2<;>first|exact .dy trivial|skip
   refine jx O U W λn=>eB λs=>.pure ?_;split
   .exact .slice _ _ B
   .exact .slice _ _ (B.add _)
 .cases Y<;>first|exact .dy trivial|skip
  .refine jx O U W λn=>eB λs=>.pure ?_;split<;>exact .fl ..
  .rename_i B;refine jx O U W λn=>eB λs=>.pure ?_;split
   .exact .slice _ _ B
   .exact .slice _ _ (B.add _)
theorem LJ(B:VR m v v')(O:l7 (VR m) l l')(U:l7 (VR m) h h')(W:l7 (VR m) x x'):dv P VR m (bt t v l h x) (bt t v' l' h' x'):=by
 refine dz λd hd=>?_;cases d<;>first|exact PB B O U W|skip
 refine lX B λa a' Y=>jx O U W λn=>eB λs=>.pure ?_;split
 .exact .slice _ _ Y
 .exact .slice _ _ (Y.add _)
theorem Ps(B:VR m v v')(f:Nat):dv P VR m (b6 t v f) (b6 t v' f):=by
 refine dz λd W=>?_;cases d<;>first|exact .dy trivial|skip
 rename_i O;dsimp only
 cases O[f]? with
 |none=>exact .dy trivial
 |some Y=>exact O3 B λc c' U=>mq U _
theorem Qf(B:VR m v v')(hi:VR m i i'):dv P VR m (b5 t v i) (b5 t v' i'):=by
 refine yN hi λk n _=>dz λd W=>?_;cases d<;>first|exact .dy trivial|skip
 .cases B<;>first|exact .dy trivial|skip
  dsimp only;split
  .exact .pure (.int ..)
  .exact oX
 .cases B<;>first|exact .dy trivial|skip
  rename_i O U;exact dF (λ_=>eB λs=>mq (.gS O U) _) (λ_=>oX)
theorem Ln(B:VR m v v')(i:Nat):dv P VR m (aZ v i) (aZ v' i):=by
 cases B<;>first|exact .dy trivial|skip
 .rename_i O U;unfold aZ;dsimp only
  cases W:(_:Array Value)[i]? with
  |none=>exact .dy trivial
  |some u=>obtain⟨u',Y,hr⟩:=(ed.gS O U).get W; rw[Y]; exact .pure hr
theorem wK(B:VR m v v'):dv P VR m (bc t v) (bc t v'):=by
 refine dz λd O=>?_;cases d<;>first|exact .dy trivial|exact .pure (.iface _ B)
theorem JX{r r':Option Value}(h:l7 (VR m) r r'):dv P VR m (bu t r) (bu t r'):=by
 have fin:dv P VR m .. :=
  dv.new (.map 0 .nil) (nofun) λm' i i' O hb _=>.pure (.map hb)
 cases h with
 |none=>exact fin
 |some B=>
  refine dz λd U=>?_;cases d<;>first|exact .dy trivial|exact jp B λn=>fin
theorem kg{RB:Ren->γ->δ->Prop}{f:Unit->Sem γ}{f':Unit->Sem δ}(h:dv P RB m (f ()) (f' ())):dv P RB m (bR n >>= f) (bR n >>= f'):=by
 unfold bR;split
 .exact dv.mark trivial h
 .exact h
theorem DK(O:lV P){l l' c c':Value}(U:VR m l l')(W:VR m c c'):dv P VR m (bk t l c) (bk t l' c'):=by
 refine dz λd hd=>?_;cases d<;>first|exact .dy trivial|skip
 rename_i elem;refine jp U λln=>jp W λcn=>dO λti _=>?_
 have fin:∀{a b:Nat}{x y:Nat},dv P VR m
   (do bR a; let n <-bM elem; if b*n=0 then(do let zero <-pure #[]; let r <-bJ elem (aA (λx=>zero[x % zero.size]!) (a3 (b*n))); pure (Value.slice (some r) x y))else(do let z <-bD elem; let zero <-pure z.cells; let r <-bJ elem (aA (λx=>zero[x % zero.size]!) (a3 (b*n))); pure (Value.slice (some r) x y)))
   (do bR a; let n <-bM elem; if b*n=0 then(do let zero <-pure #[]; let r <-bJ elem (aA (λx=>zero[x % zero.size]!) (a3 (b*n))); pure (Value.slice (some r) x y))else(do let z <-bD elem; let zero <-pure z.cells; let r <-bJ elem (aA (λx=>zero[x % zero.size]!) (a3 (b*n))); pure (Value.slice (some r) x y))):=by
  refine kg (eB λn=>dF (λ_=>?_) (λ_=>fH O λz Y=>?_))
  .exact dA (RA:=G0) (oV (xc (z:=#[]) (.nil m) _)) λm' r r' _ B=>dv.pure (VR.slice _ _ B.1)
  .exact dA (RA:=G0) (oV (xc Y.cells _)) λm' r r' _ B=>dv.pure (VR.slice _ _ B.1)
 refine dF (λ_=>dF (λ_=>?_) (λ_=>dF (λ_=>?_) (λ_=>gu λn=>?_))) (λ_=>fin)
 all_goals exact dR (e:=.error _) trivial
theorem I'{f:bH}(B:m.fq f){a a' b b':Array Value}(O:ed m a a')(hb:ed m b b'):dv P VR m (bp (.func f) a b) (bp (.func f) a' b'):=.pure (.Jt (.func f B) O hb)
theorem GO(hm:m.ic){s s':Value}(B:VR m s s'):dv P VR m (bq t s) (bq t s'):=by
 refine jp B λn=>dz λd O=>?_;cases d<;>first|exact .dy trivial|skip
 refine dO λU _=>dF (λ_=>dR (e:=.plain _) trivial) (λ_=>?_);exact dv.pq hm λm' i i' _ hb=>.pure (.chan hb)
theorem PZ(O:VR m v v'):dv P VR m (b3 t v) (b3 t v'):=by
 refine dz λd W=>?_
 have fin:∀{o o':Obj},OR m o o'->(∀e c f,o≠.cells e c f)->dv P VR m (do pure (.pointer (some ⟨<-bV o,0,none⟩))) (do pure (.pointer (some ⟨<-bV o',0,none⟩))):=by
  intro o o' B U;exact dv.new B (λe c f h=>absurd h (U e c f)) λm' i i' _ hb _=>.pure (.ptr (.mk hb))
 cases d<;>first|exact .dy trivial|skip
 .cases O<;>first|exact .dy trivial|exact fin (.stringIter ..) (nofun)
 .cases O<;>first|exact .dy trivial|skip
  .exact fin (.fT ..) (nofun)
  .rename_i hb;refine fI hb λo o' B=>?_;cases B<;>first|exact .dy trivial|exact fin (.mapIter _ _ _ hb) (nofun)
  .exact .gone ‹_›
theorem Fu{RB:Ren->γ->δ->Prop}{f:bB->Sem γ}{f':bB->Sem δ}(h:∀n,dv P RB m (f n) (f' n)):dv P RB m (cr t >>= f) (cr t >>= f'):=by
 unfold cr;simp only[bind_assoc];refine dz λd B=>?_;cases d<;>first|exact .dy trivial|exact h _
theorem G8{RA:Ren->α->β->Prop}:dv P RA m (bG .panicNil) (bG .panicNil):=by
 refine .program ?_;refine Fu λn=>dA (RA:=G0) (yj (.KD (.nil m))) λm' r r' _ B=>.panic (.iface _ (.ptr B.1))
theorem P3(B:VR m v v'):dv P VR m (b4 v) (b4 v'):=by
 cases B<;>first|exact .dy trivial|exact .panic (.iface _ ‹_›)|skip
 refine dv.env λr=>?_;cases r<;>first|exact .dy trivial|skip
 refine dv.program ?_;exact dF (λ_=>.panic .nilIface) (λ_=>G8)
end
end
section
variable {a a' b b':Addr} {α γ δ σ:Type}
def nE(P:Program):Nat->bB->Bool
 |0,_=>true
 |d+1,t=>match P.underlying t with
  |some (.pointer _)|some .unsafePointer|some (.interface _)=>false
  |some (.struct B)=>B.all λf=>nE P d f.type
  |some (.array _ e)=>nE P d e
  |_=>true
def gC(m:Ren):Prop:=∀r,¬m.loose r
theorem gC.mono{m m':Ren}(h:m.Le m')(x:gC m):gC m':=λr B=>x r (h.less r B)
section
variable {P:Program} {m:Ren}
theorem uX{RB:Ren->γ->δ->Prop}(O:gC m)(B:AR m a a'){f:Bool->Sem γ}{f':Bool->Sem δ}(h:∀b,dv P RB m (f b) (f' b)):dv P RB m (stringish a >>= f) (stringish a' >>= f'):=by
 refine mP B (O _) λx=>?_;cases x
 .refine ju B.blk λy=>?_
  cases y with
  |none=>exact h _
  |some z=>exact mP (.mk B.blk) (O _) λb=>h b
 .exact h _
theorem xB{RB:Ren->γ->δ->Prop}(B:gC m)(O:AR m a a')(hb:AR m b b'){f:Bool->Sem γ}{f':Bool->Sem δ}(h:∀b,dv P RB m (f b) (f' b)):dv P RB m (bW a b >>= f) (bW a' b' >>= f'):=by
 unfold bW;simp only[bind_assoc];exact uX B O λsa=>uX B hb λU=>ju O.blk λx=>ju hb.blk λy=>h _
theorem x9(O:gC m)(B:AR m a a')(hb:AR m b b'):dv P w9 m (bU a b) (bU a' b'):=by
 unfold bU;have U:(a.block==b.block)=(a'.block==b'.block):=by rw[cR]; simp only[beq_iff_eq]; exact B.rj hb
 have W:(a==b)=(a'==b'):=by rw[cR]; simp only[beq_iff_eq]; exact B.eq_iff hb
 rw[U,W];refine dF (λ_=>.pure rfl) (λ_=>?_);refine mP B (O _) λx=>?_;exact mP hb (O _) λy=>dF (λ_=>.dy trivial) (λ_=>qQ B (qQ hb (xB O B hb λx=>dF (λ_=>gu λn=>.pure rfl) (λ_=>.pure rfl))))
theorem dV{RB:Ren->γ->δ->Prop}(B:AR m a a'){f:Addr×Bool->Sem γ}{f':Addr×Bool->Sem δ}(h:∀p O l,AR m p O->dv P RB m (f (p,l)) (f' (O,l))) :
  dv P RB m (ci a >>= f) (ci a' >>= f'):=by
 refine ju B.blk λx=>?_
 cases x with
 |some y=>exact h _ _ _ B
 |none=>
  refine fI B.blk λo o' U=>?_
  cases U with
  |number l W=>exact h _ _ _ W
  |_=>exact h _ _ _ B
theorem pE{f f':α->σ->Sem (ForInStep σ)}:∀(l:List α)(s:σ)(m':Ren),m.Le m'->(∀m' a s,a∈l->m.Le m'->dv P w9 m' (f a s) (f' a s))->dv P w9 m' (forIn l s f) (forIn l s f')
 |[],s,m',_,_=>.pure rfl
 |a::l,s,m',W,h=>by
  simp only[cY];refine dA (h m' a s (by simp) W) λB x y O U=>?_;cases U
  cases x with
  |done b=>exact .pure rfl
  |yield b=>exact pE l b B (W.trans O) λY a s ha=>h Y a s (by simp[ha])
theorem om{f f':α->σ->Sem (ForInStep σ)}(xs:Array α)(s:σ)(h:∀m' a s,a∈xs.toList->m.Le m'->dv P w9 m' (f a s) (f' a s)):dv P w9 m (forIn xs s f) (forIn xs s f'):=by
 rw[<-a6,<-a6];exact pE _ s m (.refl m) h
theorem oq{f f':Nat->σ->Sem (ForInStep σ)}(n:Nat)(s:σ)(h:∀m' a s,m.Le m'->dv P w9 m' (f a s) (f' a s)):dv P w9 m (forIn [:n] s f) (forIn [:n] s f'):=by
 rw[fm,fm];exact pE _ s m (.refl m) λB a s _=>h B a s
theorem Kw{RB:Ren->γ->δ->Prop}{t:bB}{f:String->Sem γ}{f':String->Sem δ}(h:∀n,dv P RB m (f n) (f' n)):dv P RB m (ce t >>= f) (ce t >>= f'):=by
 unfold ce;simp only[bind_assoc];refine dO λB _=>?_;split
 .exact .dy trivial
 .exact h _
theorem Se(B:AR m a a')(hb:AR m b b'):(a==b)=(a'==b'):=by rw[cR]; simp only[beq_iff_eq]; exact B.eq_iff hb
theorem pf:∀(d:Nat)(m:Ren)(t:bB){x x' y y':Value},m.G=P.globals.size->VR m x x'->VR m y y'->gC m\/nE P d t=true->dv P w9 m (c4 d t x y) (c4 d t x' y')
 |0,m,t,_,_,_,_,_,_,_,_=>.dy trivial
 |d+1,m,t,x,x',y,y',hG,W,O,B=>by
  unfold c4
  refine dz λde hd=>?_
  cases de with
  |bool=>cases W<;>first|exact .dy trivial|(cases O<;>first|exact .dy trivial|exact .pure rfl)
  |string=>cases W<;>first|exact .dy trivial|(cases O<;>first|exact .dy trivial|exact .pure rfl)
  |int k=>
   cases W with
   |int k n=>
    cases O with
    |int k' n'=>exact dF (λ_=>.pure rfl) (λ_=>.dy trivial)
    |ptr ha=>
     cases n with
     |ofNat n=>cases n<;>first|exact .pure rfl|exact .dy trivial
     |negSucc n=>exact .dy trivial
    |_=>exact .dy trivial
   |ptr ha=>
    cases O with
    |int k' n'=>
     cases n' with
     |ofNat n=>cases n<;>first|exact .pure rfl|exact .dy trivial
     |negSucc n=>exact .dy trivial
    |ptr hb=>
     refine dV ha λp p' l hp=>dV hb λq q' l' hq=>gP ?_
     have e1:(p.block==q.block)=(p'.block==q'.block):=by rw[cR]; simp only[beq_iff_eq]; exact hp.rj hq
     have e2:(p==q)=(p'==q'):=by rw[cR]; simp only[beq_iff_eq]; exact hp.eq_iff hq
     have e3:decide (p.block<P.globals.size)=decide (p'.block<P.globals.size):=by rw[<-hG]; exact decide_eq_decide.2 (m.nZ _ _ hp.blk)
     rw[e1,e2,e3];refine dF (λ_=>?_) (λ_=>dO λti _=>?_)
     .refine dA (np hp) λm' x y Y h=>?_;cases h;refine dA (np (hq.mono Y)) λad x' y' Y h=>?_;cases h;exact .pure rfl
     .split
      .exact dF (λ_=>.pure rfl) (λ_=>.dy trivial)
      .exact .dy trivial
    |_=>exact .dy trivial
   |gJ=>exact .dy trivial
   |_=>cases O<;>exact .dy trivial
  |pointer e=>
   cases W with
   |gJ=>cases O<;>first|exact .dy trivial|exact .pure rfl
   |ptr ha=>
    cases O with
    |gJ=>exact .pure rfl
    |ptr hb=>
     rcases B with B|B
     .refine eB λn=>dF (λ_=>x9 B ha hb) (λ_=>?_);rw[Se ha hb];exact dF (λ_=>.pure rfl) (λ_=>gu λn=>.pure rfl)
     .simp[nE,hd]at B
    |_=>exact .dy trivial
   |_=>exact .dy trivial
  |interface ms=>
   cases W with
   |nilIface=>cases O<;>first|exact .dy trivial|exact .pure rfl
   |iface tx ab=>
    cases O with
    |nilIface=>exact .pure rfl
    |iface ty ac=>
     rcases B with B|B
     .refine dF (λ_=>.pure rfl) (λae=>dO λti _=>dF (λ_=>gP (gP ?_)) (λ_=>pf d m tx hG ab ac (.inl B)));dsimp only;exact dF (λ_=>.dy trivial) (λ_=>Kw λn=>fh (e:=.error _) trivial)
     .simp[nE,hd]at B
    |_=>exact .dy trivial
   |_=>exact .dy trivial
  |struct fs=>
   cases W<;>first|exact .dy trivial|(cases O<;>first|exact .dy trivial|skip)
   rename_i h1 h2 c c' h3 h4
   have aa:∀f∈fs.toList,gC m\/nE P d f.type=true:=by
    intro f hf;rcases B with B|B
    .exact .inl B
    .right;simp only[nE,hd,a8]at B;exact B f (by simpa using hf)
   refine gP ?_;dsimp only;refine dF (λ_=>.dy trivial) (λ_=>?_);refine dA (RA:=w9) (om _ _ λm' f s hf Y=>dF (λ_=>?_) (λ_=>.pure rfl)) λm' a b _ U=>?_
   .refine dA (mq ((ed.gS h1 h2).mono Y) _) λm1 u u' l1 hu=>dA (mq ((ed.gS h3 h4).mono (Y.trans l1)) _) λm2 v v' l2 hv=>?_;have l3:=(Y.trans l1).trans l2;refine dA (pf d m2 _ (by rw[l3.G,hG]) (hu.mono l2) hv ((aa f hf).imp (λx=>x.mono l3) id)) λm3 a b _ U=>?_;cases U;exact dF (λ_=>.pure rfl) (λ_=>.pure rfl)
   .cases U;obtain⟨o,_⟩:=a;cases o<;>exact .pure rfl
  |array n e=>
   cases W<;>first|exact .dy trivial|(cases O<;>first|exact .dy trivial|skip)
   rename_i h1 h2 c c' h3 h4
   have aa:gC m\/nE P d e=true:=by
    rcases B with B|B
    .exact .inl B
    .right;simpa only[nE,hd]using B
   refine eB λsz=>?_;refine dA (RA:=w9) (oq _ _ λm' i s Y=>?_) λm' a b _ U=>?_
   .refine dA (mq ((ed.gS h1 h2).mono Y) _) λm1 u u' l1 hu=>dA (mq ((ed.gS h3 h4).mono (Y.trans l1)) _) λm2 v v' l2 hv=>?_;have l3:=(Y.trans l1).trans l2;refine dA (pf d m2 _ (by rw[l3.G,hG]) (hu.mono l2) hv (aa.imp (λx=>x.mono l3) id)) λm3 a b _ U=>?_;cases U;exact dF (λ_=>.pure rfl) (λ_=>.pure rfl)
   .cases U;obtain⟨o,_⟩:=a;cases o<;>exact .pure rfl
  |slice e=>cases W<;>first|exact .dy trivial|(cases O<;>first|exact .dy trivial|exact .pure rfl)
  |map k e=>cases W<;>first|exact .dy trivial|(cases O<;>first|exact .dy trivial|exact .pure rfl)
  |func a b c=>cases W<;>first|exact .dy trivial|(cases O<;>first|exact .dy trivial|exact .pure rfl)
  |unsafePointer=>
   rcases B with B|B
   .cases W<;>first|exact .dy trivial|(cases O<;>first|exact .dy trivial|exact .pure rfl|exact x9 B ‹_› ‹_›)
   .simp[nE,hd]at B
  |chan a b=>
   cases W<;>first|exact .dy trivial|(cases O<;>first|exact .dy trivial|exact .pure rfl|skip)
   rename_i r r' h1 s s' h2;refine .pure ?_;show((some r==some s)=(some r'==some s'));rw[cR];simp only[beq_iff_eq,dc];constructor
   .intro e; subst e; rw[h1]at h2; cases h2; rfl
   .intro e; subst e; exact m.uJ _ _ _ h1 h2
  |_=>cases W<;>exact .dy trivial
end
end
section
variable {γ:Type} {d:TypeDesc} {t:bB} {a a' b b' k k' x x':Value}
def qf(P:Program):Nat->bB->Bool
 |0,_=>true
 |d+1,t=>match P.underlying t with
  |some (.interface _)=>false
  |some (.struct B)=>B.all λf=>qf P d f.type
  |some (.array _ e)=>qf P d e
  |_=>true
section
variable {P:Program} {m:Ren}
theorem na(b:Bool):∀(n:Nat)(m:Ren)(t:bB){v v':Value},VR m v v'->qf P n t=true->dv P zE m (aT b n t v) (aT b n t v')
 |0,m,t,_,_,_,_=>.dy trivial
 |n+1,m,t,v,v',hv,B=>by
  refine dz λd O=>?_
  cases d with
  |interface ms=>simp[qf,O]at B
  |struct fs=>
   simp only[qf,O,a8]at B;cases hv<;>first|exact .dy trivial|skip
   rename_i U W;refine(dA (RA:=w9) (om _ _ λm' f s hf Y=>dF (λ_=>?_) (λ_=>.pure rfl)) λ_ _ _ _ _=>.pure trivial);refine dA (mq ((ed.gS U W).mono Y) _) λm1 u u' l1 hu=>dA (na b n m1 _ hu (B f (by simpa using hf))) λ_ _ _ _ _=>.pure rfl
  |array l e=>
   simp only[qf,O]at B;cases hv<;>first|exact .dy trivial|skip
   rename_i U W;refine(dA (RA:=w9) (oq _ _ λm' i s Y=>eB λsz=>?_) λ_ _ _ _ _=>.pure trivial);refine dA (mq ((ed.gS U W).mono Y) _) λm1 u u' l1 hu=>dA (na b n m1 _ hu B) λ_ _ _ _ _=>.pure rfl
  |_=>exact .pure trivial
def HJ(m:Ren):Option (Nat×Value)->Option (Nat×Value)->Prop:=l7 λx y=>y.1=x.1/\VR m x.2 y.2
theorem tS(U:∀m',m.Le m'->gC m'\/nE P cw t=true)(W:m.G=P.globals.size)(Y:VR m k k'):∀{es es':List MapEntry}(i:Nat)(m':Ren),m.Le m'->dP (su m) es es'->dv P HJ m' (aS t k es i) (aS t k' es' i)
 |_,_,_,m',_,.nil=>by unfold aS; exact .pure .none
 |_,_,i,m',B,.cons he h=>by
  refine dA (pf _ m' t (by rw[B.G,W]) (Y.mono B) (he.key.mono B) (U m' B)) λm2 a b l2 O=>?_;cases O;exact dF (λ_=>.pure (.some ⟨rfl,he.val.mono (B.trans l2)⟩)) (λ_=>tS U W Y _ m2 (B.trans l2) h)
theorem LC(B:VR m k k')(O:VR m x x')(b:Bool)(h:aO d k x=some b):aO d k' x'=some b:=by
 cases d with
 |bool=>
  cases B with
  |bool c=>cases O with|bool e=>exact h|_=>cases h
  |_=>cases h
 |int j=>
  cases B with
  |int c n=>cases O with|int e U=>exact h|_=>cases h
  |_=>cases h
 |string=>
  cases B with
  |string c=>cases O with|string e=>exact h|_=>cases h
  |_=>cases h
 |_=>cases h
theorem BS(W:P.underlying t=some d)(O:VR m k k')(U:VR m x x')(h:aO d k x=none){b:Bool}(h':aO d k' x'=some b):dY P (cv t k x):=by
 have key:∀{γ:Type}(f:TypeDesc->Sem γ),dY P (f d)->dY P (bE t >>= f):=by
  intro γ f Y;show dY P ((match P.underlying t with|some d=>pure d|none=>stuck _) >>= f);rw[W]; exact Y
 cases d with
 |bool=>
  cases O with
  |bool c=>cases U with
   |bool e=>cases h
   |fJ v B=>exact key _ trivial
   |_=>cases h'
  |fJ v B=>exact key _ trivial
  |_=>cases h'
 |int j=>
  cases O with
  |int c n=>cases U with
   |int e n'=>rw[show aO .. = some b from h']at h; cases h
   |fJ v B=>exact key _ trivial
   |_=>cases h'
  |fJ v B=>exact key _ (by cases x<;>trivial)
  |_=>cases h'
 |string=>
  cases O with
  |string c=>cases U with
   |string e=>cases h
   |fJ v B=>exact key _ trivial
   |_=>cases h'
  |fJ v B=>exact key _ trivial
  |_=>cases h'
 |_=>cases h'
theorem Dz(B:P.underlying t=some d)(h:aO d k x=some false)(f:Bool->Sem γ)(O:dY P (f false)):dY P (cv t k x >>= f):=by
 have key:∀(g:TypeDesc->Sem Bool),g d=pure false->dY P ((bE t >>= g) >>= f):=by
  intro g U;show dY P (((match P.underlying t with|some d=>pure d|none=>stuck _) >>= g) >>= f);rw[B];show dY P (g d >>= f);rw[U]; exact O
 match d,k,x,h with
 |.bool,.bool a,.bool b,h=>exact key _ (by simp only[aO,dc]at h; simp[h])
 |.string,.string a,.string b,h=>exact key _ (by simp only[aO,dc]at h; simp[h])
 |.int j,.int k a,.int k' b,h=>
  refine key _ ?_;simp only[aO]at h;split at h
  .simp only[dc]at h
   rename_i e;simp[e,h]
  .cases h
theorem Br(B:P.underlying t=some d)(O:VR m k k'):∀{es es':List MapEntry}(i:Nat),dP (su m) es es'->
  (∀r,aQ d k es i=some r->∃r',aQ d k' es' i=some r'/\HJ m r r')/\(aQ d k es i=none->aQ d k' es' i=none\/∀j,dY P (aS t k es j))
 |_,_,i,.nil=>by
  exact⟨λr h=>by cases h; exact⟨_,rfl,.none⟩,nofun⟩
 |e::es,e'::es',i,.cons U h=>by
  obtain⟨W,Y⟩:=Br B O _ h
  unfold aQ
  cases hs:aO d k _ with
  |some b=>
   rw[LC O U.key b hs]
   cases b with
   |true=>exact⟨λr h=>by cases h; exact⟨_,rfl,.some ⟨rfl,U.val⟩⟩,nofun⟩
   |false=>
    refine⟨W,λhn=>(Y hn).imp id λhD j=>?_⟩;exact Dz B hs _ (hD _)
  |none=>
   refine⟨(nofun),λ_=>?_⟩
   cases aa:aO d k' _ with
   |none=>exact .inl rfl
   |some b=>
    refine .inr λj=>?_;exact(BS B O U.key hs aa).bind
theorem uO(U:gC m\/nE P cw t=true)(W:m.G=P.globals.size)(B:VR m k k'){es es':List MapEntry}(h:dP (su m) es es'):dv P HJ m (aU t k es) (aU t k' es'):=by
 refine dz λd Y=>?_;obtain⟨h1,h2⟩:=Br Y B 0 h
 cases O:aQ d k es 0 with
 |some r=>
  obtain⟨r',e,hr⟩:=h1 r O;rw[e];exact .pure hr
 |none=>
  rcases h2 O with e|hD
  .rw[e];exact tS (λm' hl=>U.imp (λx=>x.mono hl) id) W B 0 m (.refl m) h
  .exact .dy (hD 0)
theorem NG(Y:lV P)(hG:m.G=P.globals.size)(hK:∀k e,P.underlying t=some (.map k e)->qf P 10000 k=true/\(gC m\/nE P cw k=true)){i i':Value}(hx:VR m x x')(hi:VR m i i')(b:Bool):dv P VR m (bz t x i b) (bz t x' i' b):=by
 refine dz λd hd=>?_;cases d<;>first|exact .dy trivial|skip
 rename_i k e;obtain⟨U,W⟩:=hK k e hd
 have fin:∀{es es':Array MapEntry},dP (su m) es.toList es'.toList->dv P VR m
   (do aT es.isEmpty 10000 k i; match <-aU k i es.toList with|some (_,v)=>(do let y <-pure (v,true); match y with|(v,ok)=>pure (if b=true then .tuple #[v,.bool ok]else v))|none=>(do let z <-bD e; let y <-pure (z,false); match y with|(v,ok)=>pure (if b=true then .tuple #[v,.bool ok]else v)))
   (do aT es'.isEmpty 10000 k i'; match <-aU k i' es'.toList with|some (_,v)=>(do let y <-pure (v,true); match y with|(v,ok)=>pure (if b=true then .tuple #[v,.bool ok]else v))|none=>(do let z <-bD e; let y <-pure (z,false); match y with|(v,ok)=>pure (if b=true then .tuple #[v,.bool ok]else v))):=by
  intro es es' h
  have he:es.isEmpty=es'.isEmpty:=by
   have:=h.length;simp only[a5]at this;simp[aB,this]
  rw[he];refine dA (na _ _ m _ hi U) λm1 _ _ B _=>dA (uO (W.imp (λx=>x.mono B) id) (by rw[B.G,hG]) (hi.mono B) (h.mono λ_ _ x=>x.mono B)) λm2 r r' l2 hr=>?_
  have pr:∀(m':Ren)(v v':Value)(o:Bool),VR m' v v'->VR m' (if b=true then .tuple #[v,.bool o]else v) (if b=true then .tuple #[v',.bool o]else v'):=by
   intro m' v v' o O;split
   .exact .kL (.cons O (.cons (.bool _) .nil))
   .exact O
  cases hr with
  |none=>exact fH Y λz hz=>.pure (pr _ _ _ _ hz)
  |some O=>exact .pure (pr _ _ _ _ O.2)
 cases hx<;>first|exact .dy trivial|skip
 .exact fin .nil
 .rename_i hb;refine fI hb λo o' ho=>?_;cases ho<;>first|exact .dy trivial|exact fin ‹_›
 .exact .gone ‹_›
theorem EB:∀(n:Nat)(a b:Value),aN n a b=true->a=b:=by
 intro n
 induction n with
 |zero=>
  intro a b h;unfold aN at h;split at h
  .rw[eq_of_beq h]
  .simp only[cQ,beq_iff_eq]at h; rw[h.1,h.2]
  .simp only[cQ,beq_iff_eq]at h; rw[h.1,h.2]
  .simp only[cQ,beq_iff_eq]at h; rw[h.1.1,h.1.2,h.2]
  .rw[(Go.MapKept.bytes_beq ..).1 h]
  .rw[eq_of_beq h]
  .rw[eq_of_beq h]
  .rfl
  .rename_i e; cases e
  .rename_i e; cases e
  .cases h
 |succ n B=>
  intro a b h;unfold aN at h;split at h
  .rw[eq_of_beq h]
  .simp only[cQ,beq_iff_eq]at h; rw[h.1,h.2]
  .simp only[cQ,beq_iff_eq]at h; rw[h.1,h.2]
  .simp only[cQ,beq_iff_eq]at h; rw[h.1.1,h.1.2,h.2]
  .rw[(Go.MapKept.bytes_beq ..).1 h]
  .rw[eq_of_beq h]
  .rw[eq_of_beq h]
  .rfl
  .rename_i e; cases e;simp only[cQ,beq_iff_eq]at h;rw[h.1,B _ _ h.2]
  .rename_i x y e; cases e;simp only[cQ,beq_iff_eq,cX]at h
   have:=by
    apply Array.ext h.1;intro i O U;refine B _ _ (h.2 (x[i],y[i]) ?_);rw[cW];exact⟨i,by simp[cV,O,U]⟩
   rw[this]
  .cases h
theorem rz(Y:VR m a a')(hb:VR m b b'):(∀p q,a=.pointer p->b=.pointer q->∃B O,a'=.pointer B/\b'=.pointer O/\(p==q)=(B==O))/\(∀p q,a=.chan p->b=.chan q->∃B O,a'=.chan B/\b'=.chan O/\(p==q)=(B==O)):=by
 constructor
 .intro p q U W;subst U W
  cases Y with
  |gJ=>cases hb with
   |gJ=>exact⟨_,_,rfl,rfl,rfl⟩
   |ptr h=>exact⟨_,_,rfl,rfl,rfl⟩
  |ptr h=>cases hb with
   |gJ=>exact⟨_,_,rfl,rfl,rfl⟩
   |ptr h'=>exact⟨_,_,rfl,rfl,by rw[cR]; simp only[beq_iff_eq,dc]; exact h.eq_iff h'⟩
 .intro p q U W;subst U W
  cases Y with
  |iS=>cases hb with
   |iS=>exact⟨_,_,rfl,rfl,rfl⟩
   |chan h=>exact⟨_,_,rfl,rfl,rfl⟩
  |chan h=>cases hb with
   |iS=>exact⟨_,_,rfl,rfl,rfl⟩
   |chan h'=>
    refine⟨_,_,rfl,rfl,?_⟩;rw[cR]; simp only[beq_iff_eq,dc];constructor
    .intro e; subst e; rw[h]at h'; cases h'; rfl
    .intro e; subst e; exact m.uJ _ _ _ h h'
theorem EN:∀(n:Nat){a b a' b':Value},VR m a a'->VR m b b'->aN n a b=true->aN n a' b'=true:=by
 intro n
 induction n with
 |zero=>
  intro a b a' b' B hb h;unfold aN at h;split at h
  .cases B; cases hb; simpa[aN]using h
  .cases B; cases hb; simpa[aN]using h
  .cases B
  .cases B
  .cases B; cases hb; simpa[aN]using h
  .obtain⟨W,Y,rfl,rfl,e⟩:=(rz B hb).1 _ _ rfl rfl; rw[e]at h; simpa[aN]using h
  .obtain⟨W,Y,rfl,rfl,e⟩:=(rz B hb).2 _ _ rfl rfl; rw[e]at h; simpa[aN]using h
  .cases B; cases hb; rfl
  .rename_i e; cases e
  .rename_i e; cases e
  .cases h
 |succ n ih=>
  intro a b a' b' B hb h;unfold aN at h;split at h
  .cases B; cases hb; simpa[aN]using h
  .cases B; cases hb; simpa[aN]using h
  .cases B
  .cases B
  .cases B; cases hb; simpa[aN]using h
  .obtain⟨W,Y,rfl,rfl,e⟩:=(rz B hb).1 _ _ rfl rfl; rw[e]at h; simpa[aN]using h
  .obtain⟨W,Y,rfl,rfl,e⟩:=(rz B hb).2 _ _ rfl rfl; rw[e]at h; simpa[aN]using h
  .cases B; cases hb; rfl
  .rename_i e; cases e
   cases B with
   |iface t h1=>cases hb with
    |iface u h2=>
     simp only[cQ,beq_iff_eq]at h;simp only[aN,cQ,beq_iff_eq];exact⟨h.1,ih h1 h2 h.2⟩
  .rename_i x y e; cases e
   cases B with
   |agg s1 h1=>cases hb with
    |agg s2 h2=>
     simp only[cQ,beq_iff_eq,cX]at h;simp only[aN,cQ,beq_iff_eq,cX];refine⟨by rw[<-s1,<-s2]; exact h.1,λp hp=>?_⟩;rw[cW]at hp;obtain⟨i,hi⟩:=hp;simp only[cV,az]at hi;obtain⟨g1,g2⟩:=hi;obtain⟨k1,e1⟩:=ay.1 g1;obtain⟨k2,e2⟩:=ay.1 g2;have O:i<x.size:=by rw[s1]; exact k1
     have U:i<y.size:=by rw[s2]; exact k2
     rw[<-e1,<-e2];refine ih (h1 i O k1) (h2 i U k2) (h.2 (x[i],y[i]) ?_);rw[cW];exact⟨i,by simp[cV,O,U]⟩
  .cases h
theorem ye{δ:Type}{RB:Ren->γ->δ->Prop}(B:VR m a a')(hb:VR m b b'){f:Value->Sem γ}{f':Value->Sem δ}(W:∀v,fO (f v))(h:∀v v',VR m v v'->dv P RB m (f v) (f' v')) :
  li P RB m (aV a b >>= f) (aV a' b' >>= f'):=by
 unfold aV;by_cases O:aN 10000 a b=true
 .rw[if_pos O,if_pos (EN _ B hb O)];exact .base (h _ _ hb)
 .rw[if_neg O];by_cases U:aN 10000 a' b'=true
  .have e:=EB _ _ _ U;refine li.Sl (λn=>?_) (λn=>?_)
   .exact W _
   .show dv P RB m (f _) _;split
    .exact h _ _ hb
    .exact h _ _ (e▸B)
  .rw[if_neg U];refine .base (dv.choose λn=>?_);show dv P RB m (f _) (f' _);split
   .exact h _ _ hb
   .exact h _ _ B
end
end
section
variable {es es':Array MapEntry} {α β γ δ:Type} {i' k k' mp mp' v v':Value}
section
variable {P:Program} {m:Ren}
theorem fO.bind{s:Sem α}{f:α->Sem β}(h:fO s)(O:∀a,fO (f a)):fO (s.bind f):=by
 induction s with
 |pure a=>exact O a
 |load m a k B=>exact λv=>B v (h v)
 |store m a v k B=>exact B h
 |new o k B=>exact λv=>B v (h v)
 |shape r k B=>exact λv=>B v (h v)
 |freeze a n k B=>exact B h
 |frozen a k B=>exact λv=>B v (h v)
 |getObj r k B=>exact λv=>B v (h v)
 |setObj r o k B=>exact B h
 |choose q k B=>exact h.elim
 |sys c k B=>exact λv=>B v (h v)
 |program k B=>exact λv=>B v (h v)
 |mark m k B=>exact B h
 |halt x=>trivial
theorem li.map{RA:Ren->α->β->Prop}{RB:Ren->γ->δ->Prop}{s:Sem α}{s':Sem β}{g:α->γ}{g':β->δ}(h:li P RA m s s')(U:∀m' a b,m.Le m'->RA m' a b->RB m' (g a) (g' b)) :
  li P RB m (s.bind λa=>.pure (g a)) (s'.bind λb=>.pure (g' b)):=by
 induction h with
 |base h=>exact .base (h.bind λm' a b B O=>.pure (U m' a b B O))
 |bind h _ ih=>
  rw[cU,cU];exact .bind h λm' a b B O=>ih m' a b B O λW c d Y aa=>U W c d (B.trans Y) aa
 |Sl hd h=>exact .Sl (λn=>(hd n).bind λ_=>trivial) λn=>(h n).bind λm' a b B O=>.pure (U m' a b B O)
theorem nK{RC:Ren->γ->δ->Prop}{RA:Ren->α->β->Prop}{s:Sem γ}{s':Sem δ}{f:γ->Sem α}{f':δ->Sem β}(h:dv P RC m s s')(B:∀m' a b,m.Le m'->RC m' a b->li P RA m' (f a) (f' b)):li P RA m (s >>= f) (s' >>= f'):=.bind h B
theorem tB{t:bB}:dv P (λ_ a b=>a=b/\P.underlying t=some a) m (bE t) (bE t):=by
 have:=dz (P:=P) (m:=m) (t:=t) (RB:=λ_ a b=>a=b/\P.underlying t=some a) (f:=pure) (f':=pure) λd B=>.pure ⟨rfl,B⟩;simpa using this
theorem Ed{r r':Nat}(hb:m.blk r=some r'):dv P OR m (getObj r) (getObj r'):=.getObj hb λ_ _ h=>.pure h
theorem yX(h:dP (su m) es.toList es'.toList)(i:Nat){f f':MapEntry->MapEntry}(hf:∀e W,su m e W->su m (f e) (f' W)):dP (su m) (es.modify i f).toList (es'.modify i f').toList:=by
 refine dP.H' (by simpa using h.length) λj a b B hb=>?_;simp only[az,a2]at B hb;by_cases e:i=j
 .simp only[e,if_true,Option.map_eq_some_iff]at B hb;obtain⟨x,hx,rfl⟩:=B;obtain⟨y,Y,rfl⟩:=hb;obtain⟨z,O,U⟩:=h.get (i:=j) (a:=x) (by simpa using hx);simp only[az]at O;rw[O]at Y; cases Y;exact hf _ _ U
 .simp only[e,if_false]at B hb;obtain⟨z,O,U⟩:=h.get (i:=j) (a:=a) (by simpa using B);simp only[az]at O;rw[O]at hb; cases hb;exact U
theorem sZ(h:dP (su m) es.toList es'.toList){e B:MapEntry}(O:su m e B):dP (su m) (es.push e).toList (es'.push B).toList:=by
 simp only[aI];exact h.append (.cons O .nil)
theorem Bj(h:dP (su m) es.toList es'.toList)(i:Nat):l7 (su m) es[i]? es'[i]?:=by
 cases B:es[i]? with
 |none=>
  have:=h.get_none (i:=i) (by simpa using B);simp only[az]at this;rw[this]; exact .none
 |some x=>
  obtain⟨y,O,U⟩:=h.get (i:=i) (a:=x) (by simpa using B);simp only[az]at O;rw[O]; exact .some U
theorem mR{c:Nat}:∀x y z,Obj.map es c≠.cells x y z:=nofun
theorem FT(hG:m.G=P.globals.size){t:bB}(hK:∀k e,P.underlying t=some (.map k e)->qf P 10000 k=true/\(gC m\/nE P cw k=true))(hm:VR m mp mp')(W:VR m k k')(hv:VR m v v') :
  li P zE m (bj t mp k v) (bj t mp' k' v'):=by
 refine nK tB λm1 d d' l1 hd=>?_;obtain⟨rfl,hd⟩:=hd;cases d<;>first|exact .base (.dy trivial)|skip
 rename_i kt et;obtain⟨ac,ad⟩:=hK kt et hd;have hm:=hm.mono l1;cases hm<;>first|exact .base (.dy trivial)|exact .base (fh (e:=.plain _) trivial)|skip
 case map.gone=>exact .base (.gone ‹_›)
 rename_i r r' hb;refine nK (Ed hb) λm2 o o' l2 ho=>?_;have ae:=l2.blk _ _ hb;cases ho<;>first|exact .base (.dy trivial)|skip
 rename_i es es' clock Y;have aa:=l1.trans l2;refine nK (na _ _ m2 _ (W.mono aa) ac) λm3 _ _ l3 _=>?_;have U:=aa.trans l3;refine nK (uO (ad.imp (λx=>x.mono U) id) (by rw[U.G,hG]) (W.mono U) (Y.mono λ_ _ x=>x.mono l3)) λm4 a b l4 af=>?_;have B:=U.trans l4;have O:=Y.mono λ_ _ x=>x.mono (l3.trans l4);have ab:=(l3.trans l4).blk _ _ ae
 cases af with
 |none=>exact .base (pZ ab (.map _ (sZ O ⟨W.mono B,hv.mono B,rfl⟩)) mR)
 |some hx=>
  rename_i x y;obtain⟨i,u⟩:=x;obtain⟨i',u'⟩:=y;obtain⟨hi,_⟩:=hx;subst hi;refine ye ?_ (W.mono B) (λ_=>trivial) λq q' hq=>pZ ab (.map _ (yX O _ λe e' he=>⟨hq,hv.mono B,he.born⟩)) mR;have:=Bj O i';revert this;generalize es[i']?=p;generalize es'[i']?=p';intro hp
  cases hp with
  |none=>exact W.mono B
  |some he=>exact he.key
theorem Hu(hP:lV P)(hG:m.G=P.globals.size){t:bB}(hK:∀k e,P.underlying t=some (.map k e)->qf P 10000 k=true/\(gC m\/nE P cw k=true))(hm:VR m mp mp')(Y:VR m k k') :
  li P VR m (bo t mp k) (bo t mp' k'):=by
 refine nK tB λm1 d d' l1 hd=>?_;obtain⟨rfl,hd⟩:=hd;cases d<;>first|exact .base (.dy trivial)|skip
 rename_i kt et;obtain⟨ad,ae⟩:=hK kt et hd;have hm:=hm.mono l1;cases hm<;>first|exact .base (.dy trivial)|exact .base (fh (e:=.plain _) trivial)|skip
 case map.gone=>exact .base (.gone ‹_›)
 rename_i r r' hb;refine nK (Ed hb) λm2 o o' l2 ho=>?_;have af:=l2.blk _ _ hb;cases ho<;>first|exact .base (.dy trivial)|skip
 rename_i es es' clock aa;have ab:=l1.trans l2;refine nK (na _ _ m2 _ (Y.mono ab) ad) λm3 _ _ l3 _=>?_;have O:=ab.trans l3;refine nK (uO (ae.imp (λx=>x.mono O) id) (by rw[O.G,hG]) (Y.mono O) (aa.mono λ_ _ x=>x.mono l3)) λm4 a b l4 ag=>?_;have U:=O.trans l4;have B:=aa.mono λ_ _ x=>x.mono (l3.trans l4);have ac:=(l3.trans l4).blk _ _ af
 cases ag with
 |none=>exact .base (fH hP λz hz=>j9 ac (.map _ (sZ B ⟨Y.mono U,hz,rfl⟩)) mR (.pure (.kL (.cons hz (.cons (.int ..) .nil)))))
 |some hx=>
  rename_i x y;obtain⟨i,u⟩:=x;obtain⟨i',u'⟩:=y;obtain⟨hi,hu⟩:=hx;subst hi;have hg:=Bj B i';refine ye ?_ (Y.mono U) (λ_=>trivial) λq q' hq=>j9 ac (.map _ (yX B _ λe e' W=>⟨hq,W.val,W.born⟩)) mR (.pure (.kL (.cons hu (.cons ?_ .nil))))
  .revert hg;generalize es[i']?=p;generalize es'[i']?=p';intro hp
   cases hp with
   |none=>exact Y.mono U
   |some W=>exact W.key
  .revert hg;generalize es[i']?=p;generalize es'[i']?=p';intro hp
   cases hp with
   |none=>exact .int ..
   |some W=>rw[ev,ev,W.born]; exact .int ..
theorem L7{es es':List MapEntry}(h:dP (su m) es es')(p:Nat->Bool):es.findIdx? (λe=>p e.born)=es'.findIdx? (λe=>p e.born):=by
 induction h with
 |nil=>rfl
 |cons B _ O=>simp only[List.findIdx?_cons,B.born,O]
theorem CD{t:bB}{s s':Value}(hm:VR m mp mp')(U:VR m s s')(W:VR m v v'):dv P zE m (bg t mp s v) (bg t mp' s' v'):=by
 cases hm<;>first|exact .dy trivial|skip
 case gone=>exact .gone ‹_›
 rename_i r r' hb;refine fI hb λo o' Y=>?_;cases Y<;>first|exact .dy trivial|skip
 rename_i es es' clock B;refine jp U λn=>?_
 have e:es.findIdx? (λe=>e.born==n)=es'.findIdx? (λe=>e.born==n):=by
  have:=L7 B (λb=>b==n);obtain⟨a⟩:=es;obtain⟨a'⟩:=es';simpa using this
 rw[e];split
 .exact pZ hb (.map _ (yX B _ λe e' O=>⟨O.key,W,O.born⟩)) mR
 .exact .dy trivial
theorem QN{es es':List MapEntry}(h:dP (su m) es es')(p:Nat->Bool):l7 (su m) (es.find? λe=>p e.born) (es'.find? λe=>p e.born):=by
 induction h with
 |nil=>exact .none
 |cons B _ O=>
  simp only[List.find?_cons,B.born];split
  .exact .some B
  .exact O
theorem OQ{i:Value}(h:VR m i i'):dv P VR m (b7 i) (b7 i'):=by
 cases h<;>first|exact .dy trivial|skip
 rename_i Y
 cases Y with
 |@mk b b' o s hb=>
 cases o<;>first|exact .dy trivial|skip
 refine fI hb λo o' O=>?_;cases O<;>first|exact .dy trivial|skip
 rename_i r r' x y z hm;dsimp only
 cases y.back? with
 |none=>exact .dy trivial
 |some B=>
  refine fI hm λo o' O=>?_;cases O<;>first|exact .dy trivial|skip
  rename_i es es' clock U;dsimp only;split
  .exact .dy trivial
  .have:=QN U (λb=>b==B);simp only[Array.find?_toList]at this;revert this;generalize es.find? _=p;generalize es'.find? _=p';intro hp
   cases hp with
   |none=>exact .dy trivial
   |some W=>exact .pure (.kL (.cons W.key (.cons W.val .nil)))
theorem xC{es es':List MapEntry}(h:dP (su m) es es')(p:Nat->Bool):dP (su m) (es.filter λe=>p e.born) (es'.filter λe=>p e.born):=by
 induction h with
 |nil=>exact .nil
 |cons B _ O=>
  simp only[List.filter_cons,B.born];split
  .exact .cons B O
  .exact O
theorem SY{es es':List MapEntry}(h:dP (su m) es es')(p:Nat->Bool):es.all (λe=>p e.born)=es'.all (λe=>p e.born):=by
 induction h with
 |nil=>rfl
 |cons B _ O=>simp only[List.all_cons,B.born,O]
def Ih(bI:Array Nat)(B:Nat)(es:Array MapEntry):Array (Option MapEntry):=
 (if(a1 (λx=>decide (x.born<B)) (a1 (λe=>!bI.contains e.born) es)).isEmpty=true then #[none]else #[]) ++
  aA some (a1 (λx=>decide (x.born<B)) (a1 (λe=>!bI.contains e.born) es)++a1 (λx=>decide (x.born ≥ B)) (a1 (λe=>!bI.contains e.born) es))
theorem Ra(bI:Array Nat)(B:Nat)(h:dP (su m) es.toList es'.toList):dP (l7 (su m)) (Ih bI B es).toList (Ih bI B es').toList:=by
 have O:=xC h (λb=>!bI.contains b);have U:=xC O (λb=>decide (b<B));have W:=xC O (λb=>decide (b ≥ B));unfold Ih
 have e:(a1 (λx=>decide (x.born<B)) (a1 (λe=>!bI.contains e.born) es)).isEmpty=(a1 (λx=>decide (x.born<B)) (a1 (λe=>!bI.contains e.born) es')).isEmpty:=by
  have:=U.length;simp only[<-aE,a5]at this;simp only[aB,this]
 rw[e];simp only[aF,a4,aE];refine dP.append ?_ (dP.map (λa b h=>.some h) (dP.append U W));split
 .exact .cons .none .nil
 .exact .nil
theorem Ri{i:Value}(h:VR m i i')(b:Bool)(t:bB):dv P VR m (bd i b t) (bd i' b t):=by
 unfold bd;cases h<;>first|exact .dy trivial|skip
 rename_i ha
 cases ha with
 |@mk c c' o s hb=>
 cases o<;>first|exact .dy trivial|skip
 dsimp only;refine fI hb λo o' U=>?_;cases U<;>cases b<;>first|exact .dy trivial|skip
 .dsimp only;refine dF (λ_=>j9 hb (.stringIter _ _) (λ_ _ _ h=>by cases h) (.pure (.kL (.cons (.bool _) (.cons (.int ..) (.cons (.int ..) .nil)))))) (λ_=>.pure (.kL (.one (.bool _))))
 .exact .pure (.kL (.one (.bool _)))
 .rename_i r r' B bI last hm;refine fI hm λo o' U=>?_;cases U<;>first|exact .dy trivial|skip
  rename_i es es' clock O;have Y:=O.length;simp only[a5]at Y;have e1:es.isEmpty=es'.isEmpty:=by simp only[aB,Y]
  have e2:es.all (λx=>decide (x.born ≥ last))=es'.all (λx=>decide (x.born ≥ last)):=by
   have:=SY O (λb=>decide (b ≥ last));rw[<-aL,<-aL]; exact this
  dsimp only;rw[e1,e2];refine dF (λ_=>.dy trivial) (λ_=>?_)
  change dv P VR m (choose (.mapNext (Ih bI B es).size) >>= λn=>match (Ih bI B es)[n]? with
    |some (some e)=>(do setObj c _; pure _)
    |some none=>pure _
    |none=>stuck _)
   (choose _ >>= λn=>match (Ih bI B es')[n]? with
     |some (some e)=>(do setObj c' _; pure _)
     |some none=>pure _
     |none=>stuck _)
  have hc:=Ra bI B O;have e3:=by simpa using hc.length
  rw[e3];refine gu λn=>?_
  cases hn:(Ih bI B es)[n]? with
  |none=>exact .dy trivial
  |some x=>
   obtain⟨y,hy,hr⟩:=hc.get (i:=n) (a:=x) (by simpa using hn);simp only[az]at hy;rw[hy]
   cases hr with
   |none=>exact .pure (.kL (.one (.bool _)))
   |some W=>
    dsimp only;rw[W.born];exact j9 hb (.mapIter _ _ _ hm) (nofun) (.pure (.kL (.cons (.bool _) (.cons W.key (.cons W.val .nil)))))
end
end
section
variable {a':Addr} {r r':Nat} {x x' y y':Value}
section
variable {P:Program} {m:Ren}
theorem CS(U:lV P)(W:VR m x x')(t u:bB):dv P VR m (bf x t u true) (bf x' t u true):=by
 have B:dv P VR m (do pure (.tuple #[<-bD u,.bool false])) _:=
  fH U λz Y=>.pure (.kL (.cons Y (.cons (.bool _) .nil)))
 refine dz λd hd=>?_
 cases W with
 |nilIface=>cases d<;>exact B
 |iface s O=>
  cases d
  case interface ms=>
   refine dO λti _=>?_
   cases Instr.missingMethod ms _ with
   |none=>exact .pure (.kL (.cons (.iface _ O) (.cons (.bool _) .nil)))
   |some _=>exact B
  all_goals exact dF (λ_=>.pure (.kL (.cons O (.cons (.bool _) .nil)))) (λ_=>B)
 |_=>cases d<;>exact .dy trivial
theorem yP(op:BinOp)(k:IntKind)(a b:Int):dv P VR m (c0 op k a b) (c0 op k a b):=by
 cases op<;>first|exact .dy trivial|exact .pure (.int ..)
theorem Be(op:BinOp)(k:IntKind)(a b:Int):dv P VR m (c3 op k a b) (c3 op k a b):=by
 cases op<;>first|exact .dy trivial|exact .pure (.int ..)
theorem OC(op:BinOp)(a b:Int):dv P VR m (c7 op a b) (c7 op a b):=by
 cases op<;>first|exact .dy trivial|exact .pure (.bool _)
theorem MA(op:BinOp)(k:IntKind)(a b:Int):dv P VR m (c6 op k a b) (c6 op k a b):=by
 refine dF (λ_=>fh (e:=.error _) trivial) (λ_=>?_);cases op<;>first|exact .dy trivial|exact .pure (.int ..)
theorem J3(op:BinOp)(k j:IntKind)(a b:Int):dv P VR m (c9 op k a j b) (c9 op k a j b):=by
 refine dF (λ_=>fh (e:=.error _) trivial) (λ_=>?_);cases op<;>first|exact .dy trivial|exact .pure (.int ..)
theorem II(op:BinOp)(a b:ByteArray):dv P VR m (cz op a b) (cz op a b):=by
 cases op<;>first|exact .dy trivial|exact .pure (.bool _)|exact dF (λ_=>.dy trivial) (λ_=>.pure (.string _))
theorem OV(op:UnOp)(h:VR m x x'):dv P VR m (c8 op x) (c8 op x'):=by
 cases h<;>cases op<;>first|exact .dy trivial|exact .pure (.bool _)|skip
 .rename_i k n;show dv P VR m (c0 .sub k 0 n) _;exact yP ..
 .rename_i k n;show dv P VR m (c3 .xor k _ n) _;exact Be ..
theorem NY{γ δ:Type}{RB:Ren->γ->δ->Prop}(hb:m.blk r=some r'){f:Option (Addr×bB)->Sem γ}{f':Option (Addr×bB)->Sem δ}(h:dv P RB m (f none) (f' none)):dv P RB m (viewAt r >>= f) (viewAt r' >>= f'):=by
 refine ju hb λx=>?_
 cases x with
 |some y=>exact h
 |none=>
  refine fI hb λo o' B=>?_;cases B<;>exact h
def T5(m:Ren)(v v':Value):Prop:=∃a a',v=.pointer (some a)/\v'=.pointer (some a')/\AR m a a'
theorem qK{a:Array bB}{t:bB}(U:VR m x x')(O:VR m y y'):dv P T5 m (cB a t #[x,y]) (cB a t #[x',y']):=by
 cases U<;>first|exact .dy trivial|skip
 .refine jp O λn=>?_;dsimp only;split
  .exact .dy trivial
  .split<;>exact .dy trivial
 .rename_i B;refine jp O λn=>?_;dsimp only;split
  .refine NY B.blk ?_;exact .pure ⟨_,_,rfl,rfl,B⟩
  .split
   .exact .dy trivial
   .refine ju B.blk λz=>?_
    cases z with
    |none=>exact .dy trivial
    |some z=>
     refine gP ?_
     cases B with
     |mk hb=>
     dsimp only;split
     .exact .pure ⟨_,_,rfl,rfl,.mk hb⟩
     .exact .dy trivial
theorem Iq(hb:m.blk r=some r'):dv P (λm=>l7 λx y=>AR m x.1 y.1/\y.2=x.2) m (numberAt r) (numberAt r'):=by
 refine ju hb λx=>?_
 cases x with
 |some y=>exact .pure .none
 |none=>
  refine fI hb λo o' B=>?_
  cases B with
  |number l O=>exact .pure (.some ⟨O,rfl⟩)
  |_=>exact .pure .none
theorem It{a:Addr}(B:AR m a a')(l:Bool):dv P VR m (asNumber a l) (asNumber a' l):=
 dv.new (.number l B) (nofun) λm' r r' _ hb _=>.pure (.ptr (.mk hb))
theorem iY{t:bB}(O:VR m x x')(B:VR m y y'):dv P VR m (cl t x y) (cl t x' y'):=by
 refine dz λd hd=>?_;dsimp only;split
 .exact .dy trivial
 .cases O with
  |ptr U=>
   refine dV U λp p' l W=>?_;refine dA (qK (.ptr W) B) λm' v v' hl Y=>?_;obtain⟨b,b',rfl,rfl,hb⟩:=Y;exact It hb l
  |gJ=>exact(qK (a:=#[]) (t:=t) .gJ B).mono λm' v v' _ h=>by obtain⟨b,b',rfl,rfl,hb⟩:=h; exact .ptr hb
  |_=>exact .dy trivial
theorem qM{t:bB}(O:VR m x x')(U:VR m y y'):dv P VR m (cg t x y) (cg t x' y'):=by
 have fin:∀m',m.Le m'->dv P VR m' (cB #[] t _) _:=λm' B=>(qK (O.mono B) (U.mono B)).mono λm' v v' _ h=>by obtain⟨b,b',rfl,rfl,hb⟩:=h; exact .ptr hb
 cases O with
 |ptr W=>
  refine dA (Iq W.blk) λm' o o' B Y=>?_
  cases Y with
  |none=>exact fin m' B
  |some _=>exact .dy trivial
 |fJ v hv=>exact .dy trivial
 |_=>exact fin m (.refl m)
theorem vO{t:bB}(y:Value):dY P (cv t (.tuple #[]) y):=by
 show dY P ((match P.underlying t with|some d=>pure d|none=>stuck _) >>= _)
 cases P.underlying t with
 |none=>trivial
 |some d=>cases d<;>first|trivial|(cases y<;>trivial)
theorem vw{t:bB}(x:Value):dY P (cv t x (.tuple #[])):=by
 show dY P ((match P.underlying t with|some d=>pure d|none=>stuck _) >>= _)
 cases P.underlying t with
 |none=>trivial
 |some d=>cases d<;>first|trivial|(cases x<;>first|trivial|(rename_i a; cases a<;>trivial)|(cases b<;>first|trivial|(cases c<;>trivial))|(rename_i a b c; cases a<;>trivial))
theorem Fe(U:m.G=P.globals.size){a b b':Addr}(B:AR m a a')(hb:AR m b b'):dv P w9 m (cx a b) (cx a' b'):=by
 refine gP ?_
 have W:(a.block != b.block)=(a'.block != b'.block):=by
  have:(a.block==b.block)=(a'.block==b'.block):=by rw[cR]; simp only[beq_iff_eq]; exact B.rj hb
  simp only[bne,this]
 have Y:decide (a.block ≥ P.globals.size)=decide (a'.block ≥ P.globals.size):=by
  have:=m.nZ _ _ B.blk;rw[U]at this;exact decide_eq_decide.2 ⟨λh=>dr λx=>absurd (this.2 x) (by omega),λh=>dr λx=>absurd (this.1 x) (by omega)⟩
 rw[W,Y];refine dF (λ_=>.dy trivial) (λ_=>?_);refine dA (np B) λm' x y O h=>?_;cases h;refine dA (np (hb.mono O)) λaa x' y' O h=>?_;cases h;exact .pure rfl
theorem um{k:IntKind}{a:Addr}(B:AR m a a')(n:Int):dv P VR m (c5 k a n) (c5 k a' n):=by
 refine ju B.blk λx=>?_
 cases x with
 |none=>exact .dy trivial
 |some y=>
  refine dO λO _=>?_;refine dF (λ_=>.dy trivial) (λ_=>?_);refine dA (np B) λm' x y U h=>?_;cases h;exact .pure (.int ..)
theorem IU(O:m.G=P.globals.size){t:bB}(U:gC m\/nE P cw t=true)(W:VR m x x')(Y:VR m y y'):dv P VR m (do pure (.bool (<-cv t x y))) (do pure (.bool (<-cv t x' y')))/\dv P VR m (do pure (.bool (!(<-cv t x y)))) (do pure (.bool (!(<-cv t x' y')))):=by
 have h:=pf (P:=P) _ m t O W Y U;constructor
 .exact dA h λm' a b _ B=>by cases B; exact .pure (.bool _)
 .exact dA h λm' a b _ B=>by cases B; exact .pure (.bool _)
theorem LN(op:BinOp)(t:bB)(k k':IntKind)(a b:Int):dv P VR m (binOp op t (.int k a) (.int k' b)) (binOp op t (.int k a) (.int k' b)):=by
 cases op
 case shl=>exact J3 .shl k k' a b
 case shr=>exact J3 .shr k k' a b
 all_goals
  refine dF (λ_=>.dy trivial) (λ_=>?_)
  first|exact yP ..|exact MA ..|exact Be ..|exact OC ..
theorem Cd(op:BinOp)(W:m.G=P.globals.size){t:bB}(hE:op=.eql\/op=.neq->gC m\/nE P cw t=true)(Y:VR m x x')(O:VR m y y'):dv P VR m (binOp op t x y) (binOp op t x' y'):=by
 have heq:op=.eql->dv P VR m (do pure (.bool (<-cv t x y))) (do pure (.bool (<-cv t x' y'))):=λe=>(IU W (hE (.inl e)) Y O).1;have hne:op=.neq->dv P VR m (do pure (.bool (!(<-cv t x y)))) (do pure (.bool (!(<-cv t x' y')))):=λe=>(IU W (hE (.inr e)) Y O).2
 have B:∀(z:Value),y=.tuple #[]->op=.eql\/op=.neq->x=z->dv P VR m (binOp op t x y) (binOp op t x' y'):=by
  intro z e1 e2 e3;subst e1;refine .dy ?_;rcases e2 with rfl|rfl
  .cases x<;>exact(vw _).bind
  .cases x<;>exact(vw _).bind
 cases Y with
 |fJ v U=>
  refine .dy ?_;cases op
  case eql=>exact(vO _).bind
  case neq=>exact(vO _).bind
  all_goals(cases y<;>trivial)
 |int k a=>
  cases O with
  |int k' b=>exact LN op t k k' a b
  |fJ v U=>cases op<;>first|exact .dy trivial|exact B _ rfl (.inl rfl) rfl|exact B _ rfl (.inr rfl) rfl
  |gJ=>cases op<;>first|exact .dy trivial|exact heq rfl|exact hne rfl|exact iY .gJ (.int _ _)
  |ptr hb=>
   cases op
   case add=>exact iY (.ptr hb) (.int _ _)
   case and=>exact dV hb λp p' l hp=>um hp _
   all_goals first|exact .dy trivial|exact heq rfl|exact hne rfl
  |_=>cases op<;>first|exact .dy trivial|exact heq rfl|exact hne rfl
 |string a=>
  cases O with
  |string b=>
   have e:∀op,binOp op t (.string a) (.string b)=cz op a b:=λop=>by cases op<;>rfl
   rw[e]; exact II _ a b
  |fJ v U=>cases op<;>first|exact .dy trivial|exact B _ rfl (.inl rfl) rfl|exact B _ rfl (.inr rfl) rfl
  |_=>cases op<;>first|exact .dy trivial|exact heq rfl|exact hne rfl
 |gJ=>
  cases O with
  |fJ v U=>cases op<;>first|exact .dy trivial|exact B _ rfl (.inl rfl) rfl|exact B _ rfl (.inr rfl) rfl
  |int k n=>
   cases op
   case add=>
    refine dz λd hd=>?_;exact dF (λ_=>qM .gJ (.int _ _)) (λ_=>iY .gJ (.int _ _))
   case sub=>exact iY .gJ (.int _ _)
   all_goals first|exact .dy trivial|exact heq rfl|exact hne rfl
  |_=>cases op<;>first|exact .dy trivial|exact heq rfl|exact hne rfl
 |ptr ha=>
  cases O with
  |fJ v U=>cases op<;>first|exact .dy trivial|exact B _ rfl (.inl rfl) rfl|exact B _ rfl (.inr rfl) rfl
  |int k n=>
   cases op
   case add=>
    refine dz λd hd=>?_;exact dF (λ_=>qM (.ptr ha) (.int _ _)) (λ_=>iY (.ptr ha) (.int _ _))
   case sub=>exact iY (.ptr ha) (.int _ _)
   case rem=>exact dV ha λp p' l hp=>um hp _
   case and=>exact dV ha λp p' l hp=>um hp _
   all_goals first|exact .dy trivial|exact heq rfl|exact hne rfl
  |ptr hb=>
   have two:∀(f:Nat×Nat->Sem Value),(∀m' p,dv P VR m' (f p) (f p))->∀{a a' b b':Addr},AR m a a'->AR m b b'->dv P VR m (cx a b >>= f) (cx a' b' >>= f):=
    λf hf a a' b b' h1 h2=>dA (Fe W h1 h2) λm' p q _ aa=>by cases aa; exact hf m' p
   cases op
   case eql=>exact heq rfl
   case neq=>exact hne rfl
   case sub=>exact dV ha λp p' l hp=>dV hb λq q' l' hq=>two _ (λm' p=>.pure (.int _ _)) hp hq
   case lss=>exact dV ha λp p' l hp=>dV hb λq q' l' hq=>two _ (λm' p=>.pure (.bool _)) hp hq
   case leq=>exact dV ha λp p' l hp=>dV hb λq q' l' hq=>two _ (λm' p=>.pure (.bool _)) hp hq
   case gtr=>exact dV ha λp p' l hp=>dV hb λq q' l' hq=>two _ (λm' p=>.pure (.bool _)) hp hq
   case geq=>exact dV ha λp p' l hp=>dV hb λq q' l' hq=>two _ (λm' p=>.pure (.bool _)) hp hq
   all_goals exact .dy trivial
  |_=>cases op<;>first|exact .dy trivial|exact heq rfl|exact hne rfl
 |_=>
  cases op
  case eql=>exact heq rfl
  case neq=>exact hne rfl
  all_goals(cases O<;>exact .dy trivial)
end
end
section
variable {a a':Addr} {n:Nat} {γ δ:Type} {x x':Value}
section
variable {P:Program} {m:Ren}
theorem wm{RB:Ren->γ->δ->Prop}(B:AR m a a')(O:¬m.loose a.block){f:Unit->Sem γ}{f':Unit->Sem δ}(h:dv P RB m (f ()) (f' ())):dv P RB m (cc a >>= f) (cc a' >>= f'):=by
 refine ju B.blk λx=>?_
 cases x with
 |none=>exact h
 |some y=>exact dv.freeze (.mk B.blk) O h
theorem AX(s:ByteArray):ed m (s.data.map λb=>Value.int .u8 b.toNat) (s.data.map λb=>Value.int .u8 b.toNat):=by
 refine .refl λv B=>?_;simp only[a4,db]at B;obtain⟨i,_,rfl⟩:=B;exact .int ..
theorem wj{e:bB}{s:ByteArray}:dv P VR m (eg e s) (eg e s):=by
 refine gu λcap=>?_;refine dA (RA:=G0) (oV ((AX s).append (.replicate _ (.int ..)))) λm' a a' _ B=>?_;exact wm B.1 B.2 (.pure (.slice _ _ B.1))
theorem D9{c c':List Value}(h:dP (VR m) c c'):∀(s:ByteArray),dv P w9 m
  (forIn c s λc s=>match c with|.int .u8 n=>pure (ForInStep.yield (s.push (UInt8.ofNat n.toNat)))|_=>(do stuck "bytesToString: byte expected"; pure (ForInStep.yield s)))
  (forIn c' s λc s=>match c with|.int .u8 n=>pure (ForInStep.yield (s.push (UInt8.ofNat n.toNat)))|_=>(do stuck "bytesToString: byte expected"; pure (ForInStep.yield s))):=by
 induction h with
 |nil=>intro s; exact .pure rfl
 |cons B _ O=>
  intro s;simp only[cY]
  cases B with
  |int k n=>cases k<;>first|exact .dy trivial|exact O _
  |_=>exact .dy trivial
theorem wM(O:VR m x x'):dv P VR m (ee x) (ee x'):=by
 cases O<;>first|exact .dy trivial|exact .pure (.string _)|skip
 rename_i l c U;refine dA (vf U l) λm' c c' _ W=>?_;rw[<-a6,<-a6];exact dA (D9 W _) λm' a b _ B=>by cases B; exact .pure (.string _)
theorem BL{RB:Ren->γ->δ->Prop}(U:AR m a a'){f:Array Value->Sem γ}{f':Array Value->Sem δ}(h:∀c c',ed m c c'->dv P RB m (f c) (f' c')):dv P RB m (bQ a n >>= f) (bQ a' n >>= f'):=by
 have key:∀(n i:Nat)(acc B:Array Value),ed m acc B->dv P RB m (bK a i n acc >>= f) (bK a' i n B >>= f'):=by
  intro n
  induction n with
  |zero=>intro i acc B O; exact h _ _ O
  |succ n W=>intro i acc B O; exact dv.load (U.add i) λv v' Y=>W _ _ _ (O.push Y)
 exact key n 0 _ _ (.nil m)
theorem dZ{RB:Ren->γ->δ->Prop}{size:Nat}(B:VR m x x'){f:Array Value->Sem γ}{f':Array Value->Sem δ}(h:∀c c',ed m c c'->dv P RB m (f c) (f' c')):dv P RB m (cL size n x >>= f) (cL size n x' >>= f'):=by
 cases B<;>first|exact .dy trivial|exact BL ‹_› h|exact h _ _ (AX _)|exact h _ _ (.nil m)
theorem oG{RB:Ren->γ->δ->Prop}(B:VR m x x'){f:Nat->Sem γ}{f':Nat->Sem δ}(h:∀n,dv P RB m (f n) (f' n)):dv P RB m (cN x >>= f) (cN x' >>= f'):=by
 cases B<;>first|exact .dy trivial|exact h _
theorem qJ{z:Array Value}(h:ed m z z)(n:Nat):ed m (cA z n) (cA z n):=xc h _
theorem lS{α:Type}{size sLen:Nat}{base:Option Addr}{f:Bool->Sem α}(h:∀b,dY P (f b)):dY P (cM size sLen n base x >>= f):=by
 have hold:∀(a:Addr)(k:Nat)(g:Bool->Sem α),(∀b,dY P (g b))->dY P (cK a k >>= g):=by
  intro a k g B;intro r
  cases r with
  |none=>exact B _
  |some y=>exact B _
 have tail:∀b:Bool,dY P ((match x with|.slice (some b) .. =>(do pure (!(<-cK b (n*size)) || base.any (·.block==b.block)))|_=>pure false) >>= f):=by
  intro _
  cases x with
  |slice a l c=>
   cases a with
   |none=>exact h _
   |some a=>
    simp only[bind_assoc];exact hold a _ _ λb=>h _
  |_=>exact h _
 unfold cM
 cases base with
 |none=>exact tail true
 |some a=>
  simp only[bind_assoc];refine hold a _ _ λb=>?_;intro r;show dY P ((if(!(b && !r))=true then pure true else _) >>= f);split
  .exact h _
  .exact tail true
theorem Ja(B:lV P){RB:Ren->γ->δ->Prop}{elem:bB}{size:Nat}{f:Array Value->Sem γ}{f':Array Value->Sem δ}(h:∀c c',ed m c c'->dv P RB m (f c) (f' c')) :
  dv P RB m ((if n*size=0 then pure #[]else do pure (cA (<-bD elem).cells n)) >>= f) ((if n*size=0 then pure #[]else do pure (cA (<-bD elem).cells n)) >>= f'):=by
 split
 .exact h _ _ (.nil m)
 .simp only[bind_assoc];exact fH B λz O=>h _ _ (qJ O.cells _)
theorem MT(hP:lV P){ats:Array bB}{t:bB}{args args':Array Value}(h:ed m args args'):dv P VR m (cC ats t args) (cC ats t args'):=by
 unfold cC
 cases ats[0]? with
 |none=>exact .dy trivial
 |some st=>
 cases h0:args[0]? with
 |none=>exact .dy trivial
 |some s=>
 cases h1:args[1]? with
 |none=>exact .dy trivial
 |some x=>
 obtain⟨s',ad,hs⟩:=h.get h0;obtain⟨x',ae,hx⟩:=h.get h1;rw[ad,ae];refine dz λd hd=>?_;cases d<;>first|exact .dy trivial|skip
 rename_i elem
 have W:∀{base U:Option Addr}{sLen aa size:Nat}{c c':Array Value}{k:Nat},l7 (AR m) base U->ed m c c'->dv P VR m
   (match base with|some a=>(do let r <-bL (a.add (sLen*size)) c.toList; pure (Value.slice base k aa))|_=>pure (Value.slice base k aa))
   (match U with|some a=>(do let r <-bL (a.add (sLen*size)) c'.toList; pure (Value.slice U k aa))|_=>pure (Value.slice U k aa)):=by
  intro base U sLen aa size c c' k hb O
  cases hb with
  |none=>exact .pure (.fl _ _)
  |some ha=>exact dA (lg (ha.add _) 0 O) λm' _ _ hl _=>.pure (.slice _ _ (ha.mono hl))
 have B:∀{old ab new ac:Array Value}{k cap q:Nat},ed m old ab->ed m new ac->dv P VR m
   (do let z <-bD elem; let a <-bJ elem (old++new++cA z.cells q); pure (Value.slice (some a) k cap))
   (do let z <-bD elem; let a <-bJ elem (ab++ac++cA z.cells q); pure (Value.slice (some a) k cap)):=by
  intro old ab new ac k cap q ho hn;exact fH hP λz hz=>dA (RA:=G0) (oV ((ho.append hn).append (qJ hz.cells _))) λm' a a' _ ha=>.pure (.slice _ _ ha.1)
 cases hs<;>first|exact .dy trivial|skip
 .rename_i l c;have hs:VR m (.slice none l c) (.slice none l c):=.fl l c;refine eB λsize=>?_;dsimp only
  cases ats[1]? with
  |none=>
   refine oG hx λn=>?_;refine dF (λ_=>?_) (λ_=>?_)
   .exact dZ hx λc c' O=>W (sLen:=l) (size:=size) .none O
   .refine dO λY _=>dF (λ_=>dR (e:=.error _) trivial) (λ_=>?_);refine dO λY _=>dF (λ_=>?_) (λ_=>?_)
    .exact .dy (dY.bind (lS λb=>by cases b<;>trivial))
    .refine gu λq=>dO λY _=>kg ?_;exact dZ hs λo o' ho=>dZ hx λc c' O=>B ho O
  |some xt=>
   refine dz λd2 _=>?_
   cases d2 with
   |int kk=>
    refine jp hx λnn=>?_;refine dF (λ_=>dR (e:=.error _) trivial) (λ_=>?_);refine dO λY _=>dF (λ_=>gu λ_=>dR (e:=.error _) trivial) (λ_=>?_);refine dF (λ_=>?_) (λ_=>?_)
    .exact Ja hP λc c' O=>W (sLen:=l) (size:=size) .none O
    .refine dO λY _=>dF (λ_=>dR (e:=.error _) trivial) (λ_=>?_);refine dO λY _=>dF (λ_=>?_) (λ_=>?_)
     .exact dR (e:=.error _) trivial
     .refine gu λq=>dO λY _=>kg ?_;exact dZ hs λo o' ho=>Ja hP λc c' O=>B ho O
   |_=>
    refine oG hx λn=>?_;refine dF (λ_=>?_) (λ_=>?_)
    .exact dZ hx λc c' O=>W (sLen:=l) (size:=size) .none O
    .refine dO λY _=>dF (λ_=>dR (e:=.error _) trivial) (λ_=>?_);refine dO λY _=>dF (λ_=>?_) (λ_=>?_)
     .exact .dy (dY.bind (lS λb=>by cases b<;>trivial))
     .refine gu λq=>dO λY _=>kg ?_;exact dZ hs λo o' ho=>dZ hx λc c' O=>B ho O
 .rename_i a a' l c ha;have hs:VR m (.slice (some a) l c) (.slice (some a') l c):=.slice l c ha;refine eB λsize=>?_;dsimp only
  cases ats[1]? with
  |none=>
   refine oG hx λn=>?_;refine dF (λ_=>?_) (λ_=>?_)
   .exact dZ hx λc c' O=>W (sLen:=l) (size:=size) (.some ha) O
   .refine dO λY _=>dF (λ_=>dR (e:=.error _) trivial) (λ_=>?_);refine dO λY _=>dF (λ_=>?_) (λ_=>?_)
    .exact .dy (dY.bind (lS λb=>by cases b<;>trivial))
    .refine gu λq=>dO λY _=>kg ?_;exact dZ hs λo o' ho=>dZ hx λc c' O=>B ho O
  |some xt=>
   refine dz λd2 _=>?_
   cases d2 with
   |int kk=>
    refine jp hx λnn=>?_;refine dF (λ_=>dR (e:=.error _) trivial) (λ_=>?_);refine dO λY _=>dF (λ_=>gu λ_=>dR (e:=.error _) trivial) (λ_=>?_);refine dF (λ_=>?_) (λ_=>?_)
    .exact Ja hP λc c' O=>W (sLen:=l) (size:=size) (.some ha) O
    .refine dO λY _=>dF (λ_=>dR (e:=.error _) trivial) (λ_=>?_);refine dO λY _=>dF (λ_=>?_) (λ_=>?_)
     .exact dR (e:=.error _) trivial
     .refine gu λq=>dO λY _=>kg ?_;exact dZ hs λo o' ho=>Ja hP λc c' O=>B ho O
   |_=>
    refine oG hx λn=>?_;refine dF (λ_=>?_) (λ_=>?_)
    .exact dZ hx λc c' O=>W (sLen:=l) (size:=size) (.some ha) O
    .refine dO λY _=>dF (λ_=>dR (e:=.error _) trivial) (λ_=>?_);refine dO λY _=>dF (λ_=>?_) (λ_=>?_)
     .exact .dy (dY.bind (lS λb=>by cases b<;>trivial))
     .refine gu λq=>dO λY _=>kg ?_;exact dZ hs λo o' ho=>dZ hx λc c' O=>B ho O
end
end
section
variable {ats:Array bB} {args args':Array Value} {t:bB} {x x' y y':Value}
section
variable {P:Program} {m:Ren}
theorem Rs(h:ed m args args'):dv P VR m (cE ats t args) (cE ats t args'):=by
 unfold cE
 cases ats[0]? with
 |none=>exact .dy trivial
 |some st=>
 cases Y:args[0]? with
 |none=>exact .dy trivial
 |some s=>
 cases h1:args[1]? with
 |none=>exact .dy trivial
 |some x=>
 obtain⟨s',O,hs⟩:=h.get Y;obtain⟨x',U,B⟩:=h.get h1;rw[O,U];refine dz λd hd=>?_;cases d<;>first|exact .dy trivial|skip
 cases hs<;>first|exact .dy trivial|skip
 .exact oG B λn=>eB λsz=>dZ B λc c' W=>.pure (.int ..)
 .rename_i ha;exact oG B λn=>eB λsz=>dZ B λc c' W=>dA (lg ha 0 W) λm' _ _ _ _=>.pure (.int ..)
def rl(P:Program)(t:bB):Bool:=match P.underlying t with|some (.chan ..)=>false|_=>true
theorem S4(B:∀t,ats[0]?=some t->rl P t=true)(h:ed m args args'):dv P VR m (cI ats t args) (cI ats t args'):=by
 unfold cI
 cases U:ats[0]? with
 |none=>exact .dy trivial
 |some st=>
 cases W:args[0]? with
 |none=>exact .dy trivial
 |some s=>
 obtain⟨s',O,Y⟩:=h.get W;rw[O];have B:=B st U;refine dz λd hd=>?_;cases d<;>first|exact .dy trivial|exact .pure (.int ..)|skip
 .refine dz λd2 _=>?_;cases d2<;>first|exact .dy trivial|exact .pure (.int ..)
 .cases Y<;>first|exact .dy trivial|exact .pure (.int ..)
 .simp[rl,hd]at B
theorem Sp(B:∀t,ats[0]?=some t->rl P t=true)(h:ed m args args'):dv P VR m (cH ats t args) (cH ats t args'):=by
 unfold cH
 cases ht:ats[0]? with
 |none=>exact .dy trivial
 |some st=>
 cases h0:args[0]? with
 |none=>exact .dy trivial
 |some s=>
 obtain⟨s',O,U⟩:=h.get h0;rw[O];have B:=B st ht;refine dz λd hd=>?_
 cases d with
 |array n e=>exact .pure (.int ..)
 |pointer e=>
  refine dz λd2 _=>?_;cases d2<;>first|exact .dy trivial|exact .pure (.int ..)
 |string=>cases U<;>first|exact .dy trivial|exact .pure (.int ..)
 |slice e=>cases U<;>first|exact .dy trivial|exact .pure (.int ..)
 |map k e=>
  cases U<;>first|exact .dy trivial|exact .pure (.int ..)|skip
  case gone=>exact .gone ‹_›
  rename_i hb;refine fI hb λo o' ho=>?_;cases ho<;>first|exact .dy trivial|skip
  rename_i W;have Y:=W.length;simp only[a5]at Y;dsimp only;rw[Y];exact .pure (.int ..)
 |chan a b=>simp[rl,hd]at B
 |_=>exact .dy trivial
theorem Qk(U:lV P)(h:ed m args args'):dv P VR m (cD ats t args) (cD ats t args'):=by
 have fin:∀m',dv P VR m' .. := λm'=>.pure (.undef m');unfold cD
 cases ht:ats[0]? with
 |none=>exact .dy trivial
 |some st=>
 cases W:args[0]? with
 |none=>exact .dy trivial
 |some s=>
 obtain⟨s',B,Y⟩:=h.get W;rw[B];refine dz λd O=>?_
 cases Y with
 |mw=>exact fin m
 |fl l c=>exact fin m
 |map hb=>
  refine fI hb λo o' ho=>?_;cases ho<;>first|exact .dy trivial|exact j9 hb (.map _ .nil) mR (fin m)
 |gone O=>exact .gone O
 |slice l c ha=>
  cases l with
  |zero=>exact fin m
  |succ l=>
   cases d<;>first|exact .dy trivial|skip
   exact fH U λz hz=>dA (lg ha 0 (qJ hz.cells _)) λm' _ _ _ _=>fin m'
 |_=>exact .dy trivial
theorem R4(O:VR m x x')(B:VR m y y'):dv P VR m (cP x y) (cP x' y'):=by
 cases O with
 |int k n=>cases B<;>first|exact .dy trivial|exact .pure (.int ..)
 |string s=>
  cases B with
  |string t=>exact .pure (.string _)
  |_=>exact .dy trivial
 |ptr U=>exact .dy trivial
 |_=>cases B<;>exact .dy trivial
theorem Rm(O:VR m x x')(B:VR m y y'):dv P VR m (cO x y) (cO x' y'):=by
 cases O with
 |int k n=>cases B<;>first|exact .dy trivial|exact .pure (.int ..)
 |string s=>
  cases B with
  |string t=>exact .pure (.string _)
  |_=>exact .dy trivial
 |ptr U=>exact .dy trivial
 |_=>cases B<;>exact .dy trivial
theorem xR{g:Value->Value->Sem Value}(U:∀m x x' y y',VR m x x'->VR m y y'->dv P VR m (g x y) (g x' y')):∀{l l':List Value}{m:Ren}{x x':Value},dP (VR m) l l'->VR m x x'->dv P VR m (l.foldlM g x) (l'.foldlM g x')
 |_,_,m,_,_,.nil,B=>.pure B
 |_,_,m,_,_,.cons W h,B=>by
  exact dA (U m _ _ _ _ B W) λm' a b Y O=>xR U (h.mono λ_ _ z=>z.mono Y) O
theorem SS(h:ed m args args'):dv P VR m (cG ats t args) (cG ats t args'):=by
 unfold cG;unfold ed at h;revert h;generalize args.toList=l;generalize args'.toList=l';intro h
 cases h with
 |nil=>exact .dy trivial
 |cons B h=>exact xR (λm x x' y y'=>R4) h B
theorem Sv(h:ed m args args'):dv P VR m (cF ats t args) (cF ats t args'):=by
 unfold cF;unfold ed at h;revert h;generalize args.toList=l;generalize args'.toList=l';intro h
 cases h with
 |nil=>exact .dy trivial
 |cons B h=>exact xR (λm x x' y y'=>Rm) h B
theorem vG:∀(n:Nat){a a':Addr}(acc:ByteArray),AR m a a'->dv P w9 m (bP a acc n) (bP a' acc n)
 |0,_,_,_,_=>.pure rfl
 |n+1,a,a',acc,B=>by
  unfold bP;refine BK B λv v' O=>?_
  cases O with
  |int k x=>cases k<;>first|exact .dy trivial|exact vG n _ (B.add 1)
  |_=>exact .dy trivial
theorem zX{γ δ:Type}{RB:Ren->γ->δ->Prop}{a a':Addr}(B:AR m a a'){u:bB}{n:Nat}{f:Bool->Sem γ}{f':Bool->Sem δ}(h:∀b,dv P RB m (f b) (f' b)):dv P RB m (ck a u n >>= f) (ck a' u n >>= f'):=by
 refine gP (ju B.blk λx=>?_);rw[B.off];cases x<;>exact h _
theorem zw(Y:gC m)(hx:VR m x x')(U:VR m y y'):dv P VR m (cJ ats t #[x,y]) (cJ ats t #[x',y']):=by
 cases hx<;>first|exact .dy trivial|skip
 .refine jp U λn=>?_
  cases ats[0]? with
  |none=>exact .dy trivial
  |some pt=>
   refine dF (λ_=>dR (e:=.error _) trivial) (λ_=>dF (λ_=>.dy trivial) (λ_=>dF (λ_=>.pure (.string _)) (λ_=>fh (e:=.error _) trivial)))
 .rename_i B;refine jp U λn=>?_
  cases ats[0]? with
  |none=>exact .dy trivial
  |some pt=>
   refine dF (λ_=>dR (e:=.error _) trivial) (λ_=>dF (λ_=>.dy trivial) (λ_=>dF (λ_=>.pure (.string _)) (λ_=>?_)));refine Fu λet=>zX B λb=>dF (λ_=>?_) (λ_=>.dy trivial);refine dA (vG _ _ B) λm' s s' W O=>?_;cases O;exact dv.freeze (B.mono W) (Y.mono W _) (.pure (.string _))
def CP(P:Program)(s d:bB):Bool:=match P.underlying s,P.underlying d with
 |some (.int _),some (.int _)=>true
 |some .string,some (.slice e)=>(match P.underlying e with|some (.int .u8)=>true|_=>false)
 |some (.slice e),some .string=>(match P.underlying e with|some (.int .u8)=>true|_=>false)
 |_,_=>false
theorem Ls{s d:bB}(ho:CP P s d=true)(O:VR m x x'):dv P VR m (convert s d x) (convert s d x'):=by
 unfold CP at ho;unfold convert;refine dz λd1 Y=>dz λd2 h2=>?_;rw[Y,h2]at ho;cases d1<;>cases d2<;>first|(simp at ho; done)|skip
 .cases O<;>first|exact .dy trivial|exact .pure (.int _ _)
 .rename_i e;cases O<;>first|exact .dy trivial|skip
  refine dz λd3 B=>?_;simp only[B]at ho;cases d3<;>first|exact .dy trivial|skip
  rename_i k;cases k<;>first|exact .dy trivial|exact wj|(simp at ho; done)
 .rename_i e
  have W:P.underlying e=some (.int .u8):=by
   simp only at ho;revert ho
   cases P.underlying e with
   |none=>intro ho; cases ho
   |some d3=>
    cases d3<;>intro ho<;>first|(cases ho; done)|skip
    rename_i k;cases k<;>first|(cases ho; done)|rfl
  have fin:∀{y y':Value},VR m y y'->dv P VR m (bE e >>= λd=>match d with|.int .u8=>ee y|.int .i32=>ei y|_=>stuck "Convert: a slice of what to string?") (bE e >>= λd=>match d with|.int .u8=>ee y'|.int .i32=>ei y'|_=>stuck "Convert: a slice of what to string?"):=by
   intro y y' hy;refine dz λd3 B=>?_;rw[W]at B;cases B;exact wM hy
  cases O with
  |int k n=>exact .pure (.string _)
  |string s=>exact .pure (.string _)
  |fJ v hv=>
   refine .dy ?_;show dY P ((match P.underlying e with|some d=>pure d|none=>stuck _) >>= _);rw[W];trivial
  |fl l c=>exact fin (.fl l c)
  |slice l c U=>exact fin (.slice l c U)
  |bool b=>exact fin (.bool b)
  |gJ=>exact fin .gJ
  |ptr U=>exact fin (.ptr U)
  |mw=>exact fin .mw
  |map hb=>exact fin (.map hb)
  |gone hb=>exact fin (.gone hb)
  |iS=>exact fin .iS
  |chan hb=>exact fin (.chan hb)
  |func a b c d e=>exact fin (.func a b c d e)
  |qn a b c=>exact fin (.qn a b c)
  |nilFunc=>exact fin .nilFunc
  |iface t h=>exact fin (.iface t h)
  |nilIface=>exact fin .nilIface
  |agg a b=>exact fin (.agg a b)
  |tuple a b=>exact fin (.tuple a b)
end
end
section
variable {args args':Array Value} {m':Ren} {α:Type}
structure BG(m:Ren)(c c':CommCase):Prop where
 chan:VR m c.chan c'.chan
 send:l7 (VR m) c.send c'.send
 zero:VR m c.zero c'.zero
def Jn(c:Array CommCase)(b:Bool)(s:CommShape):Prop:=b=true/\s=.send/\∃ch v z,c=#[{chan:=ch,send:=some v,zero:=z}]
inductive gM(P:Program)(m:Ren):Go.Next->Go.Next->Prop
 |value {v v'}:VR m v v'->gM P m (.value v) (.value v')
 |skip:gM P m .skip .skip
 |enter {f a a'}:m.fq f->(∃fn c,P.funcs[f]?=some fn/\fn.body=some c)->ed m a a'->gM P m (.enter f a) (.enter f a')
 |round {l l' f t t' a b}:m.blk l=some l'->ed m t t'->fD m.ok a->fD m.ok b->gM P m (.round l f t a b) (.round l' f t' a b)
 |defer {d d'}:DR m d d'->gM P m (.defer d) (.defer d')
 |recover:gM P m .recover .recover
 |spawn {d d'}:m.ic->DR m d d'->gM P m (.spawn d) (.spawn d')
 |comm {c c'} (b s):m.ic\/Jn c b s->dP (BG m) c.toList c'.toList->gM P m (.comm c b s) (.comm c' b s)
section
variable {P:Program} {m:Ren}
theorem Hi(O:gC m){ps rs:Array bB}(h:ed m args args'):dv P VR m (ej ps rs args) (ej ps rs args'):=by
 obtain⟨l⟩:=args;obtain⟨l'⟩:=args';unfold ed at h;simp only at h
 cases h with
 |nil=>exact .dy trivial
 |cons U h=>
 cases h with
 |nil=>cases U<;>exact .dy trivial
 |cons W h=>
 cases h with
 |cons hz h=>cases U<;>first|exact .dy trivial|(cases W<;>exact .dy trivial)
 |nil=>
 cases U<;>first|exact .dy trivial|(cases W<;>first|exact .dy trivial|skip)
 all_goals
  unfold ej;dsimp only;cases ps[0]?<;>first|exact .dy trivial|skip
  refine dz λd hd=>?_;cases d<;>first|exact .dy trivial|skip
  refine eB λsz=>?_
  first|exact .pure (.bool _)|skip
 rename_i a a' la ca B b b' lb cb hb st e;have Y:(a.block==b.block)=(a'.block==b'.block):=by rw[cR]; simp only[beq_iff_eq]; exact B.rj hb
 have e0:(a.block != b.block)=(a'.block != b'.block):=by simp only[bne,Y]
 dsimp only;rw[Y,e0,B.off,hb.off];refine dF (λ_=>.pure (.bool _)) (λ_=>?_);refine mP B (O _) λx=>mP hb (O _) λy=>dF (λ_=>.dy trivial) (λ_=>dF (λ_=>?_) (λ_=>.pure (.bool _)));exact qQ B (qQ hb (xB O B hb λx=>dF (λ_=>gu λn=>.pure (.bool _)) (λ_=>.pure (.bool _))))
theorem tX:∀(n:Nat){a a':Addr}(acc:ByteArray),AR m a a'->dv P w9 m (ek a n acc) (ek a' n acc)
 |0,_,_,_,_=>.pure rfl
 |n+1,a,a',acc,B=>by
  unfold ek;refine BK B λv v' O=>?_
  cases O with
  |int k x=>cases k<;>first|exact .dy trivial|exact tX n _ (B.add 1)
  |_=>exact .dy trivial
theorem Bt{x x':Value}(B:VR m x x'):dv P w9 m (en x) (en x'):=by
 cases B<;>first|exact .dy trivial|exact .pure rfl|exact tX _ _ ‹_›
theorem Ks(h:ed m args args'):dv P VR m (Extern.BytealgCompare.compare args) (Extern.BytealgCompare.compare args'):=by
 obtain⟨l⟩:=args;obtain⟨l'⟩:=args'
 cases h with
 |nil=>exact .dy trivial
 |cons U h=>
 cases h with
 |nil=>exact .dy trivial
 |cons W h=>
 cases h with
 |cons hz h=>exact .dy trivial
 |nil=>
 refine dA (Bt U) λm' a b O B=>?_;cases B;refine dA (Bt (W.mono O)) λY a b O B=>?_;cases B;exact .pure (.int ..)
def nd(P:Program)(m:Ren)(f:bH):Prop:=
 ∃fn,P.funcs[f]?=some fn/\fn.name≠ "runtime.NumGoroutine"/\
  ((∃c,fn.body=some c/\fD m.ok c)\/(fn.body=none/\Extern.findNext fn=none/\∃e,Extern.find fn=some e/\∀m' args args',m.Le m'->ed m' args args'->dv P VR m' (e args) (e args')))
theorem nd.mono(h:m.Le m'){f:bH}(x:nd P m f):nd P m' f:=by
 obtain⟨fn,W,Y,h3⟩:=x;refine⟨fn,W,Y,?_⟩;rcases h3 with⟨c,B,O⟩|⟨B,O,e,h6,h7⟩
 .exact .inl ⟨c,B,h.ok▸O⟩
 .exact .inr ⟨B,O,e,h6,λU a a' hl=>h7 U a a' (h.trans hl)⟩
theorem I4{f:bH}(W:m.fq f)(Y:nd P m f)(h:ed m args args'):dv P (gM P) m (callFunc f args) (callFunc f args'):=by
 obtain⟨fn,O,h2,h3⟩:=Y;refine gP ?_;rw[O];dsimp only;have e2:(fn.name == "runtime.NumGoroutine")=false:=by simpa using h2
 rw[e2];rcases h3 with⟨c,B,U⟩|⟨B,U,e,h6,h7⟩
 .rw[B];exact .pure (.enter W ⟨fn,c,O,B⟩ h)
 .rw[B,U,h6];refine dv.mark trivial ?_;show dv P _ m (e args >>= λv=>pure _) (e args' >>= λv=>pure _);exact dA (h7 m args args' (.refl m) h) λm' v v' _ hv=>dv.pure (gM.value hv)
structure tH(P:Program)(m:Ren):Prop where
 prog:lV P
 G:m.G=P.globals.size
 calls:∀f,m.fq f->nd P m f
 RF:P.follows .rangeFuncRecover=true
theorem tH.mono(h:m.Le m')(x:tH P m):tH P m':=⟨x.prog,h.G.trans x.G,λf B=>(x.calls f (h.fq▸B)).mono h,x.RF⟩
theorem Pu{l l':Nat}(O:m.blk l=some l')(h:ed m args args'):dv P (gM P) m (ba l args) (ba l' args'):=by
 unfold ba aY;simp only[bind_assoc];refine fI O λo o' W=>?_;cases W<;>first|exact .dy trivial|skip
 rename_i p p' B;have e:∀(q:Loop)(k:Loop->Sem Go.Next),(pure q >>= k)=k q:=λq k=>rfl;simp only[e];rw[<-B.params,<-h.size,<-B.fn,<-B.assign,<-B.body];refine dF (λ_=>.dy trivial) (λ_=>.pure (.round O ?_ B.RR B.wN))
 have key:∀(ps:List Tmp){l l':List Value}{t t':Array Value},dP (VR m) l l'->ed m t t'->ed m ((ps.zip l).foldl (λtmps x=>tmps.setIfInBounds x.1 x.2) t) ((ps.zip l').foldl (λtmps x=>tmps.setIfInBounds x.1 x.2) t'):=by
  intro ps
  induction ps with
  |nil=>simpa using U
  |cons p ps Y=>
   intro l l' t t' O U
   cases O with
   |nil=>simpa using U
   |cons hv O=>simpa using Y O (U.set p hv)
 have:=key p.params.toList h B.tmps;rw[<-a7,<-a7,aK,aK];exact this
theorem OI(O:lV P)(t:bB)(x:Value)(k:bH×Value->Sem α):dY P (program >>= λp=>cj (p.types.size+Made.depth) t x "" >>= k):=by
 unfold cj bS
 cases hi:P.info? t with
 |none=>
  show dY P ((((match P.info? t with|some i=>pure i|none=>stuck _) >>= _) >>= _));rw[hi];trivial
 |some i=>
  have U:=O.T' t i hi;show dY P ((((match P.info? t with|some i=>pure i|none=>stuck _) >>= _) >>= _));rw[hi];have W:∀{β:Type}(B:TypeInfo->Sem β),((match some i with|some i=>pure i|none=>stuck "no such type") >>= B)=B i:=λ_=>rfl;rw[W];simp only[U];trivial
theorem P9(O:lV P)(t:bB)(x:Value)(k:Option Bool->Sem α):dY P (program >>= λp=>bZ (p.types.size+Made.depth) t x "" >>= k):=by
 unfold bZ bS
 cases hi:P.info? t with
 |none=>
  show dY P ((((match P.info? t with|some i=>pure i|none=>stuck _) >>= _) >>= _));rw[hi];trivial
 |some i=>
  have U:=O.T' t i hi;show dY P ((((match P.info? t with|some i=>pure i|none=>stuck _) >>= _) >>= _));rw[hi];have W:∀{β:Type}(B:TypeInfo->Sem β),((match some i with|some i=>pure i|none=>stuck "no such type") >>= B)=B i:=λ_=>rfl;rw[W];simp only[U];trivial
theorem q9(U:tH P m){t t':Target}(W:TR m t t')(Y:∀b x y z,t≠.builtin b x y z)(h:ed m args args'):dv P (gM P) m (invoke t args) (invoke t' args'):=by
 cases W with
 |nil=>exact fh (e:=.nilDeref) trivial
 |collected _=>exact .dy trivial
 |mark _ _ _ _=>exact .dy trivial
 |builtin x y z hm=>exact absurd rfl (Y _ x y z)
 |fn B=>
  rcases B with⟨B,hc⟩|⟨rfl,n,rfl⟩
  .cases B with
   |func f B=>exact I4 B (U.calls f B) (h.append hc)
   |yield hl=>exact Pu hl h
  .unfold invoke
   cases ha:args[0]? with
   |none=>exact .dy trivial
   |some x=>
    obtain⟨x',O,hx⟩:=h.get ha;rw[O]
    cases hx with
    |nilIface=>exact fh (e:=.nilDeref) trivial
    |iface t hv=>exact .dy (OI U.prog t ..)
    |_=>exact .dy trivial
def dN(fq:bH->Prop)(gl:Nat->Prop):Operand->Prop
 |.tmp _=>True
 |.const v=>Plain v
 |.global g=>gl g
 |.func f=>fq f
def uf(P:Program)(st:Bool)(ats:Array bB)(n:Nat):Builtin->Prop
 |.append|.clear|.copy|.max|.min|.recover=>True
 |.cap|.len=>∀t,ats[0]?=some t->rl P t=true
 |.unsafeString=>st=true/\n=2
 |.close=>True
 |_=>False
def MK(P:Program)(st:Bool)(t:bB):Prop:=∀k e,P.underlying t=some (.map k e)->qf P 10000 k=true/\(st=true\/nE P cw k=true)
def isNil:Operand->Bool
 |.const (.pointer none)|.const .nilIface=>true
 |_=>false
def Sg(P:Program)(st:Bool)(t:bB)(y:Operand):Prop:=st=true\/nE P cw t=true\/(isNil y=true/\∀d,P.underlying t=some d->(∃e,d=.pointer e)\/(∃e,d=.interface e))
def OkOp(P:Program)(fq:bH->Prop)(gl:Nat->Prop)(st:Bool)(op:Op):Prop:=
 (∀x∈op.operands.toList,dN fq gl x)/\match op with
 |.move _|.assign _|.pick ..|.alloc _|.box ..|.build ..|.buildSlice ..|.load ..|.store ..|.nilCheck _|.unOp ..|.makeInterface ..|.makeMap ..|.makeSlice ..|.slice ..|.fieldAddr ..|.field ..
 |.indexAddr ..|.index ..|.entryStore ..|.range ..|.next ..|.entry _|.extract ..|.panic _|.send .. => True
 |.select .. => False
 |.makeChan .. => False
 |.binOp o t _ y _=>o=.eql\/o=.neq->Sg P st t y
 |.convert s d _=>CP P s d=true
 |.makeFunc (.func f) _ _=>fq f
 |.lookup t ..|.mapUpdate t ..|.mapEntry t .. => MK P st t
 |.typeAssert _ _ _ ok=>ok=true
 |.call c=>match c.callee with
  |.value _=>True
  |.builtin b=>uf P st c.argTypes c.args.size b/\b≠.close
  |.invoke .. => False
 |.go c=>False/\match c.callee with
  |.value _=>True
  |_=>False
 |.defer c=>match c.callee with
  |.value _=>True
  |.builtin b=>b=.close/\False
  |_=>False
 |_=>False
end
end
section
variable {fq:bH->Prop} {gl:Nat->Prop} {ρ ρ':Operand->Value} {t:bB} {x x' y:Value}
section
variable {P:Program} {m:Ren}
theorem nY:∀(d:Nat)(m:Ren)(t:bB){x x' y y':Value},VR m x x'->VR m y y'->dv P w9 m (cy d t x y) (cy d t x' y')
 |0,m,t,_,_,_,_,_,_=>.dy trivial
 |d+1,m,t,x,x',y,y',W,Y=>by
  unfold cy
  refine dz λde hd=>?_
  cases de with
  |interface ms=>
   cases W with
   |nilIface=>cases Y with
    |fJ v B=>cases y'<;>first|exact .pure rfl|exact B.elim
    |_=>exact .pure rfl
   |fJ v B=>cases x'<;>first|exact .pure rfl|exact B.elim
   |_=>exact .pure rfl
  |struct fs=>
   cases W with
   |agg h1 h2=>
    cases Y with
    |agg h3 h4=>
     refine dA (RA:=w9) (om _ _ λm' f s hf U=>dF (λ_=>?_) (λ_=>.pure rfl)) λm' a b _ O=>?_
     .refine dA (mq ((ed.gS h1 h2).mono U) _) λm1 u u' l1 hu=>dA (mq ((ed.gS h3 h4).mono (U.trans l1)) _) λm2 v v' l2 B=>?_
      refine dA (nY d m2 _ (hu.mono l2) B) λm3 a b _ O=>?_
      cases O
      exact dF (λ_=>.pure rfl) (λ_=>.pure rfl)
     .cases O
      obtain⟨o,_⟩:=a
      cases o<;>exact .pure rfl
    |fJ v B=>cases y'<;>first|exact .pure rfl|exact B.elim
    |_=>exact .pure rfl
   |fJ v B=>cases x'<;>first|exact .pure rfl|exact B.elim
   |_=>exact .pure rfl
  |array n e=>
   cases W with
   |agg h1 h2=>
    cases Y with
    |agg h3 h4=>
     refine eB λsz=>?_;refine dA (RA:=w9) (oq _ _ λm' i s U=>?_) λm' a b _ O=>?_
     .refine dA (mq ((ed.gS h1 h2).mono U) _) λm1 u u' l1 hu=>dA (mq ((ed.gS h3 h4).mono (U.trans l1)) _) λm2 v v' l2 B=>?_;refine dA (nY d m2 _ (hu.mono l2) B) λm3 a b _ O=>?_;cases O;exact dF (λ_=>.pure rfl) (λ_=>.pure rfl)
     .cases O;obtain⟨o,_⟩:=a;cases o<;>exact .pure rfl
    |fJ v B=>cases y'<;>first|exact .pure rfl|exact B.elim
    |_=>exact .pure rfl
   |fJ v B=>cases x'<;>first|exact .pure rfl|exact B.elim
   |_=>exact .pure rfl
  |_=>exact .pure rfl
theorem JV(op:BinOp)(t:bB)(p q:Operand){y':Value}(W:VR m x x')(U:VR m y y'):dv P zE m (eqGuard op t p q x y) (eqGuard op t p q x' y'):=by
 refine dF (λ_=>.pure trivial) (λ_=>?_)
 cases W with
 |nilIface=>
  cases U with
  |nilIface=>
   refine dF (λ_=>.pure trivial) (λ_=>?_);refine dA (nY _ m t .nilIface .nilIface) λm' a b _ B=>?_;cases B;exact dF (λ_=>.dy trivial) (λ_=>.pure trivial)
  |fJ v O=>cases y'<;>first|exact .pure trivial|exact O.elim
  |_=>exact .pure trivial
 |agg Y h2=>
  cases U with
  |agg h3 h4=>
   refine gP (gP (dF (λ_=>.pure trivial) (λ_=>?_)));refine dA (nY _ m t (.agg Y h2) (.agg h3 h4)) λm' a b _ B=>?_;cases B;exact dF (λ_=>.dy trivial) (λ_=>.pure trivial)
  |fJ v O=>cases y'<;>first|exact .pure trivial|exact O.elim
  |_=>exact .pure trivial
 |fJ v O=>cases x'<;>first|exact .pure trivial|exact O.elim
 |_=>exact .pure trivial
theorem EU(B:∀d,P.underlying t=some d->(∃e,d=.pointer e)\/(∃e,d=.interface e))(O:VR m x x')(U:y=.pointer none\/y=.nilIface):dv P w9 m (cv t x y) (cv t x' y):=by
 refine dz λd h=>?_;rcases B d h with⟨e,rfl⟩|⟨e,rfl⟩<;>rcases U with rfl|rfl<;>cases O<;>first|exact .dy trivial|exact .pure rfl
theorem El(op:BinOp)(Y:op=.eql\/op=.neq)(hd:∀d,P.underlying t=some d->(∃e,d=.pointer e)\/(∃e,d=.interface e))(hx:VR m x x')(O:y=.pointer none\/y=.nilIface):dv P VR m (binOp op t x y) (binOp op t x' y):=by
 have h:=EU hd hx O
 have U:∀z,binOp .eql t z y=(do pure (.bool (<-cv t z y))):=by
  intro z;rcases O with rfl|rfl<;>cases z<;>rfl
 have W:∀z,binOp .neq t z y=(do pure (.bool (!(<-cv t z y)))):=by
  intro z;rcases O with rfl|rfl<;>cases z<;>rfl
 rcases Y with rfl|rfl
 .rw[U,U];exact dA h λm' a b _ B=>by cases B; exact .pure (.bool _)
 .rw[W,W];exact dA h λm' a b _ B=>by cases B; exact .pure (.bool _)
theorem jT(B:∀x,dN fq gl x->VR m (ρ x) (ρ' x)){a:Array Operand}(h:∀x∈a.toList,dN fq gl x):ed m (a.map ρ) (a.map ρ'):=by
 unfold ed;simp only[a4];generalize a.toList=l at h
 induction l with
 |nil=>exact .nil
 |cons x l O=>exact .cons (B x (h x (by simp))) (O λy U=>h y (by simp[U]))
theorem za(B:∀x,dN fq gl x->VR m (ρ x) (ρ' x)){o:Option Operand}(h:∀x,o=some x->dN fq gl x):l7 (VR m) (o.map ρ) (o.map ρ'):=by
 cases o with
 |none=>exact .none
 |some x=>exact .some (B x (h x rfl))
theorem Ep(B:∀x,dN fq gl x->VR m (ρ x) (ρ' x)){a:Array (Nat×Operand)}(h:∀x∈a.toList.map (·.2),dN fq gl x) :
  dP (JM m) (a.map λ(i,x)=>(i,ρ x)).toList (a.map λ(i,x)=>(i,ρ' x)).toList:=by
 simp only[a4];generalize a.toList=l at h
 induction l with
 |nil=>exact .nil
 |cons x l O=>exact .cons ⟨rfl,B _ (h _ (by simp))⟩ (O λy U=>h y (by simp only[List.map_cons,da]; exact .inr U))
theorem Hg(hP:lV P)(hx:VR m x x'){a:Operand}(e:ρ a=x)(e':ρ' a=x'){d:Option Tmp}{p:String}{af:Array Edge}{g:Option (Nat×Bool)} :
  dv P (gM P) m (bT ρ ⟨d,.nilCheck a,t,p,af,g⟩) (bT ρ' ⟨d,.nilCheck a,t,p,af,g⟩):=by
 unfold bT;dsimp only;rw[e,e']
 cases hx with
 |gJ=>exact fh (e:=.nilDeref) trivial
 |nilIface=>exact fh (e:=.nilDeref) trivial
 |nilFunc=>exact fh (e:=.nilDeref) trivial
 |@qn lf n f c U W Y=>
  dsimp only;have hA:ed m lf f:=ed.gS U W
  cases O:lf[0]? with
  |none=>
   rw[hA.get_none O];exact .pure (.value (.qn U W Y))
  |some y=>
   obtain⟨y',aa,hy⟩:=hA.get O;rw[aa]
   have ab:∀t u,y'=.iface t u->∃z,y=.iface t z:=λt u e=>by
    obtain⟨z,hz⟩:=Y t u (by rw[aa,e]);rw[O]at hz;exact⟨z,dd hz⟩
   cases hy with
   |nilIface=>exact fh (e:=.nilDeref) trivial
   |iface t B=>exact .dy (P9 hP t _ _)
   |fJ v B=>
    have:∀t u,y'≠.iface t u:=λt u e=>by obtain⟨z,hz⟩:=ab t u e; cases hz
    cases y'<;>first|exact B.elim|exact absurd rfl (this _ _)|exact .pure (.value (.qn U W Y))
   |_=>exact .pure (.value (.qn U W Y))
 |func hf U W Y h4=>cases hf<;>exact .pure (.value (.func (by first|exact .func _ ‹_›|exact .yield ‹_›) U W Y h4))
 |fJ v B=>cases x'<;>first|exact .pure (.value (.fJ _ B))|exact B.elim|(rename_i q; cases q<;>first|exact .pure (.value (.fJ _ B))|exact B.elim)|(rename_i q _ _; cases q<;>first|exact .pure (.value (.fJ _ B))|exact B.elim|exact .dy trivial)
 |bool b=>exact .pure (.value (.bool b))
 |int k n=>exact .pure (.value (.int k n))
 |string s=>exact .pure (.value (.string s))
 |ptr O=>exact .pure (.value (.ptr O))
 |fl l c=>exact .pure (.value (.fl l c))
 |slice l c O=>exact .pure (.value (.slice l c O))
 |mw=>exact .pure (.value .mw)
 |map h=>exact .pure (.value (.map h))
 |gone h=>exact .pure (.value (.gone h))
 |iS=>exact .pure (.value .iS)
 |chan h=>exact .pure (.value (.chan h))
 |iface t h=>exact .pure (.value (.iface t h))
 |agg a b=>exact .pure (.value (.agg a b))
 |tuple a b=>exact .pure (.value (.tuple a b))
theorem oP{f f':Value}(hf:VR m f f'){a a':Array Value}(B:ed m a a'):dv P (λm d d'=>DR m d d'/\∀b x y z,d.target≠.builtin b x y z) m (Deferred.ofValue f a) (Deferred.ofValue f' a'):=by
 cases hf<;>first|exact .dy trivial|skip
 .rename_i O U Y W h4;exact .pure ⟨⟨.fn (.inl ⟨O,.gS W h4⟩),(ed.gS U Y).append B⟩,nofun⟩
 .exact .pure ⟨⟨.nil,B⟩,nofun⟩
 .rename_i W U Y;exact .pure ⟨⟨.fn (.inr ⟨rfl,_,rfl⟩),(ed.gS W U).append B⟩,nofun⟩
theorem sD{α β:Type}{Q:Ren->β->β->Prop}(hm:∀m m' a b,m.Le m'->Q m a b->Q m' a b){g g':α->Sem β}:∀(l:List α)(m:Ren),(∀x∈l,∀m',m.Le m'->dv P Q m' (g x) (g' x))->dv P (λm=>dP (Q m)) m (l.mapM g) (l.mapM g')
 |[],m,_=>.pure .nil
 |x::l,m,O=>by
  simp only[cZ];exact dA (O x (by simp) m (.refl m)) λm' a b B h=>dA (sD hm l m' λy U W Y=>O y (by simp[U]) W (B.trans Y)) λaa c d B hc=>.pure (.cons (hm _ _ _ _ B h) hc)
theorem BG.mono{m m':Ren}(h:m.Le m'){a b:CommCase}(x:BG m a b):BG m' a b:=⟨x.chan.mono h,x.send.mono λ_ _ y=>y.mono h,x.zero.mono h⟩
end
end
section
section
variable {P:Program} {m:Ren}
theorem rC{s s':Sem Value}(h:dv P VR m s s'):li P (gM P) m (do pure (.value (<-s))) (do pure (.value (<-s'))):=.base (dA h λ_ _ _ _ B=>.pure (.value B))
theorem T6{s s':Sem Unit}(h:dv P zE m s s'):li P (gM P) m (do s; pure .skip) (do s'; pure .skip):=.base (dA h λ_ _ _ _ _=>.pure .skip)
theorem KP(W:tH P m){st:Bool}(O:st=true->gC m){b:Builtin}{ats:Array bB}{t:bB}{cs:Array Bool}{args args':Array Value}(h:ed m args args')(B:uf P st ats args.size b)(hc:b≠.close):li P (gM P) m (builtin b ats t cs args) (builtin b ats t cs args'):=by
 cases b<;>simp only[uf]at B<;>first|exact B.elim|exact absurd rfl hc|skip
 .exact rC (MT W.prog h)
 .exact rC (S4 B h)
 .exact rC (Qk W.prog h)
 .exact rC (Rs h)
 .exact rC (Sp B h)
 .exact rC (SS h)
 .exact rC (Sv h)
 .exact .base (.pure .recover)
 .obtain⟨h1,Y⟩:=B;have U:args'.size=2:=by rw[<-h.size]; exact Y
  obtain⟨x,y,rfl⟩:∃x y,args=#[x,y]:=by
   obtain⟨l⟩:=args
   match l,Y with
   |[x,y],_=>exact⟨x,y,rfl⟩
  obtain⟨x',y',rfl⟩:∃x y,args'=#[x,y]:=by
   obtain⟨l⟩:=args'
   match l,U with
   |[x,y],_=>exact⟨x,y,rfl⟩
  cases h with
  |cons hx h=>cases h with
   |cons hy h=>exact rC (zw (O h1) hx hy)
theorem Fx(hE:tH P m){st:Bool}(ac:st=true->gC m)(ab:False->m.ic){gl:Nat->Prop}{ρ ρ':Operand->Value}(W:∀x,dN m.fq gl x->VR m (ρ x) (ρ' x))(ad:∀c,ρ (.const c)=c/\ρ' (.const c)=c)(o:Oper)(ho:OkOp P m.fq gl st o.op):li P (gM P) m (bT ρ o) (bT ρ' o):=by
 obtain⟨ah,op,ag,pos,after,guard⟩:=o;obtain⟨O,U⟩:=ho;have B:∀x,x∈op.operands.toList->VR m (ρ x) (ρ' x):=λx Y=>W x (O x Y);have aa:∀t,MK P st t->∀k e,P.underlying t=some (.map k e)->qf P 10000 k=true/\(gC m\/nE P cw k=true):=λt h k e hd=>⟨(h k e hd).1,(h k e hd).2.imp ac id⟩
 cases op with
 |move x=>exact .base (.pure (.value (B x (by simp[cu]))))
 |assign x=>exact .base (.pure (.value (B x (by simp[cu]))))
 |pick c a b=>
  refine .base (Kr (B c (by simp[cu])) λt=>.pure (.value ?_));cases t
  .exact B b (by simp[cu])
  .exact B a (by simp[cu])
 |alloc e=>exact rC (PQ hE.prog)
 |box e x=>exact rC (Td (B x (by simp[cu])))
 |build t ps=>exact rC (Qu hE.prog (Ep W (by simpa[cu]using O)))
 |buildSlice t n ps=>exact rC (CG hE.prog (Ep W (by simpa[cu]using O)))
 |load t x=>exact rC (M2 (B x (by simp[cu])))
 |store t x y=>exact T6 (K1 (B x (by simp[cu])) (B y (by simp[cu])))
 |nilCheck x=>exact .base (Hg hE.prog (B x (by simp[cu])) rfl rfl)
 |binOp o t x y yt=>
  refine rC (dA (JV o t x y (B x (by simp[cu])) (B y (by simp[cu]))) λm' _ _ hl _=>?_);have Y:=(B x (by simp[cu])).mono hl;have hy:=(B y (by simp[cu])).mono hl;by_cases hq:o=.eql\/o=.neq
  .rcases U hq with h|h|⟨h,hd⟩
   .exact Cd o (hl.G.trans hE.G) (λ_=>.inl ((ac h).mono hl)) Y hy
   .exact Cd o (hl.G.trans hE.G) (λ_=>.inr h) Y hy
   .cases y with
    |const c=>
     obtain⟨e1,e2⟩:=ad c;rw[e1,e2]
     have hc:c=.pointer none\/c=.nilIface:=by
      cases c<;>first|cases h; done|exact .inr rfl|skip
      rename_i p;cases p
      .exact .inl rfl
      .cases h
     exact El o hq hd Y hc
    |_=>cases h
  .exact Cd o (hl.G.trans hE.G) (λh=>absurd h hq) Y hy
 |unOp o t x=>exact rC (OV o (B x (by simp[cu])))
 |convert s d x=>exact rC (Ls U (B x (by simp[cu])))
 |makeInterface t x=>exact rC (wK (B x (by simp[cu])))
 |makeFunc f a b=>
  cases f<;>simp only at U<;>first|exact U.elim|skip
  exact rC (I' U (jT W λx Y=>O x (by simp[cu]; exact .inl (by simpa using Y))) (jT W λx Y=>O x (by simp[cu]; exact .inr (by simpa using Y))))
 |makeMap t r=>exact rC (JX (za W λx Y=>O x (by simp[cu,Y])))
 |makeChan t s=>exact rC (GO (ab U) (B s (by simp[cu])))
 |makeSlice t l c=>exact rC (DK hE.prog (B l (by simp[cu])) (B c (by simp[cu])))
 |slice t x l h mx=>exact rC (LJ (B x (by simp[cu])) (za W λy hy=>O y (by simp[cu,hy])) (za W λy hy=>O y (by simp[cu,hy])) (za W λy hy=>O y (by simp[cu,hy])))
 |fieldAddr t x f=>exact rC (KY (B x (by simp[cu])) f)
 |field t x f=>exact rC (Ps (B x (by simp[cu])) f)
 |indexAddr t x i=>exact rC (Lh (B x (by simp[cu])) (B i (by simp[cu])))
 |index t x i=>exact rC (Qf (B x (by simp[cu])) (B i (by simp[cu])))
 |lookup t x i b=>exact rC (NG hE.prog hE.G (aa t U) (B x (by simp[cu])) (B i (by simp[cu])) b)
 |mapUpdate t a b c=>exact(FT hE.G (aa t U) (B a (by simp[cu])) (B b (by simp[cu])) (B c (by simp[cu]))).map λ_ _ _ _ _=>.skip
 |mapEntry t a b=>exact(Hu hE.prog hE.G (aa t U) (B a (by simp[cu])) (B b (by simp[cu]))).map λ_ _ _ _ h=>.value h
 |entryStore t a b c=>exact T6 (CD (B a (by simp[cu])) (B b (by simp[cu])) (B c (by simp[cu])))
 |range t x=>exact rC (PZ (B x (by simp[cu])))
 |next x b=>exact rC (Ri (B x (by simp[cu])) b _)
 |entry x=>exact rC (OQ (B x (by simp[cu])))
 |typeAssert x a b c=>
  simp only at U;subst U;exact rC (CS hE.prog (B x (by simp[cu])) _ _)
 |extract x i=>exact rC (Ln (B x (by simp[cu])) i)
 |panic x=>exact rC (P3 (B x (by simp[cu])))
 |send c x=>exact .base (.pure (.comm _ _ (.inr ⟨rfl,rfl,_,_,_,rfl⟩) (.cons ⟨B c (by simp[cu]),.some (B x (by simp[cu])),.undef m⟩ .nil)))
 |select cs b=>
  refine .base ?_;show dv P (gM P) m (cs.mapM (λs=>do pure {chan:=ρ s.chan,send:=s.send.map ρ,zero:=<-bD s.elem:CommCase}) >>= λc=>pure (.comm c b .select)) (cs.mapM (λs=>do pure {chan:=ρ' s.chan,send:=s.send.map ρ',zero:=<-bD s.elem:CommCase}) >>= λc=>pure (.comm c b .select));rw[a0,a0];simp only[map_eq_pure_bind,bind_assoc,pure_bind];refine dA (sD (Q:=BG) (λ_ _ _ _ h x=>x.mono h) cs.toList m λs hs m' hl=>?_) λm' a b' ae af=>.pure (.comm _ _ (.inl (by rw[ae.ic]; exact ab U)) af);refine fH hE.prog λz hz=>.pure ⟨(B s.chan ?_).mono hl,(za W λy hy=>O y ?_).mono λ_ _ x=>x.mono hl,hz⟩
  .simp only[cu,aC,aJ];exact⟨s,by simpa using hs,by simp⟩
  .simp only[cu,aC,aJ];exact⟨s,by simpa using hs,by simp[hy]⟩
 |call c=>
  obtain⟨callee,args,ats⟩:=c
  cases callee with
  |invoke r n=>exact U.elim
  |builtin b=>
   have ha:ed m (args.map ρ) (args.map ρ'):=jT W λx Y=>O x (by simp[cu,di]; simpa using Y);exact KP hE ac ha (by simpa using U.1) U.2
  |value f=>
   have ha:ed m (args.map ρ) (args.map ρ'):=jT W λx Y=>O x (by simp[cu,di]; exact .inr (by simpa using Y));refine .base (dA (oP (B f (by simp[cu,di])) ha) λm' d d' hl hd=>?_);exact q9 (hE.mono hl) hd.1.target hd.2 hd.1.args
 |go c=>
  obtain⟨callee,args,ats⟩:=c
  cases callee with
  |invoke r n=>exact U.2.elim
  |builtin b=>exact U.2.elim
  |value f=>
   have ha:ed m (args.map ρ) (args.map ρ'):=jT W λx Y=>O x (by simp[cu,di]; exact .inr (by simpa using Y));exact .base (dA (oP (B f (by simp[cu,di])) ha) λm' d d' hl hd=>.pure (.spawn (by rw[hl.ic]; exact ab U.1) hd.1))
 |defer c=>
  obtain⟨callee,args,ats⟩:=c
  cases callee with
  |invoke r n=>exact U.elim
  |builtin b=>
   have ha:ed m (args.map ρ) (args.map ρ'):=jT W λx Y=>O x (by simp[cu,di]; simpa using Y);obtain⟨U,hs⟩:=U;subst U;exact .base (.pure (.defer ⟨.builtin _ _ _ (ab hs),ha⟩))
  |value f=>
   have ha:ed m _ _:=jT W λx Y=>O x (by simp[cu,di]; exact .inr (by simpa using Y));exact .base (dA (oP (B f (by simp[cu,di])) ha) λm' d d' hl hd=>.pure (.defer hd.1))
 |_=>exact U.elim
end
end
section
open Go.Conc
def AQ(y:Code):Code:=.cond (.global 0) y .skip
inductive jw(m:Ren):Item->Item->Prop
 |Ex (y):jw m (.code (AQ y)) (.code y)
 |lY (y):jw m (.inLoop (AQ y)) (.inLoop y)
 |code (c):fD m.ok c->jw m (.code c) (.code c)
 |inBlock (i):jw m (.inBlock i) (.inBlock i)
 |inLoop (c):fD m.ok c->jw m (.inLoop c) (.inLoop c)
 |inScope (c):fD m.ok c->jw m (.inScope c) (.inScope c)
 |inRegion (ops t):(∀o∈ops.toList,m.ok o)->jw m (.inRegion ops t) (.inRegion ops t)
 |inRangeFunc {l l'}:m.blk l=some l'->jw m (.inRangeFunc l) (.inRangeFunc l')
 |endRangeFunc {l l'}:m.blk l=some l'->jw m (.endRangeFunc l) (.endRangeFunc l')
 |beginRound:jw m .beginRound .beginRound
structure QH(m:Ren)(p p':PanicEntry):Prop where
 v:VR m p.v p'.v
 rv:p'.recovered=p.recovered
 ex:p'.goexit=p.goexit
inductive rP(m:Ren):FrameMode->FrameMode->Prop
 |run:rP m .run .run
 |returning:rP m .returning .returning
 |panicking {c c'}:dP (QH m) c c'->rP m (.panicking c) (.panicking c')
structure fK(m:Ren)(fr fr':Frame):Prop where
 fn:fr'.fn=fr.fn
 tmps:ed m fr.tmps fr'.tmps
 todo:dP (jw m) fr.todo fr'.todo
 defers:dP (DR m) fr.defers fr'.defers
 mode:rP m fr.mode fr'.mode
 round:l7 (λr r'=>m.blk r=some r') fr.roundOf fr'.roundOf
section
variable {m m':Ren}
theorem jw.mono(h:m.Le m'){a b:Item}(x:jw m a b):jw m' a b:=by
 cases x with
 |Ex y=>exact .Ex y
 |lY y=>exact .lY y
 |code c B=>exact .code c (h.ok▸B)
 |inBlock i=>exact .inBlock i
 |inLoop c B=>exact .inLoop c (h.ok▸B)
 |inScope c B=>exact .inScope c (h.ok▸B)
 |inRegion o t U=>exact .inRegion o t (h.ok▸U)
 |inRangeFunc O=>exact .inRangeFunc (h.blk _ _ O)
 |endRangeFunc O=>exact .endRangeFunc (h.blk _ _ O)
 |beginRound=>exact .beginRound
theorem QH.mono(h:m.Le m'){a b:PanicEntry}(x:QH m a b):QH m' a b:=⟨x.v.mono h,x.rv,x.ex⟩
theorem rP.mono(h:m.Le m'){a b:FrameMode}(x:rP m a b):rP m' a b:=by
 cases x with
 |run=>exact .run
 |returning=>exact .returning
 |panicking B=>exact .panicking (B.mono λ_ _ y=>y.mono h)
theorem fK.mono(h:m.Le m'){a b:Frame}(x:fK m a b):fK m' a b:=
 ⟨x.fn,x.tmps.mono h,x.todo.mono λ_ _ y=>y.mono h,x.defers.mono λ_ _ y=>y.mono h,x.mode.mono h,x.round.mono λ_ _ y=>h.blk _ _ y⟩
theorem fK.eval{fr fr':Frame}(h:fK m fr fr'){gl:Nat->Prop}(B:∀g,gl g->m.blk g=some g)(x:Operand)(O:dN m.fq gl x):VR m (fr.eval x) (fr'.eval x):=by
 cases x with
 |tmp t=>exact h.tmps.getD t
 |const v=>exact VR.plain O
 |global g=>exact .ptr (.mk (B g O))
 |func f=>exact .Jt (.func f O) (.nil m) (.nil m)
theorem fK.finish{fr fr':Frame}(h:fK m fr fr'){v v':Value}(hv:VR m v v'):fK m (fr.finish v) (fr'.finish v')/\(fr.finish v).kind=fr.kind/\(fr'.finish v').kind=fr'.kind:=by
 obtain⟨fn,tmps,todo,defers,mode,ag,round⟩:=fr;obtain⟨ah,aa,ad,ab,ae,af,ac⟩:=fr';obtain⟨O,B,h3,U,W,Y⟩:=h
 cases h3 with
 |nil=>exact⟨⟨O,B,.nil,U,W,Y⟩,rfl,rfl⟩
 |cons hi ht=>
  cases hi with
  |inRegion ops t ho=>
   cases t with
   |nil=>exact⟨⟨O,B,.cons (.inRegion _ _ ho) ht,U,W,Y⟩,rfl,rfl⟩
   |cons i t=>
    refine⟨⟨O,?_,.cons (.inRegion _ _ ho) ht,U,W,Y⟩,rfl,rfl⟩;show ed m (match (ops[i]?).bind _ with|some d=>tmps.setIfInBounds d v|none=>tmps) (match (ops[i]?).bind _ with|some d=>aa.setIfInBounds d v'|none=>aa)
    cases(ops[i]?).bind _ with
    |none=>exact B
    |some d=>exact B.set d hv
  |inRangeFunc hl=>exact⟨⟨O,B,.cons (.endRangeFunc hl) ht,U,W,Y⟩,rfl,rfl⟩
  |beginRound=>exact⟨⟨O,B,ht,U,W,Y⟩,rfl,rfl⟩
  |Ex y=>exact⟨⟨O,B,.cons (.Ex y) ht,U,W,Y⟩,rfl,rfl⟩
  |lY y=>exact⟨⟨O,B,.cons (.lY y) ht,U,W,Y⟩,rfl,rfl⟩
  |code c hc=>exact⟨⟨O,B,.cons (.code c hc) ht,U,W,Y⟩,rfl,rfl⟩
  |inBlock i=>exact⟨⟨O,B,.cons (.inBlock i) ht,U,W,Y⟩,rfl,rfl⟩
  |inLoop c hc=>exact⟨⟨O,B,.cons (.inLoop c hc) ht,U,W,Y⟩,rfl,rfl⟩
  |inScope c hc=>exact⟨⟨O,B,.cons (.inScope c hc) ht,U,W,Y⟩,rfl,rfl⟩
  |endRangeFunc hl=>exact⟨⟨O,B,.cons (.endRangeFunc hl) ht,U,W,Y⟩,rfl,rfl⟩
theorem fK.raise{fr fr':Frame}(h:fK m fr fr'){vs vs':List PanicEntry}(U:dP (QH m) vs vs'):fK m (fr.raise vs) (fr'.raise vs')/\(fr.raise vs).kind=fr.kind/\(fr'.raise vs').kind=fr'.kind:=by
 obtain⟨fn,tmps,todo,defers,mode,ac,round⟩:=fr;obtain⟨ad,W,Y,B,aa,ab,O⟩:=fr';obtain⟨h1,h2,h3,h4,h5,h6⟩:=h
 cases h5 with
 |run=>exact⟨⟨h1,h2,h3,h4,.panicking U,h6⟩,rfl,rfl⟩
 |returning=>exact⟨⟨h1,h2,h3,h4,.panicking U,h6⟩,rfl,rfl⟩
 |panicking hc=>exact⟨⟨h1,h2,h3,h4,.panicking (U.append hc),h6⟩,rfl,rfl⟩
theorem Df{P:Program}{f:bH}(Y:nd P m f)(hb:∃fn c,P.funcs[f]?=some fn/\fn.body=some c){a a':Array Value}(h:ed m a a')(k k':CallKind):fK m (fb P f a k) (fb P f a' k'):=by
 obtain⟨fn,c,U,W⟩:=hb;obtain⟨aa,B,_,h3⟩:=Y;rw[U]at B;cases B
 have hc:fD m.ok c:=by
  rcases h3 with⟨c',O,h5⟩|⟨O,_⟩
  .rw[W]at O; cases O; exact h5
  .rw[W]at O; cases O
 refine⟨rfl,?_,?_,.nil,.run,.none⟩
 .simp only[fb,U,ev,er,h.size];exact h.append (.replicate _ (.undef m))
 .simp only[fb,U,ew,W,er];exact .cons (.code c hc) .nil
end
def Hz(k:CallKind):Prop:=k=.normal\/k=.deferred
def door(P:Program):Frame:={fn:=P.funcs.size,tmps:=#[],todo:=[.call {target:=.nil,args:=#[]} false "fmt's door" #[]],defers:=[],mode:=.run,kind:=.normal}
def Cq(k:CallKind)(T:List Frame):Prop:=(k=.normal/\∀ps,T=[ps]->ps.mode≠.panicking [cm])\/(k=.deferred/\∃ps,T=[ps]/\ps.mode=.panicking [cm])
inductive dQ(P:Program)(m:Ren)(T:List Frame):List Frame->List Frame->Prop
 |one {fr fr'}:fK m fr fr'->fr.kind=.normal->Cq fr'.kind T->fr.roundOf=none->dQ P m T (fr::[door P]) (fr'::T)
 |cons {fr fr' c c' cs cs'}:fK m fr fr'->fr'.kind=fr.kind->Hz fr.kind->dQ P m T (c::cs) (c'::cs')->dQ P m T (fr::c::cs) (fr'::c'::cs')
section
variable {P:Program} {m m':Ren} {T:List Frame}
theorem dQ.mono(h:m.Le m'){l l':List Frame}(x:dQ P m T l l'):dQ P m' T l l':=by
 induction x with
 |one B O U W=>exact .one (B.mono h) O U W
 |cons B O U _ Y=>exact .cons (B.mono h) O U Y
theorem dQ.pR{fr fr':Frame}{cs cs':List Frame}(x:dQ P m T (fr::cs) (fr'::cs')):fK m fr fr':=by cases x<;>assumption
theorem dQ.set(h:m.Le m'){fr fr' g g':Frame}{cs cs':List Frame}(x:dQ P m T (fr::cs) (fr'::cs'))(W:fK m' g g')(k:g.kind=fr.kind)(k':g'.kind=fr'.kind)(Y:g.roundOf=fr.roundOf)(_hn:g.fn=fr.fn):dQ P m' T (g::cs) (g'::cs'):=by
 cases x with
 |one hf B O U=>exact .one W (k.trans B) (k'▸O) (Y.trans U)
 |cons hf B O U=>exact .cons W (by rw[k,k',B]) (k▸O) (U.mono h)
theorem dQ.push{fr fr' g g':Frame}{cs cs':List Frame}(x:dQ P m T (fr::cs) (fr'::cs'))(B:fK m g g')(k:g'.kind=g.kind)(O:Hz g.kind):dQ P m T (g::fr::cs) (g'::fr'::cs'):=.cons B k O x
end
end
section
open Go.Conc
variable {fr fr':Frame} {cs cs':List Frame}
def ni(P:Program)(m:Ren)(T:List Frame)(s':GStep)(w':World)(fr:Frame)(cs:List Frame)(w₁:World):Prop:=
 ∃dx fr' cs' B es,s'=.go (G fr' cs') B es/\m.Le dx/\dQ P dx T (fr::cs) (fr'::cs')/\WR dx w₁ B/\fv m dx w' B/\∀e∈es,oy dx e
section
variable {P:Program} {m:Ren} {T:List Frame}
theorem QP(h:fK m fr fr'):(match fr.todo with|.call _ true _ _::_=>CallKind.wrapped|_=>.normal)=.normal/\(match fr'.todo with|.call _ true _ _::_=>CallKind.wrapped|_=>.normal)=.normal:=by
 have:=h.todo;revert this;generalize fr.todo=l;generalize fr'.todo=l';intro h
 cases h with
 |nil=>exact⟨rfl,rfl⟩
 |cons hi _=>cases hi<;>exact⟨rfl,rfl⟩
theorem tD{P:Program}{m:Ren}{T:List Frame}(h:dQ P m T (fr::cs) (fr'::cs')) :
  l7 (λx y=>VR m x.1 y.1/\dQ P m T (fr::x.2) (fr'::y.2)) (bC fr cs) (bC fr' cs'):=by
 have e1:∀(f:Frame)(c:List Frame),f.kind=.normal->bC f c=none:=by
  intro f c hk; unfold bC; rw[hk]
 cases h with
 |one hf h1 B h3=>
  rw[e1 fr _ h1];rcases B with⟨B,_⟩|⟨B,ps,rfl,h4⟩
  .rw[e1 fr' _ B]; exact .none
  .have e2:bC fr' [ps]=none:=by
    unfold bC;simp only[B];rw[h4];rfl
   rw[e2]; exact .none
 |cons hf h1 B h3=>
  rename_i c c' cs cs';rcases B with B|B
  .rw[e1 fr _ B,e1 fr' _ (h1.trans B)];exact .none
  .have ac:=h1.trans B
   cases h3 with
   |one O g1 g2 g3=>
    have hm:=O.mode;obtain⟨ak,am,an,ao,ap,aq,ar⟩:=c;obtain⟨ad,ae,af,ag,ah,ai,aj⟩:=c';unfold bC;rw[B,ac]
    cases hm with
    |run=>exact .none
    |returning=>exact .none
    |panicking hc=>
     cases hc with
     |nil=>exact .none
     |cons hp ht=>
      rename_i p p' Y W;obtain⟨v,r,x⟩:=p;obtain⟨v',r',x'⟩:=p';obtain⟨U,aa,ab⟩:=hp;subst aa ab;cases r'<;>cases x'<;>first|exact .none|skip
      exact .some ⟨U,.cons hf h1 (.inr B) (.one ⟨O.fn,O.tmps,O.todo,O.defers,.panicking (.cons ⟨U,rfl,rfl⟩ ht),O.round⟩ g1 g2 g3)⟩
   |cons O g1 g2 g3=>
    have hm:=O.mode;obtain⟨ak,am,an,ao,ap,aq,ar⟩:=c;obtain⟨ad,ae,af,ag,ah,ai,aj⟩:=c';unfold bC;rw[B,ac]
    cases hm with
    |run=>exact .none
    |returning=>exact .none
    |panicking hc=>
     cases hc with
     |nil=>exact .none
     |cons hp ht=>
      rename_i p p' Y W;obtain⟨v,r,x⟩:=p;obtain⟨v',r',x'⟩:=p';obtain⟨U,aa,ab⟩:=hp;subst aa ab;cases r'<;>cases x'<;>first|exact .none|skip
      exact .some ⟨U,.cons hf h1 (.inr B) (.cons ⟨O.fn,O.tmps,O.todo,O.defers,.panicking (.cons ⟨U,rfl,rfl⟩ ht),O.round⟩ g1 g2 g3)⟩
theorem eZ(fr:Frame)(v:Value):(fr.finish v).roundOf=fr.roundOf:=by
 unfold fd;split<;>rfl
theorem nT(fr:Frame)(v:List PanicEntry):(fr.raise v).roundOf=fr.roundOf:=by
 unfold fk;split<;>rfl
theorem gN(fr:Frame)(v:Value):(fr.finish v).fn=fr.fn:=by
 unfold fd;split<;>rfl
theorem th(fr:Frame)(v:List PanicEntry):(fr.raise v).fn=fr.fn:=by
 unfold fk;split<;>rfl
theorem tJ{dx:Ren}{f:bH}{c:Prop}[Decidable c]{es₁:Array Event}(h:∀e∈es₁,oy dx e):∀e∈bI P f (if c then #[]else es₁)++#[],oy dx e:=by
 intro e B;have:=mem_seen B;split at this
 .simp at this
 .exact h e this
theorem KH(hE:tH P m)(U:dQ P m T (fr::cs) (fr'::cs')){s s':Sem Go.Next}(hs:li P (gM P) m s s'){w w':World}(hw:WR m w w')(ae:Al w w'){eH:Frame}{eI:List Frame}{w₁:World}{es:Array Event}
  (h:stepG.apply P true fr cs none s w=.go (G eH eI) w₁ es):ni P m T (stepG.apply P true fr' cs' none s' w') w' eH eI w₁:=by
 have hr:=hs.run w w' #[] hw ae;unfold stepG.apply at h⊢;simp only[if_true]at h⊢;rcases hrt:s.runT P w #[]with⟨r,ar⟩;have af:s.run P w=r:=by rw[<-Sem.runT_fst P s w #[],hrt]
 rw[af]at hr;rw[hrt]at h;have au:=QP U.pR
 cases r with
 |ok n wn=>
  obtain⟨dx,n',aa,es₁,e1,W,e3,e4,_,e6,e7⟩:=hr;rw[e1];simp only[aG]at h⊢
  have out:∀{X:Array Event}{g g':Frame}{c c':List Frame},dQ P dx T (g::c) (g'::c')->dg X (.go {frame:=g,callers:=c,status:=.running,dying:=none} wn)=.go (G eH eI) w₁ es->
    ni P m T (dg (bI P fr'.fn (if(fr'.kind==CallKind.early)=true then #[]else es₁)) (.go {frame:=g',callers:=c',status:=.running,dying:=none} aa)) w' eH eI w₁:=by
   intro X g g' c c' ab hh;simp only[dg,G,GStep.go.injEq,Goroutine.mk.injEq]at hh;obtain⟨⟨rfl,rfl,_⟩,rfl,_⟩:=hh;exact⟨dx,g',c',aa,_,rfl,W,ab,e4,e6,tJ e7⟩
  cases e3 with
  |value hv=>
   have O:=(U.pR.mono W).finish hv;exact out (U.set W O.1 O.2.1 O.2.2 (eZ _ _) (gN _ _)) h
  |skip=>
   have O:=(U.pR.mono W).finish (.undef dx);exact out (U.set W O.1 O.2.1 O.2.2 (eZ _ _) (gN _ _)) h
  |enter O ac ha=>
   have ab:=(U.mono W).push (Df ((hE.mono W).calls _ O) ac ha .normal .normal) rfl (.inl rfl);have Y:=U.pR.todo;obtain⟨fn,tm,td,df,md,kd,rd⟩:=fr;obtain⟨ag,ah,ai,aj,ak,am,an⟩:=fr';simp only at Y
   cases Y with
   |nil=>exact out ab h
   |cons hi _=>cases hi<;>exact out ab h
  |round hl Y ha ac=>
   rename_i l l' f t t' a c;have ao:fK dx (ff l f t a c .normal) (ff l' f t' a c .normal):=⟨rfl,Y,.cons (.code _ ha) (.cons .beginRound (.cons (.code _ ac) .nil)),.nil,.run,.some hl⟩;exact out ((U.mono W).push ao rfl (.inl rfl)) h
  |defer hd=>
   have ap:fK dx {fr with defers:=_::fr.defers} {fr' with defers:=_::fr'.defers}:=⟨U.pR.fn,U.pR.tmps.mono W,(U.pR.mono W).todo,.cons hd (U.pR.mono W).defers,(U.pR.mono W).mode,(U.pR.mono W).round⟩;have O:=ap.finish (.undef dx);exact out (U.set W O.1 O.2.1 O.2.2 (eZ _ _) (gN _ _)) h
  |recover=>
   have aq:=U.mono W;have Y:=tD aq;have ad:=U.pR.round;obtain⟨fn,tm,td,df,md,kd,rd⟩:=fr;obtain⟨ag,ah,ai,aj,ak,am,an⟩:=fr';simp only at ad
   cases ad with
   |none=>
    dsimp only at h⊢;revert Y h;generalize bC _ _=p;generalize bC _ _=p';intro h Y
    cases Y with
    |none=>
     have O:=(U.pR.mono W).finish (.nilIface (m:=dx));exact out (U.set W O.1 O.2.1 O.2.2 (eZ _ _) (gN _ _)) h
    |some hx=>
     rename_i x y;obtain⟨v,c⟩:=x;obtain⟨v',c'⟩:=y;have O:=(U.pR.mono W).finish hx.1;exact out (hx.2.set (.refl dx) O.1 O.2.1 O.2.2 (eZ _ _) (gN _ _)) h
   |some av=>
    dsimp only at h⊢;rw[if_pos hE.RF]at h⊢;revert Y h;generalize bC _ _=p;generalize bC _ _=p';intro h Y
    cases Y with
    |none=>
     have O:=(U.pR.mono W).finish (.nilIface (m:=dx));exact out (U.set W O.1 O.2.1 O.2.2 (eZ _ _) (gN _ _)) h
    |some hx=>
     rename_i x y;obtain⟨v,c⟩:=x;obtain⟨v',c'⟩:=y;have O:=(U.pR.mono W).finish hx.1;exact out (hx.2.set (.refl dx) O.1 O.2.1 O.2.2 (eZ _ _) (gN _ _)) h
  |spawn aw hd=>
   exfalso;dsimp only at h;generalize bI P fr.fn _=X at h;rw[apply_ite (dg X)]at h
   have key:∀(c:Prop)[Decidable c] (A B C:GStep),(if c then A else B)=C->A=C\/B=C:=by
    intro c _ A B C hh;split at hh
    .exact .inl hh
    .exact .inr hh
   rcases key _ _ _ _ h with h|h
   .simp[endThrow,dieOf,dg,G]at h
   .simp[dg]at h
  |comm bl sh hq hc=>cases h
 |halt x wn=>
  cases x with
  |panic v=>
   obtain⟨dx,v',aa,es₁,e1,W,e3,e4,_,e6,e7⟩:=hr;rw[e1];simp only[aG]at h⊢;have O:=(U.pR.mono W).raise (vs:=[{v,recovered:=false}]) (vs':=[{v:=v',recovered:=false}]) (.cons ⟨e3,rfl,rfl⟩ .nil);obtain⟨⟨rfl,rfl,_⟩,rfl,_⟩:=h;exact⟨dx,_,cs',aa,_,rfl,W,U.set W O.1 O.2.1 O.2.2 (nT ..) (th ..),e4,e6,tJ e7⟩
  |unsupported u=>cases u<;>first|exact hr.elim|cases h
  |stuck y=>cases h
  |throw y=>simp[endThrow,dieOf,dg,G]at h
  |_=>exact hr.elim
end
end
section
open Go.Conc
variable {t t':Array Value} {l l':Nat}
section
variable {P:Program} {m:Ren} {T:List Frame}
theorem xK(id:Nat):∀{k k':List Item},dP (jw m) k k'->l7 (dP (jw m)) (bY id k) (bY id k')
 |_,_,.nil=>.none
 |_,_,.cons hi h=>by
  cases hi with
  |inBlock i=>
   unfold bY;split
   .exact .some h
   .exact xK id h
  |_=>unfold bY; exact xK id h
theorem pC{ok:Oper->Prop}(l:Nat):∀(c c':Code),fD ok c->bN c l=some c'->fD ok c'
 |.seq a b,c',h,e=>by
  unfold bN at e
  cases B:bN a l with
  |some r=>
   rw[B]at e;simp only[dc]at e;subst e;exact⟨pC l a r h.1 B,h.2⟩
  |none=>
   rw[B]at e;exact pC l b c' h.2 e
 |.label l',c',h,e=>by
  unfold bN at e;split at e
  .cases e; trivial
  .cases e
 |.skip,_,_,e|.region ..,_,_,e|.cond ..,_,_,e|.block ..,_,_,e|.loop ..,_,_,e|.rangeFunc ..,_,_,e|.exit ..,_,_,e|.scope ..,_,_,e|.goto ..,_,_,e|.ret,_,_,e|.refuse ..,_,_,e=>by cases e
theorem xz(l:Nat):∀{k k':List Item},dP (jw m) k k'->l7 (dP (jw m)) (bX l k) (bX l k')
 |_,_,.nil=>.none
 |_,_,.cons hi h=>by
  cases hi with
  |inScope c B=>
   unfold bX
   cases O:bN c l with
   |none=>exact xz l h
   |some r=>exact .some (.cons (.code r (pC l c r B O)) (.cons (.inScope c B) h))
  |_=>unfold bX; exact xz l h
theorem lK(ops:Array Oper)(h:ed m t t')(j:Nat):cd ops t' j=cd ops t j:=by
 unfold cd
 cases(ops[j]?).bind _ with
 |none=>rfl
 |some d=>
  simp only[ew]
  cases O:t[d]? with
  |none=>rw[h.get_none O]
  |some v=>
   obtain⟨v',B,U⟩:=h.get O;rw[B];cases U<;>first|rfl|skip
   rename_i W;cases v'<;>first|rfl|exact W.elim
theorem lD{fn:Func}(h:ed m t t'):dv P VR m (cf fn t) (cf fn t'):=by
 unfold cf;rw[a0,a0];simp only[map_eq_pure_bind,bind_assoc,pure_bind];refine dA (sD (Q:=VR) (λ_ _ _ _ h x=>x.mono h) _ m λr _ m' Y=>?_) λm' a c _ U=>?_
 .cases r with
  |tmp t=>exact .pure ((h.mono Y).getD t)
  |cell a t=>exact BE ((h.mono Y).getD a) λp p' hp=>AC hp
 .refine .pure ?_;have B:ed m' .. := U;by_cases O:a.toArray.size=1
  .have W:c.toArray.size=1:=by rw[<-B.size]; exact O
   rw[dif_pos O,dif_pos W];exact B.idx 0 ..
  .have W:¬c.toArray.size=1:=by rw[<-B.size]; exact O
   rw[dif_neg O,dif_neg W];exact .kL B
theorem D7{o o':List PanicEntry}(h:dP (QH m) o o'):dP (QH m) (o.dropWhile (!·.goexit)) (o'.dropWhile (!·.goexit)):=by
 induction h with
 |nil=>exact .nil
 |cons B _ O=>
  simp only[List.dropWhile_cons,B.ex];split
  .exact O
  .exact .cons B ‹_›
theorem H9{fr fr' c c':Frame}{cs cs':List Frame}(hS:dQ P m T (fr::c::cs) (fr'::c'::cs'))(hk:fr'.kind=fr.kind)(ho:Hz fr.kind)(U:dQ P m T (c::cs) (c'::cs')){v v':Value}(hv:VR m v v'){main main':Bool}{w w':World}(hw:WR m w w'){eH:Frame}{eI:List Frame}{w₁:World}{es:Array Event}
  (h:bO P main fr (c::cs) none v w=.go (G eH eI) w₁ es):∃B,bO P main' fr' (c'::cs') none v' w'=.go (G B cs') w'/\dQ P m T (eH::eI) (B::cs')/\w₁=w:=by
 unfold bO at h⊢;rw[hk];rcases ho with ho|ho
 .rw[ho]at h⊢;obtain⟨⟨rfl,rfl,_⟩,rfl,_⟩:=h;have hf:=U.pR.finish hv;exact⟨_,rfl,U.set (.refl m) hf.1 hf.2.1 hf.2.2 (eZ ..) (gN ..),rfl⟩
 .rw[ho]at h⊢;have hm:=U.pR.mode;obtain⟨ah,ai,aj,ak,ar,am,an⟩:=c;obtain⟨Y,aa,ab,ac,aq,ad,ae⟩:=c'
  have lh:∀{md O},rP m md O->dQ P m T (⟨ah,ai,aj,ak,md,am,an⟩::cs) (⟨Y,aa,ab,ac,O,ad,ae⟩::cs'):=λaf=>
   U.set (.refl m) ⟨U.pR.fn,U.pR.tmps,U.pR.todo,U.pR.defers,af,U.pR.round⟩ rfl rfl rfl rfl
  have fin:∀{md O},rP m md O->GStep.go (G ⟨ah,ai,aj,ak,md,am,an⟩ cs) w=.go (G eH eI) w₁ es->∃B,GStep.go (G ⟨Y,aa,ab,ac,O,ad,ae⟩ cs') w'=.go (G B cs') w'/\dQ P m T (eH::eI) (B::cs')/\w₁=w:=by
   intro md O af hh;obtain⟨⟨rfl,rfl,_⟩,rfl,_⟩:=hh;exact⟨_,rfl,lh af,rfl⟩
  cases hm with
  |run=>exact fin .run h
  |returning=>exact fin .returning h
  |panicking ao=>
   cases ao with
   |nil=>exact fin (.panicking .nil) h
   |cons hp ht=>
    rename_i p p' ag W;obtain⟨pv,pr,px⟩:=p;obtain⟨au,ap,av⟩:=p';obtain⟨h1,h2,h3⟩:=hp;subst h2 h3
    cases ap with
    |false=>
     have hp:QH m .. := ⟨h1,rfl,rfl⟩;exact fin (.panicking (.cons hp ht)) h
    |true=>
     have hd:=D7 ht;simp only at h⊢;revert hd h;generalize ag.dropWhile _=o;generalize W.dropWhile _=o';intro h hd
     cases hd with
     |nil=>exact fin .returning h
     |cons hq hr=>exact fin (.panicking (.cons hq hr)) h
theorem oY{γ δ:Type}{RB:Ren->γ->δ->Prop}(O:m.blk l=some l'){f:Loop->Sem γ}{f':Loop->Sem δ}(h:∀p B,vE m p B->dv P RB m (f p) (f' B)):dv P RB m (aY l >>= f) (aY l' >>= f'):=by
 refine fI O λo o' U=>?_;cases U<;>first|exact .dy trivial|exact h _ _ ‹_›
theorem nu{l:Loop}:∀x y z,Obj.loop l≠.cells x y z:=nofun
theorem GQ(O:m.blk l=some l'){j:Option Code}(U:∀c,j=some c->fD m.ok c):dv P VR m (br l j) (br l' j):=by
 refine oY O λp W B=>j9 O (.loop ⟨rfl,rfl,U,B.fn,B.tmps,B.params,B.assign,B.body,B.RR,B.wN,B.defers⟩) nu (.pure (.bool _))
theorem C5(O:m.blk l=some l'):dv P zE m (bi l) (bi l'):=by
 refine oY O λp U B=>j9 O (.loop ⟨rfl,B.pending,B.Su,B.fn,B.tmps,B.params,B.assign,B.body,B.RR,B.wN,B.defers⟩) nu ?_;rw[<-B.state];cases p.state<;>first|exact .pure trivial|exact fh (e:=.error _) trivial
theorem Lz(O:m.blk l=some l'):dv P (λm a b=>a=b/\∀c,a=some c->fD m.ok c) m (bx l) (bx l'):=by
 refine oY O λp U B=>?_
 have fin:dv P (λm a b=>a=b/\∀c,a=some c->fD m.ok c) m (do setObj l (.loop {p with state:=.exhausted}); pure _) (do setObj l' (.loop {U with state:=.exhausted}); pure _):=
  j9 O (.loop ⟨rfl,B.pending,B.Su,B.fn,B.tmps,B.params,B.assign,B.body,B.RR,B.wN,B.defers⟩) nu (.pure ⟨B.pending,B.Su⟩)
 rw[<-B.state];exact dF (λ_=>dR (e:=.error _) trivial) (λ_=>fin)
theorem y7(U:m.blk l=some l'){d d':Deferred}(W:DR m d d'):dv P zE m (be l d) (be l' d'):=by
 refine oY U λp p' O=>fI O.defers λo o' Y=>?_
 cases Y with
 |deferred B=>exact pZ O.defers (.deferred (.cons W B)) (nofun)
 |eR=>exact .dy trivial
 |_=>exact .dy trivial
theorem yD(O:m.blk l=some l'):dv P (λm=>dP (DR m)) m (aR l) (aR l'):=by
 refine fI O λo o' U=>?_
 cases U with
 |deferred B=>exact j9 O .eR (nofun) (.pure B)
 |_=>exact .dy trivial
theorem EC{fn:bH}(W:ed m t t'){ps:Array Tmp}{a c:Code}(Y:fD m.ok a)(hc:fD m.ok c){r r':Option Nat}(hr:l7 (λx y=>m.blk x=some y) r r'):dv P (λm x y=>m.blk x.1=some y.1/\dP (DR m) x.2 y.2) m (bm fn t ps a c r) (bm fn t' ps a c r'):=by
 have fin:∀{m':Ren}{q O:Nat}{d d':List Deferred},m.Le m'->m'.blk q=some O->dP (DR m') d d'->dv P (λm x y=>m.blk x.1=some y.1/\dP (DR m) x.2 y.2) m' (do pure (<-bV (.loop {state:=.ready,pending:=none,fn,tmps:=t,params:=ps,assign:=a,body:=c,defers:=q}),d)) (do pure (<-bV (.loop {state:=.ready,pending:=none,fn,tmps:=t',params:=ps,assign:=a,body:=c,defers:=O}),d')):=by
  intro m' q O d d' B hq hd;exact dv.new (.loop ⟨rfl,rfl,(nofun),rfl,W.mono B,rfl,rfl,rfl,B.ok▸Y,B.ok▸hc,hq⟩) (nofun) λaa i i' U hb _=>.pure ⟨hb,hd.mono λ_ _ x=>x.mono U⟩
 cases hr with
 |some hx=>exact oY hx λp p' hp=>fin (.refl m) hp.defers .nil
 |none=>exact dv.new (.deferred .nil) (nofun) λm' i i' B hb _=>fin B hb (.cons ⟨.collected hb,.nil m'⟩ .nil)
end
end
section
open Go.Conc
variable {X es:Array Event} {fr fr' eH:Frame} {cs cs' eI:List Frame} {dx:Ren} {w w' w₁:World}
structure l5(P:Program)(m:Ren)(gl:Nat->Prop)(st:Bool):Prop where
 env:tH P m
 strict:st=true->gC m
 ic:False->m.ic
 nZ:∀g,gl g->m.blk g=some g
 ops:∀o,m.ok o->OkOp P m.fq gl st o.op
theorem l5.mono{P:Program}{m m':Ren}{gl:Nat->Prop}{st:Bool}(h:m.Le m')(x:l5 P m gl st):l5 P m' gl st:=
 ⟨x.env.mono h,λs=>(x.strict s).mono h,nofun,λg B=>h.blk _ _ (x.nZ g B),λo O=>h.fq▸x.ops o (h.ok▸O)⟩
def AtClose(fr:Frame):Prop:=fr.mode≠.run/\∃a t c args ds,fr.defers={target:=.builtin .close a t c,args}::ds
section
variable {P:Program} {m:Ren} {T:List Frame} {gl:Nat->Prop} {st:Bool}
theorem tL{s:GStep}{g:Goroutine}(h:dg X s=.go g w es):∃B,s=.go g w B:=by
 cases s<;>simp[dg]at h;obtain⟨rfl,rfl,_⟩:=h;exact⟨_,rfl⟩
theorem Qz(hl:m.Le dx)(hS:dQ P dx T (fr::cs) (fr'::cs'))(hn:cs=[door P]->fr.roundOf=none->False){v v':Value}(hv:VR dx v v'){main':Bool}{B:World}(hw:WR dx w B)(hk:fv m dx w' B){X':Array Event}(W:∀e∈X',oy dx e)
  (h:dg X (bO P true fr cs none v w)=.go (G eH eI) w₁ es):ni P m T (dg X' (bO P main' fr' cs' none v' B)) w' eH eI w₁:=by
 obtain⟨aa,h⟩:=tL h
 cases hS with
 |one hf Y h2 U=>exact(hn rfl U).elim
 |cons hf Y h2 U=>
  obtain⟨O,e1,e2,e3⟩:=H9 (.cons hf Y h2 U) Y h2 U hv (main:=true) (main':=main') hw h;subst e3;rw[e1];exact⟨dx,O,_,B,_,rfl,hl,e2,hw,hk,by simpa using W⟩
theorem mO{f:bH}{es₁:Array Event}(h:∀e∈es₁,oy dx e):∀e∈bI P f es₁,oy dx e:=λe B=>h e (mem_seen B)
theorem still{g g':Frame}(B:WR m w w')(O:dQ P m T (g::cs) (g'::cs'))
  (h:GStep.go {frame:=g,callers:=cs,status:=.running,dying:=none} w=.go (G eH eI) w₁ es):ni P m T (GStep.go {frame:=g',callers:=cs',status:=.running,dying:=none} w') w' eH eI w₁:=by
 obtain⟨⟨rfl,rfl,_⟩,rfl,_⟩:=h;exact⟨m,g',cs',w',#[],rfl,.refl m,O,B,.refl m w',by simp⟩
theorem He(h:fK m fr fr'){k k':List Item}(B:dP (jw m) k k'):fK m {fr with todo:=k} {fr' with todo:=k'}:=⟨h.fn,h.tmps,B,h.defers,h.mode,h.round⟩
theorem Rf(h:fK m fr fr'){k k':FrameMode}(B:rP m k k'):fK m {fr with mode:=k} {fr' with mode:=k'}:=⟨h.fn,h.tmps,h.todo,h.defers,B,h.round⟩
theorem ni.after{s':GStep}{B:World}(W:m.Le dx)(Y:fv m dx w' B)(hX:∀e∈X,oy dx e)(h:ni P dx T s' B eH eI w₁):ni P m T (dg X s') w' eH eI w₁:=by
 obtain⟨m₂,f,c,O,es,rfl,U,h3,h4,h5,h6⟩:=h;refine⟨m₂,f,c,O,X++es,rfl,W.trans U,h3,h4,Y.trans W U h5,λe he=>?_⟩;rcases a9.1 he with x|x
 .exact(hX e x).mono U
 .exact h6 e x
theorem KS{ρ ρ':Operand->Value}(U:∀x,dN m.fq gl x->VR m (ρ x) (ρ' x)){c:Call}(hc:(∀x∈c.operands.toList,dN m.fq gl x)/\match c.callee with|.value _=>True|.builtin b=>b=.close/\m.ic|_=>False)(t:bB):dv P DR m (resolve ρ c t) (resolve ρ' c t):=by
 obtain⟨B,O⟩:=hc;obtain⟨callee,args,ats⟩:=c
 cases callee with
 |invoke r n=>exact O.elim
 |builtin bb=>
  have W:=jT U λx Y=>B x (by simp[di]; simpa using Y);obtain⟨O,aa⟩:=O;subst O;exact .pure ⟨.builtin _ _ _ aa,W⟩
 |value f=>
  have W:=jT U λx Y=>B x (by simp[di]; exact .inr (by simpa using Y));exact(oP (U f (B f (by simp[di]))) W).mono λ_ _ _ _ h=>h.1
theorem JP{r:Nat}(B:m.dead r)(O:WR m w w'):∃x w₁,(aR r).run P w=.halt x w₁:=by
 obtain⟨_,c,e,f,U⟩:=O.dead r B;unfold aR;exact⟨_,_,by simp only[getObj,bind,Sem.bind,cS,U]; rfl⟩
theorem mQ(s:GStep):dg #[] s=s:=by cases s<;>simp[dg]
end
end
end Go.Proofs.YtocbogeoffeolaaGreatDoor
