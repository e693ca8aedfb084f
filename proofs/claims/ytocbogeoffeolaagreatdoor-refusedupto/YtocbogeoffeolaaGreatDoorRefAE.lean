import GoSem.Step
import Derived.Conc.Events
import Derived.Laws.Tables
import Derived.MapKept
import Derived.Conc.Listed
set_option linter.all false
set_option maxHeartbeats 8000000
set_option maxRecDepth 1000000
open Array renaming getElem?_setIfInBounds_ne->ax,getElem?_eq_some_iff->ay,getElem?_toList->az,mapM_eq_mapM_toList->a0,filter->a1,getElem?_modify->a2,range->a3,toList_map->a4,length_toList->a5,forIn_toList->a6,foldl_toList->a7,all_eq_true_iff_forall_mem->a8,mem_append->a9,map->aA,isEmpty->aB,mem_toList_iff->aC,toList_zipIdx->aD,toList_filter->aE,toList_append->aF,empty_append->aG,append_assoc->aH,toList_push->aI,mem_flatMap->aJ,toList_zip->aK,all_toList->aL,replicate->aM
open Go.Instr renaming sameBits->aN,sameNow->aO,fill->aP,findNow->aQ,takeDeferred->aR,findAsking->aS,checkKey->aT,findKey->aU,keyThatStays->aV,sliceBounds->aW,sliceBound->aX,getLoop->aY,extract->aZ,yield->ba,makeInterface->bc,next->bd,deferInRound->be,typeAssert->bf,entryStore->bg,buildSlice->bh,beginRound->bi,mapUpdate->bj,makeSlice->bk,enterLoop->bm,sureAddr->bn,mapEntry->bo,makeFunc->bp,makeChan->bq,endRound->br,storeAt->bs,sliceAt->bt,makeMap->bu,indexAt->bv,fieldAt->bw,endLoop->bx,lookup->bz,loadAt->b0,slice->b1,range->b3,panic->b4,index->b5,field->b6,entry->b7,build->b8,alloc->b9,box->bA
open Go renaming TypeId->bB,tryRecover->bC,zeroValue->bD,underlying->bE,boundsPanic->bF,runtimePanic->bG,FuncId->bH,seen->bI,newRow->bJ,loadCellsFrom->bK,storeCells->bL,sizeOf->bM,findLabel->bN,doReturn->bO,loadBytes->bP,loadCells->bQ,askRoom->bR,typeInfo->bS,execOp->bT,sameAddr->bU,newObj->bV,mayBeOne->bW,gotoIn->bX,exitTo->bY,nilAhead->bZ,markStringish->cc,yielded->cd,typeStr->ce,results->cf,movedPointer->cg,behindNumber->ci,method->cj,variablesAt->ck,movedNumber->cl,goexitEntry->cm,undef->cp,fieldPlace->cq,elemOf->cr,byteOf->ct
open Go.Op renaming operands->cu,equal->cv,maxDepth->cw,twoPlaces->cx,eqGuardIn->cy,stringOp->cz,intArith->c0,intBits->c3,equalIn->c4,addrMod->c5,intDiv->c6,intCmp->c7,unary->c8,shift->c9
open Go.Builtin renaming zeroCells->cA,unsafeAdd_->cB,append_->cC,clear_->cD,copy_->cE,min_->cF,max_->cG,len_->cH,cap_->cI,unsafeString_->cJ,holdsCells->cK,firstCells->cL,mayShare->cM,lenOf->cN,min2->cO,max2->cP
open Bool renaming and_eq_true->cQ,eq_iff_iff->cR
open Go.Sem renaming run->cS,runT->cT,bind_assoc'->cU
open List renaming getElem?_zip_eq_some->cV,mem_iff_getElem?->cW,all_eq_true->cX,forIn_cons->cY,mapM_cons->cZ,mem_cons->da,mem_map->db
open Option.some renaming injEq->dc,inj->dd
open Go.GStep renaming after->dg
open Go.Call renaming operands->dh
open Nat renaming le_succ_of_le->di,le_trans->dj,le_of_not_lt->dk,le_refl->dl
open Go.Conv renaming bytesToString->dn,stringToBytes->dp,runesToString->dq
open Go.Extern.SlicesOverlaps renaming overlaps->dr
open Go.Extern.Bytes renaming loadBytes->dt,bytesOf->du
open Option renaming getD_some->dv,map_some->dw,bind_some->dx
open Go.World renaming freeze->dy,frozen?->dz,noCell->dA,cell?->dB
open Go.Frame renaming enter->dC,finish->dD,round->dE,raise->dF
open Std.Legacy.Range renaming forIn_eq_forIn_range'->dG
open Ne renaming symm->dH
namespace Go.Proofs.YtocbogeoffeolaaGreatDoor
section
variable {α β:Type}
inductive gW{α β:Type}(R:α->β->Prop):List α->List β->Prop
 |nil:gW R [] []
 |cons {a b l l'}:R a b->gW R l l'->gW R (a::l) (b::l')
theorem gW.mono{R S:α->β->Prop}(h:∀a b,R a b->S a b):∀{l:List α}{l':List β},gW R l l'->gW S l l'
 |_,_,.nil=>.nil
 |_,_,.cons a b=>.cons (h _ _ a) (gW.mono h b)
theorem gW.length{R:α->β->Prop}:∀{l:List α}{l':List β},gW R l l'->l.length=l'.length
 |_,_,.nil=>rfl
 |_,_,.cons _ b=>by simp[gW.length b]
theorem gW.append{R:α->β->Prop}:∀{l l₂:List α}{l' B:List β},gW R l l'->gW R l₂ B->gW R (l++l₂) (l'++B)
 |_,_,_,_,.nil,h=>h
 |_,_,_,_,.cons a b,h=>.cons a (gW.append b h)
theorem gW.get{R:α->β->Prop}:∀{l:List α}{l':List β},gW R l l'->∀{i:Nat}{a:α},l[i]?=some a->∃b,l'[i]?=some b/\R a b
 |_,_,.nil,i,a,h=>by simp at h
 |_,_,.cons (b:=b) x y,0,a,h=>⟨b,by simp,by simp at h; exact h▸x⟩
 |_,_,.cons x y,i+1,a,h=>by simpa using gW.get y (by simpa using h)
theorem gW.get_none{R:α->β->Prop}{l:List α}{l':List β}(h:gW R l l'){i:Nat}(hi:l[i]?=none):l'[i]?=none:=by
 rw[List.getElem?_eq_none_iff]at hi⊢;rw[<-h.length]; exact hi
theorem gW.Jw{R:α->β->Prop}:∀{l:List α}{l':List β},l.length=l'.length->(∀(i:Nat)a b,l[i]?=some a->l'[i]?=some b->R a b)->gW R l l'
 |[],[],_,_=>.nil
 |a::l,b::l',h,g=>.cons (g 0 a b (by simp) (by simp)) (gW.Jw (by simpa using h) λi x y B O=>g (i+1) x y (by simpa using B) (by simpa using O))
 |[],b::l',h,_=>by simp at h
 |a::l,[],h,_=>by simp at h
theorem gW.take{R:α->β->Prop}:∀(n:Nat){l:List α}{l':List β},gW R l l'->gW R (l.take n) (l'.take n)
 |0,_,_,_=>by simpa using .nil
 |n+1,_,_,.nil=>by simpa using .nil
 |n+1,_,_,.cons a b=>by simpa using .cons a (gW.take n b)
theorem gW.drop{R:α->β->Prop}:∀(n:Nat){l:List α}{l':List β},gW R l l'->gW R (l.drop n) (l'.drop n)
 |0,_,_,h=>by simpa using h
 |n+1,_,_,.nil=>by simpa using .nil
 |n+1,_,_,.cons a b=>by simpa using gW.drop n b
theorem gW.set{R:α->β->Prop}:∀{l:List α}{l':List β},gW R l l'->∀(i:Nat){a:α}{b:β},R a b->gW R (l.set i a) (l'.set i b)
 |_,_,.nil,_,_,_,_=>by simpa using .nil
 |_,_,.cons x y,0,_,_,h=>by simpa using .cons h y
 |_,_,.cons x y,i+1,_,_,h=>by simpa using .cons x (gW.set y i h)
theorem gW.map{γ δ:Type}{R:α->β->Prop}{S:γ->δ->Prop}{f:α->γ}{g:β->δ}(h:∀a b,R a b->S (f a) (g b)):∀{l:List α}{l':List β},gW R l l'->gW S (l.map f) (l'.map g)
 |_,_,.nil=>.nil
 |_,_,.cons a b=>.cons (h _ _ a) (gW.map h b)
theorem gW.refl{R:α->α->Prop}:∀{l:List α},(∀a∈l,R a a)->gW R l l
 |[],_=>.nil
 |a::l,h=>.cons (h a (by simp)) (gW.refl λx B=>h x (by simp[B]))
structure Ren where
 blk:Nat->Option Nat
 ch:Nat->Option Nat
 loose:Nat->Prop
 ok:Oper->Prop
 je:bH->Prop
 kK:Prop
 dead:Nat->Prop
 dm:Nat->Nat
 ur:Nat->Nat->Option Value
 n5:Nat->Option Obj
 G:Nat
 qT:∀r r',blk r=some r'->(r<G↔r'<G)
 inj:∀r s t,blk r=some t->blk s=some t->r=s
 xH:∀r s t,ch r=some t->ch s=some t->r=s
structure Ren.Le(m m':Ren):Prop where
 blk:∀r r',m.blk r=some r'->m'.blk r=some r'
 ch:∀r r',m.ch r=some r'->m'.ch r=some r'
 loose:∀r r',m.blk r=some r'->(m'.loose r↔m.loose r)
 less:∀r,m'.loose r->m.loose r
 ok:m'.ok=m.ok
 je:m'.je=m.je
 kK:m'.kK=m.kK
 G:m'.G=m.G
 dead:m'.dead=m.dead
 dm:m'.dm=m.dm
 ur:m'.ur=m.ur
theorem Ren.Le.refl(m:Ren):m.Le m:=⟨λ_ _ h=>h,λ_ _ h=>h,λ_ _ _=>Iff.rfl,λ_ h=>h,rfl,rfl,rfl,rfl,rfl,rfl,rfl⟩
theorem Ren.Le.trans{m m' B:Ren}(h:m.Le m')(h':m'.Le B):m.Le B:=
 ⟨λr r' x=>h'.blk r r' (h.blk r r' x),λr r' x=>h'.ch r r' (h.ch r r' x),λr r' x=>(h'.loose r r' (h.blk r r' x)).trans (h.loose r r' x),λr x=>h.less r (h'.less r x),h'.ok.trans h.ok,h'.je.trans h.je,h'.kK.trans h.kK,h'.G.trans h.G,h'.dead.trans h.dead,h'.dm.trans h.dm,h'.ur.trans h.ur⟩
inductive AR(m:Ren):Addr->Addr->Prop
 |mk {b b' o s}:m.blk b=some b'->AR m ⟨b,o,s⟩ ⟨b',o,s⟩
theorem AR.blk{m:Ren}{a a':Addr}(h:AR m a a'):m.blk a.block=some a'.block:=by cases h; assumption
theorem AR.off{m:Ren}{a a':Addr}(h:AR m a a'):a'.off=a.off:=by cases h; rfl
theorem AR.spot{m:Ren}{a a':Addr}(h:AR m a a'):a'.spot=a.spot:=by cases h; rfl
theorem AR.mono{m m':Ren}(h:m.Le m'){a a':Addr}(x:AR m a a'):AR m' a a':=by cases x with|mk hb=>exact .mk (h.blk _ _ hb)
theorem AR.add{m:Ren}{a a':Addr}(h:AR m a a')(n:Nat):AR m (a.add n) (a'.add n):=by
 cases h with
 |mk hb=>unfold Addr.add; split<;>exact .mk hb
theorem AR.eq_iff{m:Ren}{a a' b b':Addr}(h:AR m a a')(h':AR m b b'):(a=b↔a'=b'):=by
 cases h with
 |mk hb=>cases h' with
  |mk B=>
   constructor
   .intro e; cases e; rw[hb]at B; cases B; rfl
   .intro e; cases e; have:=m.inj _ _ _ hb B; subst this; rfl
theorem AR.ui{m:Ren}{a a' b b':Addr}(h:AR m a a')(h':AR m b b'):(a.block=b.block↔a'.block=b'.block):=by
 cases h with
 |mk hb=>cases h' with
  |mk B=>
   constructor
   .intro e; subst e; rw[hb]at B; cases B; rfl
   .intro e; subst e; exact m.inj _ _ _ hb B
inductive Oc(m:Ren):Fn->Fn->Prop
 |func (f):m.je f->Oc m (.func f) (.func f)
 |yield {l l'}:m.blk l=some l'->Oc m (.yield l) (.yield l')
theorem Oc.mono{m m':Ren}(h:m.Le m'){a a':Fn}(x:Oc m a a'):Oc m' a a':=by
 cases x with
 |func f B=>exact .func f (h.je▸B)
 |yield hb=>exact .yield (h.blk _ _ hb)
def Qq:Value->Prop
 |.pointer (some _)|.slice (some _) _ _|.map (some _)|.chan (some _)|.iface ..|.float ..|.complex ..|.tuple _|.func (.func _) _ _|.func (.yield _) _ _|.func (.methodOf _ _) _ _|.func (.via ..) _ _=>True
 |_=>False
inductive VR(m:Ren):Value->Value->Prop
 |jw (v):Qq v->VR m (.tuple #[]) v
 |bool (b):VR m (.bool b) (.bool b)
 |int (k n):VR m (.int k n) (.int k n)
 |string (s):VR m (.string s) (.string s)
 |jY:VR m (.pointer none) (.pointer none)
 |ptr {a a'}:AR m a a'->VR m (.pointer (some a)) (.pointer (some a'))
 |jg (l c):VR m (.slice none l c) (.slice none l c)
 |slice {a a'} (l c):AR m a a'->VR m (.slice (some a) l c) (.slice (some a') l c)
 |oV:VR m (.map none) (.map none)
 |map {r r'}:m.blk r=some r'->VR m (.map (some r)) (.map (some r'))
 |gone {r}:m.dead r->VR m (.map (some r)) (.map (some (m.dm r)))
 |lF:VR m (.chan none) (.chan none)
 |chan {r r'}:m.ch r=some r'->VR m (.chan (some r)) (.chan (some r'))
 |func {fn fn' f f' c c'}:Oc m fn fn'->f.size=f'.size->(∀i(h:i<f.size)(h':i<f'.size),VR m f[i] f'[i])->c.size=c'.size->(∀i(h:i<c.size)(h':i<c'.size),VR m c[i] c'[i])->VR m (.func fn f c) (.func fn' f' c')
 |nilFunc:VR m .nilFunc .nilFunc
 |iface (t) {v v'}:VR m v v'->VR m (.iface t v) (.iface t v')
 |nilIface:VR m .nilIface .nilIface
 |agg {c c'}:c.size=c'.size->(∀i(h:i<c.size)(h':i<c'.size),VR m c[i] c'[i])->VR m (.agg c) (.agg c')
 |tuple {c c'}:c.size=c'.size->(∀i(h:i<c.size)(h':i<c'.size),VR m c[i] c'[i])->VR m (.tuple c) (.tuple c')
 |sV {lf n f c}:lf.size=f.size->(∀i(h:i<lf.size)(h':i<f.size),VR m lf[i] f[i])->(∀t w,f[0]?=some (.iface t w)->∃x,lf[0]?=some (.iface t x))->VR m (.func (.method "") lf #[.func (.method n) f c]) (.func (.method n) f c)
theorem VR.mono{m m':Ren}(h:m.Le m'){v v':Value}(x:VR m v v'):VR m' v v':=by
 induction x with
 |jw v hv=>exact .jw v hv
 |sV B _ U O=>exact .sV B O U
 |bool|int|string|jY|jg|oV|lF|nilFunc|nilIface=>constructor
 |ptr Y=>exact .ptr (Y.mono h)
 |slice l c Y=>exact .slice l c (Y.mono h)
 |map hb=>exact .map (h.blk _ _ hb)
 |gone hd=>rw[<-h.dm]; exact .gone (h.dead▸hd)
 |chan hb=>exact .chan (h.ch _ _ hb)
 |func hf B _ U _ i1 i2=>exact .func (hf.mono h) B i1 U i2
 |iface t _ O=>exact .iface t O
 |agg B _ O=>exact .agg B O
 |tuple B _ O=>exact .tuple B O
def io(m:Ren)(c c':Array Value):Prop:=gW (VR m) c.toList c'.toList
theorem io.mono{m m':Ren}(h:m.Le m'){c c':Array Value}(x:io m c c'):io m' c c':=gW.mono (λ_ _=>VR.mono h) x
theorem io.size{m:Ren}{c c':Array Value}(h:io m c c'):c.size=c'.size:=by simpa using gW.length h
theorem io.kE{m:Ren}{c c':Array Value}(O:c.size=c'.size)(h:∀i(h:i<c.size)(h':i<c'.size),VR m c[i] c'[i]):io m c c':=by
 refine gW.Jw (by simpa using O) λi a b B hb=>?_;simp only[az]at B hb;obtain⟨U,rfl⟩:=ay.1 B;obtain⟨Y,rfl⟩:=ay.1 hb;exact h i U Y
theorem io.idx{m:Ren}{c c':Array Value}(x:io m c c'):∀i(h:i<c.size)(h':i<c'.size),VR m c[i] c'[i]:=by
 intro i h h';obtain⟨b,hb,B⟩:=gW.get x (i:=i) (a:=c[i]) (by simp[h]);simp only[az,Array.getElem?_eq_getElem h',dc]at hb;exact hb▸B
theorem VR.MW{m:Ren}{c c':Array Value}(h:io m c c'):VR m (.agg c) (.agg c'):=.agg h.size h.idx
theorem VR.nA{m:Ren}{c c':Array Value}(h:io m c c'):VR m (.tuple c) (.tuple c'):=.tuple h.size h.idx
theorem VR.Lh{m:Ren}{fn B:Fn}{f f' c c':Array Value}(O:Oc m fn B)(h:io m f f')(h':io m c c'):VR m (.func fn f c) (.func B f' c'):=.func O h.size h.idx h'.size h'.idx
theorem VR.undef(m:Ren):VR m undef undef:=.jw _ trivial
theorem io.get{m:Ren}{c c':Array Value}(h:io m c c'){i:Nat}{v:Value}(B:c[i]?=some v):∃v',c'[i]?=some v'/\VR m v v':=by simpa using gW.get h (i:=i) (a:=v) (by simpa using B)
theorem io.get_none{m:Ren}{c c':Array Value}(h:io m c c'){i:Nat}(B:c[i]?=none):c'[i]?=none:=by simpa using gW.get_none h (i:=i) (by simpa using B)
theorem io.getD{m:Ren}{c c':Array Value}(h:io m c c')(i:Nat):VR m (c.getD i cp) (c'.getD i cp):=by
 simp only[Array.getD_eq_getD_getElem?]
 cases O:c[i]? with
 |none=>rw[h.get_none O]; exact .undef m
 |some v=>obtain⟨v',B,U⟩:=h.get O; simp only[B,dv]; exact U
theorem io.push{m:Ren}{c c':Array Value}(h:io m c c'){v v':Value}(B:VR m v v'):io m (c.push v) (c'.push v'):=by
 unfold io; simp only[aI]; exact gW.append h (.cons B .nil)
theorem io.append{m:Ren}{c c' d d':Array Value}(h:io m c c')(h':io m d d'):io m (c++d) (c'++d'):=by
 unfold io; simp only[aF]; exact gW.append h h'
theorem io.extract{m:Ren}{c c':Array Value}(h:io m c c')(i j:Nat):io m (c.extract i j) (c'.extract i j):=by
 unfold io; simp only[Array.toList_extract,List.extract_eq_take_drop]; exact gW.take _ (gW.drop _ h)
theorem io.set{m:Ren}{c c':Array Value}(h:io m c c')(i:Nat){v v':Value}(B:VR m v v'):io m (c.setIfInBounds i v) (c'.setIfInBounds i v'):=by
 unfold io; simp only[Array.toList_setIfInBounds]; exact gW.set h i B
theorem io.nil(m:Ren):io m #[] #[]:=gW.nil
theorem io.one{m:Ren}{v v':Value}(h:VR m v v'):io m #[v] #[v']:=gW.cons h gW.nil
def Plain:Value->Prop
 |.bool _|.int _ _|.string _|.pointer none|.slice none _ _|.map none|.chan none|.nilFunc|.nilIface=>True
 |_=>False
theorem VR.plain{m:Ren}:∀{v:Value},Plain v->VR m v v:=by
 intro v h
 match v,h with
 |.bool _,_=>constructor
 |.int ..,_=>constructor
 |.string _,_=>constructor
 |.pointer none,_=>constructor
 |.slice none ..,_=>constructor
 |.map none,_=>constructor
 |.chan none,_=>constructor
 |.nilFunc,_=>constructor
 |.nilIface,_=>constructor
theorem VR.cells{m:Ren}{v v':Value}(h:VR m v v'):io m v.cells v'.cells:=by
 cases h with
 |jw v B=>
  have:v'.cells=#[v']:=by cases v'<;>first|rfl|exact B.elim
  rw[this];exact io.one (.jw _ B)
 |sV a b c=>exact io.one (.sV a b c)
 |agg O hi=>exact io.kE O hi
 |bool|int|string|jY|jg|oV|lF|nilFunc|nilIface=>exact io.one (by constructor)
 |ptr h=>exact io.one (.ptr h)
 |slice l c h=>exact io.one (.slice l c h)
 |map h=>exact io.one (.map h)
 |gone h=>exact io.one (.gone h)
 |chan h=>exact io.one (.chan h)
 |func a b c d e=>exact io.one (.func a b c d e)
 |iface t h=>exact io.one (.iface t h)
 |tuple a b=>exact io.one (.tuple a b)
theorem io.replicate{m:Ren}{v v':Value}(n:Nat)(h:VR m v v'):io m (aM n v) (aM n v'):=by
 refine io.kE (by simp) λi B O=>?_;simpa using h
theorem io.refl{m:Ren}{c:Array Value}(h:∀v∈c.toList,VR m v v):io m c c:=gW.refl h
end
section
variable {m':Ren}
def xq:Operand->Prop
 |.tmp _=>True
 |.const v=>Plain v
 |_=>False
def jn(ok:Oper->Prop):Code->Prop
 |.skip|.exit _|.label _|.goto _|.ret=>True
 |.region _ ops _=>∀o∈ops.toList,ok o
 |.seq a b=>jn ok a/\jn ok b
 |.cond c a b=>xq c/\jn ok a/\jn ok b
 |.block _ c|.loop c|.scope c=>jn ok c
 |.rangeFunc f _ a b=>xq f/\jn ok a/\jn ok b
 |.refuse _=>False
structure yj(m:Ren)(l l':Loop):Prop where
 state:l.state=l'.state
 pending:l.pending=l'.pending
 U1:∀c,l.pending=some c->jn m.ok c
 fn:l.fn=l'.fn
 tmps:io m l.tmps l'.tmps
 params:l.params=l'.params
 assign:l.assign=l'.assign
 body:l.body=l'.body
 Un:jn m.ok l.assign
 yW:jn m.ok l.body
 defers:m.blk l.defers=some l'.defers
def Vw(m:Ren)(f f':Fn)(c c':Array Value):Prop:=(Oc m f f'/\io m c c')\/(f=.method ""/\∃n,f'=.method n)
theorem Vw.mono{m:Ren}(h:m.Le m'){f f':Fn}{c c':Array Value}(x:Vw m f f' c c'):Vw m' f f' c c':=x.imp (λy=>⟨y.1.mono h,y.2.mono h⟩) id
inductive TR(m:Ren):Target->Target->Prop
 |fn {f f' c c'}:Vw m f f' c c'->TR m (.fn f c) (.fn f' c')
 |nil:TR m .nil .nil
 |builtin (a t c):m.kK->TR m (.builtin .close a t c) (.builtin .close a t c)
 |mark {r} (a t c):m.dead r->TR m (.collected r) (.builtin .close a t c)
 |collected {r r'}:m.blk r=some r'->TR m (.collected r) (.collected r')
structure DR(m:Ren)(d d':Deferred):Prop where
 target:TR m d.target d'.target
 args:io m d.args d'.args
structure vm(m:Ren)(e e':MapEntry):Prop where
 key:VR m e.key e'.key
 val:VR m e.val e'.val
 born:e'.born=e.born
inductive OR(m:Ren):Obj->Obj->Prop
 |cells {c c'} (e f f'):io m c c'->OR m (.cells c e f) (.cells c' e f')
 |map {es es'} (clock):gW (vm m) es.toList es'.toList->OR m (.map es clock) (.map es' clock)
 |number {a a'} (l):AR m a a'->OR m (.number a l) (.number a' l)
 |stringIter (s p):OR m (.stringIter s p) (.stringIter s p)
 |j9 (a b c):OR m (.mapIter none a b c) (.mapIter none a b c)
 |mapIter {r r'} (a b c):m.blk r=some r'->OR m (.mapIter (some r) a b c) (.mapIter (some r') a b c)
 |loop {l l'}:yj m l l'->OR m (.loop l) (.loop l')
 |iR:OR m (.deferred none) (.deferred none)
 |deferred {ds ds'}:gW (DR m) ds ds'->OR m (.deferred (some ds)) (.deferred (some ds'))
theorem TR.mono{m:Ren}(h:m.Le m'){a a':Target}(x:TR m a a'):TR m' a a':=by
 cases x with
 |fn B=>exact .fn (B.mono h)
 |nil=>exact .nil
 |builtin a t c hm=>exact .builtin a t c (h.kK▸hm)
 |mark a t c O=>exact .mark a t c (h.dead▸O)
 |collected hb=>exact .collected (h.blk _ _ hb)
theorem DR.mono{m:Ren}(h:m.Le m'){a a':Deferred}(x:DR m a a'):DR m' a a':=⟨x.target.mono h,x.args.mono h⟩
theorem vm.mono{m:Ren}(h:m.Le m'){a a':MapEntry}(x:vm m a a'):vm m' a a':=⟨x.key.mono h,x.val.mono h,x.born⟩
theorem yj.mono{m:Ren}(h:m.Le m'){a a':Loop}(x:yj m a a'):yj m' a a':=
 ⟨x.state,x.pending,λc B=>h.ok▸x.U1 c B,x.fn,x.tmps.mono h,x.params,x.assign,x.body,h.ok▸x.Un,h.ok▸x.yW,h.blk _ _ x.defers⟩
theorem OR.mono{m:Ren}(h:m.Le m'){a a':Obj}(x:OR m a a'):OR m' a a':=by
 cases x with
 |cells e f f' B=>exact .cells e f f' (B.mono h)
 |map clock O=>exact .map clock (gW.mono (λ_ _ y=>y.mono h) O)
 |number l U=>exact .number l (U.mono h)
 |stringIter s p=>exact .stringIter s p
 |j9 a b c=>exact .j9 a b c
 |mapIter a b c hb=>exact .mapIter a b c (h.blk _ _ hb)
 |loop Y=>exact .loop (Y.mono h)
 |iR=>exact .iR
 |deferred hd=>exact .deferred (gW.mono (λ_ _ y=>y.mono h) hd)
def ij(P:Program){α:Type}:Sem α->Prop
 |.pure _=>False
 |.load _ _ _=>False
 |.store _ _ (.agg _) _=>True
 |.store _ _ (.tuple _) _=>True
 |.store _ _ _ _=>False
 |.new _ k=>∀r,ij P (k r)
 |.shape _ k=>∀r,ij P (k r)
 |.freeze _ _ k=>ij P k
 |.frozen _ k=>∀r,ij P (k r)
 |.getObj _ k=>∀r,ij P (k r)
 |.setObj _ _ k=>ij P k
 |.choose _ k=>∀r,ij P (k r)
 |.sys _ k=>∀r,ij P (k r)
 |.program k=>ij P (k P)
 |.mark _ k=>ij P k
 |.halt (.unsupported (.initOrder _))=>False
 |.halt (.unsupported _)=>True
 |.halt (.stuck _)=>True
 |.halt (.throw _)=>True
 |.halt _=>False
def j5{α:Type}:Sem α->Prop
 |.pure _=>True
 |.load _ _ k=>∀v,j5 (k v)
 |.store _ _ _ k=>j5 k
 |.new _ k=>∀r,j5 (k r)
 |.shape _ k=>∀r,j5 (k r)
 |.freeze _ _ k=>j5 k
 |.frozen _ k=>∀r,j5 (k r)
 |.getObj _ k=>∀r,j5 (k r)
 |.setObj _ _ k=>j5 k
 |.choose _ _=>False
 |.sys _ k=>∀r,j5 (k r)
 |.program k=>∀P,j5 (k P)
 |.mark _ k=>j5 k
 |.halt _=>True
def Qh:Mark->Prop
 |.noRoom|.extern _=>True
 |_=>False
inductive gC(P:Program){α β:Type}(RA:Ren->α->β->Prop):Ren->Sem α->Sem β->Prop
 |gF {m s s'}:ij P s->gC P RA m s s'
 |pure {m a b}:RA m a b->gC P RA m (.pure a) (.pure b)
 |load {m a a' k k'}:AR m a a'->(∀v v',VR m v v'->gC P RA m (k v) (k' v'))->gC P RA m (.load .plain a k) (.load .plain a' k')
 |store {m a a' v v' k k'}:AR m a a'->VR m v v'->gC P RA m k k'->gC P RA m (.store .plain a v k) (.store .plain a' v' k')
 |new {m o o' k k'}:OR m o o'->(∀e c f,o=.cells e c f->∃e',o'=.cells e' c f)->(∀m' r r',m.Le m'->m'.blk r=some r'->¬m'.loose r->gC P RA m' (k r) (k' r'))->gC P RA m (.new o k) (.new o' k')
 |s8 {m c b x s r t c' b' x' s' r' t' k k'}:m.kK->(∀m' i i',m.Le m'->m'.ch i=some i'->gC P RA m' (k i) (k' i'))->gC P RA m (.new (.chan c b x s r t) k) (.new (.chan c' b' x' s' r' t') k')
 |shape {m r r' k k'}:m.blk r=some r'->(∀x,gC P RA m (k x) (k' x))->gC P RA m (.shape r k) (.shape r' k')
 |freeze {m a a' n k k'}:AR m a a'->¬m.loose a.block->gC P RA m k k'->gC P RA m (.freeze a n k) (.freeze a' n k')
 |frozen {m a a' k k'}:AR m a a'->¬m.loose a.block->(∀x,gC P RA m (k x) (k' x))->gC P RA m (.frozen a k) (.frozen a' k')
 |getObj {m r r' k k'}:m.blk r=some r'->(∀o o',OR m o o'->gC P RA m (k o) (k' o'))->gC P RA m (.getObj r k) (.getObj r' k')
 |setObj {m r r' o o' k k'}:m.blk r=some r'->OR m o o'->(∀c e f,o≠.cells c e f)->gC P RA m k k'->gC P RA m (.setObj r o k) (.setObj r' o' k')
 |choose {m q k k'}:(∀n,gC P RA m (k n) (k' n))->gC P RA m (.choose q k) (.choose q k')
 |env {m k k'}:(∀r,gC P RA m (k r) (k' r))->gC P RA m (.sys .env k) (.sys .env k')
 |program {m k k'}:gC P RA m (k P) (k' P)->gC P RA m (.program k) (.program k')
 |mark {m x k k'}:Qh x->gC P RA m k k'->gC P RA m (.mark x k) (.mark x k')
 |gone {m r k s'}:m.dead r->gC P RA m (.getObj r k) s'
 |panic {m v v'}:VR m v v'->gC P RA m (.halt (.panic v)) (.halt (.panic v'))
section
variable {P:Program} {α β γ δ:Type}
theorem ij.bind{s:Sem α}{f:α->Sem γ}(h:ij P s):ij P (s.bind f):=by
 induction s with
 |pure a=>exact h.elim
 |load m a k B=>exact h.elim
 |store m a v k B=>cases v<;>exact h
 |new o k B=>exact λv=>B v (h v)
 |shape r k B=>exact λv=>B v (h v)
 |freeze a n k B=>exact B h
 |frozen a k B=>exact λv=>B v (h v)
 |getObj r k B=>exact λv=>B v (h v)
 |setObj r o k B=>exact B h
 |choose q k B=>exact λv=>B v (h v)
 |sys c k B=>exact λv=>B v (h v)
 |program k B=>exact B P h
 |mark m k B=>exact B h
 |halt x=>cases x<;>first|exact h|(rename_i u; cases u<;>exact h)
theorem gC.bind{RA:Ren->α->β->Prop}{RB:Ren->γ->δ->Prop}{m:Ren}{s:Sem α}{s':Sem β}{f:α->Sem γ}{f':β->Sem δ}
  (h:gC P RA m s s') (O:∀m' a b,m.Le m'->RA m' a b->gC P RB m' (f a) (f' b)):gC P RB m (s.bind f) (s'.bind f'):=by
 induction h with
 |gF hd=>exact .gF hd.bind
 |pure hr=>exact O _ _ _ (.refl _) hr
 |load U _ B=>exact .load U λv v' hv=>B v v' hv O
 |store U hv _ B=>exact .store U hv (B O)
 |new ho hc _ B=>exact .new ho hc λm' r r' hl hb hn=>B m' r r' hl hb hn λY a b aa hr=>O Y a b (hl.trans aa) hr
 |s8 hm _ B=>exact .s8 hm λm' i i' hl hb=>B m' i i' hl hb λY a b aa hr=>O Y a b (hl.trans aa) hr
 |shape hb _ B=>exact .shape hb λx=>B x O
 |freeze U hn _ B=>exact .freeze U hn (B O)
 |frozen U hn _ B=>exact .frozen U hn λx=>B x O
 |getObj hb _ B=>exact .getObj hb λo o' ho=>B o o' ho O
 |setObj hb ho hc _ B=>exact .setObj hb ho hc (B O)
 |choose _ B=>exact .choose λn=>B n O
 |env _ B=>exact .env λn=>B n O
 |program _ B=>exact .program (B O)
 |mark hm _ B=>exact .mark hm (B O)
 |gone hd=>exact .gone hd
 |panic hv=>exact .panic hv
theorem gC.mono{RA RB:Ren->α->β->Prop}{m:Ren}{s:Sem α}{s':Sem β}(h:gC P RA m s s')(O:∀m' a b,m.Le m'->RA m' a b->RB m' a b):gC P RB m s s':=by
 induction h with
 |gF hd=>exact .gF hd
 |pure x=>exact .pure (O _ _ _ (.refl _) x)
 |load U _ B=>exact .load U λv v' hv=>B v v' hv O
 |store U hv _ B=>exact .store U hv (B O)
 |new ho hc _ B=>exact .new ho hc λm' r r' hl hb hn=>B m' r r' hl hb hn λY a b aa x=>O Y a b (hl.trans aa) x
 |s8 hm _ B=>exact .s8 hm λm' i i' hl hb=>B m' i i' hl hb λY a b aa x=>O Y a b (hl.trans aa) x
 |shape hb _ B=>exact .shape hb λx=>B x O
 |freeze U hn _ B=>exact .freeze U hn (B O)
 |frozen U hn _ B=>exact .frozen U hn λx=>B x O
 |getObj hb _ B=>exact .getObj hb λo o' ho=>B o o' ho O
 |setObj hb ho hc _ B=>exact .setObj hb ho hc (B O)
 |choose _ B=>exact .choose λn=>B n O
 |env _ B=>exact .env λn=>B n O
 |program _ B=>exact .program (B O)
 |mark hm _ B=>exact .mark hm (B O)
 |gone hd=>exact .gone hd
 |panic hv=>exact .panic hv
end
def inside(f:Nat×Nat)(o:Nat):Prop:=f.1<=o/\o<f.2
def qF:Value->Prop
 |.agg _|.tuple _=>True
 |_=>False
def VT(m:Ren)(w w':World):Prop:=∀r o v,m.ur r o=some v->∃r',m.blk r=some r'/\∀c e f c' B f' x,w.heap[r]?=some (.cells c e f)->w'.heap[r']?=some (.cells c' B f')->c[o]?=some x->qF x->c'[o]?=some v
structure WR(m:Ren)(w w':World):Prop where
 obj:∀r r',m.blk r=some r'->∃o o',w.heap[r]?=some o/\w'.heap[r']?=some o'/\OR m o o'
 fz:∀r r' c e f c' e' f',m.blk r=some r'->w.heap[r]?=some (.cells c e f)->w'.heap[r']?=some (.cells c' e' f')->¬m.loose r->f'=f
 all:∀r r' c e f c' e' f',m.blk r=some r'->w.heap[r]?=some (.cells c e f)->w'.heap[r']?=some (.cells c' e' f')->m.loose r->∀o,o<c.size->inside f o
 NY:∀r r',m.ch r=some r'->r<w.heap.size/\r'<w'.heap.size
 Od:m.G<=w.heap.size
 LR:m.G<=w'.heap.size
 os:w'.os=w.os
 n5:∀r o,m.n5 r=some o->w.heap[r]?=some o/\∃c b x s y t,o=.chan c b x s y t
 lk:∀r r',m.blk r=some r'->m.loose r->∃c e f,w.heap[r]?=some (.cells c e f)
 dead:∀r,m.dead r->m.blk r=none/\∃c e f,w.heap[r]?=some (.cells c e f)
 ur:VT m w w'
def Al(w w':World):Prop:=∀i q,w'.tape (w'.drawn+i) q=w.tape (w.drawn+i) q
def qY(m:Ren)(e:Event):Prop:=
 match e.loc with
 |.cell a'=>e.sync=false/\∃a,AR m a a'/\(e.write=true->¬m.loose a.block)
 |.obj r'=>e.sync=false/\∃r,m.blk r=some r'/\¬m.loose r
 |.mark k=>Qh k
 |.output=>True
 |_=>False
structure jj(m gE:Ren)(w w₁:World):Prop where
 old:∀r',r'<w.heap.size->(∀r,m.blk r≠some r')->w₁.heap[r']?=w.heap[r']?
 size:w.heap.size<=w₁.heap.size
 fresh:∀r',w.heap.size<=r'->r'<w₁.heap.size->(∃r,gE.blk r=some r')\/(∃r,gE.ch r=some r')
 news:∀r r',gE.blk r=some r'->m.blk r=some r'\/w.heap.size<=r'
 UP:∀r r',gE.ch r=some r'->m.ch r=some r'\/w.heap.size<=r'
 tape:w₁.tape=w.tape
 output:w₁.output=w.output
 os:w₁.os=w.os
 oY:¬m.kK->gE.ch=m.ch
 n5:gE.n5=m.n5
 still:∀r r',m.blk r=some r'->m.loose r->w₁.heap[r']?=w.heap[r']?
theorem jj.refl(m:Ren)(w:World):jj m m w w:=⟨λ_ _ _=>rfl,dl _,λr' h h'=>absurd h' (by omega),λ_ _ h=>.inl h,λ_ _ h=>.inl h,rfl,rfl,rfl,λ_=>rfl,rfl,λ_ _ _ _=>rfl⟩
theorem qY.mono{m:Ren}(h:m.Le m'){e:Event}(x:qY m e):qY m' e:=by
 unfold qY at x⊢;split<;>simp_all only
 .obtain⟨_,a,B,O⟩:=x;exact⟨trivial,a,B.mono h,λU=>by rw[h.loose _ _ B.blk]; exact O U⟩
 .obtain⟨_,a,B,Y⟩:=x;exact⟨trivial,a,h.blk _ _ B,λy=>Y ((h.loose _ _ B).1 y)⟩
theorem jj.trans{m gE m₂:Ren}{w w₁ B:World}(Y:m.Le gE)(O:gE.Le m₂)(h:jj m gE w w₁)(h':jj gE m₂ w₁ B):jj m m₂ w B:=by
 refine⟨λr' U hn=>?_,dj h.size h'.size,λr' U aa=>?_,λr r' hb=>?_,λr r' hb=>?_,h'.tape.trans h.tape,h'.output.trans h.output,h'.os.trans h.os,λhm=>(h'.oY (by rw[Y.kK]; exact hm)).trans (h.oY hm),h'.n5.trans h.n5,λr r' hb hx=>(h'.still r r' (Y.blk _ _ hb) ((Y.loose _ _ hb).2 hx)).trans (h.still r r' hb hx)⟩
 .rw[h'.old r' (Nat.lt_of_lt_of_le U h.size) λr hb=>?_,h.old r' U hn];rcases h.news r r' hb with x|x
  .exact hn r x
  .omega
 .by_cases hc:r'<w₁.heap.size
  .rcases h.fresh r' U hc with⟨r,x⟩|⟨r,x⟩
   .exact .inl ⟨r,O.blk _ _ x⟩
   .exact .inr ⟨r,O.ch _ _ x⟩
  .exact h'.fresh r' (by omega) aa
 .rcases h'.news r r' hb with x|x
  .exact h.news r r' x
  .exact .inr (dj h.size x)
 .rcases h'.UP r r' hb with x|x
  .exact h.UP r r' x
  .exact .inr (dj h.size x)
section
variable {m:Ren} {w w':World}
theorem WR.lt(h:WR m w w'){r r':Nat}(hb:m.blk r=some r'):r<w.heap.size/\r'<w'.heap.size:=by
 obtain⟨o,o',B,O,_⟩:=h.obj r r' hb;exact⟨(ay.1 B).1,(ay.1 O).1⟩
theorem WR.cell(h:WR m w w'){a a':Addr}(B:AR m a a'){v:Value}(hv:w.cell? a=some v):∃v',w'.cell? a'=some v'/\VR m v v':=by
 cases B with
 |@mk b b' o s hb=>
 obtain⟨x,x',O,U,Y⟩:=h.obj b b' hb;unfold dB at hv⊢;simp only[O,U]at hv⊢
 cases Y with
 |cells e f f' hc=>
  simp only at hv⊢;split at hv
  .cases hv
  .rename_i hs;rw[if_neg hs];exact hc.get hv
 |_=>cases hv
theorem WR.PA(h:WR m w w'){a a':Addr}(B:AR m a a')(Y:w.cell? a=none)(P:Program)(b:Bool):∃y,w.farLoad P a b=.error (.stuck y):=by
 cases B with
 |@mk b b' o s hb=>
 obtain⟨x,x',O,h2,U⟩:=h.obj b b' hb;unfold World.farLoad dA;simp only[O];cases U<;>exact⟨_,rfl⟩
theorem WR.Lb(h:WR m w w'){a a':Addr}(B:AR m a a')(Y:w.cell? a=none)(P:Program)(v:Value)(b:Bool):∃y,w.farStore P a v b=.error (.stuck y):=by
 cases B with
 |@mk b b' o s hb=>
 obtain⟨x,x',O,h2,U⟩:=h.obj b b' hb;unfold World.farStore dA;simp only[O];cases U<;>exact⟨_,rfl⟩
end
end
section
variable {a':Addr} {es:Array Event} {h:Array Obj} {r r':Nat} {o o':Obj} {P:Program} {al:Prop} {α β:Type}
def mU:Halt->Prop
 |.unsupported (.initOrder _)=>False
 |.unsupported _=>True
 |.stuck _=>True
 |.throw _=>True
 |_=>False
theorem ij.run{s:Sem α}(h:ij P s):∀w:World,∃x w₁,s.run P w=.halt x w₁/\mU x:=by
 induction s with
 |pure a=>exact h.elim
 |load m a k B=>exact h.elim
 |store m a v k B=>
  intro w;cases v<;>first|exact h.elim|exact⟨_,_,rfl,trivial⟩
 |new o k B=>exact λw=>B _ (h _) _
 |shape r k B=>exact λw=>B _ (h _) _
 |freeze a n k B=>exact λw=>B h _
 |frozen a k B=>exact λw=>B _ (h _) _
 |getObj r k B=>
  intro w;simp only[cS];split
  .exact⟨_,_,rfl,trivial⟩
  .exact B _ (h _) _
  .exact⟨_,_,rfl,trivial⟩
 |setObj r o k B=>
  intro w;simp only[cS];split
  .exact⟨_,_,rfl,trivial⟩
  .exact B h _
  .exact⟨_,_,rfl,trivial⟩
 |choose q k B=>
  intro w;simp only[cS];split
  .exact B _ (h _) _
  .exact B _ (h _) _
 |sys c k B=>exact λw=>B _ (h _) _
 |program k B=>exact λw=>B P h _
 |mark m k B=>exact λw=>B h _
 |halt x=>
  intro w;refine⟨x,w,rfl,?_⟩;cases x<;>first|exact h.elim|trivial|(rename_i u; cases u<;>first|exact h.elim|trivial)
def Ren.ext(m:Ren)(r r':Nat)(_h:m.blk r=none)(h':∀s,m.blk s≠some r')(O:r<m.G↔r'<m.G):Ren where
 blk:=λs=>if s=r then some r' else m.blk s
 ch:=m.ch
 loose:=λs=>if s=r then False else m.loose s
 ok:=m.ok
 je:=m.je
 kK:=m.kK
 dead:=m.dead
 dm:=m.dm
 ur:=m.ur
 n5:=m.n5
 G:=m.G
 qT:=λa b B=>by
  by_cases ea:a=r
  .simp[ea]at B; subst B; rw[ea]; exact O
  .simp[ea]at B; exact m.qT _ _ B
 inj:=λa b t B hb=>by
  by_cases ea:a=r<;>by_cases eb:b=r
  .rw[ea,eb]
  .simp[ea,eb]at B hb; subst B; exact absurd hb (h' _)
  .simp[ea,eb]at B hb; subst hb; exact absurd B (h' _)
  .simp[ea,eb]at B hb; exact m.inj _ _ _ B hb
 xH:=m.xH
def Ren.vj(m:Ren)(r r':Nat)(_h:m.ch r=none)(h':∀s,m.ch s≠some r'):Ren where
 blk:=m.blk
 ch:=λs=>if s=r then some r' else m.ch s
 loose:=m.loose
 ok:=m.ok
 je:=m.je
 kK:=m.kK
 dead:=m.dead
 dm:=m.dm
 ur:=m.ur
 n5:=m.n5
 G:=m.G
 qT:=m.qT
 inj:=m.inj
 xH:=λa b t B hb=>by
  by_cases ea:a=r<;>by_cases eb:b=r
  .rw[ea,eb]
  .simp[ea,eb]at B hb; subst B; exact absurd hb (h' _)
  .simp[ea,eb]at B hb; subst hb; exact absurd B (h' _)
  .simp[ea,eb]at B hb; exact m.xH _ _ _ B hb
theorem Ren.xr{m:Ren}(h:m.blk r=none)(h':∀s,m.blk s≠some r')(O:r<m.G↔r'<m.G):m.Le (m.ext r r' h h' O):=by
 refine⟨λs s' B=>?_,λ_ _ x=>x,λs s' B=>?_,λs B=>?_,rfl,rfl,rfl,rfl,rfl,rfl,rfl⟩
 .have:s≠r:=λe=>by rw[e,h]at B; cases B
  simp[Ren.ext,this,B]
 .have:s≠r:=λe=>by rw[e,h]at B; cases B
  simp[Ren.ext,this]
 .by_cases e:s=r
  .simp[Ren.ext,e]at B
  .simpa[Ren.ext,e]using B
theorem Ren.zD{m:Ren}(h:m.ch r=none)(h':∀s,m.ch s≠some r'):m.Le (m.vj r r' h h'):=by
 refine⟨λ_ _ x=>x,λs s' B=>?_,λs s' B=>Iff.rfl,λ_ h=>h,rfl,rfl,rfl,rfl,rfl,rfl,rfl⟩;have:s≠r:=λe=>by rw[e,h]at B; cases B
 simp[Ren.vj,this,B]
section
variable {m:Ren} {w w':World}
theorem WR.jW(h:WR m w w'):m.blk w.heap.size=none:=by
 cases hb:m.blk _ with
 |none=>rfl
 |some r'=>have:=(h.lt hb).1; omega
theorem WR.oh(h:WR m w w'):∀s,m.blk s≠some w'.heap.size:=λs hb=>by have:=(h.lt hb).2; omega
theorem WR.sL(h:WR m w w'):m.ch w.heap.size=none:=by
 cases hb:m.ch _ with
 |none=>rfl
 |some r'=>have:=(h.NY _ _ hb).1; omega
theorem WR.qn(h:WR m w w'):∀s,m.ch s≠some w'.heap.size:=λs hb=>by have:=(h.NY _ _ hb).2; omega
theorem WR.TN(h:WR m w w'):w.heap.size<m.G↔w'.heap.size<m.G:=⟨λx=>absurd h.Od (by omega),λx=>absurd h.LR (by omega)⟩
theorem iM(B:r<h.size):(h.push o)[r]?=h[r]?:=by
 rw[Array.getElem?_push];have:r≠h.size:=by omega
 simp[this]
theorem mF(x:h[r]?=some o):r<h.size:=(ay.1 x).1
theorem kY{x:Obj}(B:h[r]?=some x):(h.push o)[r]?=some x:=by rw[iM (mF B)]; exact B
theorem WR.push(h:WR m w w')(ho:OR m o o')(hc:∀e c f,o=.cells e c f->∃e',o'=.cells e' c f) :
  WR (m.ext w.heap.size w'.heap.size h.jW h.oh h.TN) {w with heap:=w.heap.push o} {w' with heap:=w'.heap.push o'}:=by
 have O:=Ren.xr h.jW h.oh h.TN
 have key:∀r r',(m.ext _ _ h.jW h.oh h.TN).blk r=some r'->(r=w.heap.size/\r'=w'.heap.size)\/(m.blk r=some r'/\r<w.heap.size/\r'<w'.heap.size):=by
  intro r r' hb;by_cases e:r=w.heap.size
  .simp[Ren.ext,e]at hb;exact .inl ⟨e,hb.symm⟩
  .simp[Ren.ext,e]at hb;exact .inr ⟨hb,h.lt hb⟩
 refine⟨λr r' hb=>?_,λr r' c e f c' e' f' hb U Y hn=>?_,λr r' c e f c' e' f' hb U Y hl=>?_,λr r' hb=>?_,by simp; have:=h.Od; first|exact di this|exact this,by simp; have:=h.LR; first|exact di this|exact this,h.os,λr o hr=>⟨kY (h.n5 r o hr).1,(h.n5 r o hr).2⟩,λr r' hb hl=>?_,λr hr=>⟨?_,?_⟩,λr i v hv=>?_⟩
 .rcases key r r' hb with⟨rfl,rfl⟩|⟨B,l1,l2⟩
  .exact⟨o,o',by simp,by simp,ho.mono O⟩
  .obtain⟨x,x',g1,g2,g3⟩:=h.obj r r' B;exact⟨x,x',by rw[iM l1]; exact g1,by rw[iM l2]; exact g2,g3.mono O⟩
 .rcases key r r' hb with⟨rfl,rfl⟩|⟨B,l1,l2⟩
  .simp at U Y;obtain⟨y,hy⟩:=hc _ _ _ U;rw[hy]at Y;cases Y; rfl
  .simp only[iM l1,iM l2]at U Y;refine h.fz r r' _ _ _ _ _ _ B U Y λhl=>hn ((O.loose r r' B).2 hl)
 .rcases key r r' hb with⟨rfl,rfl⟩|⟨B,l1,l2⟩
  .simp[Ren.ext]at hl
  .simp only[iM l1,iM l2]at U Y;exact h.all r r' _ _ _ _ _ _ B U Y ((O.loose r r' B).1 hl)
 .have:=h.NY r r' hb;simp; omega
 .rcases key r r' hb with⟨rfl,rfl⟩|⟨B,l1,l2⟩
  .simp[Ren.ext]at hl
  .obtain⟨c,e,f,hx⟩:=h.lk r r' B ((O.loose r r' B).1 hl);exact⟨c,e,f,kY hx⟩
 .obtain⟨U,c,e,f,hx⟩:=h.dead r hr;have:=Nat.ne_of_lt (mF hx);simp[Ren.ext,this,U]
 .obtain⟨U,c,e,f,hx⟩:=h.dead r hr;exact⟨c,e,f,kY hx⟩
 .obtain⟨r',hb,hp⟩:=h.ur r i v hv;refine⟨r',O.blk _ _ hb,λc e f c' e' f' x g1 g2=>?_⟩;obtain⟨l1,l2⟩:=h.lt hb;simp only[iM l1,iM l2]at g1 g2;exact hp c e f c' e' f' x g1 g2
theorem WR.Po(h:WR m w w')(o o':Obj):WR (m.vj w.heap.size w'.heap.size h.sL h.qn) {w with heap:=w.heap.push o} {w' with heap:=w'.heap.push o'}:=by
 have aa:=Ren.zD h.sL h.qn;refine⟨λr r' hb=>?_,λr r' c e f c' e' f' hb B Y hn=>?_,λr r' c e f c' e' f' hb B Y hl=>?_,λr r' hb=>?_,by simp; have:=h.Od; first|exact di this|exact this,by simp; have:=h.LR; first|exact di this|exact this,h.os,λr o hr=>⟨kY (h.n5 r o hr).1,(h.n5 r o hr).2⟩,λr r' hb hl=>by obtain⟨c,e,f,hx⟩:=h.lk r r' hb hl; exact⟨c,e,f,kY hx⟩,λr hr=>by obtain⟨B,c,e,f,hx⟩:=h.dead r hr; exact⟨B,c,e,f,kY hx⟩,λr i v hv=>?_⟩
 .obtain⟨O,U⟩:=h.lt (show m.blk r=some r' from hb);obtain⟨x,x',g1,g2,g3⟩:=h.obj r r' hb;exact⟨x,x',by rw[iM O]; exact g1,by rw[iM U]; exact g2,g3.mono aa⟩
 .obtain⟨O,U⟩:=h.lt (show m.blk r=some r' from hb);simp only[iM O,iM U]at B Y;exact h.fz r r' _ _ _ _ _ _ hb B Y hn
 .obtain⟨O,U⟩:=h.lt (show m.blk r=some r' from hb);simp only[iM O,iM U]at B Y;exact h.all r r' _ _ _ _ _ _ hb B Y hl
 .by_cases e:r=w.heap.size
  .simp[Ren.vj,e]at hb;subst hb;simp[e]
  .simp[Ren.vj,e]at hb;have:=h.NY r r' hb;simp; omega
 .obtain⟨r',hb,hp⟩:=h.ur r i v hv;refine⟨r',hb,λc e f c' e' f' x g1 g2=>?_⟩;obtain⟨O,U⟩:=h.lt hb;simp only[iM O,iM U]at g1 g2;exact hp c e f c' e' f' x g1 g2
theorem WR.turn(h:WR m w w')(hb:m.blk r=some r')(ho:OR m o o')
  (hf:∀c e f c' U f',o=.cells c e f->o'=.cells c' U f'->(¬m.loose r->f'=f)/\(m.loose r->∀i,i<c.size->inside f i)) (aa:m.loose r->∃c e f,o=.cells c e f)
  (ab:∀c e f c' U f',o=.cells c e f->o'=.cells c' U f'->∀i x v,m.ur r i=some v->c[i]?=some x->qF x->c'[i]?=some v) :
  WR m {w with heap:=w.heap.setIfInBounds r o} {w' with heap:=w'.heap.setIfInBounds r' o'}:=by
 obtain⟨l1,l2⟩:=h.lt hb
 have key:∀s s',m.blk s=some s'->(s=r/\s'=r')\/(s≠r/\s'≠r'):=by
  intro s s' B;by_cases e:s=r
  .subst e; rw[hb]at B; cases B; exact .inl ⟨rfl,rfl⟩
  .exact .inr ⟨e,λU=>e (m.inj _ _ _ (U▸B) hb)⟩
 refine⟨λs s' B=>?_,λs s' c e f c' U f' B O Y hn=>?_,λs s' c e f c' U f' B O Y hl=>?_,λs s' B=>by simpa using h.NY s s' B,by simpa using h.Od,by simpa using h.LR,h.os,λs x B=>?_,λs s' B hl=>?_,λs B=>?_,λs i v hv=>?_⟩
 .rcases key s s' B with⟨rfl,rfl⟩|⟨n1,n2⟩
  .exact⟨o,o',by simp[l1],by simp[l2],ho⟩
  .obtain⟨x,x',g1,g2,g3⟩:=h.obj s s' B;exact⟨x,x',by rw[ax (dH n1)]; exact g1,by rw[ax (dH n2)]; exact g2,g3⟩
 .rcases key s s' B with⟨rfl,rfl⟩|⟨n1,n2⟩
  .simp[l1,l2]at O Y;exact(hf _ _ _ _ _ _ O Y).1 hn
  .simp only[ax (dH n1),ax (dH n2)]at O Y;exact h.fz s s' _ _ _ _ _ _ B O Y hn
 .rcases key s s' B with⟨rfl,rfl⟩|⟨n1,n2⟩
  .simp[l1,l2]at O Y;exact(hf _ _ _ _ _ _ O Y).2 hl
  .simp only[ax (dH n1),ax (dH n2)]at O Y;exact h.all s s' _ _ _ _ _ _ B O Y hl
 .obtain⟨g1,g2⟩:=h.n5 s x B;refine⟨?_,g2⟩
  have:r≠s:=by
   rintro rfl;obtain⟨y,y',k1,_,k3⟩:=h.obj r r' hb;obtain⟨c,b,x',s',z,t,rfl⟩:=g2;rw[g1]at k1;cases k1;cases k3
  rw[ax this]; exact g1
 .rcases key s s' B with⟨rfl,rfl⟩|⟨n1,n2⟩
  .obtain⟨c,e,f,rfl⟩:=aa hl;exact⟨c,e,f,by simp[l1]⟩
  .obtain⟨c,e,f,hx⟩:=h.lk s s' B hl;exact⟨c,e,f,by simpa only[ax (dH n1)]using hx⟩
 .obtain⟨O,c,e,f,hx⟩:=h.dead s B;have:r≠s:=by rintro rfl; rw[hb]at O; cases O
  exact⟨O,c,e,f,by simpa only[ax this]using hx⟩
 .obtain⟨s',B,hp⟩:=h.ur s i v hv;refine⟨s',B,λc e f c' U f' x g1 g2=>?_⟩;rcases key s s' B with⟨rfl,rfl⟩|⟨n1,n2⟩
  .simp[l1,l2]at g1 g2;exact λg3 g4=>ab _ _ _ _ _ _ g1 g2 i x v hv g3 g4
  .simp only[ax (dH n1),ax (dH n2)]at g1 g2;exact hp c e f c' U f' x g1 g2
theorem sK(h:Array Obj)(r:Nat)(f:Obj->Obj)(o:Obj)(O:h[r]?=some o):h.modify r f=h.setIfInBounds r (f o):=by
 apply Array.ext_getElem?;intro i;obtain⟨B,U⟩:=ay.1 O;by_cases e:r=i
 .subst e;rw[a2];simp[B,U]
 .rw[a2];simp[e]
theorem WR.setCell(h:WR m w w'){a:Addr}(ha:AR m a a'){v v':Value}(hv:VR m v v')(ab:¬qF v):WR m (w.setCell a v) (w'.setCell a' v'):=by
 cases ha with
 |@mk b b' o s hb=>
 obtain⟨x,x',U,Y,ho⟩:=h.obj b b' hb;unfold World.setCell;simp only[sK _ _ _ _ U,sK _ _ _ _ Y]
 cases ho with
 |cells e f f' hc=>
  refine h.turn hb (.cells e f f' ?_) (λc e f c' e' f' e1 e2=>?_) (λ_=>⟨_,_,_,rfl⟩) ?_
  .split
   .exact hc
   .exact hc.set _ hv
  .cases e1; cases e2;refine⟨λhn=>h.fz b b' _ _ _ _ _ _ hb U Y hn,λO i hi=>h.all b b' _ _ _ _ _ _ hb U Y O i ?_⟩;revert hi; split<;>simp
  .intro c1 e1 f1 c2 e2 f2 q1 q2 i x u hu B hn;cases q1; cases q2;obtain⟨b2,aa,hp⟩:=h.ur b i u hu;rw[hb]at aa; cases aa;revert B; split
   .exact λB=>hp _ _ _ _ _ _ x U Y B hn
   .intro B;by_cases e:o=i
    .subst e;rw[Array.getElem?_setIfInBounds]at B;simp at B;exact absurd (B.2▸hn) ab
    .rw[ax e]at B⊢;exact hp _ _ _ _ _ _ x U Y B hn
 |map clock he=>exact h.turn hb (.map clock he) (nofun) (λO=>(by obtain⟨c,e,f,B⟩:=h.lk _ _ hb O; rw[U]at B; cases B)) (nofun)
 |number l B=>exact h.turn hb (.number l B) (nofun) (λO=>(by obtain⟨c,e,f,B⟩:=h.lk _ _ hb O; rw[U]at B; cases B)) (nofun)
 |stringIter s p=>exact h.turn hb (.stringIter s p) (nofun) (λO=>(by obtain⟨c,e,f,B⟩:=h.lk _ _ hb O; rw[U]at B; cases B)) (nofun)
 |j9 x y z=>exact h.turn hb (.j9 x y z) (nofun) (λO=>(by obtain⟨c,e,f,B⟩:=h.lk _ _ hb O; rw[U]at B; cases B)) (nofun)
 |mapIter x y z hm=>exact h.turn hb (.mapIter x y z hm) (nofun) (λO=>(by obtain⟨c,e,f,B⟩:=h.lk _ _ hb O; rw[U]at B; cases B)) (nofun)
 |loop O=>exact h.turn hb (.loop O) (nofun) (λO=>(by obtain⟨c,e,f,B⟩:=h.lk _ _ hb O; rw[U]at B; cases B)) (nofun)
 |iR=>exact h.turn hb .iR (nofun) (λO=>(by obtain⟨c,e,f,B⟩:=h.lk _ _ hb O; rw[U]at B; cases B)) (nofun)
 |deferred hd=>exact h.turn hb (.deferred hd) (nofun) (λO=>(by obtain⟨c,e,f,B⟩:=h.lk _ _ hb O; rw[U]at B; cases B)) (nofun)
theorem WR.freeze(h:WR m w w'){a:Addr}(ha:AR m a a')(hn:¬m.loose a.block)(n:Nat):WR m (w.freeze a n) (w'.freeze a' n):=by
 cases ha with
 |@mk b b' o s hb=>
 obtain⟨x,x',U,h2,ho⟩:=h.obj b b' hb;unfold dy;split
 .exact h
 simp only[sK _ _ _ _ U,sK _ _ _ _ h2]
 cases ho with
 |cells e f f' hc=>
  have ef:=h.fz b b' _ _ _ _ _ _ hb U h2 hn;subst ef;refine h.turn hb (.cells e _ _ hc) (λc e f c' e' f' e1 e2=>?_) (λ_=>⟨_,_,_,rfl⟩) ?_
  .cases e1; cases e2;exact⟨λ_=>rfl,λO=>absurd O hn⟩
  .intro c1 e1 f1 c2 e2 f2 q1 q2 i x u hu B aa;cases q1; cases q2;obtain⟨b2,Y,hp⟩:=h.ur b i u hu;rw[hb]at Y; cases Y;exact hp _ _ _ _ _ _ x U h2 B aa
 |map clock he=>exact h.turn hb (.map clock he) (nofun) (λO=>(by obtain⟨c,e,f,B⟩:=h.lk _ _ hb O; rw[U]at B; cases B)) (nofun)
 |number l B=>exact h.turn hb (.number l B) (nofun) (λO=>(by obtain⟨c,e,f,B⟩:=h.lk _ _ hb O; rw[U]at B; cases B)) (nofun)
 |stringIter s p=>exact h.turn hb (.stringIter s p) (nofun) (λO=>(by obtain⟨c,e,f,B⟩:=h.lk _ _ hb O; rw[U]at B; cases B)) (nofun)
 |j9 x y z=>exact h.turn hb (.j9 x y z) (nofun) (λO=>(by obtain⟨c,e,f,B⟩:=h.lk _ _ hb O; rw[U]at B; cases B)) (nofun)
 |mapIter x y z hm=>exact h.turn hb (.mapIter x y z hm) (nofun) (λO=>(by obtain⟨c,e,f,B⟩:=h.lk _ _ hb O; rw[U]at B; cases B)) (nofun)
 |loop O=>exact h.turn hb (.loop O) (nofun) (λO=>(by obtain⟨c,e,f,B⟩:=h.lk _ _ hb O; rw[U]at B; cases B)) (nofun)
 |iR=>exact h.turn hb .iR (nofun) (λO=>(by obtain⟨c,e,f,B⟩:=h.lk _ _ hb O; rw[U]at B; cases B)) (nofun)
 |deferred hd=>exact h.turn hb (.deferred hd) (nofun) (λO=>(by obtain⟨c,e,f,B⟩:=h.lk _ _ hb O; rw[U]at B; cases B)) (nofun)
theorem WR.draw(h:WR m w w')(a b:Nat):WR m {w with drawn:=a} {w' with drawn:=b}:=⟨h.obj,h.fz,h.all,h.NY,h.Od,h.LR,h.os,h.n5,h.lk,h.dead,h.ur⟩
theorem Al.draw(h:Al w w'):Al {w with drawn:=w.drawn+1} {w' with drawn:=w'.drawn+1}:=λi q=>by
 have:=h (i+1) q;have B:w'.drawn+1+i=w'.drawn+(i+1):=by omega
 have O:w.drawn+1+i=w.drawn+(i+1):=by omega
 simp only[B,O]; exact this
theorem WR.shape(h:WR m w w')(hb:m.blk r=some r'):w'.shape? r'=w.shape? r:=by
 obtain⟨x,x',B,O,U⟩:=h.obj r r' hb;unfold World.shape?;simp only[B,O];cases U<;>try rfl
 rename_i Y;simp[Y.size]
theorem WR.frozen(h:WR m w w'){a:Addr}(U:AR m a a')(Y:¬m.loose a.block):w'.frozen? a'=w.frozen? a:=by
 cases U with
 |@mk b b' o s hb=>
 obtain⟨x,x',B,O,ho⟩:=h.obj b b' hb;unfold dz;simp only[B,O];cases ho<;>try rfl
 rw[h.fz b b' _ _ _ _ _ _ hb B O Y]
end
def lj{α β:Type}(RA:Ren->α->β->Prop)(al:Prop)(m:Ren)(w':World)(es:Array Event)(r:Result β×Array Event):Result α->Prop
 |.ok a w₁=>∃gE b B es₁,r=(.ok b B,es++es₁)/\m.Le gE/\RA gE a b/\WR gE w₁ B/\(al->Al w₁ B)/\jj m gE w' B/\∀e∈es₁,qY gE e
 |.halt (.panic v) w₁=>∃gE v' B es₁,r=(.halt (.panic v') B,es++es₁)/\m.Le gE/\VR gE v v'/\WR gE w₁ B/\(al->Al w₁ B)/\jj m gE w' B/\∀e∈es₁,qY gE e
 |.halt x _=>mU x
theorem lj.ahead{RA:Ren->α->β->Prop}{al₁:Prop}{m gE:Ren}{w' O:World}{es₁:Array Event}{r:Result β×Array Event}{q:Result α}
  (ha:al->al₁) (hl:m.Le gE) (hk:jj m gE w' O) (he:∀e∈es₁,qY gE e) (h:lj RA al₁ gE O (es++es₁) r q):lj RA al m w' es r q:=by
 unfold lj at h⊢;split
 .obtain⟨m₂,b,U,B,h1,Y,h3,h4,aa,h5,h6⟩:=h;refine⟨m₂,b,U,es₁++B,by rw[h1,aH],hl.trans Y,h3,h4,λx=>aa (ha x),hk.trans hl Y h5,λe hx=>?_⟩;rcases a9.1 hx with x|x
  .exact(he e x).mono Y
  .exact h6 e x
 .obtain⟨m₂,b,U,B,h1,Y,h3,h4,aa,h5,h6⟩:=h;refine⟨m₂,b,U,es₁++B,by rw[h1,aH],hl.trans Y,h3,h4,λx=>aa (ha x),hk.trans hl Y h5,λe hx=>?_⟩;rcases a9.1 hx with x|x
  .exact(he e x).mono Y
  .exact h6 e x
 .rename_i x y hx;cases x<;>first|exact h|exact absurd rfl (hx _)
theorem jj.cell{m:Ren}{w':World}(hb:m.blk r=some r')(O:¬m.loose r)(o:Obj):jj m m w' {w' with heap:=w'.heap.setIfInBounds r' o}:=
 ⟨λx _ U=>by
   have B:r'≠x:=λe=>U r (e▸hb)
   rw[ax B],by simp,λr' h h'=>absurd h' (by simpa using h),λ_ _ h=>.inl h,λ_ _ h=>.inl h,rfl,rfl,rfl,λ_=>rfl,rfl,λs s' Y B=>by
   have:r'≠s':=λe=>O (m.inj _ _ _ (e▸Y) hb▸B)
   rw[ax this]⟩
theorem jj.modify{m:Ren}{w':World}(hb:m.blk r=some r')(O:¬m.loose r)(f:Obj->Obj):jj m m w' {w' with heap:=w'.heap.modify r' f}:=
 ⟨λx _ U=>by
   have B:¬r'=x:=λe=>U r (e▸hb)
   rw[a2]; simp[B],by simp,λr' h h'=>absurd h' (by simpa using h),λ_ _ h=>.inl h,λ_ _ h=>.inl h,rfl,rfl,rfl,λ_=>rfl,rfl,λs s' Y B=>by
   have:r'≠s':=λe=>O (m.inj _ _ _ (e▸Y) hb▸B)
   rw[a2]; simp[this]⟩
theorem mf{RA:Ren->α->β->Prop}{m:Ren}{w':World}{r:Result β×Array Event}{q:Result α}{e:Event}
  (B:qY m e) (h:lj RA al m w' (es.push e) r q):lj RA al m w' es r q:=
 lj.ahead (es₁:=#[e]) id (.refl m) (.refl m w') (by simpa using B) (by simpa using h)
theorem gC.run{RA:Ren->α->β->Prop}{m:Ren}{s:Sem α}{s':Sem β}(h:gC P RA m s s') :
  ∀(w w':World)(es:Array Event),WR m w w'->(Al w w'\/j5 s)->lj RA (Al w w') m w' es (s'.runT P w' es) (s.run P w):=by
 induction h with
 |gF hd=>
  intro w w' es O B;obtain⟨x,w₁,hr,hh⟩:=hd.run w;rw[hr];cases x<;>first|exact hh|exact hh.elim
 |pure hr=>
  intro w w' es O B;exact⟨_,_,w',#[],by simp[cT],.refl _,hr,O,id,.refl _ _,by simp⟩
 |@load m a a' k k' ha _ U=>
  intro w w' es O B;simp only[cS,cT]
  cases hc:w.cell? a with
  |some v=>
   obtain⟨v',ai,hv⟩:=O.cell ha hc;simp only[ai];exact mf (e:=⟨.cell a',false,false⟩) ⟨rfl,a,ha,by simp⟩ (U v v' hv w w' _ O (B.imp id λx=>x v))
  |none=>
   obtain⟨y,hy⟩:=O.PA ha hc P (Mode.plain==.atomic);simp only[hy];trivial
 |@store m a a' v v' k k' ha hv _ U=>
  intro w w' es O B;by_cases h1:∃c,v=.agg c
  .obtain⟨c,rfl⟩:=h1;simp only[cS]; trivial
  by_cases h2:∃c,v=.tuple c
  .obtain⟨c,rfl⟩:=h2;simp only[cS]; trivial
  have aj:∀c,v'≠.agg c:=λc e=>by subst e; cases hv<;>first|exact h1 ⟨_,rfl⟩|exact h2 ⟨_,rfl⟩
  have ak:∀c,v'≠.tuple c:=λc e=>by subst e; cases hv<;>first|exact h1 ⟨_,rfl⟩|exact h2 ⟨_,rfl⟩
  have e1:(Sem.store Mode.plain a v k).run P w=match w.cell? a with
    |some _=>if w.frozen? a then .halt (.unsupported (.unsafePointer "a write to bytes that a string shares")) w else k.run P (w.setCell a v)
    |none=>match w.farStore P a v (Mode.plain==.atomic)with
     |.ok (w,_)=>k.run P w
     |.error h=>.halt h w:=by
   rw[cS]
   .rfl
   .exact λc e=>h1 ⟨c,e⟩
   .exact λc e=>h2 ⟨c,e⟩
  have e2:(Sem.store Mode.plain a' v' k').runT P w' es=match w'.cell? a' with
    |some _=>if w'.frozen? a' then(.halt (.unsupported (.unsafePointer "a write to bytes that a string shares")) w',es)else k'.runT P (w'.setCell a' v') (es.push ⟨.cell a',true,Mode.plain==.atomic⟩)
    |none=>match w'.farStore P a' v' (Mode.plain==.atomic)with
     |.ok (w,ab)=>k'.runT P w (es++ab.toArray.map (⟨.cell ·,true,Mode.plain==.atomic⟩))
     |.error h=>(.halt h w',es):=by
   rw[cT]
   .rfl
   .exact aj
   .exact ak
  have ah:¬qF v:=by
   intro am;cases v<;>first|exact am.elim|exact h1 ⟨_,rfl⟩|exact h2 ⟨_,rfl⟩
  rw[e1,e2]
  cases hc:w.cell? a with
  |none=>
   obtain⟨y,hy⟩:=O.Lb ha hc P v (Mode.plain==.atomic);simp only[hy];trivial
  |some u=>
   obtain⟨u',an,_⟩:=O.cell ha hc;simp only[an];by_cases hf:w.frozen? a=true
   .simp only[hf,if_true]; trivial
   have ae:¬m.loose a.block:=by
    intro hl
    cases ha with
    |@mk b b' o s hb=>
    obtain⟨x,x',g1,g2,ho⟩:=O.obj b b' hb;unfold dB at hc;simp only[g1]at hc
    cases ho with
    |cells e f f' av=>
     simp only at hc;split at hc
     .cases hc
     .have ao:=(ay.1 hc).1;have:=O.all b b' _ _ _ _ _ _ hb g1 g2 hl o ao;apply hf;unfold dz;simp only[g1];simpa[inside]using this
    |_=>cases hc
   have ap:w'.frozen? a'=false:=by rw[O.frozen ha ae]; simpa using hf
   simp only[hf,ap,if_false,Bool.false_eq_true];have aq:(Mode.plain==Mode.atomic)=false:=rfl;rw[aq];refine lj.ahead (es₁:=#[⟨.cell a',true,false⟩]) (al₁:=Al (w.setCell a v) (w'.setCell a' v')) (λh=>h) (.refl _) ?_ ?_ (by simpa using U (w.setCell a v) _ _ (O.setCell ha hv ah) B)
   .cases ha with
    |mk hb=>exact jj.modify hb ae _
   .simp only[List.mem_toArray,da,List.not_mem_nil,or_false,forall_eq];exact⟨rfl,a,ha,λ_=>ae⟩
 |@new m o o' k k' ho hc _ U=>
  intro w w' es O B;simp only[cS,cT];have ac:=Ren.xr O.jW O.oh O.TN;have ad:(m.ext w.heap.size w'.heap.size O.jW O.oh O.TN).blk w.heap.size=some w'.heap.size:=by simp[Ren.ext]
  refine lj.ahead (es₁:=#[]) (al₁:=Al {w with heap:=w.heap.push o} {w' with heap:=w'.heap.push o'}) (λh=>h) ac ?_ (by simp) (by simpa using U _ _ _ ac ad (by simp[Ren.ext]) {w with heap:=w.heap.push o} _ _ (O.push ho hc) (B.imp id λx=>x _));refine⟨λr' hr hn=>iM hr,by simp,λr' h h'=>.inl ⟨w.heap.size,?_⟩,λr r' hb=>?_,λ_ _ h=>.inl h,rfl,rfl,rfl,λ_=>rfl,rfl,λr r' hb _=>iM (O.lt hb).2⟩
  .have:r'=w'.heap.size:=by simp at h'; omega
   rw[this]; exact ad
  .by_cases e:r=w.heap.size
   .simp[Ren.ext,e]at hb; exact .inr (by omega)
   .simp[Ren.ext,e]at hb; exact .inl hb
 |@s8 m c b x s r t c' b' x' s' r' t' k k' ar _ U=>
  intro w w' es O B;simp only[cS,cT];have ac:=Ren.zD O.sL O.qn;have ad:(m.vj w.heap.size w'.heap.size O.sL O.qn).ch w.heap.size=some w'.heap.size:=by simp[Ren.vj]
  refine lj.ahead (es₁:=#[]) (al₁:=Al {w with heap:=w.heap.push (.chan c b x s r t)} {w' with heap:=w'.heap.push (.chan c' b' x' s' r' t')}) (λh=>h) ac ?_ (by simp) (by simpa using U _ _ _ ac ad {w with heap:=w.heap.push _} _ _ (O.Po _ _) (B.imp id λx=>x _));refine⟨λr' hr hn=>iM hr,by simp,λr' h h'=>.inr ⟨w.heap.size,?_⟩,λ_ _ h=>.inl h,λr r' hb=>?_,rfl,rfl,rfl,λhn=>absurd ar hn,rfl,λr r' hb _=>iM (O.lt hb).2⟩
  .have:r'=w'.heap.size:=by simp at h'; omega
   rw[this]; exact ad
  .by_cases e:r=w.heap.size
   .simp[Ren.vj,e]at hb; exact .inr (by omega)
   .simp[Ren.vj,e]at hb; exact .inl hb
 |shape hb _ U=>
  intro w w' es O B;simp only[cS,cT,O.shape hb];exact U _ w w' es O (B.imp id λx=>x _)
 |@freeze m a a' n k k' ha hn _ U=>
  intro w w' es O B;simp only[cS,cT];refine lj.ahead (es₁:=#[]) (al₁:=Al (w.freeze a n) (w'.freeze a' n)) (λh=>by unfold dy; split<;>exact h) (.refl _) ?_ (by simp) (by simpa using U _ _ _ (O.freeze ha hn _) (B.imp (λh=>by unfold dy; split<;>exact h) λx=>x))
  cases ha with
  |mk hb=>
   unfold dy;split
   .exact .refl _ _
   .exact jj.modify hb hn _
 |frozen ha hn _ U=>
  intro w w' es O B;simp only[cS,cT,O.frozen ha hn];exact U _ w w' es O (B.imp id λx=>x _)
 |getObj hb _ U=>
  intro w w' es O B;obtain⟨x,x',h1,h2,ho⟩:=O.obj _ _ hb;simp only[cS,cT,h1,h2];rcases Classical.em (Ren.loose _ _)with Y|Y
  .obtain⟨c,e,f,hx⟩:=O.lk _ _ hb Y;rw[h1]at hx;cases hx;trivial
  have aa:qY _ ⟨.obj _,false,false⟩:=⟨rfl,_,hb,Y⟩
  cases ho with
  |cells=>trivial
  |map clock he=>exact mf aa (U _ _ (.map clock he) w w' _ O (B.imp id λx=>x _))
  |number l hx=>exact mf aa (U _ _ (.number l hx) w w' _ O (B.imp id λx=>x _))
  |stringIter s p=>exact mf aa (U _ _ (.stringIter s p) w w' _ O (B.imp id λx=>x _))
  |j9 a b c=>exact mf aa (U _ _ (.j9 a b c) w w' _ O (B.imp id λx=>x _))
  |mapIter a b c hm=>exact mf aa (U _ _ (.mapIter a b c hm) w w' _ O (B.imp id λx=>x _))
  |loop hl=>exact mf aa (U _ _ (.loop hl) w w' _ O (B.imp id λx=>x _))
  |iR=>exact mf aa (U _ _ .iR w w' _ O (B.imp id λx=>x _))
  |deferred hd=>exact mf aa (U _ _ (.deferred hd) w w' _ O (B.imp id λx=>x _))
 |@setObj m r r' o o' k k' hb ho hc _ U=>
  intro w w' es O B;obtain⟨x,x',h1,h2,hx⟩:=O.obj _ _ hb;have au:o'.isChan=false:=by cases ho<;>rfl
  rcases Classical.em (m.loose r)with Y|Y
  .obtain⟨c,e,f,hy⟩:=O.lk _ _ hb Y;simp only[cS,hy];trivial
  have af:=O.turn hb ho (λc e f c' e' f' e1 _=>absurd e1 (hc c e f)) (λh=>absurd h Y) (λc e f c' e' f' e1 _=>absurd e1 (hc c e f))
  have fin:lj RA (Al w w') m w' es (k'.runT P {w' with heap:=w'.heap.setIfInBounds r' o'} (es.push ⟨.obj r',true,o'.isChan⟩)) (k.run P {w with heap:=w.heap.setIfInBounds r o}):=by
   rw[au];exact lj.ahead (es₁:=#[⟨.obj r',true,false⟩]) (al₁:=Al {w with heap:=w.heap.setIfInBounds r o} {w' with heap:=w'.heap.setIfInBounds r' o'}) (λh=>h) (.refl _) (jj.cell hb Y _) (by simpa using⟨rfl,_,hb,Y⟩) (by simpa using U _ _ _ af B)
  simp only[cS,cT,h1,h2];cases hx<;>first|trivial|exact fin
 |choose _ U=>
  intro w w' es O B;rcases B with ag|B
  .simp only[cS,cT];split
   .exact U _ w w' es O (.inl ag)
   .have:=ag 0;simp only[Nat.add_zero]at this;rw[this];refine lj.ahead (es₁:=#[]) (λh=>h.draw) (.refl _) ?_ (by simp) (by simpa using U _ {w with drawn:=w.drawn+1} _ _ (O.draw _ _) (.inl ag.draw));exact⟨λ_ _ _=>rfl,dl _,λr' h h'=>absurd h' (by simpa using h),λ_ _ h=>.inl h,λ_ _ h=>.inl h,rfl,rfl,rfl,λ_=>rfl,rfl,λ_ _ _ _=>rfl⟩
  .exact B.elim
 |gone hd=>
  intro w w' es O B;obtain⟨_,c,e,f,hx⟩:=O.dead _ hd;simp only[cS,hx];trivial
 |env _ U=>
  intro w w' es O B;have e:∀x:World,x.sys .env=(.strings _,x):=λ_=>rfl;simp only[cS,cT,e,O.os];exact mf (e:=⟨.output,true,false⟩) trivial (U _ w w' _ O (B.imp id λx=>x _))
 |program _ U=>exact λw w' es O B=>U w w' es O (B.imp id λx=>x P)
 |@mark m x k k' hm _ U=>exact λw w' es O B=>mf (e:=⟨.mark x,false,true⟩) hm (U w w' _ O B)
 |panic hv=>
  intro w w' es O B;exact⟨_,_,w',#[],by simp[cT],.refl _,hv,O,id,.refl ..,by simp⟩
inductive nL(P:Program){α β:Type}(RA:Ren->α->β->Prop):Ren->Sem α->Sem β->Prop
 |base {m s s'}:gC P RA m s s'->nL P RA m s s'
 |bind {γ δ:Type} {RC:Ren->γ->δ->Prop} {m} {s:Sem γ} {s':Sem δ} {f:γ->Sem α} {f':δ->Sem β}:gC P RC m s s'->(∀m' a b,m.Le m'->RC m' a b->nL P RA m' (f a) (f' b))->nL P RA m (s.bind f) (s'.bind f')
 |UK {m q k s'}:(∀n,j5 (k n))->(∀n,gC P RA m (k n) s')->nL P RA m (.choose q k) s'
def UY{α β:Type}(RA:Ren->α->β->Prop)(m:Ren)(w':World)(es:Array Event)(r:Result β×Array Event)(q:Result α):Prop:=lj RA False m w' es r q
theorem lj.Tm{RA:Ren->α->β->Prop}{m:Ren}{w':World}{r:Result β×Array Event}{q:Result α}(h:lj RA al m w' es r q):UY RA m w' es r q:=
 lj.ahead (es₁:=#[]) (nofun) (.refl m) (.refl m w') (by simp) (by simpa using h)
theorem nL.run{RA:Ren->α->β->Prop}{m:Ren}{s:Sem α}{s':Sem β}(h:nL P RA m s s') :
  ∀(w w':World)(es:Array Event),WR m w w'->Al w w'->UY RA m w' es (s'.runT P w' es) (s.run P w):=by
 induction h with
 |base h=>exact λw w' es U O=>(h.run w w' es U (.inl O)).Tm
 |@bind γ δ RC m s s' f f' h _ ih=>
  intro w w' es U O;have Y:=h.run w w' es U (.inl O);rw[Sem.run_bind',Sem.runT_bind']
  cases hr:s.run P w with
  |ok a w₁=>
   rw[hr]at Y;obtain⟨gE,b,B,es₁,e1,e2,e3,e4,e5,e6,e7⟩:=Y;rw[e1];exact lj.ahead (es₁:=es₁) (nofun) e2 e6 e7 (ih gE a b e2 e3 w₁ B _ e4 (e5 O))
  |halt x w₁=>
   rw[hr]at Y
   cases x with
   |panic v=>
    obtain⟨gE,b,B,es₁,e1,e2,e3,e4,e5,e6,e7⟩:=Y;rw[e1];exact⟨gE,b,B,es₁,rfl,e2,e3,e4,nofun,e6,e7⟩
   |_=>exact Y
 |UK hd h=>
  intro w w' es U O;simp only[cS];split
  .exact((h _).run w w' es U (.inl O)).Tm
  .exact((h _).run _ w' es (U.draw ..) (.inr (hd _))).Tm
end
section
variable {a a':Addr} {c c':Array Value} {r r':Nat} {o o':Obj} {α β γ δ:Type} {t:bB} {v v' x x':Value}
structure oO(P:Program):Prop where
 zero:∀t i v,P.info? t=some i->i.zero=some v->∀m,VR m v v
 VL:∀t i,P.info? t=some i->i.methods.find? (·.name == "")=none
def yY{α:Type}:Ren->α->α->Prop:=λ_ a b=>a=b
def Bz{α β:Type}:Ren->α->β->Prop:=λ_ _ _=>True
section
variable {P:Program} {m:Ren}
theorem gJ{RA:Ren->α->β->Prop}{RB:Ren->γ->δ->Prop}{s:Sem α}{s':Sem β}{f:α->Sem γ}{f':β->Sem δ}
  (h:gC P RA m s s') (B:∀m' a b,m.Le m'->RA m' a b->gC P RB m' (f a) (f' b)):gC P RB m (s >>= f) (s' >>= f'):=gC.bind h B
theorem gN{RA:Ren->α->β->Prop}{c:Prop}[Decidable c]{s t:Sem α}{s' t':Sem β}(h:c->gC P RA m s s')(h':¬c->gC P RA m t t') :
  gC P RA m (if c then s else t) (if c then s' else t'):=by
 split
 .exact h ‹_›
 .exact h' ‹_›
theorem kw{RB:Ren->γ->δ->Prop}{f:Program->Sem γ}{f':Program->Sem δ}(h:gC P RB m (f P) (f' P)):gC P RB m (program >>= f) (program >>= f'):=.program h
theorem gG{RB:Ren->γ->δ->Prop}{f:TypeDesc->Sem γ}{f':TypeDesc->Sem δ}(h:∀d,P.underlying t=some d->gC P RB m (f d) (f' d)) :
  gC P RB m (bE t >>= f) (bE t >>= f'):=by
 refine .program ?_;show gC P RB m ((match P.underlying t with|some d=>pure d|none=>stuck _) >>= f) ((match P.underlying t with|some d=>pure d|none=>stuck _) >>= f')
 cases B:P.underlying t with
 |none=>exact .gF trivial
 |some d=>exact h d B
theorem gV{RB:Ren->γ->δ->Prop}{f:TypeInfo->Sem γ}{f':TypeInfo->Sem δ}(h:∀d,P.info? t=some d->gC P RB m (f d) (f' d)) :
  gC P RB m (bS t >>= f) (bS t >>= f'):=by
 refine .program ?_;show gC P RB m ((match P.info? t with|some d=>pure d|none=>stuck _) >>= f) ((match P.info? t with|some d=>pure d|none=>stuck _) >>= f')
 cases B:P.info? t with
 |none=>exact .gF trivial
 |some d=>exact h d B
theorem iB{RB:Ren->γ->δ->Prop}{f:Nat->Sem γ}{f':Nat->Sem δ}(h:∀n,gC P RB m (f n) (f' n)):gC P RB m (bM t >>= f) (bM t >>= f'):=by
 refine .program ?_;show gC P RB m (((match P.info? t with|some d=>pure d|none=>stuck _) >>= λi=>pure _) >>= f) (((match P.info? t with|some d=>pure d|none=>stuck _) >>= λi=>pure _) >>= f')
 cases B:P.info? t with
 |none=>exact .gF trivial
 |some d=>exact h _
theorem jq(B:oO P){RB:Ren->γ->δ->Prop}{f:Value->Sem γ}{f':Value->Sem δ}(h:∀v,VR m v v->gC P RB m (f v) (f' v)) :
  gC P RB m (bD t >>= f) (bD t >>= f'):=by
 refine .program ?_;show gC P RB m (((match P.info? t with|some d=>pure d|none=>stuck _) >>= λi=>match i.zero with|some v=>pure v|none=>unsupported _) >>= f) (((match P.info? t with|some d=>pure d|none=>stuck _) >>= λi=>match i.zero with|some v=>pure v|none=>unsupported _) >>= f')
 cases O:P.info? t with
 |none=>exact .gF trivial
 |some d=>
  show gC P RB m ((match d.zero with|some v=>pure v|none=>unsupported _) >>= f) ((match d.zero with|some v=>pure v|none=>unsupported _) >>= f')
  cases U:d.zero with
  |none=>exact .gF trivial
  |some v=>exact h v (B.zero t d v O U m)
theorem GM{RB:Ren->γ->δ->Prop}{f:Bool->Sem γ}{f':Bool->Sem δ}(h:∀b,gC P RB m (f b) (f' b)):gC P RB m (isAgg t >>= f) (isAgg t >>= f'):=by
 refine .program ?_;show gC P RB m (((match P.underlying t with|some d=>pure d|none=>stuck _) >>= λx=>match x with|.struct _|.array .. => pure true|_=>pure false) >>= f) (((match P.underlying t with|some d=>pure d|none=>stuck _) >>= λx=>match x with|.struct _|.array .. => pure true|_=>pure false) >>= f')
 cases B:P.underlying t with
 |none=>exact .gF trivial
 |some d=>cases d<;>exact h _
theorem E0{RB:Ren->γ->δ->Prop}{f:Value->Sem γ}{f':Value->Sem δ}(B:AR m a a')(h:∀v v',VR m v v'->gC P RB m (f v) (f' v')) :
  gC P RB m (load a >>= f) (load a' >>= f'):=.load B h
theorem QF{RB:Ren->γ->δ->Prop}{f:Unit->Sem γ}{f':Unit->Sem δ}(B:AR m a a')(O:VR m v v')(h:gC P RB m (f ()) (f' ())) :
  gC P RB m (store a v >>= f) (store a' v' >>= f'):=.store B O h
theorem jv{RB:Ren->γ->δ->Prop}{f:Obj->Sem γ}{f':Obj->Sem δ}(hb:m.blk r=some r')(h:∀o o',OR m o o'->gC P RB m (f o) (f' o')) :
  gC P RB m (getObj r >>= f) (getObj r' >>= f'):=.getObj hb h
theorem mz{RB:Ren->γ->δ->Prop}{f:Unit->Sem γ}{f':Unit->Sem δ}(hb:m.blk r=some r')(B:OR m o o')(O:∀c e f,o≠.cells c e f)(h:gC P RB m (f ()) (f' ())) :
  gC P RB m (setObj r o >>= f) (setObj r' o' >>= f'):=.setObj hb B O h
theorem s7(hb:m.blk r=some r')(B:OR m o o')(O:∀c e f,o≠.cells c e f):gC P Bz m (setObj r o) (setObj r' o'):=.setObj hb B O (.pure trivial)
theorem jO{RB:Ren->γ->δ->Prop}{q:Question}{f:Nat->Sem γ}{f':Nat->Sem δ}(h:∀n,gC P RB m (f n) (f' n)):gC P RB m (choose q >>= f) (choose q >>= f'):=.choose h
theorem lZ{RB:Ren->γ->δ->Prop}{f:Option (bB×Nat)->Sem γ}{f':Option (bB×Nat)->Sem δ}(hb:m.blk r=some r')(h:∀x,gC P RB m (f x) (f' x)) :
  gC P RB m (shape r >>= f) (shape r' >>= f'):=.shape hb h
theorem pK{RB:Ren->γ->δ->Prop}{f:Bool->Sem γ}{f':Bool->Sem δ}(B:AR m a a')(O:¬m.loose a.block)(h:∀x,gC P RB m (f x) (f' x)) :
  gC P RB m (frozen a >>= f) (frozen a' >>= f'):=.frozen B O h
def Td:RuntimeError->Prop
 |.bounds ..|.error _|.plain _|.nilDeref=>True
 |_=>False
theorem iZ{RA:Ren->α->β->Prop}{e:RuntimeError}(h:Td e):gC P RA m (bG e) (bG e):=by
 refine .program ?_;cases e<;>first|exact h.elim|skip
 .exact .panic (.iface _ (.MW (.refl λv B=>by
   simp at B
   rcases B with rfl|rfl|rfl|rfl<;>constructor)))
 all_goals exact .panic (.iface _ (.string _))
theorem gY{RB:Ren->γ->δ->Prop}{e:RuntimeError}{f:α->Sem γ}{f':β->Sem δ}(h:Td e):gC P RB m (bG e >>= f) (bG e >>= f'):=
 gJ (RA:=λ_ _ _=>False) (iZ h) nofun
theorem ry{RA:Ren->α->β->Prop}{k:IntKind}{x y:Int}{c:BoundsCode}:gC P RA m (bF k x y c) (bF k x y c):=by
 refine gN (λ_=>?_) (λ_=>?_)
 .exact gC.choose λn=>iZ (e:=.bounds _ y _ c) trivial
 .exact iZ (e:=.bounds _ y _ c) trivial
theorem An{RB:Ren->γ->δ->Prop}{f:IntKind×Int->Sem γ}{f':IntKind×Int->Sem δ}(B:VR m x x')(h:∀k n,x=.int k n->gC P RB m (f (k,n)) (f' (k,n))) :
  gC P RB m (asIntOf x >>= f) (asIntOf x' >>= f'):=by
 cases B<;>first|exact h _ _ rfl|exact .gF trivial
theorem me{RB:Ren->γ->δ->Prop}{f:Int->Sem γ}{f':Int->Sem δ}(B:VR m x x')(h:∀n,gC P RB m (f n) (f' n)) :
  gC P RB m (asInt x >>= f) (asInt x' >>= f'):=by
 cases B<;>first|exact h _|exact .gF trivial
theorem Mf{RB:Ren->γ->δ->Prop}{f:Bool->Sem γ}{f':Bool->Sem δ}(B:VR m x x')(h:∀b,gC P RB m (f b) (f' b)) :
  gC P RB m (asBool x >>= f) (asBool x' >>= f'):=by
 cases B<;>first|exact h _|exact .gF trivial
theorem Pp{RB:Ren->γ->δ->Prop}{f f':Array Value->_}(B:VR m x x')(h:∀c c',io m c c'->gC P RB m (f c:Sem γ) (f' c':Sem δ)) :
  gC P RB m (asAgg x >>= f) (asAgg x' >>= f'):=by
 cases B<;>first|exact h _ _ (.kE ‹_› ‹_›)|exact .gF trivial
theorem D9{RB:Ren->γ->δ->Prop}{f:Addr->Sem γ}{f':Addr->Sem δ}(B:VR m x x')(h:∀a a',AR m a a'->gC P RB m (f a) (f' a')) :
  gC P RB m (asAddr x >>= f) (asAddr x' >>= f'):=by
 cases B<;>first|exact h _ _ ‹_›|exact .gF trivial|exact gY (e:=.nilDeref) trivial
theorem oP{RB:Ren->γ->δ->Prop}{f:Addr->Sem γ}{f':Addr->Sem δ}(B:VR m x x')(h:∀a a',AR m a a'->gC P RB m (f a) (f' a')) :
  gC P RB m (bn x >>= f) (bn x' >>= f'):=by
 cases B<;>first|exact h _ _ ‹_›|exact .gF trivial
theorem sT(O:AR m a a'):∀(n i:Nat)(acc B:Array Value),io m acc B->gC P io m (bK a i n acc) (bK a' i n B)
 |0,_,_,_,h=>.pure h
 |n+1,i,_,_,h=>E0 (O.add i) λv v' U=>sT O n _ _ _ (h.push U)
theorem yb(B:AR m a a')(n:Nat):gC P io m (bQ a n) (bQ a' n):=sT B n 0 _ _ (.nil m)
theorem nG(B:AR m a a'):∀{vs vs':List Value}(i:Nat),gW (VR m) vs vs'->gC P Bz m (bL a vs i) (bL a' vs' i)
 |_,_,_,.nil=>by unfold bL; exact .pure trivial
 |_,_,i,.cons O h=>QF (B.add i) O (nG B _ h)
theorem Dp(B:AR m a a'):gC P VR m (loadVar t a) (loadVar t a'):=by
 refine GM λb=>gN (λ_=>?_) (λ_=>.load B λ_ _ O=>.pure O);refine iB λn=>gJ (yb B n) λm' c c' _ U=>.pure (.MW U)
theorem IZ(O:AR m a a')(B:VR m v v'):gC P Bz m (storeVar t a v) (storeVar t a' v'):=by
 refine iB λn=>?_;rw[<-B.cells.size];split
 .exact .gF trivial
 .exact nG O 0 B.cells
def JF(m:Ren)(a a':Addr):Prop:=AR m a a'/\¬m.loose a.block
theorem rn{e:bB}(h:io m c c'):gC P JF m (bJ e c) (bJ e c'):=by
 refine .new (.cells e _ _ h) (λx y z B=>by cases B; exact⟨_,rfl⟩) λm' r r' U hb O=>.pure ⟨.mk hb,O⟩
theorem AJ{e:bB}(h:VR m v v'):gC P JF m (newVar e v) (newVar e v'):=rn h.cells
theorem pe(h:io m c c')(off:Nat):gC P VR m (part t c off) (part t c' off):=by
 refine GM λb=>gN (λ_=>?_) (λ_=>?_)
 .exact iB λn=>.pure (.MW (h.extract ..))
 .cases O:c[off]? with
  |none=>exact .gF trivial
  |some v=>obtain⟨v',B,U⟩:=h.get O; rw[B]; exact .pure U
end
end
section
variable {a':Addr} {ps ps':Array (Nat×Value)} {c:BoundsCode} {n:Nat} {h h' l l' x x':Option Value} {α β γ δ:Type} {t:bB} {i i' v v':Value}
section
variable {P:Program} {m:Ren}
theorem Si(B:oO P){e:bB}:gC P VR m (b9 e true (.tuple #[])) (b9 e true (.tuple #[])):=by
 exact jq B λv O=>gJ (AJ O) λm' a a' _ h=>.pure (.ptr h.1)
theorem Vd{e:bB}(B:VR m v v'):gC P VR m (bA e v) (bA e v'):=gJ (AJ B) λm' a a' _ h=>.pure (.ptr h.1)
theorem CN(off:Nat):∀{l l':List Value}(n:Nat){c c':Array Value},gW (VR m) l l'->io m c c'->
  io m ((l.zipIdx n).foldl (λcs (x:Value×Nat)=>cs.setIfInBounds (off+x.2) x.1) c) ((l'.zipIdx n).foldl (λcs (x:Value×Nat)=>cs.setIfInBounds (off+x.2) x.1) c')
 |_,_,_,_,_,.nil,h=>by simpa using h
 |_,_,n,_,_,.cons B O,h=>by
  simp only[List.zipIdx_cons,List.foldl_cons];exact CN off _ O (h.set _ B)
def KL(m:Ren)(x y:Nat×Value):Prop:=x.1=y.1/\VR m x.2 y.2
theorem Et(place:Nat->Option (Nat×Nat)):∀{ps ps':List (Nat×Value)}{c c' r:Array Value},gW (KL m) ps ps'->io m c c'->aP place c ps=some r->∃r',aP place c' ps'=some r'/\io m r r'
 |_,_,c,c',r,.nil,h,e=>by
  simp only[aP,dc]at e⊢
  exact⟨c',rfl,e▸h⟩
 |_,_,c,c',r,.cons (a:=(i,v)) (b:=(i',v')) B hl,h,e=>by
  obtain⟨hi,B⟩:=B
  subst hi;simp only[aP]at e⊢
  cases O:place i with
  |none=>rw[O]at e; cases e
  |some x=>
   obtain⟨off,size⟩:=x;rw[O]at e;simp only at e⊢;have U:=B.cells.size;rw[<-U,<-h.size];split at e
   .cases e
   .rename_i Y;rw[if_neg Y];refine Et place hl ?_ e;have:=CN off 0 B.cells h;rw[<-a7,<-a7,aD,aD];exact this
theorem zz{z:Array Value}(h:io m z z)(n:Nat):io m ((a3 n).map (z[· % z.size]!)) ((a3 n).map (z[· % z.size]!)):=by
 refine .refl λv B=>?_;simp only[a4,db]at B;obtain⟨i,_,rfl⟩:=B;by_cases hi:i % z.size<z.size
 .rw[getElem!_pos z _ hi];exact h.idx _ hi hi
 .rw[getElem!_neg z _ hi];exact .bool _
theorem DE{Q:Ren->β->β->Prop}(hm:∀m m' a b,m.Le m'->Q m a b->Q m' a b)(g:α->Sem β)(B:∀m x,gC P Q m (g x) (g x)):∀(l:List α)(m:Ren),gC P (λm=>gW (Q m)) m (l.mapM g) (l.mapM g)
 |[],m=>.pure .nil
 |x::l,m=>by
  simp only[cZ];exact gJ (B m x) λm' a b _ h=>gJ (DE hm g B l m') λO c d U Y=>.pure (.cons (hm _ _ _ _ U h) Y)
theorem gW.eq:∀{l l':List α},gW (λa b=>a=b) l l'->l=l'
 |_,_,.nil=>rfl
 |_,_,.cons rfl h=>by rw[gW.eq h]
theorem IY{B:Array Field}:gC P yY m (B.mapM (λx=>do pure (x.offset,<-bM x.type))) (B.mapM (λx=>do pure (x.offset,<-bM x.type))):=by
 rw[a0];refine gJ (DE (Q:=yY) (λ_ _ _ _ _ h=>h) _ (λm x=>iB λn=>.pure rfl) _ m) λm' a b _ h=>.pure ?_;exact congrArg _ (gW.eq h)
theorem SC(hP:oO P)(h:gW (KL m) ps.toList ps'.toList):gC P VR m (b8 t ps) (b8 t ps'):=by
 refine jq hP λz hz=>gG λd hd=>?_
 have hf:∀m',m.Le m'->∀place,gC P VR m' (match aP place z.cells ps.toList with|some cells=>pure (.agg cells)|_=>stuck "build: a part of the wrong size") (match aP place z.cells ps'.toList with|some cells=>pure (.agg cells)|_=>stuck "build: a part of the wrong size"):=by
  intro m' B place
  cases Y:aP place .. with
  |none=>exact .gF trivial
  |some r=>
   obtain⟨r',O,U⟩:=Et place (h.mono λ_ _ x=>⟨x.1,x.2.mono B⟩) (hz.cells.mono B) Y;rw[O];exact .pure (.MW U)
 have aa:∀m',m.Le m'->∀place,gC P VR m' (match aP place z.cells ps.toList with|some cells=>pure (.agg cells)|_=>stuck "build: no such field, or a part of the wrong size") (match aP place z.cells ps'.toList with|some cells=>pure (.agg cells)|_=>stuck "build: no such field, or a part of the wrong size"):=by
  intro m' B place
  cases Y:aP place .. with
  |none=>exact .gF trivial
  |some r=>
   obtain⟨r',O,U⟩:=Et place (h.mono λ_ _ x=>⟨x.1,x.2.mono B⟩) (hz.cells.mono B) Y;rw[O];exact .pure (.MW U)
 cases d<;>first|exact .gF trivial|skip
 .exact iB λn=>hf m (.refl m) _
 .refine gJ IY λm' a b B ab=>?_;cases ab;exact aa m' B _
theorem Fj(Y:oO P)(h:gW (KL m) ps.toList ps'.toList):gC P VR m (bh t n ps) (bh t n ps'):=by
 refine gG λd hd=>?_;cases d<;>first|exact .gF trivial|skip
 rename_i elem;dsimp only;refine iB λsize=>?_;split
 .exact .gF trivial
 have fin:∀z,io m z z->gC P VR m
   (match aP (λi=>some (i*size,size)) ((a3 (n*size)).map (z[· % z.size]!)) ps.toList with|some cells=>(do pure (.slice (some (<-bJ elem cells)) n n))|_=>stuck "buildSlice: a part of the wrong size")
   (match aP (λi=>some (i*size,size)) ((a3 (n*size)).map (z[· % z.size]!)) ps'.toList with|some cells=>(do pure (.slice (some (<-bJ elem cells)) n n))|_=>stuck "buildSlice: a part of the wrong size"):=by
  intro z B
  cases hr:aP .. with
  |none=>exact .gF trivial
  |some r=>
   obtain⟨r',O,U⟩:=Et _ h (zz B _) hr;rw[O];exact gJ (rn U) λm' a a' _ ha=>.pure (.slice _ _ ha.1)
 split
 .exact fin _ (.nil m)
 .exact jq Y λz B=>fin _ B.cells
theorem OH{a a':Value}(h:VR m a a'):gC P VR m (b0 t a) (b0 t a'):=oP h λ_ _ B=>Dp B
theorem MK{a a':Value}(h:VR m a a')(B:VR m v v'):gC P Bz m (bs t a v) (bs t a' v'):=oP h λ_ _ O=>IZ O B
theorem tj{RB:Ren->γ->δ->Prop}{a:Addr}{f:Unit->Sem γ}{f':Unit->Sem δ}(B:AR m a a')(h:gC P RB m (f ()) (f' ())):gC P RB m (noView a >>= f) (noView a' >>= f'):=by
 refine gC.shape B.blk λx=>?_
 cases x with
 |some y=>exact h
 |none=>
  refine gC.getObj B.blk λo o' O=>?_;cases O<;>exact h
theorem qk{a:Addr}(B:AR m a a'):gC P yY m (ct a) (ct a'):=by
 unfold ct;rw[B.spot,B.off]
 cases O:a.spot with
 |some s=>exact .pure rfl
 |none=>
  refine kw (tj B (lZ B.blk λx=>?_))
  cases x with
  |none=>exact .gF trivial
  |some y=>
   refine gN (λ_=>.pure rfl) (λ_=>?_);split
   .exact .pure rfl
   .exact .gF trivial
theorem OJ{a:Addr}(U:AR m a a')(c b:Nat):gC P AR m (partAt a c b) (partAt a' c b):=by
 cases U with
 |mk hb=>
 refine gJ (qk (.mk hb)) λm' x y O h=>?_;cases h;refine gJ (qk (.mk (O.blk _ _ hb))) λY x' y' B h=>?_;cases h;refine .pure ?_;split<;>exact .mk (B.blk _ _ (O.blk _ _ hb))
theorem Fa{a:Addr}(B:AR m a a')(f:Field):gC P AR m (cq a f) (cq a' f):=by
 exact iB λn=>gN (λ_=>OJ B ..) (λ_=>.pure (B.add _))
theorem Mq{s:bB}{x x':Value}(h:VR m x x')(f:Nat):gC P VR m (bw s x f) (bw s x' f):=by
 refine gG λd Y=>?_;cases d<;>first|exact .gF trivial|skip
 rename_i B;dsimp only
 cases B[f]? with
 |none=>exact .gF trivial
 |some O=>exact oP h λa a' U=>gJ (Fa U O) λm' b b' _ hb=>.pure (.ptr hb)
theorem NN{x x':Value}(h:VR m x x')(hi:VR m i i'):gC P VR m (bv t x i) (bv t x' i'):=by
 refine An hi λk n _=>gG λd U=>?_
 have fin:∀(len:Nat)(elem:bB)(B:Bool){a a':Addr},AR m a a'->gC P VR m
   (if 0<=n/\n<len then(do pure (.pointer (some (a.add (n.toNat*(<-bM elem))))))else if B=true then unsupported (.noEntry "op/indexAddr.an index out of range at an array of length 0 or 1 (ledger 616)")else bF k n len .index)
   (if 0<=n/\n<len then(do pure (.pointer (some (a'.add (n.toNat*(<-bM elem))))))else if B=true then unsupported (.noEntry "op/indexAddr.an index out of range at an array of length 0 or 1 (ledger 616)")else bF k n len .index):=by
  intro len elem B a a' O;exact gN (λ_=>iB λs=>.pure (.ptr (O.add _))) (λ_=>gN (λ_=>.gF trivial) (λ_=>ry))
 cases d<;>first|exact .gF trivial|skip
 .cases h with
  |jg l c=>exact gG λd2 _=>ry
  |slice l c O=>exact gG λd2 _=>fin l _ _ O
  |_=>exact .gF trivial
 .exact oP h λa a' O=>gG λd2 _=>fin _ _ _ O
theorem AK{RB:Ren->γ->δ->Prop}{k:IntKind}{x y:Int}{f:α->Sem γ}{f':β->Sem δ}:gC P RB m (bF k x y c >>= f) (bF k x y c >>= f'):=
 gJ (RA:=λ_ _ _=>False) ry nofun
theorem C4{RB:Ren->γ->δ->Prop}(h:VR m v v'){y:Nat}{f:Nat->Sem γ}{f':Nat->Sem δ}(B:∀n,gC P RB m (f n) (f' n)) :
  gC P RB m (aX v y c >>= f) (aX v' y c >>= f'):=by
 cases h with
 |int k n=>
  have e:aX (.int k n) y c=if 0<=n/\n<=y then pure _ else bF k n y c:=rfl
  rw[e];split
  .exact B _
  .exact AK
 |_=>exact .gF trivial
inductive nX{α β:Type}(R:α->β->Prop):Option α->Option β->Prop
 |none:nX R none none
 |some {a b}:R a b->nX R (some a) (some b)
theorem nX.mono{R S:α->β->Prop}(h:∀a b,R a b->S a b){o:Option α}{o':Option β}(x:nX R o o'):nX S o o':=by
 cases x with
 |none=>exact .none
 |some B=>exact .some (h _ _ B)
theorem lY{RB:Ren->γ->δ->Prop}{b:Bool}{len cap:Nat}(B:nX (VR m) l l')(O:nX (VR m) h h')(U:nX (VR m) x x'){f:Nat×Nat×Nat->Sem γ}{f':Nat×Nat×Nat->Sem δ}(Y:∀n,gC P RB m (f n) (f' n)) :
  gC P RB m (aW b len cap l h x >>= f) (aW b len cap l' h' x' >>= f'):=by
 unfold aW
 cases U<;>cases O<;>cases B<;>simp only[bind_assoc,pure_bind] <;>
  repeat first|exact Y _|exact .gF trivial|refine C4 (by assumption) λ_=>?_
theorem S3(hv:VR m v v')(O:nX (VR m) l l')(U:nX (VR m) h h')(Y:nX (VR m) x x'):gC P VR m (b1 t v l h x) (b1 t v' l' h' x'):=by
 refine gG λd hd=>?_;cases d<;>first|exact .gF trivial|skip
 .cases hv<;>first|exact .gF trivial|skip
  have ex:x.isSome=x'.isSome:=by cases Y<;>rfl
  dsimp only;rw[ex];split
  .exact .gF trivial
  .exact lY O U .none λn=>.pure (.string _)
 .exact D9 hv λa a' B=>gG λd2 _=>by
   cases d2<;>first|exact .gF trivial|skip
   refine lY O U Y λn=>iB λs=>.pure ?_;split
   .exact .slice _ _ B
   .exact .slice _ _ (B.add _)
 .cases hv<;>first|exact .gF trivial|skip
  .refine lY O U Y λn=>iB λs=>.pure ?_;split<;>exact .jg ..
  .rename_i B;refine lY O U Y λn=>iB λs=>.pure ?_;split
   .exact .slice _ _ B
   .exact .slice _ _ (B.add _)
theorem Mz(B:VR m v v')(O:nX (VR m) l l')(U:nX (VR m) h h')(Y:nX (VR m) x x'):gC P VR m (bt t v l h x) (bt t v' l' h' x'):=by
 refine gG λd hd=>?_;cases d<;>first|exact S3 B O U Y|skip
 refine oP B λa a' ha=>lY O U Y λn=>iB λs=>.pure ?_;split
 .exact .slice _ _ ha
 .exact .slice _ _ (ha.add _)
theorem RS(B:VR m v v')(f:Nat):gC P VR m (b6 t v f) (b6 t v' f):=by
 refine gG λd Y=>?_;cases d<;>first|exact .gF trivial|skip
 rename_i O;dsimp only
 cases O[f]? with
 |none=>exact .gF trivial
 |some fd=>exact Pp B λc c' U=>pe U _
theorem RM(B:VR m v v')(hi:VR m i i'):gC P VR m (b5 t v i) (b5 t v' i'):=by
 refine An hi λk n _=>gG λd Y=>?_;cases d<;>first|exact .gF trivial|skip
 .cases B<;>first|exact .gF trivial|skip
  dsimp only;split
  .exact .pure (.int ..)
  .exact ry
 .cases B<;>first|exact .gF trivial|skip
  rename_i O U;exact gN (λ_=>iB λs=>pe (.kE O U) _) (λ_=>ry)
theorem NG(B:VR m v v')(i:Nat):gC P VR m (aZ v i) (aZ v' i):=by
 cases B<;>first|exact .gF trivial|skip
 .rename_i O U;unfold aZ;dsimp only
  cases Y:(_:Array Value)[i]? with
  |none=>exact .gF trivial
  |some u=>obtain⟨u',hu,hr⟩:=(io.kE O U).get Y; rw[hu]; exact .pure hr
theorem zg(B:VR m v v'):gC P VR m (bc t v) (bc t v'):=by
 refine gG λd O=>?_;cases d<;>first|exact .gF trivial|exact .pure (.iface _ B)
theorem MT{r r':Option Value}(h:nX (VR m) r r'):gC P VR m (bu t r) (bu t r'):=by
 have fin:gC P VR m .. :=
  gC.new (.map 0 .nil) (nofun) λm' i i' O hb _=>.pure (.map hb)
 cases h with
 |none=>exact fin
 |some B=>
  refine gG λd U=>?_;cases d<;>first|exact .gF trivial|exact me B λn=>fin
theorem nj{RB:Ren->γ->δ->Prop}{f:Unit->Sem γ}{f':Unit->Sem δ}(h:gC P RB m (f ()) (f' ())):gC P RB m (bR n >>= f) (bR n >>= f'):=by
 unfold bR;split
 .exact gC.mark trivial h
 .exact h
theorem Hh(O:oO P){l l' c c':Value}(U:VR m l l')(Y:VR m c c'):gC P VR m (bk t l c) (bk t l' c'):=by
 refine gG λd hd=>?_;cases d<;>first|exact .gF trivial|skip
 rename_i elem;refine me U λln=>me Y λcn=>gV λti _=>?_
 have fin:∀{a b:Nat}{x y:Nat},gC P VR m
   (do bR a; let n <-bM elem; if b*n=0 then(do let zero <-pure #[]; let r <-bJ elem (aA (λx=>zero[x % zero.size]!) (a3 (b*n))); pure (Value.slice (some r) x y))else(do let z <-bD elem; let zero <-pure z.cells; let r <-bJ elem (aA (λx=>zero[x % zero.size]!) (a3 (b*n))); pure (Value.slice (some r) x y)))
   (do bR a; let n <-bM elem; if b*n=0 then(do let zero <-pure #[]; let r <-bJ elem (aA (λx=>zero[x % zero.size]!) (a3 (b*n))); pure (Value.slice (some r) x y))else(do let z <-bD elem; let zero <-pure z.cells; let r <-bJ elem (aA (λx=>zero[x % zero.size]!) (a3 (b*n))); pure (Value.slice (some r) x y))):=by
  refine nj (iB λn=>gN (λ_=>?_) (λ_=>jq O λz hz=>?_))
  .exact gJ (RA:=JF) (rn (zz (z:=#[]) (.nil m) _)) λm' r r' _ B=>gC.pure (VR.slice _ _ B.1)
  .exact gJ (RA:=JF) (rn (zz hz.cells _)) λm' r r' _ B=>gC.pure (VR.slice _ _ B.1)
 refine gN (λ_=>gN (λ_=>?_) (λ_=>gN (λ_=>?_) (λ_=>jO λn=>?_))) (λ_=>fin)
 all_goals exact gY (e:=.error _) trivial
theorem Jq{f:bH}(B:m.je f){a a' b b':Array Value}(O:io m a a')(hb:io m b b'):gC P VR m (bp (.func f) a b) (bp (.func f) a' b'):=.pure (.Lh (.func f B) O hb)
theorem JP(hm:m.kK){s s':Value}(B:VR m s s'):gC P VR m (bq t s) (bq t s'):=by
 refine me B λn=>gG λd O=>?_;cases d<;>first|exact .gF trivial|skip
 refine gV λU _=>gN (λ_=>gY (e:=.plain _) trivial) (λ_=>?_);exact gC.s8 hm λm' i i' _ hb=>.pure (.chan hb)
theorem R9(O:VR m v v'):gC P VR m (b3 t v) (b3 t v'):=by
 refine gG λd Y=>?_
 have fin:∀{o o':Obj},OR m o o'->(∀e c f,o≠.cells e c f)->gC P VR m (do pure (.pointer (some ⟨<-bV o,0,none⟩))) (do pure (.pointer (some ⟨<-bV o',0,none⟩))):=by
  intro o o' B U;exact gC.new B (λe c f h=>absurd h (U e c f)) λm' i i' _ hb _=>.pure (.ptr (.mk hb))
 cases d<;>first|exact .gF trivial|skip
 .cases O<;>first|exact .gF trivial|exact fin (.stringIter ..) (nofun)
 .cases O<;>first|exact .gF trivial|skip
  .exact fin (.j9 ..) (nofun)
  .rename_i hb;refine jv hb λo o' B=>?_;cases B<;>first|exact .gF trivial|exact fin (.mapIter _ _ _ hb) (nofun)
  .exact .gone ‹_›
theorem Hk{RB:Ren->γ->δ->Prop}{f:bB->Sem γ}{f':bB->Sem δ}(h:∀n,gC P RB m (f n) (f' n)):gC P RB m (cr t >>= f) (cr t >>= f'):=by
 unfold cr;simp only[bind_assoc];refine gG λd B=>?_;cases d<;>first|exact .gF trivial|exact h _
theorem JB{RA:Ren->α->β->Prop}:gC P RA m (bG .panicNil) (bG .panicNil):=by
 refine .program ?_;refine Hk λn=>gJ (RA:=JF) (AJ (.MW (.nil m))) λm' r r' _ B=>.panic (.iface _ (.ptr B.1))
theorem SA(B:VR m v v'):gC P VR m (b4 v) (b4 v'):=by
 cases B<;>first|exact .gF trivial|exact .panic (.iface _ ‹_›)|skip
 refine gC.env λr=>?_;cases r<;>first|exact .gF trivial|skip
 refine gC.program ?_;exact gN (λ_=>.panic .nilIface) (λ_=>JB)
end
end
section
variable {a a' b b':Addr} {α γ δ σ:Type}
def qw(P:Program):Nat->bB->Bool
 |0,_=>true
 |d+1,t=>match P.underlying t with
  |some (.pointer _)|some .unsafePointer|some (.interface _)=>false
  |some (.struct B)=>B.all λf=>qw P d f.type
  |some (.array _ e)=>qw P d e
  |_=>true
def jS(m:Ren):Prop:=∀r,¬m.loose r
theorem jS.mono{m m':Ren}(h:m.Le m')(x:jS m):jS m':=λr B=>x r (h.less r B)
section
variable {P:Program} {m:Ren}
theorem yp{RB:Ren->γ->δ->Prop}(O:jS m)(B:AR m a a'){f:Bool->Sem γ}{f':Bool->Sem δ}(h:∀b,gC P RB m (f b) (f' b)):gC P RB m (stringish a >>= f) (stringish a' >>= f'):=by
 refine pK B (O _) λx=>?_;cases x
 .refine lZ B.blk λy=>?_
  cases y with
  |none=>exact h _
  |some z=>exact pK (.mk B.blk) (O _) λb=>h b
 .exact h _
theorem BG{RB:Ren->γ->δ->Prop}(B:jS m)(O:AR m a a')(hb:AR m b b'){f:Bool->Sem γ}{f':Bool->Sem δ}(h:∀b,gC P RB m (f b) (f' b)):gC P RB m (bW a b >>= f) (bW a' b' >>= f'):=by
 unfold bW;simp only[bind_assoc];exact yp B O λsa=>yp B hb λU=>lZ O.blk λx=>lZ hb.blk λy=>h _
theorem AF(O:jS m)(B:AR m a a')(hb:AR m b b'):gC P yY m (bU a b) (bU a' b'):=by
 unfold bU;have U:(a.block==b.block)=(a'.block==b'.block):=by rw[cR]; simp only[beq_iff_eq]; exact B.ui hb
 have Y:(a==b)=(a'==b'):=by rw[cR]; simp only[beq_iff_eq]; exact B.eq_iff hb
 rw[U,Y];refine gN (λ_=>.pure rfl) (λ_=>?_);refine pK B (O _) λx=>?_;exact pK hb (O _) λy=>gN (λ_=>.gF trivial) (λ_=>tj B (tj hb (BG O B hb λx=>gN (λ_=>jO λn=>.pure rfl) (λ_=>.pure rfl))))
theorem ia{RB:Ren->γ->δ->Prop}(B:AR m a a'){f:Addr×Bool->Sem γ}{f':Addr×Bool->Sem δ}(h:∀p O l,AR m p O->gC P RB m (f (p,l)) (f' (O,l))) :
  gC P RB m (ci a >>= f) (ci a' >>= f'):=by
 refine lZ B.blk λx=>?_
 cases x with
 |some y=>exact h _ _ _ B
 |none=>
  refine jv B.blk λo o' U=>?_
  cases U with
  |number l Y=>exact h _ _ _ Y
  |_=>exact h _ _ _ B
theorem se{f f':α->σ->Sem (ForInStep σ)}:∀(l:List α)(s:σ)(m':Ren),m.Le m'->(∀m' a s,a∈l->m.Le m'->gC P yY m' (f a s) (f' a s))->gC P yY m' (forIn l s f) (forIn l s f')
 |[],s,m',_,_=>.pure rfl
 |a::l,s,m',Y,h=>by
  simp only[cY];refine gJ (h m' a s (by simp) Y) λB x y O U=>?_;cases U
  cases x with
  |done b=>exact .pure rfl
  |yield b=>exact se l b B (Y.trans O) λm1 a s ha=>h m1 a s (by simp[ha])
theorem qP{f f':α->σ->Sem (ForInStep σ)}(xs:Array α)(s:σ)(h:∀m' a s,a∈xs.toList->m.Le m'->gC P yY m' (f a s) (f' a s)):gC P yY m (forIn xs s f) (forIn xs s f'):=by
 rw[<-a6,<-a6];exact se _ s m (.refl m) h
theorem qW{f f':Nat->σ->Sem (ForInStep σ)}(n:Nat)(s:σ)(h:∀m' a s,m.Le m'->gC P yY m' (f a s) (f' a s)):gC P yY m (forIn [:n] s f) (forIn [:n] s f'):=by
 rw[dG,dG];exact se _ s m (.refl m) λB a s _=>h B a s
theorem Mg{RB:Ren->γ->δ->Prop}{t:bB}{f:String->Sem γ}{f':String->Sem δ}(h:∀n,gC P RB m (f n) (f' n)):gC P RB m (ce t >>= f) (ce t >>= f'):=by
 unfold ce;simp only[bind_assoc];refine gV λB _=>?_;split
 .exact .gF trivial
 .exact h _
theorem UD(B:AR m a a')(hb:AR m b b'):(a==b)=(a'==b'):=by rw[cR]; simp only[beq_iff_eq]; exact B.eq_iff hb
theorem rB:∀(d:Nat)(m:Ren)(t:bB){x x' y y':Value},m.G=P.globals.size->VR m x x'->VR m y y'->jS m\/qw P d t=true->gC P yY m (c4 d t x y) (c4 d t x' y')
 |0,m,t,_,_,_,_,_,_,_,_=>.gF trivial
 |d+1,m,t,x,x',y,y',hG,Y,O,B=>by
  unfold c4
  refine gG λde hd=>?_
  cases de with
  |bool=>cases Y<;>first|exact .gF trivial|(cases O<;>first|exact .gF trivial|exact .pure rfl)
  |string=>cases Y<;>first|exact .gF trivial|(cases O<;>first|exact .gF trivial|exact .pure rfl)
  |int k=>
   cases Y with
   |int k n=>
    cases O with
    |int k' n'=>exact gN (λ_=>.pure rfl) (λ_=>.gF trivial)
    |ptr ha=>
     cases n with
     |ofNat n=>cases n<;>first|exact .pure rfl|exact .gF trivial
     |negSucc n=>exact .gF trivial
    |_=>exact .gF trivial
   |ptr ha=>
    cases O with
    |int k' n'=>
     cases n' with
     |ofNat n=>cases n<;>first|exact .pure rfl|exact .gF trivial
     |negSucc n=>exact .gF trivial
    |ptr hb=>
     refine ia ha λp p' l hp=>ia hb λq q' l' hq=>kw ?_
     have e1:(p.block==q.block)=(p'.block==q'.block):=by rw[cR]; simp only[beq_iff_eq]; exact hp.ui hq
     have e2:(p==q)=(p'==q'):=by rw[cR]; simp only[beq_iff_eq]; exact hp.eq_iff hq
     have e3:decide (p.block<P.globals.size)=decide (p'.block<P.globals.size):=by rw[<-hG]; exact decide_eq_decide.2 (m.qT _ _ hp.blk)
     rw[e1,e2,e3];refine gN (λ_=>?_) (λ_=>gV λti _=>?_)
     .refine gJ (qk hp) λm' x y hl h=>?_;cases h;refine gJ (qk (hq.mono hl)) λad x' y' hl h=>?_;cases h;exact .pure rfl
     .split
      .exact gN (λ_=>.pure rfl) (λ_=>.gF trivial)
      .exact .gF trivial
    |_=>exact .gF trivial
   |jY=>exact .gF trivial
   |_=>cases O<;>exact .gF trivial
  |pointer e=>
   cases Y with
   |jY=>cases O<;>first|exact .gF trivial|exact .pure rfl
   |ptr ha=>
    cases O with
    |jY=>exact .pure rfl
    |ptr hb=>
     rcases B with B|B
     .refine iB λn=>gN (λ_=>AF B ha hb) (λ_=>?_);rw[UD ha hb];exact gN (λ_=>.pure rfl) (λ_=>jO λn=>.pure rfl)
     .simp[qw,hd]at B
    |_=>exact .gF trivial
   |_=>exact .gF trivial
  |interface ms=>
   cases Y with
   |nilIface=>cases O<;>first|exact .gF trivial|exact .pure rfl
   |iface tx ab=>
    cases O with
    |nilIface=>exact .pure rfl
    |iface ty ac=>
     rcases B with B|B
     .refine gN (λ_=>.pure rfl) (λae=>gV λti _=>gN (λ_=>kw (kw ?_)) (λ_=>rB d m tx hG ab ac (.inl B)));dsimp only;exact gN (λ_=>.gF trivial) (λ_=>Mg λn=>iZ (e:=.error _) trivial)
     .simp[qw,hd]at B
    |_=>exact .gF trivial
   |_=>exact .gF trivial
  |struct fs=>
   cases Y<;>first|exact .gF trivial|(cases O<;>first|exact .gF trivial|skip)
   rename_i h1 h2 c c' h3 h4
   have aa:∀f∈fs.toList,jS m\/qw P d f.type=true:=by
    intro f hf;rcases B with B|B
    .exact .inl B
    .right;simp only[qw,hd,a8]at B;exact B f (by simpa using hf)
   refine kw ?_;dsimp only;refine gN (λ_=>.gF trivial) (λ_=>?_);refine gJ (RA:=yY) (qP _ _ λm' f s hf hl=>gN (λ_=>?_) (λ_=>.pure rfl)) λm' a b _ U=>?_
   .refine gJ (pe ((io.kE h1 h2).mono hl) _) λm1 u u' l1 hu=>gJ (pe ((io.kE h3 h4).mono (hl.trans l1)) _) λm2 v v' l2 hv=>?_;have l3:=(hl.trans l1).trans l2;refine gJ (rB d m2 _ (by rw[l3.G,hG]) (hu.mono l2) hv ((aa f hf).imp (λx=>x.mono l3) id)) λm3 a b _ U=>?_;cases U;exact gN (λ_=>.pure rfl) (λ_=>.pure rfl)
   .cases U;obtain⟨o,_⟩:=a;cases o<;>exact .pure rfl
  |array n e=>
   cases Y<;>first|exact .gF trivial|(cases O<;>first|exact .gF trivial|skip)
   rename_i h1 h2 c c' h3 h4
   have aa:jS m\/qw P d e=true:=by
    rcases B with B|B
    .exact .inl B
    .right;simpa only[qw,hd]using B
   refine iB λsz=>?_;refine gJ (RA:=yY) (qW _ _ λm' i s hl=>?_) λm' a b _ U=>?_
   .refine gJ (pe ((io.kE h1 h2).mono hl) _) λm1 u u' l1 hu=>gJ (pe ((io.kE h3 h4).mono (hl.trans l1)) _) λm2 v v' l2 hv=>?_;have l3:=(hl.trans l1).trans l2;refine gJ (rB d m2 _ (by rw[l3.G,hG]) (hu.mono l2) hv (aa.imp (λx=>x.mono l3) id)) λm3 a b _ U=>?_;cases U;exact gN (λ_=>.pure rfl) (λ_=>.pure rfl)
   .cases U;obtain⟨o,_⟩:=a;cases o<;>exact .pure rfl
  |slice e=>cases Y<;>first|exact .gF trivial|(cases O<;>first|exact .gF trivial|exact .pure rfl)
  |map k e=>cases Y<;>first|exact .gF trivial|(cases O<;>first|exact .gF trivial|exact .pure rfl)
  |func a b c=>cases Y<;>first|exact .gF trivial|(cases O<;>first|exact .gF trivial|exact .pure rfl)
  |unsafePointer=>
   rcases B with B|B
   .cases Y<;>first|exact .gF trivial|(cases O<;>first|exact .gF trivial|exact .pure rfl|exact AF B ‹_› ‹_›)
   .simp[qw,hd]at B
  |chan a b=>
   cases Y<;>first|exact .gF trivial|(cases O<;>first|exact .gF trivial|exact .pure rfl|skip)
   rename_i r r' h1 s s' h2;refine .pure ?_;show((some r==some s)=(some r'==some s'));rw[cR];simp only[beq_iff_eq,dc];constructor
   .intro e; subst e; rw[h1]at h2; cases h2; rfl
   .intro e; subst e; exact m.xH _ _ _ h1 h2
  |_=>cases Y<;>exact .gF trivial
end
end
section
variable {γ:Type} {d:TypeDesc} {t:bB} {a a' b b' k k' x x':Value}
def sQ(P:Program):Nat->bB->Bool
 |0,_=>true
 |d+1,t=>match P.underlying t with
  |some (.interface _)=>false
  |some (.struct B)=>B.all λf=>sQ P d f.type
  |some (.array _ e)=>sQ P d e
  |_=>true
section
variable {P:Program} {m:Ren}
theorem pT(b:Bool):∀(n:Nat)(m:Ren)(t:bB){v v':Value},VR m v v'->sQ P n t=true->gC P Bz m (aT b n t v) (aT b n t v')
 |0,m,t,_,_,_,_=>.gF trivial
 |n+1,m,t,v,v',hv,B=>by
  refine gG λd O=>?_
  cases d with
  |interface ms=>simp[sQ,O]at B
  |struct fs=>
   simp only[sQ,O,a8]at B;cases hv<;>first|exact .gF trivial|skip
   rename_i U Y;refine(gJ (RA:=yY) (qP _ _ λm' f s hf hl=>gN (λ_=>?_) (λ_=>.pure rfl)) λ_ _ _ _ _=>.pure trivial);refine gJ (pe ((io.kE U Y).mono hl) _) λm1 u u' l1 hu=>gJ (pT b n m1 _ hu (B f (by simpa using hf))) λ_ _ _ _ _=>.pure rfl
  |array l e=>
   simp only[sQ,O]at B;cases hv<;>first|exact .gF trivial|skip
   rename_i U Y;refine(gJ (RA:=yY) (qW _ _ λm' i s hl=>iB λsz=>?_) λ_ _ _ _ _=>.pure trivial);refine gJ (pe ((io.kE U Y).mono hl) _) λm1 u u' l1 hu=>gJ (pT b n m1 _ hu B) λ_ _ _ _ _=>.pure rfl
  |_=>exact .pure trivial
def JQ(m:Ren):Option (Nat×Value)->Option (Nat×Value)->Prop:=nX λx y=>y.1=x.1/\VR m x.2 y.2
theorem vA(U:∀m',m.Le m'->jS m'\/qw P cw t=true)(Y:m.G=P.globals.size)(hk:VR m k k'):∀{es es':List MapEntry}(i:Nat)(m':Ren),m.Le m'->gW (vm m) es es'->gC P JQ m' (aS t k es i) (aS t k' es' i)
 |_,_,_,m',_,.nil=>by unfold aS; exact .pure .none
 |_,_,i,m',B,.cons he h=>by
  refine gJ (rB _ m' t (by rw[B.G,Y]) (hk.mono B) (he.key.mono B) (U m' B)) λm2 a b l2 O=>?_;cases O;exact gN (λ_=>.pure (.some ⟨rfl,he.val.mono (B.trans l2)⟩)) (λ_=>vA U Y hk _ m2 (B.trans l2) h)
theorem MY(B:VR m k k')(O:VR m x x')(b:Bool)(h:aO d k x=some b):aO d k' x'=some b:=by
 cases d with
 |bool=>
  cases B with
  |bool c=>cases O with|bool e=>exact h|_=>cases h
  |_=>cases h
 |int j=>
  cases B with
  |int c n=>cases O with|int e U=>exact h|_=>cases h
  |_=>cases h
 |string=>
  cases B with
  |string c=>cases O with|string e=>exact h|_=>cases h
  |_=>cases h
 |_=>cases h
theorem Eb(Y:P.underlying t=some d)(O:VR m k k')(U:VR m x x')(h:aO d k x=none){b:Bool}(h':aO d k' x'=some b):ij P (cv t k x):=by
 have key:∀{γ:Type}(f:TypeDesc->Sem γ),ij P (f d)->ij P (bE t >>= f):=by
  intro γ f hf;show ij P ((match P.underlying t with|some d=>pure d|none=>stuck _) >>= f);rw[Y]; exact hf
 cases d with
 |bool=>
  cases O with
  |bool c=>cases U with
   |bool e=>cases h
   |jw v B=>exact key _ trivial
   |_=>cases h'
  |jw v B=>exact key _ trivial
  |_=>cases h'
 |int j=>
  cases O with
  |int c n=>cases U with
   |int e n'=>rw[show aO .. = some b from h']at h; cases h
   |jw v B=>exact key _ trivial
   |_=>cases h'
  |jw v B=>exact key _ (by cases x<;>trivial)
  |_=>cases h'
 |string=>
  cases O with
  |string c=>cases U with
   |string e=>cases h
   |jw v B=>exact key _ trivial
   |_=>cases h'
  |jw v B=>exact key _ trivial
  |_=>cases h'
 |_=>cases h'
theorem Hs(B:P.underlying t=some d)(h:aO d k x=some false)(f:Bool->Sem γ)(O:ij P (f false)):ij P (cv t k x >>= f):=by
 have key:∀(g:TypeDesc->Sem Bool),g d=pure false->ij P ((bE t >>= g) >>= f):=by
  intro g U;show ij P (((match P.underlying t with|some d=>pure d|none=>stuck _) >>= g) >>= f);rw[B];show ij P (g d >>= f);rw[U]; exact O
 match d,k,x,h with
 |.bool,.bool a,.bool b,h=>exact key _ (by simp only[aO,dc]at h; simp[h])
 |.string,.string a,.string b,h=>exact key _ (by simp only[aO,dc]at h; simp[h])
 |.int j,.int k a,.int k' b,h=>
  refine key _ ?_;simp only[aO]at h;split at h
  .simp only[dc]at h
   rename_i e;simp[e,h]
  .cases h
theorem CO(B:P.underlying t=some d)(O:VR m k k'):∀{es es':List MapEntry}(i:Nat),gW (vm m) es es'->
  (∀r,aQ d k es i=some r->∃r',aQ d k' es' i=some r'/\JQ m r r')/\(aQ d k es i=none->aQ d k' es' i=none\/∀j,ij P (aS t k es j))
 |_,_,i,.nil=>by
  exact⟨λr h=>by cases h; exact⟨_,rfl,.none⟩,nofun⟩
 |e::es,e'::es',i,.cons U h=>by
  obtain⟨Y,aa⟩:=CO B O _ h
  unfold aQ
  cases hs:aO d k _ with
  |some b=>
   rw[MY O U.key b hs]
   cases b with
   |true=>exact⟨λr h=>by cases h; exact⟨_,rfl,.some ⟨rfl,U.val⟩⟩,nofun⟩
   |false=>
    refine⟨Y,λhn=>(aa hn).imp id λhD j=>?_⟩;exact Hs B hs _ (hD _)
  |none=>
   refine⟨(nofun),λ_=>?_⟩
   cases ab:aO d k' _ with
   |none=>exact .inl rfl
   |some b=>
    refine .inr λj=>?_;exact(Eb B O U.key hs ab).bind
theorem xf(U:jS m\/qw P cw t=true)(Y:m.G=P.globals.size)(B:VR m k k'){es es':List MapEntry}(h:gW (vm m) es es'):gC P JQ m (aU t k es) (aU t k' es'):=by
 refine gG λd hd=>?_;obtain⟨h1,h2⟩:=CO hd B 0 h
 cases O:aQ d k es 0 with
 |some r=>
  obtain⟨r',e,hr⟩:=h1 r O;rw[e];exact .pure hr
 |none=>
  rcases h2 O with e|hD
  .rw[e];exact vA (λm' hl=>U.imp (λx=>x.mono hl) id) Y B 0 m (.refl m) h
  .exact .gF (hD 0)
theorem Of(hP:oO P)(hG:m.G=P.globals.size)(hK:∀k e,P.underlying t=some (.map k e)->sQ P 10000 k=true/\(jS m\/qw P cw k=true)){i i':Value}(hx:VR m x x')(hi:VR m i i')(b:Bool):gC P VR m (bz t x i b) (bz t x' i' b):=by
 refine gG λd hd=>?_;cases d<;>first|exact .gF trivial|skip
 rename_i k e;obtain⟨U,Y⟩:=hK k e hd
 have fin:∀{es es':Array MapEntry},gW (vm m) es.toList es'.toList->gC P VR m
   (do aT es.isEmpty 10000 k i; match <-aU k i es.toList with|some (_,v)=>(do let y <-pure (v,true); match y with|(v,ok)=>pure (if b=true then .tuple #[v,.bool ok]else v))|none=>(do let z <-bD e; let y <-pure (z,false); match y with|(v,ok)=>pure (if b=true then .tuple #[v,.bool ok]else v)))
   (do aT es'.isEmpty 10000 k i'; match <-aU k i' es'.toList with|some (_,v)=>(do let y <-pure (v,true); match y with|(v,ok)=>pure (if b=true then .tuple #[v,.bool ok]else v))|none=>(do let z <-bD e; let y <-pure (z,false); match y with|(v,ok)=>pure (if b=true then .tuple #[v,.bool ok]else v))):=by
  intro es es' h
  have he:es.isEmpty=es'.isEmpty:=by
   have:=h.length;simp only[a5]at this;simp[aB,this]
  rw[he];refine gJ (pT _ _ m _ hi U) λm1 _ _ B _=>gJ (xf (Y.imp (λx=>x.mono B) id) (by rw[B.G,hG]) (hi.mono B) (h.mono λ_ _ x=>x.mono B)) λm2 r r' l2 hr=>?_
  have pr:∀(m':Ren)(v v':Value)(o:Bool),VR m' v v'->VR m' (if b=true then .tuple #[v,.bool o]else v) (if b=true then .tuple #[v',.bool o]else v'):=by
   intro m' v v' o O;split
   .exact .nA (.cons O (.cons (.bool _) .nil))
   .exact O
  cases hr with
  |none=>exact jq hP λz hz=>.pure (pr _ _ _ _ hz)
  |some O=>exact .pure (pr _ _ _ _ O.2)
 cases hx<;>first|exact .gF trivial|skip
 .exact fin .nil
 .rename_i hb;refine jv hb λo o' ho=>?_;cases ho<;>first|exact .gF trivial|exact fin ‹_›
 .exact .gone ‹_›
theorem Iq:∀(n:Nat)(a b:Value),aN n a b=true->a=b:=by
 intro n
 induction n with
 |zero=>
  intro a b h;unfold aN at h;split at h
  .rw[eq_of_beq h]
  .simp only[cQ,beq_iff_eq]at h; rw[h.1,h.2]
  .simp only[cQ,beq_iff_eq]at h; rw[h.1,h.2]
  .simp only[cQ,beq_iff_eq]at h; rw[h.1.1,h.1.2,h.2]
  .rw[(Go.MapKept.bytes_beq ..).1 h]
  .rw[eq_of_beq h]
  .rw[eq_of_beq h]
  .rfl
  .rename_i e; cases e
  .rename_i e; cases e
  .cases h
 |succ n B=>
  intro a b h;unfold aN at h;split at h
  .rw[eq_of_beq h]
  .simp only[cQ,beq_iff_eq]at h; rw[h.1,h.2]
  .simp only[cQ,beq_iff_eq]at h; rw[h.1,h.2]
  .simp only[cQ,beq_iff_eq]at h; rw[h.1.1,h.1.2,h.2]
  .rw[(Go.MapKept.bytes_beq ..).1 h]
  .rw[eq_of_beq h]
  .rw[eq_of_beq h]
  .rfl
  .rename_i e; cases e;simp only[cQ,beq_iff_eq]at h;rw[h.1,B _ _ h.2]
  .rename_i x y e; cases e;simp only[cQ,beq_iff_eq,cX]at h
   have:=by
    apply Array.ext h.1;intro i O U;refine B _ _ (h.2 (x[i],y[i]) ?_);rw[cW];exact⟨i,by simp[cV,O,U]⟩
   rw[this]
  .cases h
theorem tW(ha:VR m a a')(hb:VR m b b'):(∀p q,a=.pointer p->b=.pointer q->∃B O,a'=.pointer B/\b'=.pointer O/\(p==q)=(B==O))/\(∀p q,a=.chan p->b=.chan q->∃B O,a'=.chan B/\b'=.chan O/\(p==q)=(B==O)):=by
 constructor
 .intro p q U Y;subst U Y
  cases ha with
  |jY=>cases hb with
   |jY=>exact⟨_,_,rfl,rfl,rfl⟩
   |ptr h=>exact⟨_,_,rfl,rfl,rfl⟩
  |ptr h=>cases hb with
   |jY=>exact⟨_,_,rfl,rfl,rfl⟩
   |ptr h'=>exact⟨_,_,rfl,rfl,by rw[cR]; simp only[beq_iff_eq,dc]; exact h.eq_iff h'⟩
 .intro p q U Y;subst U Y
  cases ha with
  |lF=>cases hb with
   |lF=>exact⟨_,_,rfl,rfl,rfl⟩
   |chan h=>exact⟨_,_,rfl,rfl,rfl⟩
  |chan h=>cases hb with
   |lF=>exact⟨_,_,rfl,rfl,rfl⟩
   |chan h'=>
    refine⟨_,_,rfl,rfl,?_⟩;rw[cR]; simp only[beq_iff_eq,dc];constructor
    .intro e; subst e; rw[h]at h'; cases h'; rfl
    .intro e; subst e; exact m.xH _ _ _ h h'
theorem Hy:∀(n:Nat){a b a' b':Value},VR m a a'->VR m b b'->aN n a b=true->aN n a' b'=true:=by
 intro n
 induction n with
 |zero=>
  intro a b a' b' B hb h;unfold aN at h;split at h
  .cases B; cases hb; simpa[aN]using h
  .cases B; cases hb; simpa[aN]using h
  .cases B
  .cases B
  .cases B; cases hb; simpa[aN]using h
  .obtain⟨Y,q',rfl,rfl,e⟩:=(tW B hb).1 _ _ rfl rfl; rw[e]at h; simpa[aN]using h
  .obtain⟨Y,q',rfl,rfl,e⟩:=(tW B hb).2 _ _ rfl rfl; rw[e]at h; simpa[aN]using h
  .cases B; cases hb; rfl
  .rename_i e; cases e
  .rename_i e; cases e
  .cases h
 |succ n ih=>
  intro a b a' b' B hb h;unfold aN at h;split at h
  .cases B; cases hb; simpa[aN]using h
  .cases B; cases hb; simpa[aN]using h
  .cases B
  .cases B
  .cases B; cases hb; simpa[aN]using h
  .obtain⟨Y,q',rfl,rfl,e⟩:=(tW B hb).1 _ _ rfl rfl; rw[e]at h; simpa[aN]using h
  .obtain⟨Y,q',rfl,rfl,e⟩:=(tW B hb).2 _ _ rfl rfl; rw[e]at h; simpa[aN]using h
  .cases B; cases hb; rfl
  .rename_i e; cases e
   cases B with
   |iface t h1=>cases hb with
    |iface u h2=>
     simp only[cQ,beq_iff_eq]at h;simp only[aN,cQ,beq_iff_eq];exact⟨h.1,ih h1 h2 h.2⟩
  .rename_i x y e; cases e
   cases B with
   |agg s1 h1=>cases hb with
    |agg s2 h2=>
     simp only[cQ,beq_iff_eq,cX]at h;simp only[aN,cQ,beq_iff_eq,cX];refine⟨by rw[<-s1,<-s2]; exact h.1,λp hp=>?_⟩;rw[cW]at hp;obtain⟨i,hi⟩:=hp;simp only[cV,az]at hi;obtain⟨g1,g2⟩:=hi;obtain⟨k1,e1⟩:=ay.1 g1;obtain⟨k2,e2⟩:=ay.1 g2;have O:i<x.size:=by rw[s1]; exact k1
     have U:i<y.size:=by rw[s2]; exact k2
     rw[<-e1,<-e2];refine ih (h1 i O k1) (h2 i U k2) (h.2 (x[i],y[i]) ?_);rw[cW];exact⟨i,by simp[cV,O,U]⟩
  .cases h
theorem B7{δ:Type}{RB:Ren->γ->δ->Prop}(B:VR m a a')(hb:VR m b b'){f:Value->Sem γ}{f':Value->Sem δ}(Y:∀v,j5 (f v))(h:∀v v',VR m v v'->gC P RB m (f v) (f' v')) :
  nL P RB m (aV a b >>= f) (aV a' b' >>= f'):=by
 unfold aV;by_cases O:aN 10000 a b=true
 .rw[if_pos O,if_pos (Hy _ B hb O)];exact .base (h _ _ hb)
 .rw[if_neg O];by_cases U:aN 10000 a' b'=true
  .have e:=Iq _ _ _ U;refine nL.UK (λn=>?_) (λn=>?_)
   .exact Y _
   .show gC P RB m (f _) _;split
    .exact h _ _ hb
    .exact h _ _ (e▸B)
  .rw[if_neg U];refine .base (gC.choose λn=>?_);show gC P RB m (f _) (f' _);split
   .exact h _ _ hb
   .exact h _ _ B
end
end
section
variable {es es':Array MapEntry} {α β γ δ:Type} {i' k k' mp mp' v v':Value}
section
variable {P:Program} {m:Ren}
theorem j5.bind{s:Sem α}{f:α->Sem β}(h:j5 s)(O:∀a,j5 (f a)):j5 (s.bind f):=by
 induction s with
 |pure a=>exact O a
 |load m a k B=>exact λv=>B v (h v)
 |store m a v k B=>exact B h
 |new o k B=>exact λv=>B v (h v)
 |shape r k B=>exact λv=>B v (h v)
 |freeze a n k B=>exact B h
 |frozen a k B=>exact λv=>B v (h v)
 |getObj r k B=>exact λv=>B v (h v)
 |setObj r o k B=>exact B h
 |choose q k B=>exact h.elim
 |sys c k B=>exact λv=>B v (h v)
 |program k B=>exact λv=>B v (h v)
 |mark m k B=>exact B h
 |halt x=>trivial
theorem nL.map{RA:Ren->α->β->Prop}{RB:Ren->γ->δ->Prop}{s:Sem α}{s':Sem β}{g:α->γ}{g':β->δ}(h:nL P RA m s s')(U:∀m' a b,m.Le m'->RA m' a b->RB m' (g a) (g' b)) :
  nL P RB m (s.bind λa=>.pure (g a)) (s'.bind λb=>.pure (g' b)):=by
 induction h with
 |base h=>exact .base (h.bind λm' a b B O=>.pure (U m' a b B O))
 |bind h _ ih=>
  rw[cU,cU];exact .bind h λm' a b B O=>ih m' a b B O λY c d aa ab=>U Y c d (B.trans aa) ab
 |UK hd h=>exact .UK (λn=>(hd n).bind λ_=>trivial) λn=>(h n).bind λm' a b B O=>.pure (U m' a b B O)
theorem qA{RC:Ren->γ->δ->Prop}{RA:Ren->α->β->Prop}{s:Sem γ}{s':Sem δ}{f:γ->Sem α}{f':δ->Sem β}(h:gC P RC m s s')(B:∀m' a b,m.Le m'->RC m' a b->nL P RA m' (f a) (f' b)):nL P RA m (s >>= f) (s' >>= f'):=.bind h B
theorem vC{t:bB}:gC P (λ_ a b=>a=b/\P.underlying t=some a) m (bE t) (bE t):=by
 have:=gG (P:=P) (m:=m) (t:=t) (RB:=λ_ a b=>a=b/\P.underlying t=some a) (f:=pure) (f':=pure) λd B=>.pure ⟨rfl,B⟩;simpa using this
theorem Gn{r r':Nat}(hb:m.blk r=some r'):gC P OR m (getObj r) (getObj r'):=.getObj hb λ_ _ h=>.pure h
theorem Bg(h:gW (vm m) es.toList es'.toList)(i:Nat){f f':MapEntry->MapEntry}(hf:∀e Y,vm m e Y->vm m (f e) (f' Y)):gW (vm m) (es.modify i f).toList (es'.modify i f').toList:=by
 refine gW.Jw (by simpa using h.length) λj a b B hb=>?_;simp only[az,a2]at B hb;by_cases e:i=j
 .simp only[e,if_true,Option.map_eq_some_iff]at B hb;obtain⟨x,hx,rfl⟩:=B;obtain⟨y,hy,rfl⟩:=hb;obtain⟨z,O,U⟩:=h.get (i:=j) (a:=x) (by simpa using hx);simp only[az]at O;rw[O]at hy; cases hy;exact hf _ _ U
 .simp only[e,if_false]at B hb;obtain⟨z,O,U⟩:=h.get (i:=j) (a:=a) (by simpa using B);simp only[az]at O;rw[O]at hb; cases hb;exact U
theorem wz(h:gW (vm m) es.toList es'.toList){e B:MapEntry}(O:vm m e B):gW (vm m) (es.push e).toList (es'.push B).toList:=by
 simp only[aI];exact h.append (.cons O .nil)
theorem C7(h:gW (vm m) es.toList es'.toList)(i:Nat):nX (vm m) es[i]? es'[i]?:=by
 cases B:es[i]? with
 |none=>
  have:=h.get_none (i:=i) (by simpa using B);simp only[az]at this;rw[this]; exact .none
 |some x=>
  obtain⟨y,O,U⟩:=h.get (i:=i) (a:=x) (by simpa using B);simp only[az]at O;rw[O]; exact .some U
theorem pH{c:Nat}:∀x y z,Obj.map es c≠.cells x y z:=nofun
theorem IA(hG:m.G=P.globals.size){t:bB}(hK:∀k e,P.underlying t=some (.map k e)->sQ P 10000 k=true/\(jS m\/qw P cw k=true))(hm:VR m mp mp')(Y:VR m k k')(hv:VR m v v') :
  nL P Bz m (bj t mp k v) (bj t mp' k' v'):=by
 refine qA vC λm1 d d' l1 hd=>?_;obtain⟨rfl,hd⟩:=hd;cases d<;>first|exact .base (.gF trivial)|skip
 rename_i kt et;obtain⟨ad,ae⟩:=hK kt et hd;have hm:=hm.mono l1;cases hm<;>first|exact .base (.gF trivial)|exact .base (iZ (e:=.plain _) trivial)|skip
 case map.gone=>exact .base (.gone ‹_›)
 rename_i r r' hb;refine qA (Gn hb) λm2 o o' l2 ho=>?_;have af:=l2.blk _ _ hb;cases ho<;>first|exact .base (.gF trivial)|skip
 rename_i es es' clock aa;have ab:=l1.trans l2;refine qA (pT _ _ m2 _ (Y.mono ab) ad) λm3 _ _ l3 _=>?_;have U:=ab.trans l3;refine qA (xf (ae.imp (λx=>x.mono U) id) (by rw[U.G,hG]) (Y.mono U) (aa.mono λ_ _ x=>x.mono l3)) λm4 a b l4 ag=>?_;have B:=U.trans l4;have O:=aa.mono λ_ _ x=>x.mono (l3.trans l4);have ac:=(l3.trans l4).blk _ _ af
 cases ag with
 |none=>exact .base (s7 ac (.map _ (wz O ⟨Y.mono B,hv.mono B,rfl⟩)) pH)
 |some hx=>
  rename_i x y;obtain⟨i,u⟩:=x;obtain⟨i',u'⟩:=y;obtain⟨hi,_⟩:=hx;subst hi;refine B7 ?_ (Y.mono B) (λ_=>trivial) λq q' hq=>s7 ac (.map _ (Bg O _ λe e' he=>⟨hq,hv.mono B,he.born⟩)) pH;have:=C7 O i';revert this;generalize es[i']?=p;generalize es'[i']?=p';intro hp
  cases hp with
  |none=>exact Y.mono B
  |some he=>exact he.key
theorem Kb(hP:oO P)(hG:m.G=P.globals.size){t:bB}(hK:∀k e,P.underlying t=some (.map k e)->sQ P 10000 k=true/\(jS m\/qw P cw k=true))(hm:VR m mp mp')(hk:VR m k k') :
  nL P VR m (bo t mp k) (bo t mp' k'):=by
 refine qA vC λm1 d d' l1 hd=>?_;obtain⟨rfl,hd⟩:=hd;cases d<;>first|exact .base (.gF trivial)|skip
 rename_i kt et;obtain⟨ad,ae⟩:=hK kt et hd;have hm:=hm.mono l1;cases hm<;>first|exact .base (.gF trivial)|exact .base (iZ (e:=.plain _) trivial)|skip
 case map.gone=>exact .base (.gone ‹_›)
 rename_i r r' hb;refine qA (Gn hb) λm2 o o' l2 ho=>?_;have af:=l2.blk _ _ hb;cases ho<;>first|exact .base (.gF trivial)|skip
 rename_i es es' clock aa;have ab:=l1.trans l2;refine qA (pT _ _ m2 _ (hk.mono ab) ad) λm3 _ _ l3 _=>?_;have O:=ab.trans l3;refine qA (xf (ae.imp (λx=>x.mono O) id) (by rw[O.G,hG]) (hk.mono O) (aa.mono λ_ _ x=>x.mono l3)) λm4 a b l4 ag=>?_;have U:=O.trans l4;have B:=aa.mono λ_ _ x=>x.mono (l3.trans l4);have ac:=(l3.trans l4).blk _ _ af
 cases ag with
 |none=>exact .base (jq hP λz hz=>mz ac (.map _ (wz B ⟨hk.mono U,hz,rfl⟩)) pH (.pure (.nA (.cons hz (.cons (.int ..) .nil)))))
 |some hx=>
  rename_i x y;obtain⟨i,u⟩:=x;obtain⟨i',u'⟩:=y;obtain⟨hi,hu⟩:=hx;subst hi;have hg:=C7 B i';refine B7 ?_ (hk.mono U) (λ_=>trivial) λq q' hq=>mz ac (.map _ (Bg B _ λe e' Y=>⟨hq,Y.val,Y.born⟩)) pH (.pure (.nA (.cons hu (.cons ?_ .nil))))
  .revert hg;generalize es[i']?=p;generalize es'[i']?=p';intro hp
   cases hp with
   |none=>exact hk.mono U
   |some Y=>exact Y.key
  .revert hg;generalize es[i']?=p;generalize es'[i']?=p';intro hp
   cases hp with
   |none=>exact .int ..
   |some Y=>rw[dw,dw,Y.born]; exact .int ..
theorem N3{es es':List MapEntry}(h:gW (vm m) es es')(p:Nat->Bool):es.findIdx? (λe=>p e.born)=es'.findIdx? (λe=>p e.born):=by
 induction h with
 |nil=>rfl
 |cons B _ O=>simp only[List.findIdx?_cons,B.born,O]
theorem DL{t:bB}{s s':Value}(hm:VR m mp mp')(U:VR m s s')(Y:VR m v v'):gC P Bz m (bg t mp s v) (bg t mp' s' v'):=by
 cases hm<;>first|exact .gF trivial|skip
 case gone=>exact .gone ‹_›
 rename_i r r' hb;refine jv hb λo o' ho=>?_;cases ho<;>first|exact .gF trivial|skip
 rename_i es es' clock B;refine me U λn=>?_
 have e:es.findIdx? (λe=>e.born==n)=es'.findIdx? (λe=>e.born==n):=by
  have:=N3 B (λb=>b==n);obtain⟨a⟩:=es;obtain⟨a'⟩:=es';simpa using this
 rw[e];split
 .exact s7 hb (.map _ (Bg B _ λe e' O=>⟨O.key,Y,O.born⟩)) pH
 .exact .gF trivial
theorem TL{es es':List MapEntry}(h:gW (vm m) es es')(p:Nat->Bool):nX (vm m) (es.find? λe=>p e.born) (es'.find? λe=>p e.born):=by
 induction h with
 |nil=>exact .none
 |cons B _ O=>
  simp only[List.find?_cons,B.born];split
  .exact .some B
  .exact O
theorem Rs{i:Value}(h:VR m i i'):gC P VR m (b7 i) (b7 i'):=by
 cases h<;>first|exact .gF trivial|skip
 rename_i ha
 cases ha with
 |@mk b b' o s hb=>
 cases o<;>first|exact .gF trivial|skip
 refine jv hb λo o' O=>?_;cases O<;>first|exact .gF trivial|skip
 rename_i r r' x y z hm;dsimp only
 cases y.back? with
 |none=>exact .gF trivial
 |some B=>
  refine jv hm λo o' O=>?_;cases O<;>first|exact .gF trivial|skip
  rename_i es es' clock U;dsimp only;split
  .exact .gF trivial
  .have:=TL U (λb=>b==B);simp only[Array.find?_toList]at this;revert this;generalize es.find? _=p;generalize es'.find? _=p';intro hp
   cases hp with
   |none=>exact .gF trivial
   |some Y=>exact .pure (.nA (.cons Y.key (.cons Y.val .nil)))
theorem A4{es es':List MapEntry}(h:gW (vm m) es es')(p:Nat->Bool):gW (vm m) (es.filter λe=>p e.born) (es'.filter λe=>p e.born):=by
 induction h with
 |nil=>exact .nil
 |cons B _ O=>
  simp only[List.filter_cons,B.born];split
  .exact .cons B O
  .exact O
theorem Ve{es es':List MapEntry}(h:gW (vm m) es es')(p:Nat->Bool):es.all (λe=>p e.born)=es'.all (λe=>p e.born):=by
 induction h with
 |nil=>rfl
 |cons B _ O=>simp only[List.all_cons,B.born,O]
def IW(bI:Array Nat)(B:Nat)(es:Array MapEntry):Array (Option MapEntry):=
 (if(a1 (λx=>decide (x.born<B)) (a1 (λe=>!bI.contains e.born) es)).isEmpty=true then #[none]else #[]) ++
  aA some (a1 (λx=>decide (x.born<B)) (a1 (λe=>!bI.contains e.born) es)++a1 (λx=>decide (x.born ≥ B)) (a1 (λe=>!bI.contains e.born) es))
theorem Tr(bI:Array Nat)(B:Nat)(h:gW (vm m) es.toList es'.toList):gW (nX (vm m)) (IW bI B es).toList (IW bI B es').toList:=by
 have O:=A4 h (λb=>!bI.contains b);have U:=A4 O (λb=>decide (b<B));have Y:=A4 O (λb=>decide (b ≥ B));unfold IW
 have e:(a1 (λx=>decide (x.born<B)) (a1 (λe=>!bI.contains e.born) es)).isEmpty=(a1 (λx=>decide (x.born<B)) (a1 (λe=>!bI.contains e.born) es')).isEmpty:=by
  have:=U.length;simp only[<-aE,a5]at this;simp only[aB,this]
 rw[e];simp only[aF,a4,aE];refine gW.append ?_ (gW.map (λa b h=>.some h) (gW.append U Y));split
 .exact .cons .none .nil
 .exact .nil
theorem TU{i:Value}(h:VR m i i')(b:Bool)(t:bB):gC P VR m (bd i b t) (bd i' b t):=by
 unfold bd;cases h<;>first|exact .gF trivial|skip
 rename_i ha
 cases ha with
 |@mk c c' o s hb=>
 cases o<;>first|exact .gF trivial|skip
 dsimp only;refine jv hb λo o' U=>?_;cases U<;>cases b<;>first|exact .gF trivial|skip
 .dsimp only;refine gN (λ_=>mz hb (.stringIter _ _) (λ_ _ _ h=>by cases h) (.pure (.nA (.cons (.bool _) (.cons (.int ..) (.cons (.int ..) .nil)))))) (λ_=>.pure (.nA (.one (.bool _))))
 .exact .pure (.nA (.one (.bool _)))
 .rename_i r r' B bI last hm;refine jv hm λo o' U=>?_;cases U<;>first|exact .gF trivial|skip
  rename_i es es' clock O;have hl:=O.length;simp only[a5]at hl;have e1:es.isEmpty=es'.isEmpty:=by simp only[aB,hl]
  have e2:es.all (λx=>decide (x.born ≥ last))=es'.all (λx=>decide (x.born ≥ last)):=by
   have:=Ve O (λb=>decide (b ≥ last));rw[<-aL,<-aL]; exact this
  dsimp only;rw[e1,e2];refine gN (λ_=>.gF trivial) (λ_=>?_)
  change gC P VR m (choose (.mapNext (IW bI B es).size) >>= λn=>match (IW bI B es)[n]? with
    |some (some e)=>(do setObj c _; pure _)
    |some none=>pure _
    |none=>stuck _)
   (choose _ >>= λn=>match (IW bI B es')[n]? with
     |some (some e)=>(do setObj c' _; pure _)
     |some none=>pure _
     |none=>stuck _)
  have hc:=Tr bI B O;have e3:=by simpa using hc.length
  rw[e3];refine jO λn=>?_
  cases hn:(IW bI B es)[n]? with
  |none=>exact .gF trivial
  |some x=>
   obtain⟨y,hy,hr⟩:=hc.get (i:=n) (a:=x) (by simpa using hn);simp only[az]at hy;rw[hy]
   cases hr with
   |none=>exact .pure (.nA (.one (.bool _)))
   |some Y=>
    dsimp only;rw[Y.born];exact mz hb (.mapIter _ _ _ hm) (nofun) (.pure (.nA (.cons (.bool _) (.cons Y.key (.cons Y.val .nil)))))
end
end
section
variable {a':Addr} {r r':Nat} {x x' y y':Value}
section
variable {P:Program} {m:Ren}
theorem DZ(U:oO P)(Y:VR m x x')(t u:bB):gC P VR m (bf x t u true) (bf x' t u true):=by
 have B:gC P VR m (do pure (.tuple #[<-bD u,.bool false])) _:=
  jq U λz hz=>.pure (.nA (.cons hz (.cons (.bool _) .nil)))
 refine gG λd hd=>?_
 cases Y with
 |nilIface=>cases d<;>exact B
 |iface s O=>
  cases d
  case interface ms=>
   refine gV λti _=>?_
   cases Instr.missingMethod ms _ with
   |none=>exact .pure (.nA (.cons (.iface _ O) (.cons (.bool _) .nil)))
   |some _=>exact B
  all_goals exact gN (λ_=>.pure (.nA (.cons O (.cons (.bool _) .nil)))) (λ_=>B)
 |_=>cases d<;>exact .gF trivial
theorem Be(op:BinOp)(k:IntKind)(a b:Int):gC P VR m (c0 op k a b) (c0 op k a b):=by
 cases op<;>first|exact .gF trivial|exact .pure (.int ..)
theorem Dk(op:BinOp)(k:IntKind)(a b:Int):gC P VR m (c3 op k a b) (c3 op k a b):=by
 cases op<;>first|exact .gF trivial|exact .pure (.int ..)
theorem Pw(op:BinOp)(a b:Int):gC P VR m (c7 op a b) (c7 op a b):=by
 cases op<;>first|exact .gF trivial|exact .pure (.bool _)
theorem P2(op:BinOp)(k:IntKind)(a b:Int):gC P VR m (c6 op k a b) (c6 op k a b):=by
 refine gN (λ_=>iZ (e:=.error _) trivial) (λ_=>?_);cases op<;>first|exact .gF trivial|exact .pure (.int ..)
theorem KW(op:BinOp)(k j:IntKind)(a b:Int):gC P VR m (c9 op k a j b) (c9 op k a j b):=by
 refine gN (λ_=>iZ (e:=.error _) trivial) (λ_=>?_);cases op<;>first|exact .gF trivial|exact .pure (.int ..)
theorem JZ(op:BinOp)(a b:ByteArray):gC P VR m (cz op a b) (cz op a b):=by
 cases op<;>first|exact .gF trivial|exact .pure (.bool _)|exact gN (λ_=>.gF trivial) (λ_=>.pure (.string _))
theorem QZ(op:UnOp)(h:VR m x x'):gC P VR m (c8 op x) (c8 op x'):=by
 cases h<;>cases op<;>first|exact .gF trivial|exact .pure (.bool _)|skip
 .rename_i k n;show gC P VR m (c0 .sub k 0 n) _;exact Be ..
 .rename_i k n;show gC P VR m (c3 .xor k _ n) _;exact Dk ..
theorem Ot{γ δ:Type}{RB:Ren->γ->δ->Prop}(hb:m.blk r=some r'){f:Option (Addr×bB)->Sem γ}{f':Option (Addr×bB)->Sem δ}(h:gC P RB m (f none) (f' none)):gC P RB m (viewAt r >>= f) (viewAt r' >>= f'):=by
 refine lZ hb λx=>?_
 cases x with
 |some y=>exact h
 |none=>
  refine jv hb λo o' B=>?_;cases B<;>exact h
def VA(m:Ren)(v v':Value):Prop:=∃a a',v=.pointer (some a)/\v'=.pointer (some a')/\AR m a a'
theorem tG{a:Array bB}{t:bB}(U:VR m x x')(O:VR m y y'):gC P VA m (cB a t #[x,y]) (cB a t #[x',y']):=by
 cases U<;>first|exact .gF trivial|skip
 .refine me O λn=>?_;dsimp only;split
  .exact .gF trivial
  .split<;>exact .gF trivial
 .rename_i B;refine me O λn=>?_;dsimp only;split
  .refine Ot B.blk ?_;exact .pure ⟨_,_,rfl,rfl,B⟩
  .split
   .exact .gF trivial
   .refine lZ B.blk λz=>?_
    cases z with
    |none=>exact .gF trivial
    |some z=>
     refine kw ?_
     cases B with
     |mk hb=>
     dsimp only;split
     .exact .pure ⟨_,_,rfl,rfl,.mk hb⟩
     .exact .gF trivial
theorem KF(hb:m.blk r=some r'):gC P (λm=>nX λx y=>AR m x.1 y.1/\y.2=x.2) m (numberAt r) (numberAt r'):=by
 refine lZ hb λx=>?_
 cases x with
 |some y=>exact .pure .none
 |none=>
  refine jv hb λo o' B=>?_
  cases B with
  |number l O=>exact .pure (.some ⟨O,rfl⟩)
  |_=>exact .pure .none
theorem J9{a:Addr}(B:AR m a a')(l:Bool):gC P VR m (asNumber a l) (asNumber a' l):=
 gC.new (.number l B) (nofun) λm' r r' _ hb _=>.pure (.ptr (.mk hb))
theorem lM{t:bB}(O:VR m x x')(B:VR m y y'):gC P VR m (cl t x y) (cl t x' y'):=by
 refine gG λd hd=>?_;dsimp only;split
 .exact .gF trivial
 .cases O with
  |ptr U=>
   refine ia U λp p' l Y=>?_;refine gJ (tG (.ptr Y) B) λm' v v' hl hv=>?_;obtain⟨b,b',rfl,rfl,hb⟩:=hv;exact J9 hb l
  |jY=>exact(tG (a:=#[]) (t:=t) .jY B).mono λm' v v' _ h=>by obtain⟨b,b',rfl,rfl,hb⟩:=h; exact .ptr hb
  |_=>exact .gF trivial
theorem tB{t:bB}(O:VR m x x')(U:VR m y y'):gC P VR m (cg t x y) (cg t x' y'):=by
 have fin:∀m',m.Le m'->gC P VR m' (cB #[] t _) _:=λm' B=>(tG (O.mono B) (U.mono B)).mono λm' v v' _ h=>by obtain⟨b,b',rfl,rfl,hb⟩:=h; exact .ptr hb
 cases O with
 |ptr Y=>
  refine gJ (KF Y.blk) λm' o o' B ho=>?_
  cases ho with
  |none=>exact fin m' B
  |some _=>exact .gF trivial
 |jw v hv=>exact .gF trivial
 |_=>exact fin m (.refl m)
theorem yv{t:bB}(y:Value):ij P (cv t (.tuple #[]) y):=by
 show ij P ((match P.underlying t with|some d=>pure d|none=>stuck _) >>= _)
 cases P.underlying t with
 |none=>trivial
 |some d=>cases d<;>first|trivial|(cases y<;>trivial)
theorem yJ{t:bB}(x:Value):ij P (cv t x (.tuple #[])):=by
 show ij P ((match P.underlying t with|some d=>pure d|none=>stuck _) >>= _)
 cases P.underlying t with
 |none=>trivial
 |some d=>cases d<;>first|trivial|(cases x<;>first|trivial|(rename_i a; cases a<;>trivial)|(cases b<;>first|trivial|(cases c<;>trivial))|(rename_i a b c; cases a<;>trivial))
theorem Hz(U:m.G=P.globals.size){a b b':Addr}(B:AR m a a')(hb:AR m b b'):gC P yY m (cx a b) (cx a' b'):=by
 refine kw ?_
 have Y:(a.block != b.block)=(a'.block != b'.block):=by
  have:(a.block==b.block)=(a'.block==b'.block):=by rw[cR]; simp only[beq_iff_eq]; exact B.ui hb
  simp only[bne,this]
 have e3:decide (a.block ≥ P.globals.size)=decide (a'.block ≥ P.globals.size):=by
  have:=m.qT _ _ B.blk;rw[U]at this;exact decide_eq_decide.2 ⟨λh=>dk λx=>absurd (this.2 x) (by omega),λh=>dk λx=>absurd (this.1 x) (by omega)⟩
 rw[Y,e3];refine gN (λ_=>.gF trivial) (λ_=>?_);refine gJ (qk B) λm' x y O h=>?_;cases h;refine gJ (qk (hb.mono O)) λaa x' y' O h=>?_;cases h;exact .pure rfl
theorem xh{k:IntKind}{a:Addr}(B:AR m a a')(n:Int):gC P VR m (c5 k a n) (c5 k a' n):=by
 refine lZ B.blk λx=>?_
 cases x with
 |none=>exact .gF trivial
 |some y=>
  refine gV λO _=>?_;refine gN (λ_=>.gF trivial) (λ_=>?_);refine gJ (qk B) λm' x y U h=>?_;cases h;exact .pure (.int ..)
theorem L7(O:m.G=P.globals.size){t:bB}(U:jS m\/qw P cw t=true)(Y:VR m x x')(hy:VR m y y'):gC P VR m (do pure (.bool (<-cv t x y))) (do pure (.bool (<-cv t x' y')))/\gC P VR m (do pure (.bool (!(<-cv t x y)))) (do pure (.bool (!(<-cv t x' y')))):=by
 have h:=rB (P:=P) _ m t O Y hy U;constructor
 .exact gJ h λm' a b _ B=>by cases B; exact .pure (.bool _)
 .exact gJ h λm' a b _ B=>by cases B; exact .pure (.bool _)
theorem NO(op:BinOp)(t:bB)(k k':IntKind)(a b:Int):gC P VR m (binOp op t (.int k a) (.int k' b)) (binOp op t (.int k a) (.int k' b)):=by
 cases op
 case shl=>exact KW .shl k k' a b
 case shr=>exact KW .shr k k' a b
 all_goals
  refine gN (λ_=>.gF trivial) (λ_=>?_)
  first|exact Be ..|exact P2 ..|exact Dk ..|exact Pw ..
theorem Eh(op:BinOp)(Y:m.G=P.globals.size){t:bB}(hE:op=.eql\/op=.neq->jS m\/qw P cw t=true)(hx:VR m x x')(O:VR m y y'):gC P VR m (binOp op t x y) (binOp op t x' y'):=by
 have heq:op=.eql->gC P VR m (do pure (.bool (<-cv t x y))) (do pure (.bool (<-cv t x' y'))):=λe=>(L7 Y (hE (.inl e)) hx O).1;have hne:op=.neq->gC P VR m (do pure (.bool (!(<-cv t x y)))) (do pure (.bool (!(<-cv t x' y')))):=λe=>(L7 Y (hE (.inr e)) hx O).2
 have B:∀(z:Value),y=.tuple #[]->op=.eql\/op=.neq->x=z->gC P VR m (binOp op t x y) (binOp op t x' y'):=by
  intro z e1 e2 e3;subst e1;refine .gF ?_;rcases e2 with rfl|rfl
  .cases x<;>exact(yJ _).bind
  .cases x<;>exact(yJ _).bind
 cases hx with
 |jw v U=>
  refine .gF ?_;cases op
  case eql=>exact(yv _).bind
  case neq=>exact(yv _).bind
  all_goals(cases y<;>trivial)
 |int k a=>
  cases O with
  |int k' b=>exact NO op t k k' a b
  |jw v U=>cases op<;>first|exact .gF trivial|exact B _ rfl (.inl rfl) rfl|exact B _ rfl (.inr rfl) rfl
  |jY=>cases op<;>first|exact .gF trivial|exact heq rfl|exact hne rfl|exact lM .jY (.int _ _)
  |ptr hb=>
   cases op
   case add=>exact lM (.ptr hb) (.int _ _)
   case and=>exact ia hb λp p' l hp=>xh hp _
   all_goals first|exact .gF trivial|exact heq rfl|exact hne rfl
  |_=>cases op<;>first|exact .gF trivial|exact heq rfl|exact hne rfl
 |string a=>
  cases O with
  |string b=>
   have e:∀op,binOp op t (.string a) (.string b)=cz op a b:=λop=>by cases op<;>rfl
   rw[e]; exact JZ _ a b
  |jw v U=>cases op<;>first|exact .gF trivial|exact B _ rfl (.inl rfl) rfl|exact B _ rfl (.inr rfl) rfl
  |_=>cases op<;>first|exact .gF trivial|exact heq rfl|exact hne rfl
 |jY=>
  cases O with
  |jw v U=>cases op<;>first|exact .gF trivial|exact B _ rfl (.inl rfl) rfl|exact B _ rfl (.inr rfl) rfl
  |int k n=>
   cases op
   case add=>
    refine gG λd hd=>?_;exact gN (λ_=>tB .jY (.int _ _)) (λ_=>lM .jY (.int _ _))
   case sub=>exact lM .jY (.int _ _)
   all_goals first|exact .gF trivial|exact heq rfl|exact hne rfl
  |_=>cases op<;>first|exact .gF trivial|exact heq rfl|exact hne rfl
 |ptr ha=>
  cases O with
  |jw v U=>cases op<;>first|exact .gF trivial|exact B _ rfl (.inl rfl) rfl|exact B _ rfl (.inr rfl) rfl
  |int k n=>
   cases op
   case add=>
    refine gG λd hd=>?_;exact gN (λ_=>tB (.ptr ha) (.int _ _)) (λ_=>lM (.ptr ha) (.int _ _))
   case sub=>exact lM (.ptr ha) (.int _ _)
   case rem=>exact ia ha λp p' l hp=>xh hp _
   case and=>exact ia ha λp p' l hp=>xh hp _
   all_goals first|exact .gF trivial|exact heq rfl|exact hne rfl
  |ptr hb=>
   have two:∀(f:Nat×Nat->Sem Value),(∀m' p,gC P VR m' (f p) (f p))->∀{a a' b b':Addr},AR m a a'->AR m b b'->gC P VR m (cx a b >>= f) (cx a' b' >>= f):=
    λf hf a a' b b' h1 h2=>gJ (Hz Y h1 h2) λm' p q _ aa=>by cases aa; exact hf m' p
   cases op
   case eql=>exact heq rfl
   case neq=>exact hne rfl
   case sub=>exact ia ha λp p' l hp=>ia hb λq q' l' hq=>two _ (λm' p=>.pure (.int _ _)) hp hq
   case lss=>exact ia ha λp p' l hp=>ia hb λq q' l' hq=>two _ (λm' p=>.pure (.bool _)) hp hq
   case leq=>exact ia ha λp p' l hp=>ia hb λq q' l' hq=>two _ (λm' p=>.pure (.bool _)) hp hq
   case gtr=>exact ia ha λp p' l hp=>ia hb λq q' l' hq=>two _ (λm' p=>.pure (.bool _)) hp hq
   case geq=>exact ia ha λp p' l hp=>ia hb λq q' l' hq=>two _ (λm' p=>.pure (.bool _)) hp hq
   all_goals exact .gF trivial
  |_=>cases op<;>first|exact .gF trivial|exact heq rfl|exact hne rfl
 |_=>
  cases op
  case eql=>exact heq rfl
  case neq=>exact hne rfl
  all_goals(cases O<;>exact .gF trivial)
end
end
section
variable {a a':Addr} {n:Nat} {γ δ:Type} {x x':Value}
section
variable {P:Program} {m:Ren}
theorem yU{RB:Ren->γ->δ->Prop}(B:AR m a a')(O:¬m.loose a.block){f:Unit->Sem γ}{f':Unit->Sem δ}(h:gC P RB m (f ()) (f' ())):gC P RB m (cc a >>= f) (cc a' >>= f'):=by
 refine lZ B.blk λx=>?_
 cases x with
 |none=>exact h
 |some y=>exact gC.freeze (.mk B.blk) O h
theorem Df(s:ByteArray):io m (s.data.map λb=>Value.int .u8 b.toNat) (s.data.map λb=>Value.int .u8 b.toNat):=by
 refine .refl λv B=>?_;simp only[a4,db]at B;obtain⟨i,_,rfl⟩:=B;exact .int ..
theorem zn{e:bB}{s:ByteArray}:gC P VR m (dp e s) (dp e s):=by
 refine jO λcap=>?_;refine gJ (RA:=JF) (rn ((Df s).append (.replicate _ (.int ..)))) λm' a a' _ B=>?_;exact yU B.1 B.2 (.pure (.slice _ _ B.1))
theorem Iy{c c':List Value}(h:gW (VR m) c c'):∀(s:ByteArray),gC P yY m
  (forIn c s λc s=>match c with|.int .u8 n=>pure (ForInStep.yield (s.push (UInt8.ofNat n.toNat)))|_=>(do stuck "bytesToString: byte expected"; pure (ForInStep.yield s)))
  (forIn c' s λc s=>match c with|.int .u8 n=>pure (ForInStep.yield (s.push (UInt8.ofNat n.toNat)))|_=>(do stuck "bytesToString: byte expected"; pure (ForInStep.yield s))):=by
 induction h with
 |nil=>intro s; exact .pure rfl
 |cons B _ O=>
  intro s;simp only[cY]
  cases B with
  |int k n=>cases k<;>first|exact .gF trivial|exact O _
  |_=>exact .gF trivial
theorem zo(O:VR m x x'):gC P VR m (dn x) (dn x'):=by
 cases O<;>first|exact .gF trivial|exact .pure (.string _)|skip
 rename_i l c U;refine gJ (yb U l) λm' c c' _ Y=>?_;rw[<-a6,<-a6];exact gJ (Iy Y _) λm' a b _ B=>by cases B; exact .pure (.string _)
theorem Fu{RB:Ren->γ->δ->Prop}(U:AR m a a'){f:Array Value->Sem γ}{f':Array Value->Sem δ}(h:∀c c',io m c c'->gC P RB m (f c) (f' c')):gC P RB m (bQ a n >>= f) (bQ a' n >>= f'):=by
 have key:∀(n i:Nat)(acc B:Array Value),io m acc B->gC P RB m (bK a i n acc >>= f) (bK a' i n B >>= f'):=by
  intro n
  induction n with
  |zero=>intro i acc B O; exact h _ _ O
  |succ n Y=>intro i acc B O; exact gC.load (U.add i) λv v' hv=>Y _ _ _ (O.push hv)
 exact key n 0 _ _ (.nil m)
theorem im{RB:Ren->γ->δ->Prop}{size:Nat}(B:VR m x x'){f:Array Value->Sem γ}{f':Array Value->Sem δ}(h:∀c c',io m c c'->gC P RB m (f c) (f' c')):gC P RB m (cL size n x >>= f) (cL size n x' >>= f'):=by
 cases B<;>first|exact .gF trivial|exact Fu ‹_› h|exact h _ _ (Df _)|exact h _ _ (.nil m)
theorem rm{RB:Ren->γ->δ->Prop}(B:VR m x x'){f:Nat->Sem γ}{f':Nat->Sem δ}(h:∀n,gC P RB m (f n) (f' n)):gC P RB m (cN x >>= f) (cN x' >>= f'):=by
 cases B<;>first|exact .gF trivial|exact h _
theorem tL{z:Array Value}(h:io m z z)(n:Nat):io m (cA z n) (cA z n):=zz h _
theorem oH{α:Type}{size sLen:Nat}{base:Option Addr}{f:Bool->Sem α}(h:∀b,ij P (f b)):ij P (cM size sLen n base x >>= f):=by
 have hold:∀(a:Addr)(k:Nat)(g:Bool->Sem α),(∀b,ij P (g b))->ij P (cK a k >>= g):=by
  intro a k g B;intro r
  cases r with
  |none=>exact B _
  |some y=>exact B _
 have tail:∀b:Bool,ij P ((match x with|.slice (some b) .. =>(do pure (!(<-cK b (n*size)) || base.any (·.block==b.block)))|_=>pure false) >>= f):=by
  intro _
  cases x with
  |slice a l c=>
   cases a with
   |none=>exact h _
   |some a=>
    simp only[bind_assoc];exact hold a _ _ λb=>h _
  |_=>exact h _
 unfold cM
 cases base with
 |none=>exact tail true
 |some a=>
  simp only[bind_assoc];refine hold a _ _ λb=>?_;intro r;show ij P ((if(!(b && !r))=true then pure true else _) >>= f);split
  .exact h _
  .exact tail true
theorem KS(B:oO P){RB:Ren->γ->δ->Prop}{elem:bB}{size:Nat}{f:Array Value->Sem γ}{f':Array Value->Sem δ}(h:∀c c',io m c c'->gC P RB m (f c) (f' c')) :
  gC P RB m ((if n*size=0 then pure #[]else do pure (cA (<-bD elem).cells n)) >>= f) ((if n*size=0 then pure #[]else do pure (cA (<-bD elem).cells n)) >>= f'):=by
 split
 .exact h _ _ (.nil m)
 .simp only[bind_assoc];exact jq B λz O=>h _ _ (tL O.cells _)
theorem PO(hP:oO P){ats:Array bB}{t:bB}{args args':Array Value}(h:io m args args'):gC P VR m (cC ats t args) (cC ats t args'):=by
 unfold cC
 cases ats[0]? with
 |none=>exact .gF trivial
 |some st=>
 cases h0:args[0]? with
 |none=>exact .gF trivial
 |some s=>
 cases h1:args[1]? with
 |none=>exact .gF trivial
 |some x=>
 obtain⟨s',ad,hs⟩:=h.get h0;obtain⟨x',ae,hx⟩:=h.get h1;rw[ad,ae];refine gG λd hd=>?_;cases d<;>first|exact .gF trivial|skip
 rename_i elem
 have Y:∀{base U:Option Addr}{sLen aa size:Nat}{c c':Array Value}{k:Nat},nX (AR m) base U->io m c c'->gC P VR m
   (match base with|some a=>(do let r <-bL (a.add (sLen*size)) c.toList; pure (Value.slice base k aa))|_=>pure (Value.slice base k aa))
   (match U with|some a=>(do let r <-bL (a.add (sLen*size)) c'.toList; pure (Value.slice U k aa))|_=>pure (Value.slice U k aa)):=by
  intro base U sLen aa size c c' k hb O
  cases hb with
  |none=>exact .pure (.jg _ _)
  |some ha=>exact gJ (nG (ha.add _) 0 O) λm' _ _ hl _=>.pure (.slice _ _ (ha.mono hl))
 have B:∀{old ab new ac:Array Value}{k cap q:Nat},io m old ab->io m new ac->gC P VR m
   (do let z <-bD elem; let a <-bJ elem (old++new++cA z.cells q); pure (Value.slice (some a) k cap))
   (do let z <-bD elem; let a <-bJ elem (ab++ac++cA z.cells q); pure (Value.slice (some a) k cap)):=by
  intro old ab new ac k cap q ho hn;exact jq hP λz hz=>gJ (RA:=JF) (rn ((ho.append hn).append (tL hz.cells _))) λm' a a' _ ha=>.pure (.slice _ _ ha.1)
 cases hs<;>first|exact .gF trivial|skip
 .rename_i l c;have hs:VR m (.slice none l c) (.slice none l c):=.jg l c;refine iB λsize=>?_;dsimp only
  cases ats[1]? with
  |none=>
   refine rm hx λn=>?_;refine gN (λ_=>?_) (λ_=>?_)
   .exact im hx λc c' O=>Y (sLen:=l) (size:=size) .none O
   .refine gV λti _=>gN (λ_=>gY (e:=.error _) trivial) (λ_=>?_);refine gV λti _=>gN (λ_=>?_) (λ_=>?_)
    .exact .gF (ij.bind (oH λb=>by cases b<;>trivial))
    .refine jO λq=>gV λti _=>nj ?_;exact im hs λo o' ho=>im hx λc c' O=>B ho O
  |some xt=>
   refine gG λd2 _=>?_
   cases d2 with
   |int kk=>
    refine me hx λnn=>?_;refine gN (λ_=>gY (e:=.error _) trivial) (λ_=>?_);refine gV λti _=>gN (λ_=>jO λ_=>gY (e:=.error _) trivial) (λ_=>?_);refine gN (λ_=>?_) (λ_=>?_)
    .exact KS hP λc c' O=>Y (sLen:=l) (size:=size) .none O
    .refine gV λti _=>gN (λ_=>gY (e:=.error _) trivial) (λ_=>?_);refine gV λti _=>gN (λ_=>?_) (λ_=>?_)
     .exact gY (e:=.error _) trivial
     .refine jO λq=>gV λti _=>nj ?_;exact im hs λo o' ho=>KS hP λc c' O=>B ho O
   |_=>
    refine rm hx λn=>?_;refine gN (λ_=>?_) (λ_=>?_)
    .exact im hx λc c' O=>Y (sLen:=l) (size:=size) .none O
    .refine gV λti _=>gN (λ_=>gY (e:=.error _) trivial) (λ_=>?_);refine gV λti _=>gN (λ_=>?_) (λ_=>?_)
     .exact .gF (ij.bind (oH λb=>by cases b<;>trivial))
     .refine jO λq=>gV λti _=>nj ?_;exact im hs λo o' ho=>im hx λc c' O=>B ho O
 .rename_i a a' l c ha;have hs:VR m (.slice (some a) l c) (.slice (some a') l c):=.slice l c ha;refine iB λsize=>?_;dsimp only
  cases ats[1]? with
  |none=>
   refine rm hx λn=>?_;refine gN (λ_=>?_) (λ_=>?_)
   .exact im hx λc c' O=>Y (sLen:=l) (size:=size) (.some ha) O
   .refine gV λti _=>gN (λ_=>gY (e:=.error _) trivial) (λ_=>?_);refine gV λti _=>gN (λ_=>?_) (λ_=>?_)
    .exact .gF (ij.bind (oH λb=>by cases b<;>trivial))
    .refine jO λq=>gV λti _=>nj ?_;exact im hs λo o' ho=>im hx λc c' O=>B ho O
  |some xt=>
   refine gG λd2 _=>?_
   cases d2 with
   |int kk=>
    refine me hx λnn=>?_;refine gN (λ_=>gY (e:=.error _) trivial) (λ_=>?_);refine gV λti _=>gN (λ_=>jO λ_=>gY (e:=.error _) trivial) (λ_=>?_);refine gN (λ_=>?_) (λ_=>?_)
    .exact KS hP λc c' O=>Y (sLen:=l) (size:=size) (.some ha) O
    .refine gV λti _=>gN (λ_=>gY (e:=.error _) trivial) (λ_=>?_);refine gV λti _=>gN (λ_=>?_) (λ_=>?_)
     .exact gY (e:=.error _) trivial
     .refine jO λq=>gV λti _=>nj ?_;exact im hs λo o' ho=>KS hP λc c' O=>B ho O
   |_=>
    refine rm hx λn=>?_;refine gN (λ_=>?_) (λ_=>?_)
    .exact im hx λc c' O=>Y (sLen:=l) (size:=size) (.some ha) O
    .refine gV λti _=>gN (λ_=>gY (e:=.error _) trivial) (λ_=>?_);refine gV λti _=>gN (λ_=>?_) (λ_=>?_)
     .exact .gF (ij.bind (oH λb=>by cases b<;>trivial))
     .refine jO λq=>gV λti _=>nj ?_;exact im hs λo o' ho=>im hx λc c' O=>B ho O
end
end
section
variable {ats:Array bB} {args args':Array Value} {t:bB} {x x' y y':Value}
section
variable {P:Program} {m:Ren}
theorem TY(h:io m args args'):gC P VR m (cE ats t args) (cE ats t args'):=by
 unfold cE
 cases ats[0]? with
 |none=>exact .gF trivial
 |some st=>
 cases h0:args[0]? with
 |none=>exact .gF trivial
 |some s=>
 cases h1:args[1]? with
 |none=>exact .gF trivial
 |some x=>
 obtain⟨s',O,hs⟩:=h.get h0;obtain⟨x',U,B⟩:=h.get h1;rw[O,U];refine gG λd hd=>?_;cases d<;>first|exact .gF trivial|skip
 cases hs<;>first|exact .gF trivial|skip
 .exact rm B λn=>iB λsz=>im B λc c' Y=>.pure (.int ..)
 .rename_i ha;exact rm B λn=>iB λsz=>im B λc c' Y=>gJ (nG ha 0 Y) λm' _ _ _ _=>.pure (.int ..)
def tU(P:Program)(t:bB):Bool:=match P.underlying t with|some (.chan ..)=>false|_=>true
theorem Vf(B:∀t,ats[0]?=some t->tU P t=true)(h:io m args args'):gC P VR m (cI ats t args) (cI ats t args'):=by
 unfold cI
 cases U:ats[0]? with
 |none=>exact .gF trivial
 |some st=>
 cases Y:args[0]? with
 |none=>exact .gF trivial
 |some s=>
 obtain⟨s',O,hs⟩:=h.get Y;rw[O];have B:=B st U;refine gG λd hd=>?_;cases d<;>first|exact .gF trivial|exact .pure (.int ..)|skip
 .refine gG λd2 _=>?_;cases d2<;>first|exact .gF trivial|exact .pure (.int ..)
 .cases hs<;>first|exact .gF trivial|exact .pure (.int ..)
 .simp[tU,hd]at B
theorem UZ(B:∀t,ats[0]?=some t->tU P t=true)(h:io m args args'):gC P VR m (cH ats t args) (cH ats t args'):=by
 unfold cH
 cases ht:ats[0]? with
 |none=>exact .gF trivial
 |some st=>
 cases h0:args[0]? with
 |none=>exact .gF trivial
 |some s=>
 obtain⟨s',O,U⟩:=h.get h0;rw[O];have B:=B st ht;refine gG λd hd=>?_
 cases d with
 |array n e=>exact .pure (.int ..)
 |pointer e=>
  refine gG λd2 _=>?_;cases d2<;>first|exact .gF trivial|exact .pure (.int ..)
 |string=>cases U<;>first|exact .gF trivial|exact .pure (.int ..)
 |slice e=>cases U<;>first|exact .gF trivial|exact .pure (.int ..)
 |map k e=>
  cases U<;>first|exact .gF trivial|exact .pure (.int ..)|skip
  case gone=>exact .gone ‹_›
  rename_i hb;refine jv hb λo o' ho=>?_;cases ho<;>first|exact .gF trivial|skip
  rename_i Y;have hl:=Y.length;simp only[a5]at hl;dsimp only;rw[hl];exact .pure (.int ..)
 |chan a b=>simp[tU,hd]at B
 |_=>exact .gF trivial
theorem Rf(U:oO P)(h:io m args args'):gC P VR m (cD ats t args) (cD ats t args'):=by
 have fin:∀m',gC P VR m' .. := λm'=>.pure (.undef m');unfold cD
 cases ht:ats[0]? with
 |none=>exact .gF trivial
 |some st=>
 cases Y:args[0]? with
 |none=>exact .gF trivial
 |some s=>
 obtain⟨s',B,hs⟩:=h.get Y;rw[B];refine gG λd O=>?_
 cases hs with
 |oV=>exact fin m
 |jg l c=>exact fin m
 |map hb=>
  refine jv hb λo o' ho=>?_;cases ho<;>first|exact .gF trivial|exact mz hb (.map _ .nil) pH (fin m)
 |gone O=>exact .gone O
 |slice l c ha=>
  cases l with
  |zero=>exact fin m
  |succ l=>
   cases d<;>first|exact .gF trivial|skip
   exact jq U λz hz=>gJ (nG ha 0 (tL hz.cells _)) λm' _ _ _ _=>fin m'
 |_=>exact .gF trivial
theorem Ua(O:VR m x x')(B:VR m y y'):gC P VR m (cP x y) (cP x' y'):=by
 cases O with
 |int k n=>cases B<;>first|exact .gF trivial|exact .pure (.int ..)
 |string s=>
  cases B with
  |string t=>exact .pure (.string _)
  |_=>exact .gF trivial
 |ptr U=>exact .gF trivial
 |_=>cases B<;>exact .gF trivial
theorem T6(O:VR m x x')(B:VR m y y'):gC P VR m (cO x y) (cO x' y'):=by
 cases O with
 |int k n=>cases B<;>first|exact .gF trivial|exact .pure (.int ..)
 |string s=>
  cases B with
  |string t=>exact .pure (.string _)
  |_=>exact .gF trivial
 |ptr U=>exact .gF trivial
 |_=>cases B<;>exact .gF trivial
theorem A8{g:Value->Value->Sem Value}(U:∀m x x' y y',VR m x x'->VR m y y'->gC P VR m (g x y) (g x' y')):∀{l l':List Value}{m:Ren}{x x':Value},gW (VR m) l l'->VR m x x'->gC P VR m (l.foldlM g x) (l'.foldlM g x')
 |_,_,m,_,_,.nil,B=>.pure B
 |_,_,m,_,_,.cons Y h,B=>by
  exact gJ (U m _ _ _ _ B Y) λm' a b hl O=>A8 U (h.mono λ_ _ z=>z.mono hl) O
theorem Vl(h:io m args args'):gC P VR m (cG ats t args) (cG ats t args'):=by
 unfold cG;unfold io at h;revert h;generalize args.toList=l;generalize args'.toList=l';intro h
 cases h with
 |nil=>exact .gF trivial
 |cons B h=>exact A8 (λm x x' y y'=>Ua) h B
theorem U3(h:io m args args'):gC P VR m (cF ats t args) (cF ats t args'):=by
 unfold cF;unfold io at h;revert h;generalize args.toList=l;generalize args'.toList=l';intro h
 cases h with
 |nil=>exact .gF trivial
 |cons B h=>exact A8 (λm x x' y y'=>T6) h B
theorem yq:∀(n:Nat){a a':Addr}(acc:ByteArray),AR m a a'->gC P yY m (bP a acc n) (bP a' acc n)
 |0,_,_,_,_=>.pure rfl
 |n+1,a,a',acc,B=>by
  unfold bP;refine E0 B λv v' O=>?_
  cases O with
  |int k x=>cases k<;>first|exact .gF trivial|exact yq n _ (B.add 1)
  |_=>exact .gF trivial
theorem Cr{γ δ:Type}{RB:Ren->γ->δ->Prop}{a a':Addr}(B:AR m a a'){u:bB}{n:Nat}{f:Bool->Sem γ}{f':Bool->Sem δ}(h:∀b,gC P RB m (f b) (f' b)):gC P RB m (ck a u n >>= f) (ck a' u n >>= f'):=by
 refine kw (lZ B.blk λx=>?_);rw[B.off];cases x<;>exact h _
theorem zJ(hs:jS m)(hx:VR m x x')(U:VR m y y'):gC P VR m (cJ ats t #[x,y]) (cJ ats t #[x',y']):=by
 cases hx<;>first|exact .gF trivial|skip
 .refine me U λn=>?_
  cases ats[0]? with
  |none=>exact .gF trivial
  |some pt=>
   refine gN (λ_=>gY (e:=.error _) trivial) (λ_=>gN (λ_=>.gF trivial) (λ_=>gN (λ_=>.pure (.string _)) (λ_=>iZ (e:=.error _) trivial)))
 .rename_i B;refine me U λn=>?_
  cases ats[0]? with
  |none=>exact .gF trivial
  |some pt=>
   refine gN (λ_=>gY (e:=.error _) trivial) (λ_=>gN (λ_=>.gF trivial) (λ_=>gN (λ_=>.pure (.string _)) (λ_=>?_)));refine Hk λet=>Cr B λb=>gN (λ_=>?_) (λ_=>.gF trivial);refine gJ (yq _ _ B) λm' s s' Y O=>?_;cases O;exact gC.freeze (B.mono Y) (hs.mono Y _) (.pure (.string _))
def E8(P:Program)(s d:bB):Bool:=match P.underlying s,P.underlying d with
 |some (.int _),some (.int _)=>true
 |some .string,some (.slice e)=>(match P.underlying e with|some (.int .u8)=>true|_=>false)
 |some (.slice e),some .string=>(match P.underlying e with|some (.int .u8)=>true|_=>false)
 |_,_=>false
theorem MI{s d:bB}(ho:E8 P s d=true)(O:VR m x x'):gC P VR m (convert s d x) (convert s d x'):=by
 unfold E8 at ho;unfold convert;refine gG λd1 h1=>gG λd2 h2=>?_;rw[h1,h2]at ho;cases d1<;>cases d2<;>first|(simp at ho; done)|skip
 .cases O<;>first|exact .gF trivial|exact .pure (.int _ _)
 .rename_i e;cases O<;>first|exact .gF trivial|skip
  refine gG λd3 B=>?_;simp only[B]at ho;cases d3<;>first|exact .gF trivial|skip
  rename_i k;cases k<;>first|exact .gF trivial|exact zn|(simp at ho; done)
 .rename_i e
  have Y:P.underlying e=some (.int .u8):=by
   simp only at ho;revert ho
   cases P.underlying e with
   |none=>intro ho; cases ho
   |some d3=>
    cases d3<;>intro ho<;>first|(cases ho; done)|skip
    rename_i k;cases k<;>first|(cases ho; done)|rfl
  have fin:∀{y y':Value},VR m y y'->gC P VR m (bE e >>= λd=>match d with|.int .u8=>dn y|.int .i32=>dq y|_=>stuck "Convert: a slice of what to string?") (bE e >>= λd=>match d with|.int .u8=>dn y'|.int .i32=>dq y'|_=>stuck "Convert: a slice of what to string?"):=by
   intro y y' hy;refine gG λd3 B=>?_;rw[Y]at B;cases B;exact zo hy
  cases O with
  |int k n=>exact .pure (.string _)
  |string s=>exact .pure (.string _)
  |jw v hv=>
   refine .gF ?_;show ij P ((match P.underlying e with|some d=>pure d|none=>stuck _) >>= _);rw[Y];trivial
  |jg l c=>exact fin (.jg l c)
  |slice l c U=>exact fin (.slice l c U)
  |bool b=>exact fin (.bool b)
  |jY=>exact fin .jY
  |ptr U=>exact fin (.ptr U)
  |oV=>exact fin .oV
  |map hb=>exact fin (.map hb)
  |gone hb=>exact fin (.gone hb)
  |lF=>exact fin .lF
  |chan hb=>exact fin (.chan hb)
  |func a b c d e=>exact fin (.func a b c d e)
  |sV a b c=>exact fin (.sV a b c)
  |nilFunc=>exact fin .nilFunc
  |iface t h=>exact fin (.iface t h)
  |nilIface=>exact fin .nilIface
  |agg a b=>exact fin (.agg a b)
  |tuple a b=>exact fin (.tuple a b)
end
end
section
variable {args args':Array Value} {m':Ren} {α:Type}
structure CR(m:Ren)(c c':CommCase):Prop where
 chan:VR m c.chan c'.chan
 send:nX (VR m) c.send c'.send
 zero:VR m c.zero c'.zero
def Lj(c:Array CommCase)(b:Bool)(s:CommShape):Prop:=b=true/\s=.send/\∃ch v z,c=#[{chan:=ch,send:=some v,zero:=z}]
inductive ki(P:Program)(m:Ren):Go.Next->Go.Next->Prop
 |value {v v'}:VR m v v'->ki P m (.value v) (.value v')
 |skip:ki P m .skip .skip
 |enter {f a a'}:m.je f->(∃fn c,P.funcs[f]?=some fn/\fn.body=some c)->io m a a'->ki P m (.enter f a) (.enter f a')
 |round {l l' f t t' a b}:m.blk l=some l'->io m t t'->jn m.ok a->jn m.ok b->ki P m (.round l f t a b) (.round l' f t' a b)
 |defer {d d'}:DR m d d'->ki P m (.defer d) (.defer d')
 |recover:ki P m .recover .recover
 |spawn {d d'}:m.kK->DR m d d'->ki P m (.spawn d) (.spawn d')
 |comm {c c'} (b s):m.kK\/Lj c b s->gW (CR m) c.toList c'.toList->ki P m (.comm c b s) (.comm c' b s)
section
variable {P:Program} {m:Ren}
theorem Jo(O:jS m){ps rs:Array bB}(h:io m args args'):gC P VR m (dr ps rs args) (dr ps rs args'):=by
 obtain⟨l⟩:=args;obtain⟨l'⟩:=args';unfold io at h;simp only at h
 cases h with
 |nil=>exact .gF trivial
 |cons U h=>
 cases h with
 |nil=>cases U<;>exact .gF trivial
 |cons Y h=>
 cases h with
 |cons hz h=>cases U<;>first|exact .gF trivial|(cases Y<;>exact .gF trivial)
 |nil=>
 cases U<;>first|exact .gF trivial|(cases Y<;>first|exact .gF trivial|skip)
 all_goals
  unfold dr;dsimp only;cases ps[0]?<;>first|exact .gF trivial|skip
  refine gG λd hd=>?_;cases d<;>first|exact .gF trivial|skip
  refine iB λsz=>?_
  first|exact .pure (.bool _)|skip
 rename_i a a' la ca B b b' lb cb hb st e;have e1:(a.block==b.block)=(a'.block==b'.block):=by rw[cR]; simp only[beq_iff_eq]; exact B.ui hb
 have e0:(a.block != b.block)=(a'.block != b'.block):=by simp only[bne,e1]
 dsimp only;rw[e1,e0,B.off,hb.off];refine gN (λ_=>.pure (.bool _)) (λ_=>?_);refine pK B (O _) λx=>pK hb (O _) λy=>gN (λ_=>.gF trivial) (λ_=>gN (λ_=>?_) (λ_=>.pure (.bool _)));exact tj B (tj hb (BG O B hb λx=>gN (λ_=>jO λn=>.pure (.bool _)) (λ_=>.pure (.bool _))))
theorem vD:∀(n:Nat){a a':Addr}(acc:ByteArray),AR m a a'->gC P yY m (dt a n acc) (dt a' n acc)
 |0,_,_,_,_=>.pure rfl
 |n+1,a,a',acc,B=>by
  unfold dt;refine E0 B λv v' O=>?_
  cases O with
  |int k x=>cases k<;>first|exact .gF trivial|exact vD n _ (B.add 1)
  |_=>exact .gF trivial
theorem CA{x x':Value}(B:VR m x x'):gC P yY m (du x) (du x'):=by
 cases B<;>first|exact .gF trivial|exact .pure rfl|exact vD _ _ ‹_›
theorem Mc(h:io m args args'):gC P VR m (Extern.BytealgCompare.compare args) (Extern.BytealgCompare.compare args'):=by
 obtain⟨l⟩:=args;obtain⟨l'⟩:=args'
 cases h with
 |nil=>exact .gF trivial
 |cons U h=>
 cases h with
 |nil=>exact .gF trivial
 |cons Y h=>
 cases h with
 |cons hz h=>exact .gF trivial
 |nil=>
 refine gJ (CA U) λm' a b O B=>?_;cases B;refine gJ (CA (Y.mono O)) λaa a b O B=>?_;cases B;exact .pure (.int ..)
def pV(P:Program)(m:Ren)(f:bH):Prop:=
 ∃fn,P.funcs[f]?=some fn/\fn.name≠ "runtime.NumGoroutine"/\
  ((∃c,fn.body=some c/\jn m.ok c)\/(fn.body=none/\Extern.findNext fn=none/\∃e,Extern.find fn=some e/\∀m' args args',m.Le m'->io m' args args'->gC P VR m' (e args) (e args')))
theorem pV.mono(h:m.Le m'){f:bH}(x:pV P m f):pV P m' f:=by
 obtain⟨fn,Y,h2,h3⟩:=x;refine⟨fn,Y,h2,?_⟩;rcases h3 with⟨c,B,O⟩|⟨B,O,e,h6,h7⟩
 .exact .inl ⟨c,B,h.ok▸O⟩
 .exact .inr ⟨B,O,e,h6,λU a a' hl=>h7 U a a' (h.trans hl)⟩
theorem Jn{f:bH}(Y:m.je f)(hc:pV P m f)(h:io m args args'):gC P (ki P) m (callFunc f args) (callFunc f args'):=by
 obtain⟨fn,O,h2,h3⟩:=hc;refine kw ?_;rw[O];dsimp only;have e2:(fn.name == "runtime.NumGoroutine")=false:=by simpa using h2
 rw[e2];rcases h3 with⟨c,B,U⟩|⟨B,U,e,h6,h7⟩
 .rw[B];exact .pure (.enter Y ⟨fn,c,O,B⟩ h)
 .rw[B,U,h6];refine gC.mark trivial ?_;show gC P _ m (e args >>= λv=>pure _) (e args' >>= λv=>pure _);exact gJ (h7 m args args' (.refl m) h) λm' v v' _ hv=>gC.pure (ki.value hv)
structure wN(P:Program)(m:Ren):Prop where
 prog:oO P
 G:m.G=P.globals.size
 calls:∀f,m.je f->pV P m f
 TW:P.follows .rangeFuncRecover=true
theorem wN.mono(h:m.Le m')(x:wN P m):wN P m':=⟨x.prog,h.G.trans x.G,λf B=>(x.calls f (h.je▸B)).mono h,x.TW⟩
theorem Sa{l l':Nat}(O:m.blk l=some l')(h:io m args args'):gC P (ki P) m (ba l args) (ba l' args'):=by
 unfold ba aY;simp only[bind_assoc];refine jv O λo o' Y=>?_;cases Y<;>first|exact .gF trivial|skip
 rename_i p p' B;have e:∀(q:Loop)(k:Loop->Sem Go.Next),(pure q >>= k)=k q:=λq k=>rfl;simp only[e];rw[<-B.params,<-h.size,<-B.fn,<-B.assign,<-B.body];refine gN (λ_=>.gF trivial) (λ_=>.pure (.round O ?_ B.Un B.yW))
 have key:∀(ps:List Tmp){l l':List Value}{t t':Array Value},gW (VR m) l l'->io m t t'->io m ((ps.zip l).foldl (λtmps x=>tmps.setIfInBounds x.1 x.2) t) ((ps.zip l').foldl (λtmps x=>tmps.setIfInBounds x.1 x.2) t'):=by
  intro ps
  induction ps with
  |nil=>simpa using U
  |cons p ps ih=>
   intro l l' t t' O U
   cases O with
   |nil=>simpa using U
   |cons hv O=>simpa using ih O (U.set p hv)
 have:=key p.params.toList h B.tmps;rw[<-a7,<-a7,aK,aK];exact this
theorem Pg(O:oO P)(t:bB)(x:Value)(k:bH×Value->Sem α):ij P (program >>= λp=>cj (p.types.size+Made.depth) t x "" >>= k):=by
 unfold cj bS
 cases hi:P.info? t with
 |none=>
  show ij P ((((match P.info? t with|some i=>pure i|none=>stuck _) >>= _) >>= _));rw[hi];trivial
 |some i=>
  have U:=O.VL t i hi;show ij P ((((match P.info? t with|some i=>pure i|none=>stuck _) >>= _) >>= _));rw[hi];have Y:∀{β:Type}(B:TypeInfo->Sem β),((match some i with|some i=>pure i|none=>stuck "no such type") >>= B)=B i:=λ_=>rfl;rw[Y];simp only[U];trivial
theorem Rl(O:oO P)(t:bB)(x:Value)(k:Option Bool->Sem α):ij P (program >>= λp=>bZ (p.types.size+Made.depth) t x "" >>= k):=by
 unfold bZ bS
 cases hi:P.info? t with
 |none=>
  show ij P ((((match P.info? t with|some i=>pure i|none=>stuck _) >>= _) >>= _));rw[hi];trivial
 |some i=>
  have U:=O.VL t i hi;show ij P ((((match P.info? t with|some i=>pure i|none=>stuck _) >>= _) >>= _));rw[hi];have Y:∀{β:Type}(B:TypeInfo->Sem β),((match some i with|some i=>pure i|none=>stuck "no such type") >>= B)=B i:=λ_=>rfl;rw[Y];simp only[U];trivial
theorem th(U:wN P m){t t':Target}(Y:TR m t t')(hn:∀b x y z,t≠.builtin b x y z)(h:io m args args'):gC P (ki P) m (invoke t args) (invoke t' args'):=by
 cases Y with
 |nil=>exact iZ (e:=.nilDeref) trivial
 |collected _=>exact .gF trivial
 |mark _ _ _ _=>exact .gF trivial
 |builtin x y z hm=>exact absurd rfl (hn _ x y z)
 |fn B=>
  rcases B with⟨B,hc⟩|⟨rfl,n,rfl⟩
  .cases B with
   |func f B=>exact Jn B (U.calls f B) (h.append hc)
   |yield hl=>exact Sa hl h
  .unfold invoke
   cases ha:args[0]? with
   |none=>exact .gF trivial
   |some x=>
    obtain⟨x',O,hx⟩:=h.get ha;rw[O]
    cases hx with
    |nilIface=>exact iZ (e:=.nilDeref) trivial
    |iface t hv=>exact .gF (Pg U.prog t ..)
    |_=>exact .gF trivial
def gR(je:bH->Prop)(gl:Nat->Prop):Operand->Prop
 |.tmp _=>True
 |.const v=>Plain v
 |.global g=>gl g
 |.func f=>je f
def xB(P:Program)(st:Bool)(ats:Array bB)(n:Nat):Builtin->Prop
 |.append|.clear|.copy|.max|.min|.recover=>True
 |.cap|.len=>∀t,ats[0]?=some t->tU P t=true
 |.unsafeString=>st=true/\n=2
 |.close=>True
 |_=>False
def Pt(P:Program)(st:Bool)(t:bB):Prop:=∀k e,P.underlying t=some (.map k e)->sQ P 10000 k=true/\(st=true\/qw P cw k=true)
def isNil:Operand->Bool
 |.const (.pointer none)|.const .nilIface=>true
 |_=>false
def UR(P:Program)(st:Bool)(t:bB)(y:Operand):Prop:=st=true\/qw P cw t=true\/(isNil y=true/\∀d,P.underlying t=some d->(∃e,d=.pointer e)\/(∃e,d=.interface e))
def OkOp(P:Program)(je:bH->Prop)(gl:Nat->Prop)(st:Bool)(op:Op):Prop:=
 (∀x∈op.operands.toList,gR je gl x)/\match op with
 |.move _|.assign _|.pick ..|.alloc _|.box ..|.build ..|.buildSlice ..|.load ..|.store ..|.nilCheck _|.unOp ..|.makeInterface ..|.makeMap ..|.makeSlice ..|.slice ..|.fieldAddr ..|.field ..
 |.indexAddr ..|.index ..|.entryStore ..|.range ..|.next ..|.entry _|.extract ..|.panic _|.send .. => True
 |.select .. => False
 |.makeChan .. => False
 |.binOp o t _ y _=>o=.eql\/o=.neq->UR P st t y
 |.convert s d _=>E8 P s d=true
 |.makeFunc (.func f) _ _=>je f
 |.lookup t ..|.mapUpdate t ..|.mapEntry t .. => Pt P st t
 |.typeAssert _ _ _ ok=>ok=true
 |.call c=>match c.callee with
  |.value _=>True
  |.builtin b=>xB P st c.argTypes c.args.size b/\b≠.close
  |.invoke .. => False
 |.go c=>False/\match c.callee with
  |.value _=>True
  |_=>False
 |.defer c=>match c.callee with
  |.value _=>True
  |.builtin b=>b=.close/\False
  |_=>False
 |_=>False
end
end
section
variable {je:bH->Prop} {gl:Nat->Prop} {ρ ρ':Operand->Value} {t:bB} {x x' y:Value}
section
variable {P:Program} {m:Ren}
theorem qJ:∀(d:Nat)(m:Ren)(t:bB){x x' y y':Value},VR m x x'->VR m y y'->gC P yY m (cy d t x y) (cy d t x' y')
 |0,m,t,_,_,_,_,_,_=>.gF trivial
 |d+1,m,t,x,x',y,y',Y,hy=>by
  unfold cy
  refine gG λde hd=>?_
  cases de with
  |interface ms=>
   cases Y with
   |nilIface=>cases hy with
    |jw v B=>cases y'<;>first|exact .pure rfl|exact B.elim
    |_=>exact .pure rfl
   |jw v B=>cases x'<;>first|exact .pure rfl|exact B.elim
   |_=>exact .pure rfl
  |struct fs=>
   cases Y with
   |agg h1 h2=>
    cases hy with
    |agg h3 h4=>
     refine gJ (RA:=yY) (qP _ _ λm' f s hf U=>gN (λ_=>?_) (λ_=>.pure rfl)) λm' a b _ O=>?_
     .refine gJ (pe ((io.kE h1 h2).mono U) _) λm1 u u' l1 hu=>gJ (pe ((io.kE h3 h4).mono (U.trans l1)) _) λm2 v v' l2 B=>?_
      refine gJ (qJ d m2 _ (hu.mono l2) B) λm3 a b _ O=>?_
      cases O
      exact gN (λ_=>.pure rfl) (λ_=>.pure rfl)
     .cases O
      obtain⟨o,_⟩:=a
      cases o<;>exact .pure rfl
    |jw v B=>cases y'<;>first|exact .pure rfl|exact B.elim
    |_=>exact .pure rfl
   |jw v B=>cases x'<;>first|exact .pure rfl|exact B.elim
   |_=>exact .pure rfl
  |array n e=>
   cases Y with
   |agg h1 h2=>
    cases hy with
    |agg h3 h4=>
     refine iB λsz=>?_;refine gJ (RA:=yY) (qW _ _ λm' i s U=>?_) λm' a b _ O=>?_
     .refine gJ (pe ((io.kE h1 h2).mono U) _) λm1 u u' l1 hu=>gJ (pe ((io.kE h3 h4).mono (U.trans l1)) _) λm2 v v' l2 B=>?_;refine gJ (qJ d m2 _ (hu.mono l2) B) λm3 a b _ O=>?_;cases O;exact gN (λ_=>.pure rfl) (λ_=>.pure rfl)
     .cases O;obtain⟨o,_⟩:=a;cases o<;>exact .pure rfl
    |jw v B=>cases y'<;>first|exact .pure rfl|exact B.elim
    |_=>exact .pure rfl
   |jw v B=>cases x'<;>first|exact .pure rfl|exact B.elim
   |_=>exact .pure rfl
  |_=>exact .pure rfl
theorem LU(op:BinOp)(t:bB)(p q:Operand){y':Value}(Y:VR m x x')(U:VR m y y'):gC P Bz m (eqGuard op t p q x y) (eqGuard op t p q x' y'):=by
 refine gN (λ_=>.pure trivial) (λ_=>?_)
 cases Y with
 |nilIface=>
  cases U with
  |nilIface=>
   refine gN (λ_=>.pure trivial) (λ_=>?_);refine gJ (qJ _ m t .nilIface .nilIface) λm' a b _ B=>?_;cases B;exact gN (λ_=>.gF trivial) (λ_=>.pure trivial)
  |jw v O=>cases y'<;>first|exact .pure trivial|exact O.elim
  |_=>exact .pure trivial
 |agg h1 h2=>
  cases U with
  |agg h3 h4=>
   refine kw (kw (gN (λ_=>.pure trivial) (λ_=>?_)));refine gJ (qJ _ m t (.agg h1 h2) (.agg h3 h4)) λm' a b _ B=>?_;cases B;exact gN (λ_=>.gF trivial) (λ_=>.pure trivial)
  |jw v O=>cases y'<;>first|exact .pure trivial|exact O.elim
  |_=>exact .pure trivial
 |jw v O=>cases x'<;>first|exact .pure trivial|exact O.elim
 |_=>exact .pure trivial
theorem Hn(B:∀d,P.underlying t=some d->(∃e,d=.pointer e)\/(∃e,d=.interface e))(O:VR m x x')(U:y=.pointer none\/y=.nilIface):gC P yY m (cv t x y) (cv t x' y):=by
 refine gG λd h=>?_;rcases B d h with⟨e,rfl⟩|⟨e,rfl⟩<;>rcases U with rfl|rfl<;>cases O<;>first|exact .gF trivial|exact .pure rfl
theorem I9(op:BinOp)(ho:op=.eql\/op=.neq)(hd:∀d,P.underlying t=some d->(∃e,d=.pointer e)\/(∃e,d=.interface e))(hx:VR m x x')(O:y=.pointer none\/y=.nilIface):gC P VR m (binOp op t x y) (binOp op t x' y):=by
 have h:=Hn hd hx O
 have U:∀z,binOp .eql t z y=(do pure (.bool (<-cv t z y))):=by
  intro z;rcases O with rfl|rfl<;>cases z<;>rfl
 have Y:∀z,binOp .neq t z y=(do pure (.bool (!(<-cv t z y)))):=by
  intro z;rcases O with rfl|rfl<;>cases z<;>rfl
 rcases ho with rfl|rfl
 .rw[U,U];exact gJ h λm' a b _ B=>by cases B; exact .pure (.bool _)
 .rw[Y,Y];exact gJ h λm' a b _ B=>by cases B; exact .pure (.bool _)
theorem mW(B:∀x,gR je gl x->VR m (ρ x) (ρ' x)){a:Array Operand}(h:∀x∈a.toList,gR je gl x):io m (a.map ρ) (a.map ρ'):=by
 unfold io;simp only[a4];generalize a.toList=l at h
 induction l with
 |nil=>exact .nil
 |cons x l O=>exact .cons (B x (h x (by simp))) (O λy U=>h y (by simp[U]))
theorem AV(B:∀x,gR je gl x->VR m (ρ x) (ρ' x)){o:Option Operand}(h:∀x,o=some x->gR je gl x):nX (VR m) (o.map ρ) (o.map ρ'):=by
 cases o with
 |none=>exact .none
 |some x=>exact .some (B x (h x rfl))
theorem GO(B:∀x,gR je gl x->VR m (ρ x) (ρ' x)){a:Array (Nat×Operand)}(h:∀x∈a.toList.map (·.2),gR je gl x) :
  gW (KL m) (a.map λ(i,x)=>(i,ρ x)).toList (a.map λ(i,x)=>(i,ρ' x)).toList:=by
 simp only[a4];generalize a.toList=l at h
 induction l with
 |nil=>exact .nil
 |cons x l O=>exact .cons ⟨rfl,B _ (h _ (by simp))⟩ (O λy U=>h y (by simp only[List.map_cons,da]; exact .inr U))
theorem Jz(hP:oO P)(hx:VR m x x'){a:Operand}(e:ρ a=x)(e':ρ' a=x'){d:Option Tmp}{p:String}{af:Array Edge}{g:Option (Nat×Bool)} :
  gC P (ki P) m (bT ρ ⟨d,.nilCheck a,t,p,af,g⟩) (bT ρ' ⟨d,.nilCheck a,t,p,af,g⟩):=by
 unfold bT;dsimp only;rw[e,e']
 cases hx with
 |jY=>exact iZ (e:=.nilDeref) trivial
 |nilIface=>exact iZ (e:=.nilDeref) trivial
 |nilFunc=>exact iZ (e:=.nilDeref) trivial
 |@sV lf n f c U Y h3=>
  dsimp only;have hA:io m lf f:=io.kE U Y
  cases O:lf[0]? with
  |none=>
   rw[hA.get_none O];exact .pure (.value (.sV U Y h3))
  |some y=>
   obtain⟨y',aa,hy⟩:=hA.get O;rw[aa]
   have ab:∀t u,y'=.iface t u->∃z,y=.iface t z:=λt u e=>by
    obtain⟨z,hz⟩:=h3 t u (by rw[aa,e]);rw[O]at hz;exact⟨z,dd hz⟩
   cases hy with
   |nilIface=>exact iZ (e:=.nilDeref) trivial
   |iface t B=>exact .gF (Rl hP t _ _)
   |jw v B=>
    have:∀t u,y'≠.iface t u:=λt u e=>by obtain⟨z,hz⟩:=ab t u e; cases hz
    cases y'<;>first|exact B.elim|exact absurd rfl (this _ _)|exact .pure (.value (.sV U Y h3))
   |_=>exact .pure (.value (.sV U Y h3))
 |func hf U Y h3 h4=>cases hf<;>exact .pure (.value (.func (by first|exact .func _ ‹_›|exact .yield ‹_›) U Y h3 h4))
 |jw v B=>cases x'<;>first|exact .pure (.value (.jw _ B))|exact B.elim|(rename_i q; cases q<;>first|exact .pure (.value (.jw _ B))|exact B.elim)|(rename_i q _ _; cases q<;>first|exact .pure (.value (.jw _ B))|exact B.elim|exact .gF trivial)
 |bool b=>exact .pure (.value (.bool b))
 |int k n=>exact .pure (.value (.int k n))
 |string s=>exact .pure (.value (.string s))
 |ptr O=>exact .pure (.value (.ptr O))
 |jg l c=>exact .pure (.value (.jg l c))
 |slice l c O=>exact .pure (.value (.slice l c O))
 |oV=>exact .pure (.value .oV)
 |map h=>exact .pure (.value (.map h))
 |gone h=>exact .pure (.value (.gone h))
 |lF=>exact .pure (.value .lF)
 |chan h=>exact .pure (.value (.chan h))
 |iface t h=>exact .pure (.value (.iface t h))
 |agg a b=>exact .pure (.value (.agg a b))
 |tuple a b=>exact .pure (.value (.tuple a b))
theorem rG{f f':Value}(hf:VR m f f'){a a':Array Value}(B:io m a a'):gC P (λm d d'=>DR m d d'/\∀b x y z,d.target≠.builtin b x y z) m (Deferred.ofValue f a) (Deferred.ofValue f' a'):=by
 cases hf<;>first|exact .gF trivial|skip
 .rename_i O U h2 Y h4;exact .pure ⟨⟨.fn (.inl ⟨O,.kE Y h4⟩),(io.kE U h2).append B⟩,nofun⟩
 .exact .pure ⟨⟨.nil,B⟩,nofun⟩
 .rename_i Y U h2;exact .pure ⟨⟨.fn (.inr ⟨rfl,_,rfl⟩),(io.kE Y U).append B⟩,nofun⟩
theorem uY{α β:Type}{Q:Ren->β->β->Prop}(hm:∀m m' a b,m.Le m'->Q m a b->Q m' a b){g g':α->Sem β}:∀(l:List α)(m:Ren),(∀x∈l,∀m',m.Le m'->gC P Q m' (g x) (g' x))->gC P (λm=>gW (Q m)) m (l.mapM g) (l.mapM g')
 |[],m,_=>.pure .nil
 |x::l,m,O=>by
  simp only[cZ];exact gJ (O x (by simp) m (.refl m)) λm' a b B h=>gJ (uY hm l m' λy U Y l1=>O y (by simp[U]) Y (B.trans l1)) λaa c d B hc=>.pure (.cons (hm _ _ _ _ B h) hc)
theorem CR.mono{m m':Ren}(h:m.Le m'){a b:CommCase}(x:CR m a b):CR m' a b:=⟨x.chan.mono h,x.send.mono λ_ _ y=>y.mono h,x.zero.mono h⟩
end
end
section
section
variable {P:Program} {m:Ren}
theorem uy{s s':Sem Value}(h:gC P VR m s s'):nL P (ki P) m (do pure (.value (<-s))) (do pure (.value (<-s'))):=.base (gJ h λ_ _ _ _ B=>.pure (.value B))
theorem V4{s s':Sem Unit}(h:gC P Bz m s s'):nL P (ki P) m (do s; pure .skip) (do s'; pure .skip):=.base (gJ h λ_ _ _ _ _=>.pure .skip)
theorem Nz(Y:wN P m){st:Bool}(O:st=true->jS m){b:Builtin}{ats:Array bB}{t:bB}{cs:Array Bool}{args args':Array Value}(h:io m args args')(B:xB P st ats args.size b)(hc:b≠.close):nL P (ki P) m (builtin b ats t cs args) (builtin b ats t cs args'):=by
 cases b<;>simp only[xB]at B<;>first|exact B.elim|exact absurd rfl hc|skip
 .exact uy (PO Y.prog h)
 .exact uy (Vf B h)
 .exact uy (Rf Y.prog h)
 .exact uy (TY h)
 .exact uy (UZ B h)
 .exact uy (Vl h)
 .exact uy (U3 h)
 .exact .base (.pure .recover)
 .obtain⟨h1,h2⟩:=B;have U:args'.size=2:=by rw[<-h.size]; exact h2
  obtain⟨x,y,rfl⟩:∃x y,args=#[x,y]:=by
   obtain⟨l⟩:=args
   match l,h2 with
   |[x,y],_=>exact⟨x,y,rfl⟩
  obtain⟨x',y',rfl⟩:∃x y,args'=#[x,y]:=by
   obtain⟨l⟩:=args'
   match l,U with
   |[x,y],_=>exact⟨x,y,rfl⟩
  cases h with
  |cons hx h=>cases h with
   |cons hy h=>exact uy (zJ (O h1) hx hy)
theorem Gz(hE:wN P m){st:Bool}(ac:st=true->jS m)(ab:False->m.kK){gl:Nat->Prop}{ρ ρ':Operand->Value}(Y:∀x,gR m.je gl x->VR m (ρ x) (ρ' x))(ad:∀c,ρ (.const c)=c/\ρ' (.const c)=c)(o:Oper)(ho:OkOp P m.je gl st o.op):nL P (ki P) m (bT ρ o) (bT ρ' o):=by
 obtain⟨ah,op,ag,pos,after,guard⟩:=o;obtain⟨O,U⟩:=ho;have B:∀x,x∈op.operands.toList->VR m (ρ x) (ρ' x):=λx hx=>Y x (O x hx);have aa:∀t,Pt P st t->∀k e,P.underlying t=some (.map k e)->sQ P 10000 k=true/\(jS m\/qw P cw k=true):=λt h k e hd=>⟨(h k e hd).1,(h k e hd).2.imp ac id⟩
 cases op with
 |move x=>exact .base (.pure (.value (B x (by simp[cu]))))
 |assign x=>exact .base (.pure (.value (B x (by simp[cu]))))
 |pick c a b=>
  refine .base (Mf (B c (by simp[cu])) λt=>.pure (.value ?_));cases t
  .exact B b (by simp[cu])
  .exact B a (by simp[cu])
 |alloc e=>exact uy (Si hE.prog)
 |box e x=>exact uy (Vd (B x (by simp[cu])))
 |build t ps=>exact uy (SC hE.prog (GO Y (by simpa[cu]using O)))
 |buildSlice t n ps=>exact uy (Fj hE.prog (GO Y (by simpa[cu]using O)))
 |load t x=>exact uy (OH (B x (by simp[cu])))
 |store t x y=>exact V4 (MK (B x (by simp[cu])) (B y (by simp[cu])))
 |nilCheck x=>exact .base (Jz hE.prog (B x (by simp[cu])) rfl rfl)
 |binOp o t x y yt=>
  refine uy (gJ (LU o t x y (B x (by simp[cu])) (B y (by simp[cu]))) λm' _ _ hl _=>?_);have hx:=(B x (by simp[cu])).mono hl;have hy:=(B y (by simp[cu])).mono hl;by_cases hq:o=.eql\/o=.neq
  .rcases U hq with h|h|⟨h,hd⟩
   .exact Eh o (hl.G.trans hE.G) (λ_=>.inl ((ac h).mono hl)) hx hy
   .exact Eh o (hl.G.trans hE.G) (λ_=>.inr h) hx hy
   .cases y with
    |const c=>
     obtain⟨e1,e2⟩:=ad c;rw[e1,e2]
     have hc:c=.pointer none\/c=.nilIface:=by
      cases c<;>first|cases h; done|exact .inr rfl|skip
      rename_i p;cases p
      .exact .inl rfl
      .cases h
     exact I9 o hq hd hx hc
    |_=>cases h
  .exact Eh o (hl.G.trans hE.G) (λh=>absurd h hq) hx hy
 |unOp o t x=>exact uy (QZ o (B x (by simp[cu])))
 |convert s d x=>exact uy (MI U (B x (by simp[cu])))
 |makeInterface t x=>exact uy (zg (B x (by simp[cu])))
 |makeFunc f a b=>
  cases f<;>simp only at U<;>first|exact U.elim|skip
  exact uy (Jq U (mW Y λx hx=>O x (by simp[cu]; exact .inl (by simpa using hx))) (mW Y λx hx=>O x (by simp[cu]; exact .inr (by simpa using hx))))
 |makeMap t r=>exact uy (MT (AV Y λx hx=>O x (by simp[cu,hx])))
 |makeChan t s=>exact uy (JP (ab U) (B s (by simp[cu])))
 |makeSlice t l c=>exact uy (Hh hE.prog (B l (by simp[cu])) (B c (by simp[cu])))
 |slice t x l h mx=>exact uy (Mz (B x (by simp[cu])) (AV Y λy hy=>O y (by simp[cu,hy])) (AV Y λy hy=>O y (by simp[cu,hy])) (AV Y λy hy=>O y (by simp[cu,hy])))
 |fieldAddr t x f=>exact uy (Mq (B x (by simp[cu])) f)
 |field t x f=>exact uy (RS (B x (by simp[cu])) f)
 |indexAddr t x i=>exact uy (NN (B x (by simp[cu])) (B i (by simp[cu])))
 |index t x i=>exact uy (RM (B x (by simp[cu])) (B i (by simp[cu])))
 |lookup t x i b=>exact uy (Of hE.prog hE.G (aa t U) (B x (by simp[cu])) (B i (by simp[cu])) b)
 |mapUpdate t a b c=>exact(IA hE.G (aa t U) (B a (by simp[cu])) (B b (by simp[cu])) (B c (by simp[cu]))).map λ_ _ _ _ _=>.skip
 |mapEntry t a b=>exact(Kb hE.prog hE.G (aa t U) (B a (by simp[cu])) (B b (by simp[cu]))).map λ_ _ _ _ h=>.value h
 |entryStore t a b c=>exact V4 (DL (B a (by simp[cu])) (B b (by simp[cu])) (B c (by simp[cu])))
 |range t x=>exact uy (R9 (B x (by simp[cu])))
 |next x b=>exact uy (TU (B x (by simp[cu])) b _)
 |entry x=>exact uy (Rs (B x (by simp[cu])))
 |typeAssert x a b c=>
  simp only at U;subst U;exact uy (DZ hE.prog (B x (by simp[cu])) _ _)
 |extract x i=>exact uy (NG (B x (by simp[cu])) i)
 |panic x=>exact uy (SA (B x (by simp[cu])))
 |send c x=>exact .base (.pure (.comm _ _ (.inr ⟨rfl,rfl,_,_,_,rfl⟩) (.cons ⟨B c (by simp[cu]),.some (B x (by simp[cu])),.undef m⟩ .nil)))
 |select cs b=>
  refine .base ?_;show gC P (ki P) m (cs.mapM (λs=>do pure {chan:=ρ s.chan,send:=s.send.map ρ,zero:=<-bD s.elem:CommCase}) >>= λc=>pure (.comm c b .select)) (cs.mapM (λs=>do pure {chan:=ρ' s.chan,send:=s.send.map ρ',zero:=<-bD s.elem:CommCase}) >>= λc=>pure (.comm c b .select));rw[a0,a0];simp only[map_eq_pure_bind,bind_assoc,pure_bind];refine gJ (uY (Q:=CR) (λ_ _ _ _ h x=>x.mono h) cs.toList m λs hs m' hl=>?_) λm' a b' ae af=>.pure (.comm _ _ (.inl (by rw[ae.kK]; exact ab U)) af);refine jq hE.prog λz hz=>.pure ⟨(B s.chan ?_).mono hl,(AV Y λy hy=>O y ?_).mono λ_ _ x=>x.mono hl,hz⟩
  .simp only[cu,aC,aJ];exact⟨s,by simpa using hs,by simp⟩
  .simp only[cu,aC,aJ];exact⟨s,by simpa using hs,by simp[hy]⟩
 |call c=>
  obtain⟨callee,args,ats⟩:=c
  cases callee with
  |invoke r n=>exact U.elim
  |builtin b=>
   have ha:io m (args.map ρ) (args.map ρ'):=mW Y λx hx=>O x (by simp[cu,dh]; simpa using hx);exact Nz hE ac ha (by simpa using U.1) U.2
  |value f=>
   have ha:io m (args.map ρ) (args.map ρ'):=mW Y λx hx=>O x (by simp[cu,dh]; exact .inr (by simpa using hx));refine .base (gJ (rG (B f (by simp[cu,dh])) ha) λm' d d' hl hd=>?_);exact th (hE.mono hl) hd.1.target hd.2 hd.1.args
 |go c=>
  obtain⟨callee,args,ats⟩:=c
  cases callee with
  |invoke r n=>exact U.2.elim
  |builtin b=>exact U.2.elim
  |value f=>
   have ha:io m (args.map ρ) (args.map ρ'):=mW Y λx hx=>O x (by simp[cu,dh]; exact .inr (by simpa using hx));exact .base (gJ (rG (B f (by simp[cu,dh])) ha) λm' d d' hl hd=>.pure (.spawn (by rw[hl.kK]; exact ab U.1) hd.1))
 |defer c=>
  obtain⟨callee,args,ats⟩:=c
  cases callee with
  |invoke r n=>exact U.elim
  |builtin b=>
   have ha:io m (args.map ρ) (args.map ρ'):=mW Y λx hx=>O x (by simp[cu,dh]; simpa using hx);obtain⟨U,hs⟩:=U;subst U;exact .base (.pure (.defer ⟨.builtin _ _ _ (ab hs),ha⟩))
  |value f=>
   have ha:io m _ _:=mW Y λx hx=>O x (by simp[cu,dh]; exact .inr (by simpa using hx));exact .base (gJ (rG (B f (by simp[cu,dh])) ha) λm' d d' hl hd=>.pure (.defer hd.1))
 |_=>exact U.elim
end
end
section
open Go.Conc
def CY(y:Code):Code:=.cond (.global 0) y .skip
inductive ml(m:Ren):Item->Item->Prop
 |G1 (y):ml m (.code (CY y)) (.code y)
 |oL (y):ml m (.inLoop (CY y)) (.inLoop y)
 |code (c):jn m.ok c->ml m (.code c) (.code c)
 |inBlock (i):ml m (.inBlock i) (.inBlock i)
 |inLoop (c):jn m.ok c->ml m (.inLoop c) (.inLoop c)
 |inScope (c):jn m.ok c->ml m (.inScope c) (.inScope c)
 |inRegion (ops t):(∀o∈ops.toList,m.ok o)->ml m (.inRegion ops t) (.inRegion ops t)
 |inRangeFunc {l l'}:m.blk l=some l'->ml m (.inRangeFunc l) (.inRangeFunc l')
 |endRangeFunc {l l'}:m.blk l=some l'->ml m (.endRangeFunc l) (.endRangeFunc l')
 |beginRound:ml m .beginRound .beginRound
structure Ta(m:Ren)(p p':PanicEntry):Prop where
 v:VR m p.v p'.v
 rv:p'.recovered=p.recovered
 ex:p'.goexit=p.goexit
inductive uC(m:Ren):FrameMode->FrameMode->Prop
 |run:uC m .run .run
 |returning:uC m .returning .returning
 |panicking {c c'}:gW (Ta m) c c'->uC m (.panicking c) (.panicking c')
structure jx(m:Ren)(fr fr':Frame):Prop where
 fn:fr'.fn=fr.fn
 tmps:io m fr.tmps fr'.tmps
 todo:gW (ml m) fr.todo fr'.todo
 defers:gW (DR m) fr.defers fr'.defers
 mode:uC m fr.mode fr'.mode
 round:nX (λr r'=>m.blk r=some r') fr.roundOf fr'.roundOf
section
variable {m m':Ren}
theorem ml.mono(h:m.Le m'){a b:Item}(x:ml m a b):ml m' a b:=by
 cases x with
 |G1 y=>exact .G1 y
 |oL y=>exact .oL y
 |code c B=>exact .code c (h.ok▸B)
 |inBlock i=>exact .inBlock i
 |inLoop c B=>exact .inLoop c (h.ok▸B)
 |inScope c B=>exact .inScope c (h.ok▸B)
 |inRegion o t U=>exact .inRegion o t (h.ok▸U)
 |inRangeFunc O=>exact .inRangeFunc (h.blk _ _ O)
 |endRangeFunc O=>exact .endRangeFunc (h.blk _ _ O)
 |beginRound=>exact .beginRound
theorem Ta.mono(h:m.Le m'){a b:PanicEntry}(x:Ta m a b):Ta m' a b:=⟨x.v.mono h,x.rv,x.ex⟩
theorem uC.mono(h:m.Le m'){a b:FrameMode}(x:uC m a b):uC m' a b:=by
 cases x with
 |run=>exact .run
 |returning=>exact .returning
 |panicking B=>exact .panicking (B.mono λ_ _ y=>y.mono h)
theorem jx.mono(h:m.Le m'){a b:Frame}(x:jx m a b):jx m' a b:=
 ⟨x.fn,x.tmps.mono h,x.todo.mono λ_ _ y=>y.mono h,x.defers.mono λ_ _ y=>y.mono h,x.mode.mono h,x.round.mono λ_ _ y=>h.blk _ _ y⟩
theorem jx.eval{fr fr':Frame}(h:jx m fr fr'){gl:Nat->Prop}(B:∀g,gl g->m.blk g=some g)(x:Operand)(O:gR m.je gl x):VR m (fr.eval x) (fr'.eval x):=by
 cases x with
 |tmp t=>exact h.tmps.getD t
 |const v=>exact VR.plain O
 |global g=>exact .ptr (.mk (B g O))
 |func f=>exact .Lh (.func f O) (.nil m) (.nil m)
theorem jx.finish{fr fr':Frame}(h:jx m fr fr'){v v':Value}(hv:VR m v v'):jx m (fr.finish v) (fr'.finish v')/\(fr.finish v).kind=fr.kind/\(fr'.finish v').kind=fr'.kind:=by
 obtain⟨fn,tmps,todo,defers,mode,ag,round⟩:=fr;obtain⟨ah,aa,ad,ab,ae,af,ac⟩:=fr';obtain⟨O,B,h3,U,Y,h6⟩:=h
 cases h3 with
 |nil=>exact⟨⟨O,B,.nil,U,Y,h6⟩,rfl,rfl⟩
 |cons hi ht=>
  cases hi with
  |inRegion ops t ho=>
   cases t with
   |nil=>exact⟨⟨O,B,.cons (.inRegion _ _ ho) ht,U,Y,h6⟩,rfl,rfl⟩
   |cons i t=>
    refine⟨⟨O,?_,.cons (.inRegion _ _ ho) ht,U,Y,h6⟩,rfl,rfl⟩;show io m (match (ops[i]?).bind _ with|some d=>tmps.setIfInBounds d v|none=>tmps) (match (ops[i]?).bind _ with|some d=>aa.setIfInBounds d v'|none=>aa)
    cases(ops[i]?).bind _ with
    |none=>exact B
    |some d=>exact B.set d hv
  |inRangeFunc hl=>exact⟨⟨O,B,.cons (.endRangeFunc hl) ht,U,Y,h6⟩,rfl,rfl⟩
  |beginRound=>exact⟨⟨O,B,ht,U,Y,h6⟩,rfl,rfl⟩
  |G1 y=>exact⟨⟨O,B,.cons (.G1 y) ht,U,Y,h6⟩,rfl,rfl⟩
  |oL y=>exact⟨⟨O,B,.cons (.oL y) ht,U,Y,h6⟩,rfl,rfl⟩
  |code c hc=>exact⟨⟨O,B,.cons (.code c hc) ht,U,Y,h6⟩,rfl,rfl⟩
  |inBlock i=>exact⟨⟨O,B,.cons (.inBlock i) ht,U,Y,h6⟩,rfl,rfl⟩
  |inLoop c hc=>exact⟨⟨O,B,.cons (.inLoop c hc) ht,U,Y,h6⟩,rfl,rfl⟩
  |inScope c hc=>exact⟨⟨O,B,.cons (.inScope c hc) ht,U,Y,h6⟩,rfl,rfl⟩
  |endRangeFunc hl=>exact⟨⟨O,B,.cons (.endRangeFunc hl) ht,U,Y,h6⟩,rfl,rfl⟩
theorem jx.raise{fr fr':Frame}(h:jx m fr fr'){vs vs':List PanicEntry}(U:gW (Ta m) vs vs'):jx m (fr.raise vs) (fr'.raise vs')/\(fr.raise vs).kind=fr.kind/\(fr'.raise vs').kind=fr'.kind:=by
 obtain⟨fn,tmps,todo,defers,mode,ad,round⟩:=fr;obtain⟨ae,Y,aa,B,ab,ac,O⟩:=fr';obtain⟨h1,h2,h3,h4,h5,h6⟩:=h
 cases h5 with
 |run=>exact⟨⟨h1,h2,h3,h4,.panicking U,h6⟩,rfl,rfl⟩
 |returning=>exact⟨⟨h1,h2,h3,h4,.panicking U,h6⟩,rfl,rfl⟩
 |panicking hc=>exact⟨⟨h1,h2,h3,h4,.panicking (U.append hc),h6⟩,rfl,rfl⟩
theorem EQ{P:Program}{f:bH}(hf:pV P m f)(hb:∃fn c,P.funcs[f]?=some fn/\fn.body=some c){a a':Array Value}(h:io m a a')(k k':CallKind):jx m (dC P f a k) (dC P f a' k'):=by
 obtain⟨fn,c,U,Y⟩:=hb;obtain⟨aa,B,_,h3⟩:=hf;rw[U]at B;cases B
 have hc:jn m.ok c:=by
  rcases h3 with⟨c',O,h5⟩|⟨O,_⟩
  .rw[Y]at O; cases O; exact h5
  .rw[Y]at O; cases O
 refine⟨rfl,?_,?_,.nil,.run,.none⟩
 .simp only[dC,U,dw,dv,h.size];exact h.append (.replicate _ (.undef m))
 .simp only[dC,U,dx,Y,dv];exact .cons (.code c hc) .nil
end
def Jh(k:CallKind):Prop:=k=.normal\/k=.deferred
def door(P:Program):Frame:={fn:=P.funcs.size,tmps:=#[],todo:=[.call {target:=.nil,args:=#[]} false "fmt's door" #[]],defers:=[],mode:=.run,kind:=.normal}
def Ek(k:CallKind)(T:List Frame):Prop:=(k=.normal/\∀ps,T=[ps]->ps.mode≠.panicking [cm])\/(k=.deferred/\∃ps,T=[ps]/\ps.mode=.panicking [cm])
inductive gX(P:Program)(m:Ren)(T:List Frame):List Frame->List Frame->Prop
 |one {fr fr'}:jx m fr fr'->fr.kind=.normal->Ek fr'.kind T->fr.roundOf=none->gX P m T (fr::[door P]) (fr'::T)
 |cons {fr fr' c c' cs cs'}:jx m fr fr'->fr'.kind=fr.kind->Jh fr.kind->gX P m T (c::cs) (c'::cs')->gX P m T (fr::c::cs) (fr'::c'::cs')
section
variable {P:Program} {m m':Ren} {T:List Frame}
theorem gX.mono(h:m.Le m'){l l':List Frame}(x:gX P m T l l'):gX P m' T l l':=by
 induction x with
 |one B O U Y=>exact .one (B.mono h) O U Y
 |cons B O U _ ih=>exact .cons (B.mono h) O U ih
theorem gX.rX{fr fr':Frame}{cs cs':List Frame}(x:gX P m T (fr::cs) (fr'::cs')):jx m fr fr':=by cases x<;>assumption
theorem gX.set(h:m.Le m'){fr fr' g g':Frame}{cs cs':List Frame}(x:gX P m T (fr::cs) (fr'::cs'))(Y:jx m' g g')(k:g.kind=fr.kind)(k':g'.kind=fr'.kind)(hr:g.roundOf=fr.roundOf)(_hn:g.fn=fr.fn):gX P m' T (g::cs) (g'::cs'):=by
 cases x with
 |one hf B O U=>exact .one Y (k.trans B) (k'▸O) (hr.trans U)
 |cons hf B O U=>exact .cons Y (by rw[k,k',B]) (k▸O) (U.mono h)
theorem gX.push{fr fr' g g':Frame}{cs cs':List Frame}(x:gX P m T (fr::cs) (fr'::cs'))(B:jx m g g')(k:g'.kind=g.kind)(O:Jh g.kind):gX P m T (g::fr::cs) (g'::fr'::cs'):=.cons B k O x
end
end
section
open Go.Conc
variable {fr fr':Frame} {cs cs':List Frame}
def qf(P:Program)(m:Ren)(T:List Frame)(s':GStep)(w':World)(fr:Frame)(cs:List Frame)(w₁:World):Prop:=
 ∃gE fr' cs' B es,s'=.go (G fr' cs') B es/\m.Le gE/\gX P gE T (fr::cs) (fr'::cs')/\WR gE w₁ B/\jj m gE w' B/\∀e∈es,qY gE e
section
variable {P:Program} {m:Ren} {T:List Frame}
theorem T4(h:jx m fr fr'):(match fr.todo with|.call _ true _ _::_=>CallKind.wrapped|_=>.normal)=.normal/\(match fr'.todo with|.call _ true _ _::_=>CallKind.wrapped|_=>.normal)=.normal:=by
 have:=h.todo;revert this;generalize fr.todo=l;generalize fr'.todo=l';intro h
 cases h with
 |nil=>exact⟨rfl,rfl⟩
 |cons hi _=>cases hi<;>exact⟨rfl,rfl⟩
theorem w9{P:Program}{m:Ren}{T:List Frame}(h:gX P m T (fr::cs) (fr'::cs')) :
  nX (λx y=>VR m x.1 y.1/\gX P m T (fr::x.2) (fr'::y.2)) (bC fr cs) (bC fr' cs'):=by
 have e1:∀(f:Frame)(c:List Frame),f.kind=.normal->bC f c=none:=by
  intro f c hk; unfold bC; rw[hk]
 cases h with
 |one hf h1 B h3=>
  rw[e1 fr _ h1];rcases B with⟨B,_⟩|⟨B,ps,rfl,h4⟩
  .rw[e1 fr' _ B]; exact .none
  .have e2:bC fr' [ps]=none:=by
    unfold bC;simp only[B];rw[h4];rfl
   rw[e2]; exact .none
 |cons hf h1 B h3=>
  rename_i c c' cs cs';rcases B with B|B
  .rw[e1 fr _ B,e1 fr' _ (h1.trans B)];exact .none
  .have ad:=h1.trans B
   cases h3 with
   |one O g1 g2 g3=>
    have hm:=O.mode;obtain⟨am,an,ao,ap,aq,ar,au⟩:=c;obtain⟨ae,af,ag,ah,ai,aj,ak⟩:=c';unfold bC;rw[B,ad]
    cases hm with
    |run=>exact .none
    |returning=>exact .none
    |panicking hc=>
     cases hc with
     |nil=>exact .none
     |cons hp ht=>
      rename_i p p' aa Y;obtain⟨v,r,x⟩:=p;obtain⟨v',r',x'⟩:=p';obtain⟨U,ab,ac⟩:=hp;subst ab ac;cases r'<;>cases x'<;>first|exact .none|skip
      exact .some ⟨U,.cons hf h1 (.inr B) (.one ⟨O.fn,O.tmps,O.todo,O.defers,.panicking (.cons ⟨U,rfl,rfl⟩ ht),O.round⟩ g1 g2 g3)⟩
   |cons O g1 g2 g3=>
    have hm:=O.mode;obtain⟨am,an,ao,ap,aq,ar,au⟩:=c;obtain⟨ae,af,ag,ah,ai,aj,ak⟩:=c';unfold bC;rw[B,ad]
    cases hm with
    |run=>exact .none
    |returning=>exact .none
    |panicking hc=>
     cases hc with
     |nil=>exact .none
     |cons hp ht=>
      rename_i p p' aa Y;obtain⟨v,r,x⟩:=p;obtain⟨v',r',x'⟩:=p';obtain⟨U,ab,ac⟩:=hp;subst ab ac;cases r'<;>cases x'<;>first|exact .none|skip
      exact .some ⟨U,.cons hf h1 (.inr B) (.cons ⟨O.fn,O.tmps,O.todo,O.defers,.panicking (.cons ⟨U,rfl,rfl⟩ ht),O.round⟩ g1 g2 g3)⟩
theorem iY(fr:Frame)(v:Value):(fr.finish v).roundOf=fr.roundOf:=by
 unfold dD;split<;>rfl
theorem q9(fr:Frame)(v:List PanicEntry):(fr.raise v).roundOf=fr.roundOf:=by
 unfold dF;split<;>rfl
theorem km(fr:Frame)(v:Value):(fr.finish v).fn=fr.fn:=by
 unfold dD;split<;>rfl
theorem wm(fr:Frame)(v:List PanicEntry):(fr.raise v).fn=fr.fn:=by
 unfold dF;split<;>rfl
theorem ww{gE:Ren}{f:bH}{c:Prop}[Decidable c]{es₁:Array Event}(h:∀e∈es₁,qY gE e):∀e∈bI P f (if c then #[]else es₁)++#[],qY gE e:=by
 intro e B;have:=mem_seen B;split at this
 .simp at this
 .exact h e this
theorem N6(hE:wN P m)(U:gX P m T (fr::cs) (fr'::cs')){s s':Sem Go.Next}(hs:nL P (ki P) m s s'){w w':World}(hw:WR m w w')(ae:Al w w'){iH:Frame}{iI:List Frame}{w₁:World}{es:Array Event}
  (h:stepG.apply P true fr cs none s w=.go (G iH iI) w₁ es):qf P m T (stepG.apply P true fr' cs' none s' w') w' iH iI w₁:=by
 have hr:=hs.run w w' #[] hw ae;unfold stepG.apply at h⊢;simp only[if_true]at h⊢;rcases hrt:s.runT P w #[]with⟨r,ar⟩;have af:s.run P w=r:=by rw[<-Sem.runT_fst P s w #[],hrt]
 rw[af]at hr;rw[hrt]at h;have au:=T4 U.rX
 cases r with
 |ok n wn=>
  obtain⟨gE,n',aa,es₁,e1,Y,e3,e4,_,e6,e7⟩:=hr;rw[e1];simp only[aG]at h⊢
  have out:∀{X:Array Event}{g g':Frame}{c c':List Frame},gX P gE T (g::c) (g'::c')->dg X (.go {frame:=g,callers:=c,status:=.running,dying:=none} wn)=.go (G iH iI) w₁ es->
    qf P m T (dg (bI P fr'.fn (if(fr'.kind==CallKind.early)=true then #[]else es₁)) (.go {frame:=g',callers:=c',status:=.running,dying:=none} aa)) w' iH iI w₁:=by
   intro X g g' c c' ab hh;simp only[dg,G,GStep.go.injEq,Goroutine.mk.injEq]at hh;obtain⟨⟨rfl,rfl,_⟩,rfl,_⟩:=hh;exact⟨gE,g',c',aa,_,rfl,Y,ab,e4,e6,ww e7⟩
  cases e3 with
  |value hv=>
   have O:=(U.rX.mono Y).finish hv;exact out (U.set Y O.1 O.2.1 O.2.2 (iY _ _) (km _ _)) h
  |skip=>
   have O:=(U.rX.mono Y).finish (.undef gE);exact out (U.set Y O.1 O.2.1 O.2.2 (iY _ _) (km _ _)) h
  |enter O ac ha=>
   have ab:=(U.mono Y).push (EQ ((hE.mono Y).calls _ O) ac ha .normal .normal) rfl (.inl rfl);have ht:=U.rX.todo;obtain⟨fn,tm,td,df,md,kd,rd⟩:=fr;obtain⟨ag,ah,ai,aj,ak,am,an⟩:=fr';simp only at ht
   cases ht with
   |nil=>exact out ab h
   |cons hi _=>cases hi<;>exact out ab h
  |round hl ht ha ac=>
   rename_i l l' f t t' a c;have ao:jx gE (dE l f t a c .normal) (dE l' f t' a c .normal):=⟨rfl,ht,.cons (.code _ ha) (.cons .beginRound (.cons (.code _ ac) .nil)),.nil,.run,.some hl⟩;exact out ((U.mono Y).push ao rfl (.inl rfl)) h
  |defer hd=>
   have ap:jx gE {fr with defers:=_::fr.defers} {fr' with defers:=_::fr'.defers}:=⟨U.rX.fn,U.rX.tmps.mono Y,(U.rX.mono Y).todo,.cons hd (U.rX.mono Y).defers,(U.rX.mono Y).mode,(U.rX.mono Y).round⟩;have O:=ap.finish (.undef gE);exact out (U.set Y O.1 O.2.1 O.2.2 (iY _ _) (km _ _)) h
  |recover=>
   have aq:=U.mono Y;have ht:=w9 aq;have ad:=U.rX.round;obtain⟨fn,tm,td,df,md,kd,rd⟩:=fr;obtain⟨ag,ah,ai,aj,ak,am,an⟩:=fr';simp only at ad
   cases ad with
   |none=>
    dsimp only at h⊢;revert ht h;generalize bC _ _=p;generalize bC _ _=p';intro h ht
    cases ht with
    |none=>
     have O:=(U.rX.mono Y).finish (.nilIface (m:=gE));exact out (U.set Y O.1 O.2.1 O.2.2 (iY _ _) (km _ _)) h
    |some hx=>
     rename_i x y;obtain⟨v,c⟩:=x;obtain⟨v',c'⟩:=y;have O:=(U.rX.mono Y).finish hx.1;exact out (hx.2.set (.refl gE) O.1 O.2.1 O.2.2 (iY _ _) (km _ _)) h
   |some av=>
    dsimp only at h⊢;rw[if_pos hE.TW]at h⊢;revert ht h;generalize bC _ _=p;generalize bC _ _=p';intro h ht
    cases ht with
    |none=>
     have O:=(U.rX.mono Y).finish (.nilIface (m:=gE));exact out (U.set Y O.1 O.2.1 O.2.2 (iY _ _) (km _ _)) h
    |some hx=>
     rename_i x y;obtain⟨v,c⟩:=x;obtain⟨v',c'⟩:=y;have O:=(U.rX.mono Y).finish hx.1;exact out (hx.2.set (.refl gE) O.1 O.2.1 O.2.2 (iY _ _) (km _ _)) h
  |spawn aw hd=>
   exfalso;dsimp only at h;generalize bI P fr.fn _=X at h;rw[apply_ite (dg X)]at h
   have key:∀(c:Prop)[Decidable c] (A B C:GStep),(if c then A else B)=C->A=C\/B=C:=by
    intro c _ A B C hh;split at hh
    .exact .inl hh
    .exact .inr hh
   rcases key _ _ _ _ h with h|h
   .simp[endThrow,dieOf,dg,G]at h
   .simp[dg]at h
  |comm bl sh hq hc=>cases h
 |halt x wn=>
  cases x with
  |panic v=>
   obtain⟨gE,v',aa,es₁,e1,Y,e3,e4,_,e6,e7⟩:=hr;rw[e1];simp only[aG]at h⊢;have O:=(U.rX.mono Y).raise (vs:=[{v,recovered:=false}]) (vs':=[{v:=v',recovered:=false}]) (.cons ⟨e3,rfl,rfl⟩ .nil);obtain⟨⟨rfl,rfl,_⟩,rfl,_⟩:=h;exact⟨gE,_,cs',aa,_,rfl,Y,U.set Y O.1 O.2.1 O.2.2 (q9 ..) (wm ..),e4,e6,ww e7⟩
  |unsupported u=>cases u<;>first|exact hr.elim|cases h
  |stuck y=>cases h
  |throw y=>simp[endThrow,dieOf,dg,G]at h
  |_=>exact hr.elim
end
end
section
open Go.Conc
variable {t t':Array Value} {l l':Nat}
section
variable {P:Program} {m:Ren} {T:List Frame}
theorem AC(id:Nat):∀{k k':List Item},gW (ml m) k k'->nX (gW (ml m)) (bY id k) (bY id k')
 |_,_,.nil=>.none
 |_,_,.cons hi h=>by
  cases hi with
  |inBlock i=>
   unfold bY;split
   .exact .some h
   .exact AC id h
  |_=>unfold bY; exact AC id h
theorem sq{ok:Oper->Prop}(l:Nat):∀(c c':Code),jn ok c->bN c l=some c'->jn ok c'
 |.seq a b,c',h,e=>by
  unfold bN at e
  cases B:bN a l with
  |some r=>
   rw[B]at e;simp only[dc]at e;subst e;exact⟨sq l a r h.1 B,h.2⟩
  |none=>
   rw[B]at e;exact sq l b c' h.2 e
 |.label l',c',h,e=>by
  unfold bN at e;split at e
  .cases e; trivial
  .cases e
 |.skip,_,_,e|.region ..,_,_,e|.cond ..,_,_,e|.block ..,_,_,e|.loop ..,_,_,e|.rangeFunc ..,_,_,e|.exit ..,_,_,e|.scope ..,_,_,e|.goto ..,_,_,e|.ret,_,_,e|.refuse ..,_,_,e=>by cases e
theorem Ar(l:Nat):∀{k k':List Item},gW (ml m) k k'->nX (gW (ml m)) (bX l k) (bX l k')
 |_,_,.nil=>.none
 |_,_,.cons hi h=>by
  cases hi with
  |inScope c B=>
   unfold bX
   cases O:bN c l with
   |none=>exact Ar l h
   |some r=>exact .some (.cons (.code r (sq l c r B O)) (.cons (.inScope c B) h))
  |_=>unfold bX; exact Ar l h
theorem ou(ops:Array Oper)(h:io m t t')(j:Nat):cd ops t' j=cd ops t j:=by
 unfold cd
 cases(ops[j]?).bind _ with
 |none=>rfl
 |some d=>
  simp only[dx]
  cases O:t[d]? with
  |none=>rw[h.get_none O]
  |some v=>
   obtain⟨v',B,U⟩:=h.get O;rw[B];cases U<;>first|rfl|skip
   rename_i Y;cases v'<;>first|rfl|exact Y.elim
theorem o9{fn:Func}(h:io m t t'):gC P VR m (cf fn t) (cf fn t'):=by
 unfold cf;rw[a0,a0];simp only[map_eq_pure_bind,bind_assoc,pure_bind];refine gJ (uY (Q:=VR) (λ_ _ _ _ h x=>x.mono h) _ m λr _ m' hl=>?_) λm' a c _ U=>?_
 .cases r with
  |tmp t=>exact .pure ((h.mono hl).getD t)
  |cell a t=>exact D9 ((h.mono hl).getD a) λp p' hp=>Dp hp
 .refine .pure ?_;have B:io m' .. := U;by_cases O:a.toArray.size=1
  .have Y:c.toArray.size=1:=by rw[<-B.size]; exact O
   rw[dif_pos O,dif_pos Y];exact B.idx 0 ..
  .have Y:¬c.toArray.size=1:=by rw[<-B.size]; exact O
   rw[dif_neg O,dif_neg Y];exact .nA B
theorem GH{o o':List PanicEntry}(h:gW (Ta m) o o'):gW (Ta m) (o.dropWhile (!·.goexit)) (o'.dropWhile (!·.goexit)):=by
 induction h with
 |nil=>exact .nil
 |cons B _ O=>
  simp only[List.dropWhile_cons,B.ex];split
  .exact O
  .exact .cons B ‹_›
theorem Jc{fr fr' c c':Frame}{cs cs':List Frame}(hS:gX P m T (fr::c::cs) (fr'::c'::cs'))(hk:fr'.kind=fr.kind)(ho:Jh fr.kind)(U:gX P m T (c::cs) (c'::cs')){v v':Value}(hv:VR m v v'){main main':Bool}{w w':World}(hw:WR m w w'){iH:Frame}{iI:List Frame}{w₁:World}{es:Array Event}
  (h:bO P main fr (c::cs) none v w=.go (G iH iI) w₁ es):∃B,bO P main' fr' (c'::cs') none v' w'=.go (G B cs') w'/\gX P m T (iH::iI) (B::cs')/\w₁=w:=by
 unfold bO at h⊢;rw[hk];rcases ho with ho|ho
 .rw[ho]at h⊢;obtain⟨⟨rfl,rfl,_⟩,rfl,_⟩:=h;have hf:=U.rX.finish hv;exact⟨_,rfl,U.set (.refl m) hf.1 hf.2.1 hf.2.2 (iY ..) (km ..),rfl⟩
 .rw[ho]at h⊢;have hm:=U.rX.mode;obtain⟨ai,aj,ak,am,au,an,ao⟩:=c;obtain⟨aa,ab,ac,ad,ar,ae,af⟩:=c'
  have nH:∀{md O},uC m md O->gX P m T (⟨ai,aj,ak,am,md,an,ao⟩::cs) (⟨aa,ab,ac,ad,O,ae,af⟩::cs'):=λag=>
   U.set (.refl m) ⟨U.rX.fn,U.rX.tmps,U.rX.todo,U.rX.defers,ag,U.rX.round⟩ rfl rfl rfl rfl
  have fin:∀{md O},uC m md O->GStep.go (G ⟨ai,aj,ak,am,md,an,ao⟩ cs) w=.go (G iH iI) w₁ es->∃B,GStep.go (G ⟨aa,ab,ac,ad,O,ae,af⟩ cs') w'=.go (G B cs') w'/\gX P m T (iH::iI) (B::cs')/\w₁=w:=by
   intro md O ag hh;obtain⟨⟨rfl,rfl,_⟩,rfl,_⟩:=hh;exact⟨_,rfl,nH ag,rfl⟩
  cases hm with
  |run=>exact fin .run h
  |returning=>exact fin .returning h
  |panicking ap=>
   cases ap with
   |nil=>exact fin (.panicking .nil) h
   |cons hp ht=>
    rename_i p p' ah Y;obtain⟨pv,pr,px⟩:=p;obtain⟨av,aq,aw⟩:=p';obtain⟨h1,h2,h3⟩:=hp;subst h2 h3
    cases aq with
    |false=>
     have hp:Ta m .. := ⟨h1,rfl,rfl⟩;exact fin (.panicking (.cons hp ht)) h
    |true=>
     have hd:=GH ht;simp only at h⊢;revert hd h;generalize ah.dropWhile _=o;generalize Y.dropWhile _=o';intro h hd
     cases hd with
     |nil=>exact fin .returning h
     |cons hq hr=>exact fin (.panicking (.cons hq hr)) h
theorem rF{γ δ:Type}{RB:Ren->γ->δ->Prop}(O:m.blk l=some l'){f:Loop->Sem γ}{f':Loop->Sem δ}(h:∀p B,yj m p B->gC P RB m (f p) (f' B)):gC P RB m (aY l >>= f) (aY l' >>= f'):=by
 refine jv O λo o' U=>?_;cases U<;>first|exact .gF trivial|exact h _ _ ‹_›
theorem pQ{l:Loop}:∀x y z,Obj.loop l≠.cells x y z:=nofun
theorem K9(O:m.blk l=some l'){j:Option Code}(U:∀c,j=some c->jn m.ok c):gC P VR m (br l j) (br l' j):=by
 refine rF O λp Y B=>mz O (.loop ⟨rfl,rfl,U,B.fn,B.tmps,B.params,B.assign,B.body,B.Un,B.yW,B.defers⟩) pQ (.pure (.bool _))
theorem E1(O:m.blk l=some l'):gC P Bz m (bi l) (bi l'):=by
 refine rF O λp U B=>mz O (.loop ⟨rfl,B.pending,B.U1,B.fn,B.tmps,B.params,B.assign,B.body,B.Un,B.yW,B.defers⟩) pQ ?_;rw[<-B.state];cases p.state<;>first|exact .pure trivial|exact iZ (e:=.error _) trivial
theorem Ms(O:m.blk l=some l'):gC P (λm a b=>a=b/\∀c,a=some c->jn m.ok c) m (bx l) (bx l'):=by
 refine rF O λp U B=>?_
 have fin:gC P (λm a b=>a=b/\∀c,a=some c->jn m.ok c) m (do setObj l (.loop {p with state:=.exhausted}); pure _) (do setObj l' (.loop {U with state:=.exhausted}); pure _):=
  mz O (.loop ⟨rfl,B.pending,B.U1,B.fn,B.tmps,B.params,B.assign,B.body,B.Un,B.yW,B.defers⟩) pQ (.pure ⟨B.pending,B.U1⟩)
 rw[<-B.state];exact gN (λ_=>gY (e:=.error _) trivial) (λ_=>fin)
theorem BD(U:m.blk l=some l'){d d':Deferred}(Y:DR m d d'):gC P Bz m (be l d) (be l' d'):=by
 refine rF U λp p' O=>jv O.defers λo o' ho=>?_
 cases ho with
 |deferred B=>exact s7 O.defers (.deferred (.cons Y B)) (nofun)
 |iR=>exact .gF trivial
 |_=>exact .gF trivial
theorem zY(O:m.blk l=some l'):gC P (λm=>gW (DR m)) m (aR l) (aR l'):=by
 refine jv O λo o' U=>?_
 cases U with
 |deferred B=>exact mz O .iR (nofun) (.pure B)
 |_=>exact .gF trivial
theorem FN{fn:bH}(Y:io m t t'){ps:Array Tmp}{a c:Code}(ha:jn m.ok a)(hc:jn m.ok c){r r':Option Nat}(hr:nX (λx y=>m.blk x=some y) r r'):gC P (λm x y=>m.blk x.1=some y.1/\gW (DR m) x.2 y.2) m (bm fn t ps a c r) (bm fn t' ps a c r'):=by
 have fin:∀{m':Ren}{q O:Nat}{d d':List Deferred},m.Le m'->m'.blk q=some O->gW (DR m') d d'->gC P (λm x y=>m.blk x.1=some y.1/\gW (DR m) x.2 y.2) m' (do pure (<-bV (.loop {state:=.ready,pending:=none,fn,tmps:=t,params:=ps,assign:=a,body:=c,defers:=q}),d)) (do pure (<-bV (.loop {state:=.ready,pending:=none,fn,tmps:=t',params:=ps,assign:=a,body:=c,defers:=O}),d')):=by
  intro m' q O d d' B hq hd;exact gC.new (.loop ⟨rfl,rfl,(nofun),rfl,Y.mono B,rfl,rfl,rfl,B.ok▸ha,B.ok▸hc,hq⟩) (nofun) λaa i i' U hb _=>.pure ⟨hb,hd.mono λ_ _ x=>x.mono U⟩
 cases hr with
 |some hx=>exact rF hx λp p' hp=>fin (.refl m) hp.defers .nil
 |none=>exact gC.new (.deferred .nil) (nofun) λm' i i' B hb _=>fin B hb (.cons ⟨.collected hb,.nil m'⟩ .nil)
end
end
section
open Go.Conc
variable {X es:Array Event} {fr fr' iH:Frame} {cs cs' iI:List Frame} {gE:Ren} {w w' w₁:World}
structure nW(P:Program)(m:Ren)(gl:Nat->Prop)(st:Bool):Prop where
 env:wN P m
 strict:st=true->jS m
 kK:False->m.kK
 qT:∀g,gl g->m.blk g=some g
 ops:∀o,m.ok o->OkOp P m.je gl st o.op
theorem nW.mono{P:Program}{m m':Ren}{gl:Nat->Prop}{st:Bool}(h:m.Le m')(x:nW P m gl st):nW P m' gl st:=
 ⟨x.env.mono h,λs=>(x.strict s).mono h,nofun,λg B=>h.blk _ _ (x.qT g B),λo O=>h.je▸x.ops o (h.ok▸O)⟩
def AtClose(fr:Frame):Prop:=fr.mode≠.run/\∃a t c args ds,fr.defers={target:=.builtin .close a t c,args}::ds
section
variable {P:Program} {m:Ren} {T:List Frame} {gl:Nat->Prop} {st:Bool}
theorem vy{s:GStep}{g:Goroutine}(h:dg X s=.go g w es):∃B,s=.go g w B:=by
 cases s<;>simp[dg]at h;obtain⟨rfl,rfl,_⟩:=h;exact⟨_,rfl⟩
theorem SE(hl:m.Le gE)(hS:gX P gE T (fr::cs) (fr'::cs'))(hn:cs=[door P]->fr.roundOf=none->False){v v':Value}(hv:VR gE v v'){main':Bool}{B:World}(hw:WR gE w B)(hk:jj m gE w' B){X':Array Event}(Y:∀e∈X',qY gE e)
  (h:dg X (bO P true fr cs none v w)=.go (G iH iI) w₁ es):qf P m T (dg X' (bO P main' fr' cs' none v' B)) w' iH iI w₁:=by
 obtain⟨aa,h⟩:=vy h
 cases hS with
 |one hf h1 h2 U=>exact(hn rfl U).elim
 |cons hf h1 h2 U=>
  obtain⟨O,e1,e2,e3⟩:=Jc (.cons hf h1 h2 U) h1 h2 U hv (main:=true) (main':=main') hw h;subst e3;rw[e1];exact⟨gE,O,_,B,_,rfl,hl,e2,hw,hk,by simpa using Y⟩
theorem pG{f:bH}{es₁:Array Event}(h:∀e∈es₁,qY gE e):∀e∈bI P f es₁,qY gE e:=λe B=>h e (mem_seen B)
theorem still{g g':Frame}(B:WR m w w')(O:gX P m T (g::cs) (g'::cs'))
  (h:GStep.go {frame:=g,callers:=cs,status:=.running,dying:=none} w=.go (G iH iI) w₁ es):qf P m T (GStep.go {frame:=g',callers:=cs',status:=.running,dying:=none} w') w' iH iI w₁:=by
 obtain⟨⟨rfl,rfl,_⟩,rfl,_⟩:=h;exact⟨m,g',cs',w',#[],rfl,.refl m,O,B,.refl m w',by simp⟩
theorem Jy(h:jx m fr fr'){k k':List Item}(B:gW (ml m) k k'):jx m {fr with todo:=k} {fr' with todo:=k'}:=⟨h.fn,h.tmps,B,h.defers,h.mode,h.round⟩
theorem T5(h:jx m fr fr'){k k':FrameMode}(B:uC m k k'):jx m {fr with mode:=k} {fr' with mode:=k'}:=⟨h.fn,h.tmps,h.todo,h.defers,B,h.round⟩
theorem qf.after{s':GStep}{B:World}(Y:m.Le gE)(hk:jj m gE w' B)(hX:∀e∈X,qY gE e)(h:qf P gE T s' B iH iI w₁):qf P m T (dg X s') w' iH iI w₁:=by
 obtain⟨m₂,f,c,O,es,rfl,U,h3,h4,h5,h6⟩:=h;refine⟨m₂,f,c,O,X++es,rfl,Y.trans U,h3,h4,hk.trans Y U h5,λe he=>?_⟩;rcases a9.1 he with x|x
 .exact(hX e x).mono U
 .exact h6 e x
theorem Nq{ρ ρ':Operand->Value}(U:∀x,gR m.je gl x->VR m (ρ x) (ρ' x)){c:Call}(hc:(∀x∈c.operands.toList,gR m.je gl x)/\match c.callee with|.value _=>True|.builtin b=>b=.close/\m.kK|_=>False)(t:bB):gC P DR m (resolve ρ c t) (resolve ρ' c t):=by
 obtain⟨B,O⟩:=hc;obtain⟨callee,args,ats⟩:=c
 cases callee with
 |invoke r n=>exact O.elim
 |builtin bb=>
  have Y:=mW U λx hx=>B x (by simp[dh]; simpa using hx);obtain⟨O,aa⟩:=O;subst O;exact .pure ⟨.builtin _ _ _ aa,Y⟩
 |value f=>
  have Y:=mW U λx hx=>B x (by simp[dh]; exact .inr (by simpa using hx));exact(rG (U f (B f (by simp[dh]))) Y).mono λ_ _ _ _ h=>h.1
theorem N1{r:Nat}(B:m.dead r)(O:WR m w w'):∃x w₁,(aR r).run P w=.halt x w₁:=by
 obtain⟨_,c,e,f,U⟩:=O.dead r B;unfold aR;exact⟨_,_,by simp only[getObj,bind,Sem.bind,cS,U]; rfl⟩
theorem pI(s:GStep):dg #[] s=s:=by cases s<;>simp[dg]
end
end
end Go.Proofs.YtocbogeoffeolaaGreatDoor
