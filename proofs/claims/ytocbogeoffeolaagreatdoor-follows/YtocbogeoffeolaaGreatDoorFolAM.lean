import GoSem.Step
import Derived.Conc.Events
import Derived.Laws.Tables
import Derived.MapKept
set_option linter.unusedVariables false
set_option linter.unusedSimpArgs false
set_option maxHeartbeats 8000000
set_option maxRecDepth 1000000
open Go.Instr renaming sameBits->av,sameNow->aw,fill->ax,findAsking->ay,findNow->az,checkKey->a0,findKey->a1,makeInterface->a2,keyThatStays->a3,sliceBounds->a4,typeAssert->a5,sliceBound->a6,entryStore->a7,buildSlice->a8,mapUpdate->a9,makeSlice->aA,mapEntry->aB,makeChan->aC,sliceAt->aD,makeMap->aE,indexAt->aF,fieldAt->aG,extract->aH,lookup->aI,slice->aJ,range->aK,panic->aL,index->aM,field->aN,entry->aO,build->aP,alloc->aQ,next->aR,sureAddr->aS,makeFunc->aT,storeAt->aU,loadAt->aV,box->aW
open Array renaming getElem?_setIfInBounds_ne->aX,getElem?_eq_some_iff->aY,getElem?_toList->aZ,filter->ba,getElem?_modify->bb,range->bc,forIn_toList->bd,length_toList->be,all_eq_true_iff_forall_mem->bf,toList_map->bg,map->bh,isEmpty->bi,toList_zipIdx->bj,toList_filter->bk,toList_append->bl,foldl_toList->bm,append_assoc->bn,toList_push->bo,mem_append->bp,all_toList->bq,replicate->br
open Go renaming TypeId->bs,zeroValue->bt,boundsPanic->bu,runtimePanic->bv,underlying->bw,storeCells->bx,seen->bz,newRow->b0,loadCellsFrom->b1,sizeOf->b3,markStringish->b4,loadCells->b5,movedPointer->b6,behindNumber->b7,askRoom->b8,numberAt->b9,movedNumber->bA,fieldPlace->bB,stringish->bC,storeVar->bD,sameAddr->bE,newObj->bF,mayBeOne->bG,typeStr->bH,loadVar->bI,undef->bJ,viewAt->bK,partAt->bL,elemOf->bM,byteOf->bN
open Go.Op renaming maxDepth->bO,equal->bP,equalIn->bQ,twoPlaces->bR,stringOp->bS,intArith->bT,intBits->bU,addrMod->bV,intDiv->bW,shift->bX,intCmp->bY,unary->bZ
open Bool renaming and_eq_true->ca,eq_iff_iff->cb
open Go.Builtin renaming zeroCells->cc,unsafeAdd_->cd,append_->ce,holdsCells->cf,firstCells->cg,mayShare->ci,lenOf->cj
open Go.Sem renaming run->ck,runT->cl,bind_assoc'->cm
open List renaming getElem?_zip_eq_some->cp,mem_iff_getElem?->cq,all_eq_true->cr,forIn_cons->ct,forIn_nil->cu,mem_map->cv
open Option.some renaming injEq->cw
open Nat renaming le_succ_of_le->cx,le_trans->cy,le_of_not_lt->cz,le_refl->c0
open Go.Conv renaming stringToBytes->c3,bytesToString->c4
open Go.World renaming freeze->c5,frozen?->c6,noCell->c7,cell?->c8
open Std.Legacy.Range renaming forIn_eq_forIn_range'->c9
open Option renaming getD_some->cA,map_some->cB
open Ne renaming symm->cC
namespace Go.Proofs.YtocbogeoffeolaaGreatDoor
section
variable {α β:Type}
inductive iu{α β:Type}(R:α->β->Prop):List α->List β->Prop
 |nil:iu R [] []
 |cons {a b l l'}:R a b->iu R l l'->iu R (a::l) (b::l')
theorem iu.mono{R S:α->β->Prop}(h:∀a b,R a b->S a b):∀{l:List α}{l':List β},iu R l l'->iu S l l'
 |_,_,.nil=>.nil
 |_,_,.cons a b=>.cons (h _ _ a) (iu.mono h b)
theorem iu.length{R:α->β->Prop}:∀{l:List α}{l':List β},iu R l l'->l.length=l'.length
 |_,_,.nil=>rfl
 |_,_,.cons _ b=>by simp[iu.length b]
theorem iu.append{R:α->β->Prop}:∀{l Ux:List α}{l' B:List β},iu R l l'->iu R Ux B->iu R (l++Ux) (l'++B)
 |_,_,_,_,.nil,h=>h
 |_,_,_,_,.cons a b,h=>.cons a (iu.append b h)
theorem iu.get{R:α->β->Prop}:∀{l:List α}{l':List β},iu R l l'->∀{i:Nat}{a:α},l[i]?=some a->∃b,l'[i]?=some b/\R a b
 |_,_,.nil,i,a,h=>by simp at h
 |_,_,.cons (b:=b) x y,0,a,h=>⟨b,by simp,by simp at h; exact h▸x⟩
 |_,_,.cons x y,i+1,a,h=>by simpa using iu.get y (by simpa using h)
theorem iu.get_none{R:α->β->Prop}{l:List α}{l':List β}(h:iu R l l'){i:Nat}(hi:l[i]?=none):l'[i]?=none:=by
 rw[List.getElem?_eq_none_iff]at hi⊢;rw[<-h.length]; exact hi
theorem iu.I5{R:α->β->Prop}:∀{l:List α}{l':List β},l.length=l'.length->(∀(i:Nat)a b,l[i]?=some a->l'[i]?=some b->R a b)->iu R l l'
 |[],[],_,_=>.nil
 |a::l,b::l',h,g=>.cons (g 0 a b (by simp) (by simp)) (iu.I5 (by simpa using h) λi x y B D=>g (i+1) x y (by simpa using B) (by simpa using D))
 |[],b::l',h,_=>by simp at h
 |a::l,[],h,_=>by simp at h
theorem iu.take{R:α->β->Prop}:∀(n:Nat){l:List α}{l':List β},iu R l l'->iu R (l.take n) (l'.take n)
 |0,_,_,_=>by simpa using .nil
 |n+1,_,_,.nil=>by simpa using .nil
 |n+1,_,_,.cons a b=>by simpa using .cons a (iu.take n b)
theorem iu.drop{R:α->β->Prop}:∀(n:Nat){l:List α}{l':List β},iu R l l'->iu R (l.drop n) (l'.drop n)
 |0,_,_,h=>by simpa using h
 |n+1,_,_,.nil=>by simpa using .nil
 |n+1,_,_,.cons a b=>by simpa using iu.drop n b
theorem iu.set{R:α->β->Prop}:∀{l:List α}{l':List β},iu R l l'->∀(i:Nat){a:α}{b:β},R a b->iu R (l.set i a) (l'.set i b)
 |_,_,.nil,_,_,_,_=>by simpa using .nil
 |_,_,.cons x y,0,_,_,h=>by simpa using .cons h y
 |_,_,.cons x y,i+1,_,_,h=>by simpa using .cons x (iu.set y i h)
theorem iu.map{γ δ:Type}{R:α->β->Prop}{S:γ->δ->Prop}{f:α->γ}{g:β->δ}(h:∀a b,R a b->S (f a) (g b)):∀{l:List α}{l':List β},iu R l l'->iu S (l.map f) (l'.map g)
 |_,_,.nil=>.nil
 |_,_,.cons a b=>.cons (h _ _ a) (iu.map h b)
theorem iu.refl{R:α->α->Prop}:∀{l:List α},(∀a∈l,R a a)->iu R l l
 |[],_=>.nil
 |a::l,h=>.cons (h a (by simp)) (iu.refl λx B=>h x (by simp[B]))
structure Ren where
 blk:Nat->Option Nat
 ch:Nat->Option Nat
 loose:Nat->Prop
 ok:Oper->Prop
 jz:FuncId->Prop
 kL:Prop
 dead:Nat->Prop
 dm:Nat->Nat
 tI:Nat->Nat->Option Value
 nJ:Nat->Option Obj
 G:Nat
 qG:∀r r',blk r=some r'->(r<G↔r'<G)
 inj:∀r s t,blk r=some t->blk s=some t->r=s
 wD:∀r s t,ch r=some t->ch s=some t->r=s
structure Ren.Le(m m':Ren):Prop where
 blk:∀r r',m.blk r=some r'->m'.blk r=some r'
 ch:∀r r',m.ch r=some r'->m'.ch r=some r'
 loose:∀r r',m.blk r=some r'->(m'.loose r↔m.loose r)
 less:∀r,m'.loose r->m.loose r
 ok:m'.ok=m.ok
 jz:m'.jz=m.jz
 kL:m'.kL=m.kL
 G:m'.G=m.G
 dead:m'.dead=m.dead
 dm:m'.dm=m.dm
 tI:m'.tI=m.tI
theorem Ren.Le.refl(m:Ren):m.Le m:=⟨λ_ _ h=>h,λ_ _ h=>h,λ_ _ _=>Iff.rfl,λ_ h=>h,rfl,rfl,rfl,rfl,rfl,rfl,rfl⟩
theorem Ren.Le.trans{m m' B:Ren}(h:m.Le m')(h':m'.Le B):m.Le B:=
 ⟨λr r' x=>h'.blk r r' (h.blk r r' x),λr r' x=>h'.ch r r' (h.ch r r' x),λr r' x=>(h'.loose r r' (h.blk r r' x)).trans (h.loose r r' x),λr x=>h.less r (h'.less r x),h'.ok.trans h.ok,h'.jz.trans h.jz,h'.kL.trans h.kL,h'.G.trans h.G,h'.dead.trans h.dead,h'.dm.trans h.dm,h'.tI.trans h.tI⟩
inductive AR(m:Ren):Addr->Addr->Prop
 |mk {b b' o s}:m.blk b=some b'->AR m ⟨b,o,s⟩ ⟨b',o,s⟩
theorem AR.blk{m:Ren}{a a':Addr}(h:AR m a a'):m.blk a.block=some a'.block:=by cases h; assumption
theorem AR.off{m:Ren}{a a':Addr}(h:AR m a a'):a'.off=a.off:=by cases h; rfl
theorem AR.spot{m:Ren}{a a':Addr}(h:AR m a a'):a'.spot=a.spot:=by cases h; rfl
theorem AR.mono{m m':Ren}(h:m.Le m'){a a':Addr}(x:AR m a a'):AR m' a a':=by cases x with|mk hb=>exact .mk (h.blk _ _ hb)
theorem AR.add{m:Ren}{a a':Addr}(h:AR m a a')(n:Nat):AR m (a.add n) (a'.add n):=by
 cases h with
 |mk hb=>unfold Addr.add; split<;>exact .mk hb
theorem AR.eq_iff{m:Ren}{a a' b b':Addr}(h:AR m a a')(h':AR m b b'):(a=b↔a'=b'):=by
 cases h with
 |mk hb=>cases h' with
  |mk B=>
   constructor
   .intro e; cases e; rw[hb]at B; cases B; rfl
   .intro e; cases e; have:=m.inj _ _ _ hb B; subst this; rfl
theorem AR.tr{m:Ren}{a a' b b':Addr}(h:AR m a a')(h':AR m b b'):(a.block=b.block↔a'.block=b'.block):=by
 cases h with
 |mk hb=>cases h' with
  |mk B=>
   constructor
   .intro e; dsimp at e⊢; subst e; rw[hb]at B; cases B; rfl
   .intro e; dsimp at e⊢; subst e; exact m.inj _ _ _ hb B
inductive M1(m:Ren):Fn->Fn->Prop
 |func (f):m.jz f->M1 m (.func f) (.func f)
 |yield {l l'}:m.blk l=some l'->M1 m (.yield l) (.yield l')
theorem M1.mono{m m':Ren}(h:m.Le m'){a a':Fn}(x:M1 m a a'):M1 m' a a':=by
 cases x with
 |func f B=>exact .func f (h.jz▸B)
 |yield hb=>exact .yield (h.blk _ _ hb)
def Na:Value->Prop
 |.pointer (some _)|.slice (some _) _ _|.map (some _)|.chan (some _)|.iface ..|.float ..|.complex ..|.tuple _|.func (.func _) _ _|.func (.yield _) _ _|.func (.methodOf _ _) _ _|.func (.via ..) _ _=>True
 |_=>False
inductive VR(m:Ren):Value->Value->Prop
 |jC (v):Na v->VR m (.tuple #[]) v
 |bool (b):VR m (.bool b) (.bool b)
 |int (k n):VR m (.int k n) (.int k n)
 |string (s):VR m (.string s) (.string s)
 |ku:VR m (.pointer none) (.pointer none)
 |ptr {a a'}:AR m a a'->VR m (.pointer (some a)) (.pointer (some a'))
 |jq (l c):VR m (.slice none l c) (.slice none l c)
 |slice {a a'} (l c):AR m a a'->VR m (.slice (some a) l c) (.slice (some a') l c)
 |pa:VR m (.map none) (.map none)
 |map {r r'}:m.blk r=some r'->VR m (.map (some r)) (.map (some r'))
 |gone {r}:m.dead r->VR m (.map (some r)) (.map (some (m.dm r)))
 |lO:VR m (.chan none) (.chan none)
 |chan {r r'}:m.ch r=some r'->VR m (.chan (some r)) (.chan (some r'))
 |func {fn fn' f f' c c'}:M1 m fn fn'->f.size=f'.size->(∀i(h:i<f.size)(h':i<f'.size),VR m f[i] f'[i])->c.size=c'.size->(∀i(h:i<c.size)(h':i<c'.size),VR m c[i] c'[i])->VR m (.func fn f c) (.func fn' f' c')
 |nilFunc:VR m .nilFunc .nilFunc
 |iface (t) {v v'}:VR m v v'->VR m (.iface t v) (.iface t v')
 |nilIface:VR m .nilIface .nilIface
 |agg {c c'}:c.size=c'.size->(∀i(h:i<c.size)(h':i<c'.size),VR m c[i] c'[i])->VR m (.agg c) (.agg c')
 |tuple {c c'}:c.size=c'.size->(∀i(h:i<c.size)(h':i<c'.size),VR m c[i] c'[i])->VR m (.tuple c) (.tuple c')
 |s9 {lf n f c}:lf.size=f.size->(∀i(h:i<lf.size)(h':i<f.size),VR m lf[i] f[i])->(∀t w,f[0]?=some (.iface t w)->∃x,lf[0]?=some (.iface t x))->VR m (.func (.method "") lf #[.func (.method n) f c]) (.func (.method n) f c)
theorem VR.mono{m m':Ren}(h:m.Le m'){v v':Value}(x:VR m v v'):VR m' v v':=by
 induction x with
 |jC v W=>exact .jC v W
 |s9 B _ O D=>exact .s9 B D O
 |bool|int|string|ku|jq|pa|lO|nilFunc|nilIface=>constructor
 |ptr U=>exact .ptr (U.mono h)
 |slice l c U=>exact .slice l c (U.mono h)
 |map hb=>exact .map (h.blk _ _ hb)
 |gone Y=>rw[<-h.dm]; exact .gone (h.dead▸Y)
 |chan hb=>exact .chan (h.ch _ _ hb)
 |func hf B _ O _ i1 i2=>exact .func (hf.mono h) B i1 O i2
 |iface t _ D=>exact .iface t D
 |agg B _ D=>exact .agg B D
 |tuple B _ D=>exact .tuple B D
def iI(m:Ren)(c c':Array Value):Prop:=iu (VR m) c.toList c'.toList
theorem iI.mono{m m':Ren}(h:m.Le m'){c c':Array Value}(x:iI m c c'):iI m' c c':=iu.mono (λ_ _=>VR.mono h) x
theorem iI.size{m:Ren}{c c':Array Value}(h:iI m c c'):c.size=c'.size:=by simpa using iu.length h
theorem iI.kG{m:Ren}{c c':Array Value}(D:c.size=c'.size)(h:∀i(h:i<c.size)(h':i<c'.size),VR m c[i] c'[i]):iI m c c':=by
 refine iu.I5 (by simpa using D) λi a b B hb=>?_;simp only[aZ]at B hb;obtain⟨O,rfl⟩:=aY.1 B;obtain⟨U,rfl⟩:=aY.1 hb;exact h i O U
theorem iI.idx{m:Ren}{c c':Array Value}(x:iI m c c'):∀i(h:i<c.size)(h':i<c'.size),VR m c[i] c'[i]:=by
 intro i h h';obtain⟨b,hb,B⟩:=iu.get x (i:=i) (a:=c[i]) (by simp[h]);simp only[aZ,Array.getElem?_eq_getElem h',cw]at hb;exact hb▸B
theorem VR.K6{m:Ren}{c c':Array Value}(h:iI m c c'):VR m (.agg c) (.agg c'):=.agg h.size h.idx
theorem VR.nO{m:Ren}{c c':Array Value}(h:iI m c c'):VR m (.tuple c) (.tuple c'):=.tuple h.size h.idx
theorem VR.Jk{m:Ren}{fn B:Fn}{f f' c c':Array Value}(D:M1 m fn B)(h:iI m f f')(h':iI m c c'):VR m (.func fn f c) (.func B f' c'):=.func D h.size h.idx h'.size h'.idx
theorem VR.undef(m:Ren):VR m undef undef:=.jC _ trivial
theorem iI.get{m:Ren}{c c':Array Value}(h:iI m c c'){i:Nat}{v:Value}(B:c[i]?=some v):∃v',c'[i]?=some v'/\VR m v v':=by simpa using iu.get h (i:=i) (a:=v) (by simpa using B)
theorem iI.get_none{m:Ren}{c c':Array Value}(h:iI m c c'){i:Nat}(B:c[i]?=none):c'[i]?=none:=by simpa using iu.get_none h (i:=i) (by simpa using B)
theorem iI.getD{m:Ren}{c c':Array Value}(h:iI m c c')(i:Nat):VR m (c.getD i bJ) (c'.getD i bJ):=by
 simp only[Array.getD_eq_getD_getElem?]
 cases D:c[i]? with
 |none=>rw[h.get_none D]; exact .undef m
 |some v=>obtain⟨v',B,O⟩:=h.get D; simp only[B,cA]; exact O
theorem iI.push{m:Ren}{c c':Array Value}(h:iI m c c'){v v':Value}(B:VR m v v'):iI m (c.push v) (c'.push v'):=by
 unfold iI; simp only[bo]; exact iu.append h (.cons B .nil)
theorem iI.append{m:Ren}{c c' d d':Array Value}(h:iI m c c')(h':iI m d d'):iI m (c++d) (c'++d'):=by
 unfold iI; simp only[bl]; exact iu.append h h'
theorem iI.extract{m:Ren}{c c':Array Value}(h:iI m c c')(i j:Nat):iI m (c.extract i j) (c'.extract i j):=by
 unfold iI; simp only[Array.toList_extract,List.extract_eq_take_drop]; exact iu.take _ (iu.drop _ h)
theorem iI.set{m:Ren}{c c':Array Value}(h:iI m c c')(i:Nat){v v':Value}(B:VR m v v'):iI m (c.setIfInBounds i v) (c'.setIfInBounds i v'):=by
 unfold iI; simp only[Array.toList_setIfInBounds]; exact iu.set h i B
theorem iI.nil(m:Ren):iI m #[] #[]:=iu.nil
theorem iI.one{m:Ren}{v v':Value}(h:VR m v v'):iI m #[v] #[v']:=iu.cons h iu.nil
def Plain:Value->Prop
 |.bool _|.int _ _|.string _|.pointer none|.slice none _ _|.map none|.chan none|.nilFunc|.nilIface=>True
 |_=>False
theorem VR.plain{m:Ren}:∀{v:Value},Plain v->VR m v v:=by
 intro v h
 match v,h with
 |.bool _,_=>constructor
 |.int _ _,_=>constructor
 |.string _,_=>constructor
 |.pointer none,_=>constructor
 |.slice none _ _,_=>constructor
 |.map none,_=>constructor
 |.chan none,_=>constructor
 |.nilFunc,_=>constructor
 |.nilIface,_=>constructor
theorem VR.cells{m:Ren}{v v':Value}(h:VR m v v'):iI m v.cells v'.cells:=by
 cases h with
 |jC v B=>
  have:v'.cells=#[v']:=by cases v'<;>first|rfl|exact B.elim
  rw[this];exact iI.one (.jC _ B)
 |s9 a b c=>exact iI.one (.s9 a b c)
 |agg D hi=>exact iI.kG D hi
 |bool|int|string|ku|jq|pa|lO|nilFunc|nilIface=>exact iI.one (by constructor)
 |ptr h=>exact iI.one (.ptr h)
 |slice l c h=>exact iI.one (.slice l c h)
 |map h=>exact iI.one (.map h)
 |gone h=>exact iI.one (.gone h)
 |chan h=>exact iI.one (.chan h)
 |func a b c d e=>exact iI.one (.func a b c d e)
 |iface t h=>exact iI.one (.iface t h)
 |tuple a b=>exact iI.one (.tuple a b)
theorem iI.replicate{m:Ren}{v v':Value}(n:Nat)(h:VR m v v'):iI m (br n v) (br n v'):=by
 refine iI.kG (by simp) λi B D=>?_;simpa using h
theorem iI.refl{m:Ren}{c:Array Value}(h:∀v∈c.toList,VR m v v):iI m c c:=iu.refl h
end
section
variable {m':Ren}
def wj:Operand->Prop
 |.tmp _=>True
 |.const v=>Plain v
 |_=>False
def jy(ok:Oper->Prop):Code->Prop
 |.skip|.exit _|.label _|.goto _|.ret=>True
 |.region _ ops _=>∀o∈ops.toList,ok o
 |.seq a b=>jy ok a/\jy ok b
 |.cond c a b=>wj c/\jy ok a/\jy ok b
 |.block _ c|.loop c|.scope c=>jy ok c
 |.rangeFunc f _ a b=>wj f/\jy ok a/\jy ok b
 |.refuse _=>False
structure xr(m:Ren)(l l':Loop):Prop where
 state:l.state=l'.state
 pending:l.pending=l'.pending
 Sz:∀c,l.pending=some c->jy m.ok c
 fn:l.fn=l'.fn
 tmps:iI m l.tmps l'.tmps
 params:l.params=l'.params
 assign:l.assign=l'.assign
 body:l.body=l'.body
 Sr:jy m.ok l.assign
 yk:jy m.ok l.body
 defers:m.blk l.defers=some l'.defers
def Tv(m:Ren)(f f':Fn)(c c':Array Value):Prop:=(M1 m f f'/\iI m c c')\/(f=.method ""/\∃n,f'=.method n)
theorem Tv.mono{m:Ren}(h:m.Le m'){f f':Fn}{c c':Array Value}(x:Tv m f f' c c'):Tv m' f f' c c':=x.imp (λy=>⟨y.1.mono h,y.2.mono h⟩) id
inductive TR(m:Ren):Target->Target->Prop
 |fn {f f' c c'}:Tv m f f' c c'->TR m (.fn f c) (.fn f' c')
 |nil:TR m .nil .nil
 |builtin (a t c):m.kL->TR m (.builtin .close a t c) (.builtin .close a t c)
 |mark {r} (a t c):m.dead r->TR m (.collected r) (.builtin .close a t c)
 |collected {r r'}:m.blk r=some r'->TR m (.collected r) (.collected r')
structure DR(m:Ren)(d d':Deferred):Prop where
 target:TR m d.target d'.target
 args:iI m d.args d'.args
structure tM(m:Ren)(e e':MapEntry):Prop where
 key:VR m e.key e'.key
 val:VR m e.val e'.val
 born:e'.born=e.born
inductive OR(m:Ren):Obj->Obj->Prop
 |cells {c c'} (e f f'):iI m c c'->OR m (.cells c e f) (.cells c' e f')
 |map {es es'} (clock):iu (tM m) es.toList es'.toList->OR m (.map es clock) (.map es' clock)
 |number {a a'} (l):AR m a a'->OR m (.number a l) (.number a' l)
 |stringIter (s p):OR m (.stringIter s p) (.stringIter s p)
 |jI (a b c):OR m (.mapIter none a b c) (.mapIter none a b c)
 |mapIter {r r'} (a b c):m.blk r=some r'->OR m (.mapIter (some r) a b c) (.mapIter (some r') a b c)
 |loop {l l'}:xr m l l'->OR m (.loop l) (.loop l')
 |jb:OR m (.deferred none) (.deferred none)
 |deferred {ds ds'}:iu (DR m) ds ds'->OR m (.deferred (some ds)) (.deferred (some ds'))
theorem TR.mono{m:Ren}(h:m.Le m'){a a':Target}(x:TR m a a'):TR m' a a':=by
 cases x with
 |fn B=>exact .fn (B.mono h)
 |nil=>exact .nil
 |builtin a t c hm=>exact .builtin a t c (h.kL▸hm)
 |mark a t c D=>exact .mark a t c (h.dead▸D)
 |collected hb=>exact .collected (h.blk _ _ hb)
theorem DR.mono{m:Ren}(h:m.Le m'){a a':Deferred}(x:DR m a a'):DR m' a a':=⟨x.target.mono h,x.args.mono h⟩
theorem tM.mono{m:Ren}(h:m.Le m'){a a':MapEntry}(x:tM m a a'):tM m' a a':=⟨x.key.mono h,x.val.mono h,x.born⟩
theorem xr.mono{m:Ren}(h:m.Le m'){a a':Loop}(x:xr m a a'):xr m' a a':=
 ⟨x.state,x.pending,λc B=>h.ok▸x.Sz c B,x.fn,x.tmps.mono h,x.params,x.assign,x.body,h.ok▸x.Sr,h.ok▸x.yk,h.blk _ _ x.defers⟩
theorem OR.mono{m:Ren}(h:m.Le m'){a a':Obj}(x:OR m a a'):OR m' a a':=by
 cases x with
 |cells e f f' B=>exact .cells e f f' (B.mono h)
 |map clock D=>exact .map clock (iu.mono (λ_ _ y=>y.mono h) D)
 |number l O=>exact .number l (O.mono h)
 |stringIter s p=>exact .stringIter s p
 |jI a b c=>exact .jI a b c
 |mapIter a b c hb=>exact .mapIter a b c (h.blk _ _ hb)
 |loop U=>exact .loop (U.mono h)
 |jb=>exact .jb
 |deferred W=>exact .deferred (iu.mono (λ_ _ y=>y.mono h) W)
def iE(P:Program){α:Type}:Sem α->Prop
 |.pure _=>False
 |.load _ _ _=>False
 |.store _ _ (.agg _) _=>True
 |.store _ _ (.tuple _) _=>True
 |.store _ _ _ _=>False
 |.new _ k=>∀r,iE P (k r)
 |.shape _ k=>∀r,iE P (k r)
 |.freeze _ _ k=>iE P k
 |.frozen _ k=>∀r,iE P (k r)
 |.getObj _ k=>∀r,iE P (k r)
 |.setObj _ _ k=>iE P k
 |.choose _ k=>∀r,iE P (k r)
 |.sys _ k=>∀r,iE P (k r)
 |.program k=>iE P (k P)
 |.mark _ k=>iE P k
 |.halt (.unsupported (.initOrder _))=>False
 |.halt (.unsupported _)=>True
 |.halt (.stuck _)=>True
 |.halt (.throw _)=>True
 |.halt _=>False
def jG{α:Type}:Sem α->Prop
 |.pure _=>True
 |.load _ _ k=>∀v,jG (k v)
 |.store _ _ _ k=>jG k
 |.new _ k=>∀r,jG (k r)
 |.shape _ k=>∀r,jG (k r)
 |.freeze _ _ k=>jG k
 |.frozen _ k=>∀r,jG (k r)
 |.getObj _ k=>∀r,jG (k r)
 |.setObj _ _ k=>jG k
 |.choose _ _=>False
 |.sys _ k=>∀r,jG (k r)
 |.program k=>∀P,jG (k P)
 |.mark _ k=>jG k
 |.halt _=>True
def Ef:Mark->Prop
 |.noRoom|.extern _=>True
 |_=>False
inductive gU(P:Program){α β:Type}(RA:Ren->α->β->Prop):Ren->Sem α->Sem β->Prop
 |gW {m s s'}:iE P s->gU P RA m s s'
 |pure {m a b}:RA m a b->gU P RA m (.pure a) (.pure b)
 |load {m a a' k k'}:AR m a a'->(∀v v',VR m v v'->gU P RA m (k v) (k' v'))->gU P RA m (.load .plain a k) (.load .plain a' k')
 |store {m a a' v v' k k'}:AR m a a'->VR m v v'->gU P RA m k k'->gU P RA m (.store .plain a v k) (.store .plain a' v' k')
 |new {m o o' k k'}:OR m o o'->(∀e c f,o=.cells e c f->∃e',o'=.cells e' c f)->(∀m' r r',m.Le m'->m'.blk r=some r'->¬m'.loose r->gU P RA m' (k r) (k' r'))->gU P RA m (.new o k) (.new o' k')
 |rL {m c b x s r t c' b' x' s' r' t' k k'}:m.kL->(∀m' i i',m.Le m'->m'.ch i=some i'->gU P RA m' (k i) (k' i'))->gU P RA m (.new (.chan c b x s r t) k) (.new (.chan c' b' x' s' r' t') k')
 |shape {m r r' k k'}:m.blk r=some r'->(∀x,gU P RA m (k x) (k' x))->gU P RA m (.shape r k) (.shape r' k')
 |freeze {m a a' n k k'}:AR m a a'->¬m.loose a.block->gU P RA m k k'->gU P RA m (.freeze a n k) (.freeze a' n k')
 |frozen {m a a' k k'}:AR m a a'->¬m.loose a.block->(∀x,gU P RA m (k x) (k' x))->gU P RA m (.frozen a k) (.frozen a' k')
 |getObj {m r r' k k'}:m.blk r=some r'->(∀o o',OR m o o'->gU P RA m (k o) (k' o'))->gU P RA m (.getObj r k) (.getObj r' k')
 |setObj {m r r' o o' k k'}:m.blk r=some r'->OR m o o'->(∀c e f,o≠.cells c e f)->gU P RA m k k'->gU P RA m (.setObj r o k) (.setObj r' o' k')
 |choose {m q k k'}:(∀n,gU P RA m (k n) (k' n))->gU P RA m (.choose q k) (.choose q k')
 |env {m k k'}:(∀r,gU P RA m (k r) (k' r))->gU P RA m (.sys .env k) (.sys .env k')
 |program {m k k'}:gU P RA m (k P) (k' P)->gU P RA m (.program k) (.program k')
 |mark {m x k k'}:Ef x->gU P RA m k k'->gU P RA m (.mark x k) (.mark x k')
 |gone {m r k s'}:m.dead r->gU P RA m (.getObj r k) s'
 |panic {m v v'}:VR m v v'->gU P RA m (.halt (.panic v)) (.halt (.panic v'))
section
variable {P:Program} {α β γ δ:Type}
theorem iE.bind{s:Sem α}{f:α->Sem γ}(h:iE P s):iE P (s.bind f):=by
 induction s with
 |pure a=>exact h.elim
 |load m a k B=>exact h.elim
 |store m a v k B=>cases v<;>exact h
 |new o k B=>exact λv=>B v (h v)
 |shape r k B=>exact λv=>B v (h v)
 |freeze a n k B=>exact B h
 |frozen a k B=>exact λv=>B v (h v)
 |getObj r k B=>exact λv=>B v (h v)
 |setObj r o k B=>exact B h
 |choose q k B=>exact λv=>B v (h v)
 |sys c k B=>exact λv=>B v (h v)
 |program k B=>exact B P h
 |mark m k B=>exact B h
 |halt x=>cases x<;>first|exact h|(rename_i u; cases u<;>exact h)
theorem gU.bind{RA:Ren->α->β->Prop}{RB:Ren->γ->δ->Prop}{m:Ren}{s:Sem α}{s':Sem β}{f:α->Sem γ}{f':β->Sem δ}
  (h:gU P RA m s s') (D:∀m' a b,m.Le m'->RA m' a b->gU P RB m' (f a) (f' b)):gU P RB m (s.bind f) (s'.bind f'):=by
 induction h with
 |gW hd=>exact .gW hd.bind
 |pure Y=>exact D _ _ _ (.refl _) Y
 |load O _ B=>exact .load O λv v' hv=>B v v' hv D
 |store O hv _ B=>exact .store O hv (B D)
 |new ho hc _ B=>exact .new ho hc λm' r r' hl hb hn=>B m' r r' hl hb hn λU a b W Y=>D U a b (hl.trans W) Y
 |rL hm _ B=>exact .rL hm λm' i i' hl hb=>B m' i i' hl hb λU a b W Y=>D U a b (hl.trans W) Y
 |shape hb _ B=>exact .shape hb λx=>B x D
 |freeze O hn _ B=>exact .freeze O hn (B D)
 |frozen O hn _ B=>exact .frozen O hn λx=>B x D
 |getObj hb _ B=>exact .getObj hb λo o' ho=>B o o' ho D
 |setObj hb ho hc _ B=>exact .setObj hb ho hc (B D)
 |choose _ B=>exact .choose λn=>B n D
 |env _ B=>exact .env λn=>B n D
 |program _ B=>exact .program (B D)
 |mark hm _ B=>exact .mark hm (B D)
 |gone hd=>exact .gone hd
 |panic hv=>exact .panic hv
theorem gU.mono{RA RB:Ren->α->β->Prop}{m:Ren}{s:Sem α}{s':Sem β}(h:gU P RA m s s')(D:∀m' a b,m.Le m'->RA m' a b->RB m' a b):gU P RB m s s':=by
 induction h with
 |gW hd=>exact .gW hd
 |pure x=>exact .pure (D _ _ _ (.refl _) x)
 |load O _ B=>exact .load O λv v' Y=>B v v' Y D
 |store O Y _ B=>exact .store O Y (B D)
 |new ho hc _ B=>exact .new ho hc λm' r r' hl hb hn=>B m' r r' hl hb hn λU a b W x=>D U a b (hl.trans W) x
 |rL hm _ B=>exact .rL hm λm' i i' hl hb=>B m' i i' hl hb λU a b W x=>D U a b (hl.trans W) x
 |shape hb _ B=>exact .shape hb λx=>B x D
 |freeze O hn _ B=>exact .freeze O hn (B D)
 |frozen O hn _ B=>exact .frozen O hn λx=>B x D
 |getObj hb _ B=>exact .getObj hb λo o' ho=>B o o' ho D
 |setObj hb ho hc _ B=>exact .setObj hb ho hc (B D)
 |choose _ B=>exact .choose λn=>B n D
 |env _ B=>exact .env λn=>B n D
 |program _ B=>exact .program (B D)
 |mark hm _ B=>exact .mark hm (B D)
 |gone hd=>exact .gone hd
 |panic Y=>exact .panic Y
end
def inside(f:Nat×Nat)(o:Nat):Prop:=f.1<=o/\o<f.2
def q7:Value->Prop
 |.agg _|.tuple _=>True
 |_=>False
def TU(m:Ren)(w w':World):Prop:=∀r o v,m.tI r o=some v->∃r',m.blk r=some r'/\∀c e f c' B f' x,w.heap[r]?=some (.cells c e f)->w'.heap[r']?=some (.cells c' B f')->c[o]?=some x->q7 x->c'[o]?=some v
structure WR(m:Ren)(w w':World):Prop where
 obj:∀r r',m.blk r=some r'->∃o o',w.heap[r]?=some o/\w'.heap[r']?=some o'/\OR m o o'
 fz:∀r r' c e f c' e' f',m.blk r=some r'->w.heap[r]?=some (.cells c e f)->w'.heap[r']?=some (.cells c' e' f')->¬m.loose r->f'=f
 all:∀r r' c e f c' e' f',m.blk r=some r'->w.heap[r]?=some (.cells c e f)->w'.heap[r']?=some (.cells c' e' f')->m.loose r->∀o,o<c.size->inside f o
 M4:∀r r',m.ch r=some r'->r<w.heap.size/\r'<w'.heap.size
 M2:m.G<=w.heap.size
 J5:m.G<=w'.heap.size
 os:w'.os=w.os
 nJ:∀r o,m.nJ r=some o->w.heap[r]?=some o/\∃c b x s y t,o=.chan c b x s y t
 lk:∀r r',m.blk r=some r'->m.loose r->∃c e f,w.heap[r]?=some (.cells c e f)
 dead:∀r,m.dead r->m.blk r=none/\∃c e f,w.heap[r]?=some (.cells c e f)
 tI:TU m w w'
def Al(w w':World):Prop:=∀i q,w'.tape (w'.drawn+i) q=w.tape (w.drawn+i) q
def qJ(m:Ren)(e:Event):Prop:=
 match e.loc with
 |.cell a'=>e.sync=false/\∃a,AR m a a'/\(e.write=true->¬m.loose a.block)
 |.obj r'=>e.sync=false/\∃r,m.blk r=some r'/\¬m.loose r
 |.mark k=>Ef k
 |.output=>True
 |_=>False
structure ju(m Ud:Ren)(w Uc:World):Prop where
 old:∀r',r'<w.heap.size->(∀r,m.blk r≠some r')->Uc.heap[r']?=w.heap[r']?
 size:w.heap.size<=Uc.heap.size
 fresh:∀r',w.heap.size<=r'->r'<Uc.heap.size->(∃r,Ud.blk r=some r')\/(∃r,Ud.ch r=some r')
 news:∀r r',Ud.blk r=some r'->m.blk r=some r'\/w.heap.size<=r'
 Te:∀r r',Ud.ch r=some r'->m.ch r=some r'\/w.heap.size<=r'
 tape:Uc.tape=w.tape
 output:Uc.output=w.output
 os:Uc.os=w.os
 qD:¬m.kL->Ud.ch=m.ch
 nJ:Ud.nJ=m.nJ
 still:∀r r',m.blk r=some r'->m.loose r->Uc.heap[r']?=w.heap[r']?
theorem ju.refl(m:Ren)(w:World):ju m m w w:=⟨λ_ _ _=>rfl,c0 _,λr' h h'=>absurd h' (by omega),λ_ _ h=>.inl h,λ_ _ h=>.inl h,rfl,rfl,rfl,λ_=>rfl,rfl,λ_ _ _ _=>rfl⟩
theorem qJ.mono{m:Ren}(h:m.Le m'){e:Event}(x:qJ m e):qJ m' e:=by
 unfold qJ at x⊢;split<;>simp_all only
 .obtain⟨_,a,B,D⟩:=x;exact⟨trivial,a,B.mono h,λO=>by rw[h.loose _ _ B.blk]; exact D O⟩
 .obtain⟨_,a,B,U⟩:=x;exact⟨trivial,a,h.blk _ _ B,λy=>U ((h.loose _ _ B).1 y)⟩
theorem ju.trans{m B Uk:Ren}{w Uc D:World}(W:m.Le B)(O:B.Le Uk)(h:ju m B w Uc)(h':ju B Uk Uc D):ju m Uk w D:=by
 refine⟨λr' U hn=>?_,cy h.size h'.size,λr' U Y=>?_,λr r' hb=>?_,λr r' hb=>?_,h'.tape.trans h.tape,h'.output.trans h.output,h'.os.trans h.os,λhm=>(h'.qD (by rw[W.kL]; exact hm)).trans (h.qD hm),h'.nJ.trans h.nJ,λr r' hb hx=>(h'.still r r' (W.blk _ _ hb) ((W.loose _ _ hb).2 hx)).trans (h.still r r' hb hx)⟩
 .rw[h'.old r' (Nat.lt_of_lt_of_le U h.size) λr hb=>?_,h.old r' U hn];rcases h.news r r' hb with x|x
  .exact hn r x
  .omega
 .by_cases hc:r'<Uc.heap.size
  .rcases h.fresh r' U hc with⟨r,x⟩|⟨r,x⟩
   .exact .inl ⟨r,O.blk _ _ x⟩
   .exact .inr ⟨r,O.ch _ _ x⟩
  .exact h'.fresh r' (by omega) Y
 .rcases h'.news r r' hb with x|x
  .exact h.news r r' x
  .exact .inr (cy h.size x)
 .rcases h'.Te r r' hb with x|x
  .exact h.Te r r' x
  .exact .inr (cy h.size x)
section
variable {m:Ren} {w w':World}
theorem WR.lt(h:WR m w w'){r r':Nat}(hb:m.blk r=some r'):r<w.heap.size/\r'<w'.heap.size:=by
 obtain⟨o,o',B,D,_⟩:=h.obj r r' hb;exact⟨(aY.1 B).1,(aY.1 D).1⟩
theorem WR.cell(h:WR m w w'){a a':Addr}(B:AR m a a'){v:Value}(hv:w.cell? a=some v):∃v',w'.cell? a'=some v'/\VR m v v':=by
 cases B with
 |@mk b b' o s hb=>
 obtain⟨x,x',D,O,U⟩:=h.obj b b' hb;unfold c8 at hv⊢;simp only[D,O]at hv⊢
 cases U with
 |cells e f f' W=>
  simp only at hv⊢;split at hv
  .cases hv
  .rename_i Y;rw[if_neg Y];exact W.get hv
 |_=>cases hv
theorem WR.Oh(h:WR m w w'){a a':Addr}(B:AR m a a')(U:w.cell? a=none)(P:Program)(b:Bool):∃y,w.farLoad P a b=.error (.stuck y):=by
 cases B with
 |@mk b b' o s hb=>
 obtain⟨x,x',D,W,O⟩:=h.obj b b' hb;unfold World.farLoad c7;simp only[D];cases O<;>exact⟨_,rfl⟩
theorem WR.JB(h:WR m w w'){a a':Addr}(B:AR m a a')(U:w.cell? a=none)(P:Program)(v:Value)(b:Bool):∃y,w.farStore P a v b=.error (.stuck y):=by
 cases B with
 |@mk b b' o s hb=>
 obtain⟨x,x',D,W,O⟩:=h.obj b b' hb;unfold World.farStore c7;simp only[D];cases O<;>exact⟨_,rfl⟩
end
end
section
variable {a':Addr} {es:Array Event} {h:Array Obj} {r r':Nat} {o o':Obj} {P:Program} {al:Prop} {α β:Type}
def mV:Halt->Prop
 |.unsupported (.initOrder _)=>False
 |.unsupported _=>True
 |.stuck _=>True
 |.throw _=>True
 |_=>False
theorem iE.run{s:Sem α}(h:iE P s):∀w:World,∃x Uc,s.run P w=.halt x Uc/\mV x:=by
 induction s with
 |pure a=>exact h.elim
 |load m a k B=>exact h.elim
 |store m a v k B=>
  intro w;cases v<;>first|exact h.elim|exact⟨_,_,rfl,trivial⟩
 |new o k B=>exact λw=>B _ (h _) _
 |shape r k B=>exact λw=>B _ (h _) _
 |freeze a n k B=>exact λw=>B h _
 |frozen a k B=>exact λw=>B _ (h _) _
 |getObj r k B=>
  intro w;simp only[ck];split
  .exact⟨_,_,rfl,trivial⟩
  .exact B _ (h _) _
  .exact⟨_,_,rfl,trivial⟩
 |setObj r o k B=>
  intro w;simp only[ck];split
  .exact⟨_,_,rfl,trivial⟩
  .exact B h _
  .exact⟨_,_,rfl,trivial⟩
 |choose q k B=>
  intro w;simp only[ck];split
  .exact B _ (h _) _
  .exact B _ (h _) _
 |sys c k B=>exact λw=>B _ (h _) _
 |program k B=>exact λw=>B P h _
 |mark m k B=>exact λw=>B h _
 |halt x=>
  intro w;refine⟨x,w,rfl,?_⟩;cases x<;>first|exact h.elim|trivial|(rename_i u; cases u<;>first|exact h.elim|trivial)
def Ren.ext(m:Ren)(r r':Nat)(_h:m.blk r=none)(h':∀s,m.blk s≠some r')(D:r<m.G↔r'<m.G):Ren where
 blk:=λs=>if s=r then some r' else m.blk s
 ch:=m.ch
 loose:=λs=>if s=r then False else m.loose s
 ok:=m.ok
 jz:=m.jz
 kL:=m.kL
 dead:=m.dead
 dm:=m.dm
 tI:=m.tI
 nJ:=m.nJ
 G:=m.G
 qG:=λa b B=>by
  by_cases ea:a=r
  .simp[ea]at B; subst B; rw[ea]; exact D
  .simp[ea]at B; exact m.qG _ _ B
 inj:=λa b t B hb=>by
  by_cases ea:a=r<;>by_cases eb:b=r
  .rw[ea,eb]
  .simp[ea,eb]at B hb; subst B; exact absurd hb (h' _)
  .simp[ea,eb]at B hb; subst hb; exact absurd B (h' _)
  .simp[ea,eb]at B hb; exact m.inj _ _ _ B hb
 wD:=m.wD
def Ren.uD(m:Ren)(r r':Nat)(_h:m.ch r=none)(h':∀s,m.ch s≠some r'):Ren where
 blk:=m.blk
 ch:=λs=>if s=r then some r' else m.ch s
 loose:=m.loose
 ok:=m.ok
 jz:=m.jz
 kL:=m.kL
 dead:=m.dead
 dm:=m.dm
 tI:=m.tI
 nJ:=m.nJ
 G:=m.G
 qG:=m.qG
 inj:=m.inj
 wD:=λa b t B hb=>by
  by_cases ea:a=r<;>by_cases eb:b=r
  .rw[ea,eb]
  .simp[ea,eb]at B hb; subst B; exact absurd hb (h' _)
  .simp[ea,eb]at B hb; subst hb; exact absurd B (h' _)
  .simp[ea,eb]at B hb; exact m.wD _ _ _ B hb
theorem Ren.xg{m:Ren}(h:m.blk r=none)(h':∀s,m.blk s≠some r')(D:r<m.G↔r'<m.G):m.Le (m.ext r r' h h' D):=by
 refine⟨λs s' B=>?_,λ_ _ x=>x,λs s' B=>?_,λs B=>?_,rfl,rfl,rfl,rfl,rfl,rfl,rfl⟩
 .have:s≠r:=λe=>by rw[e,h]at B; cases B
  simp[Ren.ext,this,B]
 .have:s≠r:=λe=>by rw[e,h]at B; cases B
  simp[Ren.ext,this]
 .by_cases e:s=r
  .simp[Ren.ext,e]at B
  .simpa[Ren.ext,e]using B
theorem Ren.yI{m:Ren}(h:m.ch r=none)(h':∀s,m.ch s≠some r'):m.Le (m.uD r r' h h'):=by
 refine⟨λ_ _ x=>x,λs s' B=>?_,λs s' B=>Iff.rfl,λ_ h=>h,rfl,rfl,rfl,rfl,rfl,rfl,rfl⟩;have:s≠r:=λe=>by rw[e,h]at B; cases B
 simp[Ren.uD,this,B]
section
variable {m:Ren} {w w':World}
theorem WR.jP(h:WR m w w'):m.blk w.heap.size=none:=by
 cases hb:m.blk w.heap.size with
 |none=>rfl
 |some r'=>have:=(h.lt hb).1; omega
theorem WR.o8(h:WR m w w'):∀s,m.blk s≠some w'.heap.size:=λs hb=>by have:=(h.lt hb).2; omega
theorem WR.qj(h:WR m w w'):m.ch w.heap.size=none:=by
 cases hb:m.ch w.heap.size with
 |none=>rfl
 |some r'=>have:=(h.M4 _ _ hb).1; omega
theorem WR.oO(h:WR m w w'):∀s,m.ch s≠some w'.heap.size:=λs hb=>by have:=(h.M4 _ _ hb).2; omega
theorem WR.Sl(h:WR m w w'):w.heap.size<m.G↔w'.heap.size<m.G:=⟨λx=>absurd h.M2 (by omega),λx=>absurd h.J5 (by omega)⟩
theorem iW(B:r<h.size):(h.push o)[r]?=h[r]?:=by
 rw[Array.getElem?_push];have:r≠h.size:=by omega
 simp[this]
theorem mG(x:h[r]?=some o):r<h.size:=(aY.1 x).1
theorem lu{x:Obj}(B:h[r]?=some x):(h.push o)[r]?=some x:=by rw[iW (mG B)]; exact B
theorem WR.push(h:WR m w w')(ho:OR m o o')(hc:∀e c f,o=.cells e c f->∃e',o'=.cells e' c f) :
  WR (m.ext w.heap.size w'.heap.size h.jP h.o8 h.Sl) {w with heap:=w.heap.push o} {w' with heap:=w'.heap.push o'}:=by
 have D:=Ren.xg h.jP h.o8 h.Sl
 have key:∀r r',(m.ext w.heap.size w'.heap.size h.jP h.o8 h.Sl).blk r=some r'->(r=w.heap.size/\r'=w'.heap.size)\/(m.blk r=some r'/\r<w.heap.size/\r'<w'.heap.size):=by
  intro r r' hb;by_cases e:r=w.heap.size
  .simp[Ren.ext,e]at hb;exact .inl ⟨e,hb.symm⟩
  .simp[Ren.ext,e]at hb;exact .inr ⟨hb,h.lt hb⟩
 refine⟨λr r' hb=>?_,λr r' c e f c' e' f' hb O U hn=>?_,λr r' c e f c' e' f' hb O U hl=>?_,λr r' hb=>?_,by simp; have:=h.M2; first|exact cx this|exact this,by simp; have:=h.J5; first|exact cx this|exact this,h.os,λr o hr=>⟨lu (h.nJ r o hr).1,(h.nJ r o hr).2⟩,λr r' hb hl=>?_,λr hr=>⟨?_,?_⟩,λr i v hv=>?_⟩
 .rcases key r r' hb with⟨rfl,rfl⟩|⟨B,W,Y⟩
  .exact⟨o,o',by simp,by simp,ho.mono D⟩
  .obtain⟨x,x',g1,g2,g3⟩:=h.obj r r' B;exact⟨x,x',by rw[iW W]; exact g1,by rw[iW Y]; exact g2,g3.mono D⟩
 .rcases key r r' hb with⟨rfl,rfl⟩|⟨B,W,Y⟩
  .simp at O U;obtain⟨y,hy⟩:=hc _ _ _ O;rw[hy]at U;cases U; rfl
  .simp only[iW W,iW Y]at O U;refine h.fz r r' _ _ _ _ _ _ B O U λhl=>hn ((D.loose r r' B).2 hl)
 .rcases key r r' hb with⟨rfl,rfl⟩|⟨B,W,Y⟩
  .simp[Ren.ext]at hl
  .simp only[iW W,iW Y]at O U;exact h.all r r' _ _ _ _ _ _ B O U ((D.loose r r' B).1 hl)
 .have:=h.M4 r r' hb;simp; omega
 .rcases key r r' hb with⟨rfl,rfl⟩|⟨B,W,Y⟩
  .simp[Ren.ext]at hl
  .obtain⟨c,e,f,hx⟩:=h.lk r r' B ((D.loose r r' B).1 hl);exact⟨c,e,f,lu hx⟩
 .obtain⟨O,c,e,f,hx⟩:=h.dead r hr;have:r≠w.heap.size:=Nat.ne_of_lt (mG hx);simp[Ren.ext,this,O]
 .obtain⟨O,c,e,f,hx⟩:=h.dead r hr;exact⟨c,e,f,lu hx⟩
 .obtain⟨r',hb,hp⟩:=h.tI r i v hv;refine⟨r',D.blk _ _ hb,λc e f c' e' f' x g1 g2=>?_⟩;obtain⟨W,Y⟩:=h.lt hb;simp only[iW W,iW Y]at g1 g2;exact hp c e f c' e' f' x g1 g2
theorem WR.Nm(h:WR m w w')(o o':Obj):WR (m.uD w.heap.size w'.heap.size h.qj h.oO) {w with heap:=w.heap.push o} {w' with heap:=w'.heap.push o'}:=by
 have aa:=Ren.yI h.qj h.oO;refine⟨λr r' hb=>?_,λr r' c e f c' e' f' hb B U hn=>?_,λr r' c e f c' e' f' hb B U hl=>?_,λr r' hb=>?_,by simp; have:=h.M2; first|exact cx this|exact this,by simp; have:=h.J5; first|exact cx this|exact this,h.os,λr o W=>⟨lu (h.nJ r o W).1,(h.nJ r o W).2⟩,λr r' hb hl=>by obtain⟨c,e,f,hx⟩:=h.lk r r' hb hl; exact⟨c,e,f,lu hx⟩,λr W=>by obtain⟨B,c,e,f,hx⟩:=h.dead r W; exact⟨B,c,e,f,lu hx⟩,λr i v hv=>?_⟩
 .obtain⟨D,O⟩:=h.lt (show m.blk r=some r' from hb);obtain⟨x,x',Y,g2,g3⟩:=h.obj r r' hb;exact⟨x,x',by rw[iW D]; exact Y,by rw[iW O]; exact g2,g3.mono aa⟩
 .obtain⟨D,O⟩:=h.lt (show m.blk r=some r' from hb);simp only[iW D,iW O]at B U;exact h.fz r r' _ _ _ _ _ _ hb B U hn
 .obtain⟨D,O⟩:=h.lt (show m.blk r=some r' from hb);simp only[iW D,iW O]at B U;exact h.all r r' _ _ _ _ _ _ hb B U hl
 .by_cases e:r=w.heap.size
  .simp[Ren.uD,e]at hb;subst hb;simp[e]
  .simp[Ren.uD,e]at hb;have:=h.M4 r r' hb;simp; omega
 .obtain⟨r',hb,hp⟩:=h.tI r i v hv;refine⟨r',hb,λc e f c' e' f' x Y g2=>?_⟩;obtain⟨D,O⟩:=h.lt hb;simp only[iW D,iW O]at Y g2;exact hp c e f c' e' f' x Y g2
theorem WR.turn(h:WR m w w')(hb:m.blk r=some r')(ho:OR m o o')
  (hf:∀c e f c' O f',o=.cells c e f->o'=.cells c' O f'->(¬m.loose r->f'=f)/\(m.loose r->∀i,i<c.size->inside f i)) (aa:m.loose r->∃c e f,o=.cells c e f)
  (ab:∀c e f c' O f',o=.cells c e f->o'=.cells c' O f'->∀i x v,m.tI r i=some v->c[i]?=some x->q7 x->c'[i]?=some v) :
  WR m {w with heap:=w.heap.setIfInBounds r o} {w' with heap:=w'.heap.setIfInBounds r' o'}:=by
 obtain⟨l1,l2⟩:=h.lt hb
 have key:∀s s',m.blk s=some s'->(s=r/\s'=r')\/(s≠r/\s'≠r'):=by
  intro s s' B;by_cases e:s=r
  .subst e; rw[hb]at B; cases B; exact .inl ⟨rfl,rfl⟩
  .exact .inr ⟨e,λO=>e (m.inj _ _ _ (O▸B) hb)⟩
 refine⟨λs s' B=>?_,λs s' c e f c' O f' B D U hn=>?_,λs s' c e f c' O f' B D U hl=>?_,λs s' B=>by simpa using h.M4 s s' B,by simpa using h.M2,by simpa using h.J5,h.os,λs x B=>?_,λs s' B hl=>?_,λs B=>?_,λs i v hv=>?_⟩
 .rcases key s s' B with⟨rfl,rfl⟩|⟨W,n2⟩
  .exact⟨o,o',by simp[l1],by simp[l2],ho⟩
  .obtain⟨x,x',Y,g2,g3⟩:=h.obj s s' B;exact⟨x,x',by rw[aX (cC W)]; exact Y,by rw[aX (cC n2)]; exact g2,g3⟩
 .rcases key s s' B with⟨rfl,rfl⟩|⟨W,n2⟩
  .simp[l1,l2]at D U;exact(hf _ _ _ _ _ _ D U).1 hn
  .simp only[aX (cC W),aX (cC n2)]at D U;exact h.fz s s' _ _ _ _ _ _ B D U hn
 .rcases key s s' B with⟨rfl,rfl⟩|⟨W,n2⟩
  .simp[l1,l2]at D U;exact(hf _ _ _ _ _ _ D U).2 hl
  .simp only[aX (cC W),aX (cC n2)]at D U;exact h.all s s' _ _ _ _ _ _ B D U hl
 .obtain⟨Y,g2⟩:=h.nJ s x B;refine⟨?_,g2⟩
  have:r≠s:=by
   rintro rfl;obtain⟨y,y',k1,_,k3⟩:=h.obj r r' hb;obtain⟨c,b,x',s',z,t,rfl⟩:=g2;rw[Y]at k1;cases k1;cases k3
  show(w.heap.setIfInBounds r o)[s]?=_;rw[aX this]; exact Y
 .rcases key s s' B with⟨rfl,rfl⟩|⟨W,n2⟩
  .obtain⟨c,e,f,rfl⟩:=aa hl;exact⟨c,e,f,by simp[l1]⟩
  .obtain⟨c,e,f,hx⟩:=h.lk s s' B hl;exact⟨c,e,f,by simpa only[aX (cC W)]using hx⟩
 .obtain⟨D,c,e,f,hx⟩:=h.dead s B;have:r≠s:=by rintro rfl; rw[hb]at D; cases D
  exact⟨D,c,e,f,by simpa only[aX this]using hx⟩
 .obtain⟨s',B,hp⟩:=h.tI s i v hv;refine⟨s',B,λc e f c' O f' x Y g2=>?_⟩;rcases key s s' B with⟨rfl,rfl⟩|⟨W,n2⟩
  .simp[l1,l2]at Y g2;exact λg3 g4=>ab _ _ _ _ _ _ Y g2 i x v hv g3 g4
  .simp only[aX (cC W),aX (cC n2)]at Y g2;exact hp c e f c' O f' x Y g2
theorem rS(h:Array Obj)(r:Nat)(f:Obj->Obj)(o:Obj)(D:h[r]?=some o):h.modify r f=h.setIfInBounds r (f o):=by
 apply Array.ext_getElem?;intro i;obtain⟨B,O⟩:=aY.1 D;by_cases e:r=i
 .subst e;rw[bb];simp[B,O]
 .rw[aX e,bb];simp[e]
theorem WR.setCell(h:WR m w w'){a:Addr}(ha:AR m a a'){v v':Value}(hv:VR m v v')(ab:¬q7 v):WR m (w.setCell a v) (w'.setCell a' v'):=by
 cases ha with
 |@mk b b' o s hb=>
 obtain⟨x,x',Y,h2,ho⟩:=h.obj b b' hb;unfold World.setCell;simp only[rS _ _ _ _ Y,rS _ _ _ _ h2]
 cases ho with
 |cells e f f' hc=>
  refine h.turn hb (.cells e f f' ?_) (λc e f c' W f' D U=>?_) (λ_=>⟨_,_,_,rfl⟩) ?_
  .split
   .exact hc
   .exact hc.set _ hv
  .cases D; cases U;refine⟨λhn=>h.fz b b' _ _ _ _ _ _ hb Y h2 hn,λO i hi=>h.all b b' _ _ _ _ _ _ hb Y h2 O i ?_⟩;revert hi; split<;>simp
  .intro c1 D f1 c2 U f2 q1 q2 i x u hu B hn;cases q1; cases q2;obtain⟨b2,aa,hp⟩:=h.tI b i u hu;rw[hb]at aa; cases aa;revert B; split
   .exact λB=>hp _ _ _ _ _ _ x Y h2 B hn
   .intro B;by_cases e:o=i
    .subst e;rw[Array.getElem?_setIfInBounds]at B;simp at B;exact absurd (B.2▸hn) ab
    .rw[aX e]at B⊢;exact hp _ _ _ _ _ _ x Y h2 B hn
 |map clock he=>exact h.turn hb (.map clock he) (λc e f c' W f' D U=>by cases D) (λO=>(by obtain⟨c,e,f,B⟩:=h.lk _ _ hb O; rw[Y]at B; cases B)) (λc e f c' W f' D U=>by cases D)
 |number l B=>exact h.turn hb (.number l B) (λc e f c' W f' D U=>by cases D) (λO=>(by obtain⟨c,e,f,B⟩:=h.lk _ _ hb O; rw[Y]at B; cases B)) (λc e f c' W f' D U=>by cases D)
 |stringIter s p=>exact h.turn hb (.stringIter s p) (λc e f c' W f' D U=>by cases D) (λO=>(by obtain⟨c,e,f,B⟩:=h.lk _ _ hb O; rw[Y]at B; cases B)) (λc e f c' W f' D U=>by cases D)
 |jI x y z=>exact h.turn hb (.jI x y z) (λc e f c' W f' D U=>by cases D) (λO=>(by obtain⟨c,e,f,B⟩:=h.lk _ _ hb O; rw[Y]at B; cases B)) (λc e f c' W f' D U=>by cases D)
 |mapIter x y z hm=>exact h.turn hb (.mapIter x y z hm) (λc e f c' W f' D U=>by cases D) (λO=>(by obtain⟨c,e,f,B⟩:=h.lk _ _ hb O; rw[Y]at B; cases B)) (λc e f c' W f' D U=>by cases D)
 |loop O=>exact h.turn hb (.loop O) (λc e f c' W f' D U=>by cases D) (λO=>(by obtain⟨c,e,f,B⟩:=h.lk _ _ hb O; rw[Y]at B; cases B)) (λc e f c' W f' D U=>by cases D)
 |jb=>exact h.turn hb .jb (λc e f c' W f' D U=>by cases D) (λO=>(by obtain⟨c,e,f,B⟩:=h.lk _ _ hb O; rw[Y]at B; cases B)) (λc e f c' W f' D U=>by cases D)
 |deferred hd=>exact h.turn hb (.deferred hd) (λc e f c' W f' D U=>by cases D) (λO=>(by obtain⟨c,e,f,B⟩:=h.lk _ _ hb O; rw[Y]at B; cases B)) (λc e f c' W f' D U=>by cases D)
theorem WR.freeze(h:WR m w w'){a:Addr}(ha:AR m a a')(hn:¬m.loose a.block)(n:Nat):WR m (w.freeze a n) (w'.freeze a' n):=by
 cases ha with
 |@mk b b' o s hb=>
 obtain⟨x,x',Y,h2,ho⟩:=h.obj b b' hb;unfold c5;split
 .exact h
 simp only[rS _ _ _ _ Y,rS _ _ _ _ h2]
 cases ho with
 |cells e f f' hc=>
  have ef:=h.fz b b' _ _ _ _ _ _ hb Y h2 hn;subst ef;obtain⟨lo,hi⟩:=f';refine h.turn hb (.cells e _ _ hc) (λc e f c' W f' B U=>?_) (λ_=>⟨_,_,_,rfl⟩) ?_
  .cases B; cases U;exact⟨λ_=>rfl,λO=>absurd O hn⟩
  .intro c1 B f1 c2 U f2 q1 q2 i x u hu D ab;cases q1; cases q2;obtain⟨b2,aa,hp⟩:=h.tI b i u hu;rw[hb]at aa; cases aa;exact hp _ _ _ _ _ _ x Y h2 D ab
 |map clock he=>exact h.turn hb (.map clock he) (λc e f c' W f' B U=>by cases B) (λO=>(by obtain⟨c,e,f,D⟩:=h.lk _ _ hb O; rw[Y]at D; cases D)) (λc e f c' W f' B U=>by cases B)
 |number l D=>exact h.turn hb (.number l D) (λc e f c' W f' B U=>by cases B) (λO=>(by obtain⟨c,e,f,D⟩:=h.lk _ _ hb O; rw[Y]at D; cases D)) (λc e f c' W f' B U=>by cases B)
 |stringIter s p=>exact h.turn hb (.stringIter s p) (λc e f c' W f' B U=>by cases B) (λO=>(by obtain⟨c,e,f,D⟩:=h.lk _ _ hb O; rw[Y]at D; cases D)) (λc e f c' W f' B U=>by cases B)
 |jI x y z=>exact h.turn hb (.jI x y z) (λc e f c' W f' B U=>by cases B) (λO=>(by obtain⟨c,e,f,D⟩:=h.lk _ _ hb O; rw[Y]at D; cases D)) (λc e f c' W f' B U=>by cases B)
 |mapIter x y z hm=>exact h.turn hb (.mapIter x y z hm) (λc e f c' W f' B U=>by cases B) (λO=>(by obtain⟨c,e,f,D⟩:=h.lk _ _ hb O; rw[Y]at D; cases D)) (λc e f c' W f' B U=>by cases B)
 |loop O=>exact h.turn hb (.loop O) (λc e f c' W f' B U=>by cases B) (λO=>(by obtain⟨c,e,f,D⟩:=h.lk _ _ hb O; rw[Y]at D; cases D)) (λc e f c' W f' B U=>by cases B)
 |jb=>exact h.turn hb .jb (λc e f c' W f' B U=>by cases B) (λO=>(by obtain⟨c,e,f,D⟩:=h.lk _ _ hb O; rw[Y]at D; cases D)) (λc e f c' W f' B U=>by cases B)
 |deferred hd=>exact h.turn hb (.deferred hd) (λc e f c' W f' B U=>by cases B) (λO=>(by obtain⟨c,e,f,D⟩:=h.lk _ _ hb O; rw[Y]at D; cases D)) (λc e f c' W f' B U=>by cases B)
theorem WR.draw(h:WR m w w')(a b:Nat):WR m {w with drawn:=a} {w' with drawn:=b}:=⟨h.obj,h.fz,h.all,h.M4,h.M2,h.J5,h.os,h.nJ,h.lk,h.dead,h.tI⟩
theorem Al.draw(h:Al w w'):Al {w with drawn:=w.drawn+1} {w' with drawn:=w'.drawn+1}:=λi q=>by
 have:=h (i+1) q;have B:w'.drawn+1+i=w'.drawn+(i+1):=by omega
 have D:w.drawn+1+i=w.drawn+(i+1):=by omega
 simp only[B,D]; exact this
theorem WR.shape(h:WR m w w')(hb:m.blk r=some r'):w'.shape? r'=w.shape? r:=by
 obtain⟨x,x',B,D,O⟩:=h.obj r r' hb;unfold World.shape?;simp only[B,D];cases O<;>try rfl
 rename_i U;simp[U.size]
theorem WR.frozen(h:WR m w w'){a:Addr}(O:AR m a a')(U:¬m.loose a.block):w'.frozen? a'=w.frozen? a:=by
 cases O with
 |@mk b b' o s hb=>
 obtain⟨x,x',B,D,W⟩:=h.obj b b' hb;unfold c6;simp only[B,D];cases W<;>try rfl
 rw[h.fz b b' _ _ _ _ _ _ hb B D U]
end
def lB{α β:Type}(RA:Ren->α->β->Prop)(al:Prop)(m:Ren)(w':World)(es:Array Event)(r:Result β×Array Event):Result α->Prop
 |.ok a Uc=>∃D b B Ug,r=(.ok b B,es++Ug)/\m.Le D/\RA D a b/\WR D Uc B/\(al->Al Uc B)/\ju m D w' B/\∀e∈Ug,qJ D e
 |.halt (.panic v) Uc=>∃D v' B Ug,r=(.halt (.panic v') B,es++Ug)/\m.Le D/\VR D v v'/\WR D Uc B/\(al->Al Uc B)/\ju m D w' B/\∀e∈Ug,qJ D e
 |.halt x _=>mV x
theorem lB.ahead{RA:Ren->α->β->Prop}{Uq:Prop}{m D:Ren}{w' O:World}{Ug:Array Event}{r:Result β×Array Event}{q:Result α}
  (ha:al->Uq) (hl:m.Le D) (hk:ju m D w' O) (he:∀e∈Ug,qJ D e) (h:lB RA Uq D O (es++Ug) r q):lB RA al m w' es r q:=by
 unfold lB at h⊢;split
 .obtain⟨Uk,b,U,B,h1,W,h3,h4,Y,h5,h6⟩:=h;refine⟨Uk,b,U,Ug++B,by rw[h1,bn],hl.trans W,h3,h4,λx=>Y (ha x),hk.trans hl W h5,λe hx=>?_⟩;rcases bp.1 hx with x|x
  .exact(he e x).mono W
  .exact h6 e x
 .obtain⟨Uk,b,U,B,h1,W,h3,h4,Y,h5,h6⟩:=h;refine⟨Uk,b,U,Ug++B,by rw[h1,bn],hl.trans W,h3,h4,λx=>Y (ha x),hk.trans hl W h5,λe hx=>?_⟩;rcases bp.1 hx with x|x
  .exact(he e x).mono W
  .exact h6 e x
 .rename_i x y hx;cases x<;>first|exact h|exact absurd rfl (hx _)
theorem ju.cell{m:Ren}{w':World}(hb:m.blk r=some r')(D:¬m.loose r)(o:Obj):ju m m w' {w' with heap:=w'.heap.setIfInBounds r' o}:=
 ⟨λx _ O=>by
   have B:r'≠x:=λe=>O r (e▸hb)
   show(w'.heap.setIfInBounds r' o)[x]?=_
   rw[aX B],by simp,λr' h h'=>absurd h' (by simpa using h),λ_ _ h=>.inl h,λ_ _ h=>.inl h,rfl,rfl,rfl,λ_=>rfl,rfl,λs s' U B=>by
   have:r'≠s':=λe=>D (m.inj _ _ _ (e▸U) hb▸B)
   show(w'.heap.setIfInBounds r' o)[s']?=_
   rw[aX this]⟩
theorem ju.modify{m:Ren}{w':World}(hb:m.blk r=some r')(D:¬m.loose r)(f:Obj->Obj):ju m m w' {w' with heap:=w'.heap.modify r' f}:=
 ⟨λx _ O=>by
   have B:¬r'=x:=λe=>O r (e▸hb)
   show(w'.heap.modify r' f)[x]?=_
   rw[bb]; simp[B],by simp,λr' h h'=>absurd h' (by simpa using h),λ_ _ h=>.inl h,λ_ _ h=>.inl h,rfl,rfl,rfl,λ_=>rfl,rfl,λs s' U B=>by
   have:r'≠s':=λe=>D (m.inj _ _ _ (e▸U) hb▸B)
   show(w'.heap.modify r' f)[s']?=_
   rw[bb]; simp[this]⟩
theorem mw{RA:Ren->α->β->Prop}{m:Ren}{w':World}{r:Result β×Array Event}{q:Result α}{e:Event}
  (B:qJ m e) (h:lB RA al m w' (es.push e) r q):lB RA al m w' es r q:=
 lB.ahead (Ug:=#[e]) id (.refl m) (.refl m w') (by simpa using B) (by simpa using h)
theorem gU.run{RA:Ren->α->β->Prop}{m:Ren}{s:Sem α}{s':Sem β}(h:gU P RA m s s') :
  ∀(w w':World)(es:Array Event),WR m w w'->(Al w w'\/jG s)->lB RA (Al w w') m w' es (s'.runT P w' es) (s.run P w):=by
 induction h with
 |gW hd=>
  intro w w' es D B;obtain⟨x,Uc,hr,hh⟩:=hd.run w;rw[hr];cases x<;>first|exact hh|exact hh.elim
 |pure hr=>
  intro w w' es D B;exact⟨_,_,w',#[],by simp[cl],.refl _,hr,D,id,.refl _ _,by simp⟩
 |@load m a a' k k' Y _ O=>
  intro w w' es D B;simp only[ck,cl]
  cases hc:w.cell? a with
  |some v=>
   obtain⟨v',ah,hv⟩:=D.cell Y hc;simp only[ah];exact mw (e:=⟨.cell a',false,false⟩) ⟨rfl,a,Y,by simp⟩ (O v v' hv w w' _ D (B.imp id λx=>x v))
  |none=>
   obtain⟨y,hy⟩:=D.Oh Y hc P (Mode.plain==.atomic);simp only[hy];trivial
 |@store m a a' v v' k k' Y hv _ O=>
  intro w w' es D B;by_cases h1:∃c,v=.agg c
  .obtain⟨c,rfl⟩:=h1;simp only[ck]; trivial
  by_cases h2:∃c,v=.tuple c
  .obtain⟨c,rfl⟩:=h2;simp only[ck]; trivial
  have ai:∀c,v'≠.agg c:=λc e=>by subst e; cases hv<;>first|exact h1 ⟨_,rfl⟩|exact h2 ⟨_,rfl⟩
  have aj:∀c,v'≠.tuple c:=λc e=>by subst e; cases hv<;>first|exact h1 ⟨_,rfl⟩|exact h2 ⟨_,rfl⟩
  have e1:(Sem.store Mode.plain a v k).run P w=match w.cell? a with
    |some _=>if w.frozen? a then .halt (.unsupported (.unsafePointer "a write to bytes that a string shares")) w else k.run P (w.setCell a v)
    |none=>match w.farStore P a v (Mode.plain==.atomic)with
     |.ok (w,_)=>k.run P w
     |.error h=>.halt h w:=by
   rw[ck]
   .rfl
   .exact λc e=>h1 ⟨c,e⟩
   .exact λc e=>h2 ⟨c,e⟩
  have e2:(Sem.store Mode.plain a' v' k').runT P w' es=match w'.cell? a' with
    |some _=>if w'.frozen? a' then(.halt (.unsupported (.unsafePointer "a write to bytes that a string shares")) w',es)else k'.runT P (w'.setCell a' v') (es.push ⟨.cell a',true,Mode.plain==.atomic⟩)
    |none=>match w'.farStore P a' v' (Mode.plain==.atomic)with
     |.ok (w,aa)=>k'.runT P w (es++aa.toArray.map (⟨.cell ·,true,Mode.plain==.atomic⟩))
     |.error h=>(.halt h w',es):=by
   rw[cl]
   .rfl
   .exact ai
   .exact aj
  have ag:¬q7 v:=by
   intro ak;cases v<;>first|exact ak.elim|exact h1 ⟨_,rfl⟩|exact h2 ⟨_,rfl⟩
  rw[e1,e2]
  cases hc:w.cell? a with
  |none=>
   obtain⟨y,hy⟩:=D.JB Y hc P v (Mode.plain==.atomic);simp only[hy];trivial
  |some u=>
   obtain⟨u',am,_⟩:=D.cell Y hc;simp only[am];by_cases hf:w.frozen? a=true
   .simp only[hf,if_true]; trivial
   have ad:¬m.loose a.block:=by
    intro hl
    cases Y with
    |@mk b b' o s hb=>
    obtain⟨x,x',g1,g2,ho⟩:=D.obj b b' hb;unfold c8 at hc;simp only[g1]at hc
    cases ho with
    |cells e f f' au=>
     simp only at hc;split at hc
     .cases hc
     .have an:=(aY.1 hc).1;have:=D.all b b' _ _ _ _ _ _ hb g1 g2 hl o an;apply hf;unfold c6;simp only[g1];simpa[inside]using this
    |_=>cases hc
   have ao:w'.frozen? a'=false:=by rw[D.frozen Y ad]; simpa using hf
   simp only[hf,ao,if_false,Bool.false_eq_true];have ap:(Mode.plain==Mode.atomic)=false:=rfl;rw[ap];refine lB.ahead (Ug:=#[⟨.cell a',true,false⟩]) (Uq:=Al (w.setCell a v) (w'.setCell a' v')) (λh=>h) (.refl _) ?_ ?_ (by simpa using O (w.setCell a v) _ _ (D.setCell Y hv ag) B)
   .cases Y with
    |mk hb=>exact ju.modify hb ad _
   .simp only[List.mem_toArray,List.mem_cons,List.not_mem_nil,or_false,forall_eq];exact⟨rfl,a,Y,λ_=>ad⟩
 |@new m o o' k k' ho hc _ O=>
  intro w w' es D B;simp only[ck,cl];have ab:=Ren.xg D.jP D.o8 D.Sl;have ac:(m.ext w.heap.size w'.heap.size D.jP D.o8 D.Sl).blk w.heap.size=some w'.heap.size:=by simp[Ren.ext]
  refine lB.ahead (Ug:=#[]) (Uq:=Al {w with heap:=w.heap.push o} {w' with heap:=w'.heap.push o'}) (λh=>h) ab ?_ (by simp) (by simpa using O _ _ _ ab ac (by simp[Ren.ext]) {w with heap:=w.heap.push o} _ _ (D.push ho hc) (B.imp id λx=>x _));refine⟨λr' hr hn=>iW hr,by simp,λr' h h'=>.inl ⟨w.heap.size,?_⟩,λr r' hb=>?_,λ_ _ h=>.inl h,rfl,rfl,rfl,λ_=>rfl,rfl,λr r' hb _=>iW (D.lt hb).2⟩
  .have:r'=w'.heap.size:=by simp at h'; omega
   rw[this]; exact ac
  .by_cases e:r=w.heap.size
   .simp[Ren.ext,e]at hb; exact .inr (by omega)
   .simp[Ren.ext,e]at hb; exact .inl hb
 |@rL m c b x s r t c' b' x' s' r' t' k k' aq _ O=>
  intro w w' es D B;simp only[ck,cl];have ab:=Ren.yI D.qj D.oO;have ac:(m.uD w.heap.size w'.heap.size D.qj D.oO).ch w.heap.size=some w'.heap.size:=by simp[Ren.uD]
  refine lB.ahead (Ug:=#[]) (Uq:=Al {w with heap:=w.heap.push (.chan c b x s r t)} {w' with heap:=w'.heap.push (.chan c' b' x' s' r' t')}) (λh=>h) ab ?_ (by simp) (by simpa using O _ _ _ ab ac {w with heap:=w.heap.push _} _ _ (D.Nm _ _) (B.imp id λx=>x _));refine⟨λr' hr hn=>iW hr,by simp,λr' h h'=>.inr ⟨w.heap.size,?_⟩,λ_ _ h=>.inl h,λr r' hb=>?_,rfl,rfl,rfl,λhn=>absurd aq hn,rfl,λr r' hb _=>iW (D.lt hb).2⟩
  .have:r'=w'.heap.size:=by simp at h'; omega
   rw[this]; exact ac
  .by_cases e:r=w.heap.size
   .simp[Ren.uD,e]at hb; exact .inr (by omega)
   .simp[Ren.uD,e]at hb; exact .inl hb
 |shape hb _ O=>
  intro w w' es D B;simp only[ck,cl,D.shape hb];exact O _ w w' es D (B.imp id λx=>x _)
 |@freeze m a a' n k k' Y hn _ O=>
  intro w w' es D B;simp only[ck,cl];refine lB.ahead (Ug:=#[]) (Uq:=Al (w.freeze a n) (w'.freeze a' n)) (λh=>by unfold c5; split<;>exact h) (.refl _) ?_ (by simp) (by simpa using O _ _ _ (D.freeze Y hn _) (B.imp (λh=>by unfold c5; split<;>exact h) λx=>x))
  cases Y with
  |mk hb=>
   unfold c5;split
   .exact .refl _ _
   .exact ju.modify hb hn _
 |frozen Y hn _ O=>
  intro w w' es D B;simp only[ck,cl,D.frozen Y hn];exact O _ w w' es D (B.imp id λx=>x _)
 |getObj hb _ O=>
  intro w w' es D B;obtain⟨x,x',h1,h2,ho⟩:=D.obj _ _ hb;simp only[ck,cl,h1,h2];rcases Classical.em (Ren.loose _ _)with U|U
  .obtain⟨c,e,f,hx⟩:=D.lk _ _ hb U;rw[h1]at hx;cases hx;trivial
  have W:qJ _ ⟨.obj _,false,false⟩:=⟨rfl,_,hb,U⟩
  cases ho with
  |cells=>trivial
  |map clock he=>exact mw W (O _ _ (.map clock he) w w' _ D (B.imp id λx=>x _))
  |number l hx=>exact mw W (O _ _ (.number l hx) w w' _ D (B.imp id λx=>x _))
  |stringIter s p=>exact mw W (O _ _ (.stringIter s p) w w' _ D (B.imp id λx=>x _))
  |jI a b c=>exact mw W (O _ _ (.jI a b c) w w' _ D (B.imp id λx=>x _))
  |mapIter a b c hm=>exact mw W (O _ _ (.mapIter a b c hm) w w' _ D (B.imp id λx=>x _))
  |loop hl=>exact mw W (O _ _ (.loop hl) w w' _ D (B.imp id λx=>x _))
  |jb=>exact mw W (O _ _ .jb w w' _ D (B.imp id λx=>x _))
  |deferred hd=>exact mw W (O _ _ (.deferred hd) w w' _ D (B.imp id λx=>x _))
 |@setObj m r r' o o' k k' hb ho hc _ O=>
  intro w w' es D B;obtain⟨x,x',h1,h2,hx⟩:=D.obj _ _ hb;have ar:o'.isChan=false:=by cases ho<;>rfl
  rcases Classical.em (m.loose r)with U|U
  .obtain⟨c,e,f,hy⟩:=D.lk _ _ hb U;simp only[ck,hy];trivial
  have ae:=D.turn hb ho (λc e f c' e' f' e1 _=>absurd e1 (hc c e f)) (λh=>absurd h U) (λc e f c' e' f' e1 _=>absurd e1 (hc c e f))
  have fin:lB RA (Al w w') m w' es (k'.runT P {w' with heap:=w'.heap.setIfInBounds r' o'} (es.push ⟨.obj r',true,o'.isChan⟩)) (k.run P {w with heap:=w.heap.setIfInBounds r o}):=by
   rw[ar];exact lB.ahead (Ug:=#[⟨.obj r',true,false⟩]) (Uq:=Al {w with heap:=w.heap.setIfInBounds r o} {w' with heap:=w'.heap.setIfInBounds r' o'}) (λh=>h) (.refl _) (ju.cell hb U _) (by simpa using⟨rfl,_,hb,U⟩) (by simpa using O _ _ _ ae B)
  simp only[ck,cl,h1,h2];cases hx<;>first|trivial|exact fin
 |choose _ O=>
  intro w w' es D B;rcases B with af|B
  .simp only[ck,cl];split
   .exact O _ w w' es D (.inl af)
   .have:=af 0;simp only[Nat.add_zero]at this;rw[this];refine lB.ahead (Ug:=#[]) (λh=>h.draw) (.refl _) ?_ (by simp) (by simpa using O _ {w with drawn:=w.drawn+1} _ _ (D.draw _ _) (.inl af.draw));exact⟨λ_ _ _=>rfl,c0 _,λr' h h'=>absurd h' (by simpa using h),λ_ _ h=>.inl h,λ_ _ h=>.inl h,rfl,rfl,rfl,λ_=>rfl,rfl,λ_ _ _ _=>rfl⟩
  .exact B.elim
 |gone hd=>
  intro w w' es D B;obtain⟨_,c,e,f,hx⟩:=D.dead _ hd;simp only[ck,hx];trivial
 |env _ O=>
  intro w w' es D B;have e:∀x:World,x.sys .env=(.strings x.os.env,x):=λ_=>rfl;simp only[ck,cl,e,D.os];exact mw (e:=⟨.output,true,false⟩) trivial (O _ w w' _ D (B.imp id λx=>x _))
 |program _ O=>exact λw w' es D B=>O w w' es D (B.imp id λx=>x P)
 |@mark m x k k' hm _ O=>exact λw w' es D B=>mw (e:=⟨.mark x,false,true⟩) hm (O w w' _ D B)
 |panic hv=>
  intro w w' es D B;exact⟨_,_,w',#[],by simp[cl],.refl _,hv,D,id,.refl _ _,by simp⟩
inductive nY(P:Program){α β:Type}(RA:Ren->α->β->Prop):Ren->Sem α->Sem β->Prop
 |base {m s s'}:gU P RA m s s'->nY P RA m s s'
 |bind {γ δ:Type} {RC:Ren->γ->δ->Prop} {m} {s:Sem γ} {s':Sem δ} {f:γ->Sem α} {f':δ->Sem β}:gU P RC m s s'->(∀m' a b,m.Le m'->RC m' a b->nY P RA m' (f a) (f' b))->nY P RA m (s.bind f) (s'.bind f')
 |SV {m q k s'}:(∀n,jG (k n))->(∀n,gU P RA m (k n) s')->nY P RA m (.choose q k) s'
def SE{α β:Type}(RA:Ren->α->β->Prop)(m:Ren)(w':World)(es:Array Event)(r:Result β×Array Event)(q:Result α):Prop:=lB RA False m w' es r q
theorem lB.Rz{RA:Ren->α->β->Prop}{m:Ren}{w':World}{r:Result β×Array Event}{q:Result α}(h:lB RA al m w' es r q):SE RA m w' es r q:=
 lB.ahead (Ug:=#[]) (λh:False=>h.elim) (.refl m) (.refl m w') (by simp) (by simpa using h)
theorem nY.run{RA:Ren->α->β->Prop}{m:Ren}{s:Sem α}{s':Sem β}(h:nY P RA m s s') :
  ∀(w w':World)(es:Array Event),WR m w w'->Al w w'->SE RA m w' es (s'.runT P w' es) (s.run P w):=by
 induction h with
 |base h=>exact λw w' es U D=>(h.run w w' es U (.inl D)).Rz
 |@bind γ δ RC m s s' f f' h _ ih=>
  intro w w' es U D;have W:=h.run w w' es U (.inl D);rw[Sem.run_bind',Sem.runT_bind']
  cases hr:s.run P w with
  |ok a Uc=>
   rw[hr]at W;obtain⟨O,b,B,Ug,e1,Y,e3,e4,e5,e6,e7⟩:=W;rw[e1];exact lB.ahead (Ug:=Ug) (λh=>h) Y e6 e7 (ih O a b Y e3 Uc B _ e4 (e5 D))
  |halt x Uc=>
   rw[hr]at W
   cases x with
   |panic v=>
    obtain⟨O,b,B,Ug,e1,Y,e3,e4,e5,e6,e7⟩:=W;rw[e1];exact⟨O,b,B,Ug,rfl,Y,e3,e4,λh=>h.elim,e6,e7⟩
   |_=>exact W
 |SV hd h=>
  intro w w' es U D;simp only[ck];split
  .exact((h _).run w w' es U (.inl D)).Rz
  .exact((h _).run {w with drawn:=w.drawn+1} w' es (U.draw _ w'.drawn) (.inr (hd _))).Rz
end
section
variable {a a':Addr} {c c':Array Value} {r r':Nat} {o o':Obj} {α β γ δ:Type} {t:bs} {v v' x x':Value}
structure oJ(P:Program):Prop where
 zero:∀t i v,P.info? t=some i->i.zero=some v->∀m,VR m v v
 TL:∀t i,P.info? t=some i->i.methods.find? (·.name == "")=none
def ym{α:Type}:Ren->α->α->Prop:=λ_ a b=>a=b
def zi{α β:Type}:Ren->α->β->Prop:=λ_ _ _=>True
section
variable {P:Program} {m:Ren}
theorem hU{RA:Ren->α->β->Prop}{RB:Ren->γ->δ->Prop}{s:Sem α}{s':Sem β}{f:α->Sem γ}{f':β->Sem δ}
  (h:gU P RA m s s') (B:∀m' a b,m.Le m'->RA m' a b->gU P RB m' (f a) (f' b)):gU P RB m (s >>= f) (s' >>= f'):=gU.bind h B
theorem ig{RA:Ren->α->β->Prop}{c:Prop}[Decidable c]{s t:Sem α}{s' t':Sem β}(h:c->gU P RA m s s')(h':¬c->gU P RA m t t') :
  gU P RA m (if c then s else t) (if c then s' else t'):=by
 split
 .exact h ‹_›
 .exact h' ‹_›
theorem kD{RB:Ren->γ->δ->Prop}{f:Program->Sem γ}{f':Program->Sem δ}(h:gU P RB m (f P) (f' P)):gU P RB m (program >>= f) (program >>= f'):=.program h
theorem gX{RB:Ren->γ->δ->Prop}{f:TypeDesc->Sem γ}{f':TypeDesc->Sem δ}(h:∀d,P.underlying t=some d->gU P RB m (f d) (f' d)) :
  gU P RB m (bw t >>= f) (bw t >>= f'):=by
 refine .program ?_;show gU P RB m ((match P.underlying t with|some d=>pure d|none=>stuck _) >>= f) ((match P.underlying t with|some d=>pure d|none=>stuck _) >>= f')
 cases B:P.underlying t with
 |none=>exact .gW trivial
 |some d=>exact h d B
theorem iw{RB:Ren->γ->δ->Prop}{f:TypeInfo->Sem γ}{f':TypeInfo->Sem δ}(h:∀d,P.info? t=some d->gU P RB m (f d) (f' d)) :
  gU P RB m (typeInfo t >>= f) (typeInfo t >>= f'):=by
 refine .program ?_;show gU P RB m ((match P.info? t with|some d=>pure d|none=>stuck _) >>= f) ((match P.info? t with|some d=>pure d|none=>stuck _) >>= f')
 cases B:P.info? t with
 |none=>exact .gW trivial
 |some d=>exact h d B
theorem iT{RB:Ren->γ->δ->Prop}{f:Nat->Sem γ}{f':Nat->Sem δ}(h:∀n,gU P RB m (f n) (f' n)):gU P RB m (b3 t >>= f) (b3 t >>= f'):=by
 refine .program ?_;show gU P RB m (((match P.info? t with|some d=>pure d|none=>stuck _) >>= λi=>pure i.size) >>= f) (((match P.info? t with|some d=>pure d|none=>stuck _) >>= λi=>pure i.size) >>= f')
 cases B:P.info? t with
 |none=>exact .gW trivial
 |some d=>exact h _
theorem j6(B:oJ P){RB:Ren->γ->δ->Prop}{f:Value->Sem γ}{f':Value->Sem δ}(h:∀v,VR m v v->gU P RB m (f v) (f' v)) :
  gU P RB m (bt t >>= f) (bt t >>= f'):=by
 refine .program ?_;show gU P RB m (((match P.info? t with|some d=>pure d|none=>stuck _) >>= λi=>match i.zero with|some v=>pure v|none=>unsupported _) >>= f) (((match P.info? t with|some d=>pure d|none=>stuck _) >>= λi=>match i.zero with|some v=>pure v|none=>unsupported _) >>= f')
 cases D:P.info? t with
 |none=>exact .gW trivial
 |some d=>
  show gU P RB m ((match d.zero with|some v=>pure v|none=>unsupported _) >>= f) ((match d.zero with|some v=>pure v|none=>unsupported _) >>= f')
  cases O:d.zero with
  |none=>exact .gW trivial
  |some v=>exact h v (B.zero t d v D O m)
theorem Gw{RB:Ren->γ->δ->Prop}{f:Bool->Sem γ}{f':Bool->Sem δ}(h:∀b,gU P RB m (f b) (f' b)):gU P RB m (isAgg t >>= f) (isAgg t >>= f'):=by
 refine .program ?_;show gU P RB m (((match P.underlying t with|some d=>pure d|none=>stuck _) >>= λx=>match x with|.struct _|.array _ _=>pure true|_=>pure false) >>= f) (((match P.underlying t with|some d=>pure d|none=>stuck _) >>= λx=>match x with|.struct _|.array _ _=>pure true|_=>pure false) >>= f')
 cases B:P.underlying t with
 |none=>exact .gW trivial
 |some d=>cases d<;>exact h _
theorem Dr{RB:Ren->γ->δ->Prop}{f:Value->Sem γ}{f':Value->Sem δ}(B:AR m a a')(h:∀v v',VR m v v'->gU P RB m (f v) (f' v')) :
  gU P RB m (load a >>= f) (load a' >>= f'):=.load B h
theorem M9{RB:Ren->γ->δ->Prop}{f:Unit->Sem γ}{f':Unit->Sem δ}(B:AR m a a')(D:VR m v v')(h:gU P RB m (f ()) (f' ())) :
  gU P RB m (store a v >>= f) (store a' v' >>= f'):=.store B D h
theorem jB{RB:Ren->γ->δ->Prop}{f:Obj->Sem γ}{f':Obj->Sem δ}(hb:m.blk r=some r')(h:∀o o',OR m o o'->gU P RB m (f o) (f' o')) :
  gU P RB m (getObj r >>= f) (getObj r' >>= f'):=.getObj hb h
theorem mB{RB:Ren->γ->δ->Prop}{f:Unit->Sem γ}{f':Unit->Sem δ}(hb:m.blk r=some r')(B:OR m o o')(D:∀c e f,o≠.cells c e f)(h:gU P RB m (f ()) (f' ())) :
  gU P RB m (setObj r o >>= f) (setObj r' o' >>= f'):=.setObj hb B D h
theorem rF(hb:m.blk r=some r')(B:OR m o o')(D:∀c e f,o≠.cells c e f):gU P zi m (setObj r o) (setObj r' o'):=.setObj hb B D (.pure trivial)
theorem jU{RB:Ren->γ->δ->Prop}{q:Question}{f:Nat->Sem γ}{f':Nat->Sem δ}(h:∀n,gU P RB m (f n) (f' n)):gU P RB m (choose q >>= f) (choose q >>= f'):=.choose h
theorem mz{RB:Ren->γ->δ->Prop}{f:Option (bs×Nat)->Sem γ}{f':Option (bs×Nat)->Sem δ}(hb:m.blk r=some r')(h:∀x,gU P RB m (f x) (f' x)) :
  gU P RB m (shape r >>= f) (shape r' >>= f'):=.shape hb h
theorem pD{RB:Ren->γ->δ->Prop}{f:Bool->Sem γ}{f':Bool->Sem δ}(B:AR m a a')(D:¬m.loose a.block)(h:∀x,gU P RB m (f x) (f' x)) :
  gU P RB m (frozen a >>= f) (frozen a' >>= f'):=.frozen B D h
def Ri:RuntimeError->Prop
 |.bounds ..|.error _|.plain _|.nilDeref=>True
 |_=>False
theorem jm{RA:Ren->α->β->Prop}{e:RuntimeError}(h:Ri e):gU P RA m (bv e) (bv e):=by
 refine .program ?_;cases e<;>first|exact h.elim|skip
 .exact .panic (.iface _ (.K6 (.refl λv B=>by
   simp at B
   rcases B with rfl|rfl|rfl|rfl<;>constructor)))
 all_goals exact .panic (.iface _ (.string _))
theorem iz{RB:Ren->γ->δ->Prop}{e:RuntimeError}{f:α->Sem γ}{f':β->Sem δ}(h:Ri e):gU P RB m (bv e >>= f) (bv e >>= f'):=
 hU (RA:=λ_ _ _=>False) (jm h) λ_ _ _ _ x=>x.elim
theorem qZ{RA:Ren->α->β->Prop}{k:IntKind}{x y:Int}{c:BoundsCode}:gU P RA m (bu k x y c) (bu k x y c):=by
 unfold bu;dsimp only;refine ig (λ_=>?_) (λ_=>?_)
 .exact gU.choose λn=>jm (e:=.bounds (IntKind.i64.wrap x) y (n==1) c) trivial
 .exact jm (e:=.bounds (IntKind.i64.wrap x) y (k != .u64) c) trivial
theorem Ak{RB:Ren->γ->δ->Prop}{f:IntKind×Int->Sem γ}{f':IntKind×Int->Sem δ}(B:VR m x x')(h:∀k n,x=.int k n->gU P RB m (f (k,n)) (f' (k,n))) :
  gU P RB m (asIntOf x >>= f) (asIntOf x' >>= f'):=by
 cases B<;>first|exact h _ _ rfl|exact .gW trivial
theorem m9{RB:Ren->γ->δ->Prop}{f:Int->Sem γ}{f':Int->Sem δ}(B:VR m x x')(h:∀n,gU P RB m (f n) (f' n)) :
  gU P RB m (asInt x >>= f) (asInt x' >>= f'):=by
 cases B<;>first|exact h _|exact .gW trivial
theorem Mr{RB:Ren->γ->δ->Prop}{f:Bool->Sem γ}{f':Bool->Sem δ}(B:VR m x x')(h:∀b,gU P RB m (f b) (f' b)) :
  gU P RB m (asBool x >>= f) (asBool x' >>= f'):=by
 cases B<;>first|exact h _|exact .gW trivial
theorem N'{RB:Ren->γ->δ->Prop}{f f':Array Value->_}(B:VR m x x')(h:∀c c',iI m c c'->gU P RB m (f c:Sem γ) (f' c':Sem δ)) :
  gU P RB m (asAgg x >>= f) (asAgg x' >>= f'):=by
 cases B<;>first|exact h _ _ (.kG ‹_› ‹_›)|exact .gW trivial
theorem Cb{RB:Ren->γ->δ->Prop}{f:Addr->Sem γ}{f':Addr->Sem δ}(B:VR m x x')(h:∀a a',AR m a a'->gU P RB m (f a) (f' a')) :
  gU P RB m (asAddr x >>= f) (asAddr x' >>= f'):=by
 cases B<;>first|exact h _ _ ‹_›|exact .gW trivial|exact iz (e:=.nilDeref) trivial
theorem oR{RB:Ren->γ->δ->Prop}{f:Addr->Sem γ}{f':Addr->Sem δ}(B:VR m x x')(h:∀a a',AR m a a'->gU P RB m (f a) (f' a')) :
  gU P RB m (aS x >>= f) (aS x' >>= f'):=by
 cases B<;>first|exact h _ _ ‹_›|exact .gW trivial
theorem s5(D:AR m a a'):∀(n i:Nat)(acc B:Array Value),iI m acc B->gU P iI m (b1 a i n acc) (b1 a' i n B)
 |0,_,_,_,h=>.pure h
 |n+1,i,_,_,h=>Dr (D.add i) λv v' O=>s5 D n (i+1) _ _ (h.push O)
theorem xy(B:AR m a a')(n:Nat):gU P iI m (b5 a n) (b5 a' n):=s5 B n 0 _ _ (.nil m)
theorem nZ(B:AR m a a'):∀{vs vs':List Value}(i:Nat),iu (VR m) vs vs'->gU P zi m (bx a vs i) (bx a' vs' i)
 |_,_,_,.nil=>by unfold bx; exact .pure trivial
 |_,_,i,.cons D h=>by unfold bx; exact M9 (B.add i) D (nZ B (i+1) h)
theorem Ci(B:AR m a a'):gU P VR m (bI t a) (bI t a'):=by
 unfold bI;refine Gw λb=>ig (λ_=>?_) (λ_=>.load B λ_ _ D=>.pure D);refine iT λn=>hU (xy B n) λm' c c' _ O=>.pure (.K6 O)
theorem Hj(D:AR m a a')(B:VR m v v'):gU P zi m (bD t a v) (bD t a' v'):=by
 unfold bD;refine iT λn=>?_;rw[<-B.cells.size];split
 .exact .gW trivial
 .exact nZ D 0 B.cells
def Ir(m:Ren)(a a':Addr):Prop:=AR m a a'/\¬m.loose a.block
theorem qL{e:bs}(h:iI m c c'):gU P Ir m (b0 e c) (b0 e c'):=by
 refine .new (.cells e _ _ h) (λx y z B=>by cases B; exact⟨_,rfl⟩) λm' r r' O hb D=>.pure ⟨.mk hb,D⟩
theorem zh{e:bs}(h:VR m v v'):gU P Ir m (newVar e v) (newVar e v'):=qL h.cells
theorem pe(h:iI m c c')(off:Nat):gU P VR m (part t c off) (part t c' off):=by
 unfold part;refine Gw λb=>ig (λ_=>?_) (λ_=>?_)
 .exact iT λn=>.pure (.K6 (h.extract _ _))
 .cases D:c[off]? with
  |none=>exact .gW trivial
  |some v=>obtain⟨v',B,O⟩:=h.get D; rw[B]; exact .pure O
end
end
section
variable {a':Addr} {ps ps':Array (Nat×Value)} {c:BoundsCode} {n:Nat} {h h' l l' x x':Option Value} {α β γ δ:Type} {t:bs} {i i' v v':Value}
section
variable {P:Program} {m:Ren}
theorem Qn(B:oJ P){e:bs}:gU P VR m (aQ e true (.tuple #[])) (aQ e true (.tuple #[])):=by
 unfold aQ;exact j6 B λv D=>hU (zh D) λm' a a' _ h=>.pure (.ptr h.1)
theorem SQ{e:bs}(B:VR m v v'):gU P VR m (aW e v) (aW e v'):=hU (zh B) λm' a a' _ h=>.pure (.ptr h.1)
theorem Cj(off:Nat):∀{l l':List Value}(n:Nat){c c':Array Value},iu (VR m) l l'->iI m c c'->
  iI m ((l.zipIdx n).foldl (λcs (x:Value×Nat)=>cs.setIfInBounds (off+x.2) x.1) c) ((l'.zipIdx n).foldl (λcs (x:Value×Nat)=>cs.setIfInBounds (off+x.2) x.1) c')
 |_,_,_,_,_,.nil,h=>by simpa using h
 |_,_,n,_,_,.cons B D,h=>by
  simp only[List.zipIdx_cons,List.foldl_cons];exact Cj off (n+1) D (h.set _ B)
def J0(m:Ren)(x y:Nat×Value):Prop:=x.1=y.1/\VR m x.2 y.2
theorem DV(place:Nat->Option (Nat×Nat)):∀{ps ps':List (Nat×Value)}{c c' r:Array Value},iu (J0 m) ps ps'->iI m c c'->ax place c ps=some r->∃r',ax place c' ps'=some r'/\iI m r r'
 |_,_,c,c',r,.nil,h,e=>by
  simp only[ax,cw]at e⊢
  exact⟨c',rfl,e▸h⟩
 |_,_,c,c',r,.cons (a:=(i,v)) (b:=(i',v')) B hl,h,e=>by
  obtain⟨hi,B⟩:=B
  simp only at hi B;subst hi;simp only[ax]at e⊢
  cases D:place i with
  |none=>rw[D]at e; cases e
  |some x=>
   obtain⟨off,size⟩:=x;rw[D]at e;simp only at e⊢;have O:=B.cells.size;rw[<-O,<-h.size];split at e
   .cases e
   .rename_i U;rw[if_neg U];refine DV place hl ?_ e;have:=Cj off 0 B.cells h;rw[<-bm,<-bm,bj,bj];exact this
theorem yF{z:Array Value}(h:iI m z z)(n:Nat):iI m ((bc n).map (z[· % z.size]!)) ((bc n).map (z[· % z.size]!)):=by
 refine .refl λv B=>?_;simp only[bg,cv]at B;obtain⟨i,_,rfl⟩:=B;show VR m (z[i % z.size]!) (z[i % z.size]!);by_cases hi:i % z.size<z.size
 .rw[getElem!_pos z _ hi];exact h.idx _ hi hi
 .rw[getElem!_neg z _ hi];exact .bool _
theorem C6{Q:Ren->β->β->Prop}(hm:∀m m' a b,m.Le m'->Q m a b->Q m' a b)(g:α->Sem β)(B:∀m x,gU P Q m (g x) (g x)):∀(l:List α)(m:Ren),gU P (λm=>iu (Q m)) m (l.mapM g) (l.mapM g)
 |[],m=>by simp only[List.mapM_nil]; exact .pure .nil
 |x::l,m=>by
  simp only[List.mapM_cons];exact hU (B m x) λm' a b _ h=>hU (C6 hm g B l m') λD c d O U=>.pure (.cons (hm _ _ _ _ O h) U)
theorem iu.eq:∀{l l':List α},iu (λa b=>a=b) l l'->l=l'
 |_,_,.nil=>rfl
 |_,_,.cons rfl h=>by rw[iu.eq h]
theorem Hm{B:Array Field}:gU P ym m (B.mapM (λx=>do pure (x.offset,<-b3 x.type))) (B.mapM (λx=>do pure (x.offset,<-b3 x.type))):=by
 rw[Array.mapM_eq_mapM_toList];refine hU (C6 (Q:=ym) (λ_ _ _ _ _ h=>h) _ (λm x=>iT λn=>.pure rfl) _ m) λm' a b _ h=>.pure ?_;exact congrArg List.toArray (iu.eq h)
theorem QA(hP:oJ P)(h:iu (J0 m) ps.toList ps'.toList):gU P VR m (aP t ps) (aP t ps'):=by
 unfold aP;refine j6 hP λz hz=>gX λd hd=>?_
 have hf:∀m',m.Le m'->∀place,gU P VR m' (match ax place z.cells ps.toList with|some cells=>pure (.agg cells)|_=>stuck "build: a part of the wrong size") (match ax place z.cells ps'.toList with|some cells=>pure (.agg cells)|_=>stuck "build: a part of the wrong size"):=by
  intro m' B place
  cases U:ax place z.cells ps.toList with
  |none=>exact .gW trivial
  |some r=>
   obtain⟨r',D,O⟩:=DV place (h.mono λ_ _ x=>⟨x.1,x.2.mono B⟩) (hz.cells.mono B) U;rw[D];exact .pure (.K6 O)
 have W:∀m',m.Le m'->∀place,gU P VR m' (match ax place z.cells ps.toList with|some cells=>pure (.agg cells)|_=>stuck "build: no such field, or a part of the wrong size") (match ax place z.cells ps'.toList with|some cells=>pure (.agg cells)|_=>stuck "build: no such field, or a part of the wrong size"):=by
  intro m' B place
  cases U:ax place z.cells ps.toList with
  |none=>exact .gW trivial
  |some r=>
   obtain⟨r',D,O⟩:=DV place (h.mono λ_ _ x=>⟨x.1,x.2.mono B⟩) (hz.cells.mono B) U;rw[D];exact .pure (.K6 O)
 cases d<;>first|exact .gW trivial|skip
 .exact iT λn=>hf m (.refl m) _
 .refine hU Hm λm' a b B Y=>?_;cases Y;exact W m' B _
theorem CQ(U:oJ P)(h:iu (J0 m) ps.toList ps'.toList):gU P VR m (a8 t n ps) (a8 t n ps'):=by
 unfold a8;refine gX λd hd=>?_;cases d<;>first|exact .gW trivial|skip
 rename_i elem;dsimp only;refine iT λsize=>?_;split
 .exact .gW trivial
 have fin:∀z:Array Value,iI m z z->gU P VR m
   (match ax (λi=>some (i*size,size)) ((bc (n*size)).map (z[· % z.size]!)) ps.toList with|some cells=>(do pure (.slice (some (<-b0 elem cells)) n n))|_=>stuck "buildSlice: a part of the wrong size")
   (match ax (λi=>some (i*size,size)) ((bc (n*size)).map (z[· % z.size]!)) ps'.toList with|some cells=>(do pure (.slice (some (<-b0 elem cells)) n n))|_=>stuck "buildSlice: a part of the wrong size"):=by
  intro z B
  cases W:ax (λi=>some (i*size,size)) ((bc (n*size)).map (z[· % z.size]!)) ps.toList with
  |none=>exact .gW trivial
  |some r=>
   obtain⟨r',D,O⟩:=DV _ h (yF B _) W;rw[D];exact hU (qL O) λm' a a' _ Y=>.pure (.slice _ _ Y.1)
 split
 .exact fin #[] (.nil m)
 .exact j6 U λz B=>fin z.cells B.cells
theorem OZ{a a':Value}(h:VR m a a'):gU P VR m (aV t a) (aV t a'):=oR h λ_ _ B=>Ci B
theorem Lm{a a':Value}(h:VR m a a')(B:VR m v v'):gU P zi m (aU t a v) (aU t a' v'):=oR h λ_ _ D=>Hj D B
theorem sD{RB:Ren->γ->δ->Prop}{a:Addr}{f:Unit->Sem γ}{f':Unit->Sem δ}(B:AR m a a')(h:gU P RB m (f ()) (f' ())):gU P RB m (noView a >>= f) (noView a' >>= f'):=by
 refine gU.shape B.blk λx=>?_
 cases x with
 |some y=>exact h
 |none=>
  refine gU.getObj B.blk λo o' D=>?_;cases D<;>exact h
theorem pY{a:Addr}(B:AR m a a'):gU P ym m (bN a) (bN a'):=by
 unfold bN;rw[B.spot,B.off]
 cases D:a.spot with
 |some s=>exact .pure rfl
 |none=>
  refine kD (sD B (mz B.blk λx=>?_))
  cases x with
  |none=>exact .gW trivial
  |some y=>
   dsimp only;refine ig (λ_=>.pure rfl) (λ_=>?_);split
   .exact .pure rfl
   .exact .gW trivial
theorem M8{a:Addr}(O:AR m a a')(c b:Nat):gU P AR m (bL a c b) (bL a' c b):=by
 cases O with
 |mk hb=>
 unfold bL;refine hU (pY (.mk hb)) λm' x y D h=>?_;cases h;refine hU (pY (.mk (D.blk _ _ hb))) λU x' y' B h=>?_;cases h;refine .pure ?_;dsimp only;split<;>exact .mk (B.blk _ _ (D.blk _ _ hb))
theorem Df{a:Addr}(B:AR m a a')(f:Field):gU P AR m (bB a f) (bB a' f):=by
 unfold bB;exact iT λn=>ig (λ_=>M8 B _ _) (λ_=>.pure (B.add _))
theorem KT{s:bs}{x x':Value}(h:VR m x x')(f:Nat):gU P VR m (aG s x f) (aG s x' f):=by
 unfold aG;refine gX λd U=>?_;cases d<;>first|exact .gW trivial|skip
 rename_i B;dsimp only
 cases B[f]? with
 |none=>exact .gW trivial
 |some D=>exact oR h λa a' O=>hU (Df O D) λm' b b' _ hb=>.pure (.ptr hb)
theorem Mn{x x':Value}(h:VR m x x')(hi:VR m i i'):gU P VR m (aF t x i) (aF t x' i'):=by
 unfold aF;refine Ak hi λk n _=>gX λd O=>?_
 have fin:∀(len:Nat)(elem:bs)(B:Bool){a a':Addr},AR m a a'->gU P VR m
   (if 0<=n/\n<(len:Int)then(do pure (.pointer (some (a.add (n.toNat*(<-b3 elem))))))else if B=true then unsupported (.noEntry "op/indexAddr.an index out of range at an array of length 0 or 1 (ledger 616)")else bu k n len .index)
   (if 0<=n/\n<(len:Int)then(do pure (.pointer (some (a'.add (n.toNat*(<-b3 elem))))))else if B=true then unsupported (.noEntry "op/indexAddr.an index out of range at an array of length 0 or 1 (ledger 616)")else bu k n len .index):=by
  intro len elem B a a' D;exact ig (λ_=>iT λs=>.pure (.ptr (D.add _))) (λ_=>ig (λ_=>.gW trivial) (λ_=>qZ))
 cases d<;>first|exact .gW trivial|skip
 .cases h with
  |jq l c=>exact gX λd2 _=>qZ
  |slice l c D=>exact gX λd2 _=>fin l _ _ D
  |_=>exact .gW trivial
 .exact oR h λa a' D=>gX λd2 _=>fin _ _ _ D
theorem zO{RB:Ren->γ->δ->Prop}{k:IntKind}{x y:Int}{f:α->Sem γ}{f':β->Sem δ}:gU P RB m (bu k x y c >>= f) (bu k x y c >>= f'):=
 hU (RA:=λ_ _ _=>False) qZ λ_ _ _ _ x=>x.elim
theorem Bp{RB:Ren->γ->δ->Prop}(h:VR m v v'){y:Nat}{f:Nat->Sem γ}{f':Nat->Sem δ}(B:∀n,gU P RB m (f n) (f' n)) :
  gU P RB m (a6 v y c >>= f) (a6 v' y c >>= f'):=by
 cases h with
 |int k n=>
  have e:a6 (.int k n) y c=if 0<=n/\n<=y then pure n.toNat else bu k n y c:=rfl
  rw[e];split
  .exact B _
  .exact zO
 |_=>exact .gW trivial
inductive oq{α β:Type}(R:α->β->Prop):Option α->Option β->Prop
 |none:oq R none none
 |some {a b}:R a b->oq R (some a) (some b)
theorem oq.mono{R S:α->β->Prop}(h:∀a b,R a b->S a b){o:Option α}{o':Option β}(x:oq R o o'):oq S o o':=by
 cases x with
 |none=>exact .none
 |some B=>exact .some (h _ _ B)
theorem my{RB:Ren->γ->δ->Prop}{b:Bool}{len cap:Nat}(B:oq (VR m) l l')(D:oq (VR m) h h')(O:oq (VR m) x x'){f:Nat×Nat×Nat->Sem γ}{f':Nat×Nat×Nat->Sem δ}(U:∀n,gU P RB m (f n) (f' n)) :
  gU P RB m (a4 b len cap l h x >>= f) (a4 b len cap l' h' x' >>= f'):=by
 unfold a4
 cases O<;>cases D<;>cases B<;>simp only[bind_assoc,pure_bind] <;>
  repeat first|exact U _|exact .gW trivial|refine Bp (by assumption) λ_=>?_
theorem Qd(W:VR m v v')(D:oq (VR m) l l')(O:oq (VR m) h h')(U:oq (VR m) x x'):gU P VR m (aJ t v l h x) (aJ t v' l' h' x'):=by
 unfold aJ;refine gX λd Y=>?_;cases d<;>first|exact .gW trivial|skip
 .cases W<;>first|exact .gW trivial|skip
  rename_i s;have ex:x.isSome=x'.isSome:=by cases U<;>rfl
  dsimp only;rw[ex];split
  .exact .gW trivial
  .exact my D O .none λn=>.pure (.string _)
 .exact Cb W λa a' B=>gX λd2 _=>by
   cases d2<;>first|exact .gW trivial|skip
   refine my D O U λn=>iT λs=>.pure ?_;split
   .exact .slice _ _ B
   .exact .slice _ _ (B.add _)
 .cases W<;>first|exact .gW trivial|skip
  .refine my D O U λn=>iT λs=>.pure ?_;split<;>exact .jq _ _
  .rename_i B;refine my D O U λn=>iT λs=>.pure ?_;split
   .exact .slice _ _ B
   .exact .slice _ _ (B.add _)
theorem KA(B:VR m v v')(D:oq (VR m) l l')(O:oq (VR m) h h')(U:oq (VR m) x x'):gU P VR m (aD t v l h x) (aD t v' l' h' x'):=by
 unfold aD;refine gX λd Y=>?_;cases d<;>first|exact Qd B D O U|skip
 refine oR B λa a' W=>my D O U λn=>iT λs=>.pure ?_;split
 .exact .slice _ _ W
 .exact .slice _ _ (W.add _)
theorem PR(B:VR m v v')(f:Nat):gU P VR m (aN t v f) (aN t v' f):=by
 unfold aN;refine gX λd U=>?_;cases d<;>first|exact .gW trivial|skip
 rename_i D;dsimp only
 cases D[f]? with
 |none=>exact .gW trivial
 |some W=>exact N' B λc c' O=>pe O _
theorem PU(B:VR m v v')(hi:VR m i i'):gU P VR m (aM t v i) (aM t v' i'):=by
 unfold aM;refine Ak hi λk n _=>gX λd U=>?_;cases d<;>first|exact .gW trivial|skip
 .cases B<;>first|exact .gW trivial|skip
  dsimp only;split
  .exact .pure (.int _ _)
  .exact qZ
 .cases B<;>first|exact .gW trivial|skip
  rename_i D O;exact ig (λ_=>iT λs=>pe (.kG D O) _) (λ_=>qZ)
theorem L0(B:VR m v v')(i:Nat):gU P VR m (aH v i) (aH v' i):=by
 cases B<;>first|exact .gW trivial|skip
 .rename_i D O;unfold aH;dsimp only
  cases U:(_:Array Value)[i]? with
  |none=>exact .gW trivial
  |some u=>obtain⟨u',W,Y⟩:=(iI.kG D O).get U; rw[W]; exact .pure Y
theorem yD(B:VR m v v'):gU P VR m (a2 t v) (a2 t v'):=by
 unfold a2;refine gX λd D=>?_;cases d<;>first|exact .gW trivial|exact .pure (.iface _ B)
theorem Mo{r r':Option Value}(h:oq (VR m) r r'):gU P VR m (aE t r) (aE t r'):=by
 have fin:gU P VR m (do pure (.map (some (<-bF (.map #[] 0))))) (do pure (.map (some (<-bF (.map #[] 0))))):=
  gU.new (.map 0 .nil) (λ_ _ _ h=>by cases h) λm' i i' D hb _=>.pure (.map hb)
 unfold aE
 cases h with
 |none=>exact fin
 |some B=>
  refine gX λd O=>?_;cases d<;>first|exact .gW trivial|exact m9 B λn=>fin
theorem nw{RB:Ren->γ->δ->Prop}{f:Unit->Sem γ}{f':Unit->Sem δ}(h:gU P RB m (f ()) (f' ())):gU P RB m (b8 n >>= f) (b8 n >>= f'):=by
 unfold b8;split
 .exact gU.mark trivial h
 .exact h
theorem FK(D:oJ P){l l' c c':Value}(O:VR m l l')(U:VR m c c'):gU P VR m (aA t l c) (aA t l' c'):=by
 unfold aA;refine gX λd Y=>?_;cases d<;>first|exact .gW trivial|skip
 rename_i elem;refine m9 O λln=>m9 U λcn=>iw λti _=>?_;dsimp only
 have fin:∀{a b:Nat}{x y:Nat},gU P VR m
   (do b8 a; let n <-b3 elem; if b*n=0 then(do let zero <-pure #[]; let r <-b0 elem (bh (λx=>zero[x % zero.size]!) (bc (b*n))); pure (Value.slice (some r) x y))else(do let z <-bt elem; let zero <-pure z.cells; let r <-b0 elem (bh (λx=>zero[x % zero.size]!) (bc (b*n))); pure (Value.slice (some r) x y)))
   (do b8 a; let n <-b3 elem; if b*n=0 then(do let zero <-pure #[]; let r <-b0 elem (bh (λx=>zero[x % zero.size]!) (bc (b*n))); pure (Value.slice (some r) x y))else(do let z <-bt elem; let zero <-pure z.cells; let r <-b0 elem (bh (λx=>zero[x % zero.size]!) (bc (b*n))); pure (Value.slice (some r) x y))):=by
  intro a b x y;refine nw (iT λn=>ig (λ_=>?_) (λ_=>j6 D λz W=>?_))
  .exact hU (RA:=Ir) (qL (yF (z:=#[]) (.nil m) _)) λm' r r' _ B=>gU.pure (VR.slice _ _ B.1)
  .exact hU (RA:=Ir) (qL (yF W.cells _)) λm' r r' _ B=>gU.pure (VR.slice _ _ B.1)
 refine ig (λ_=>ig (λ_=>?_) (λ_=>ig (λ_=>?_) (λ_=>jU λn=>?_))) (λ_=>fin)
 all_goals exact iz (e:=.error _) trivial
theorem HJ{f:FuncId}(B:m.jz f){a a' b b':Array Value}(D:iI m a a')(hb:iI m b b'):gU P VR m (aT (.func f) a b) (aT (.func f) a' b'):=.pure (.Jk (.func f B) D hb)
theorem GO(hm:m.kL){s s':Value}(B:VR m s s'):gU P VR m (aC t s) (aC t s'):=by
 unfold aC;refine m9 B λn=>gX λd D=>?_;cases d<;>first|exact .gW trivial|skip
 dsimp only;refine iw λO _=>ig (λ_=>iz (e:=.plain _) trivial) (λ_=>?_);exact gU.rL hm λm' i i' _ hb=>.pure (.chan hb)
theorem P6(D:VR m v v'):gU P VR m (aK t v) (aK t v'):=by
 unfold aK;refine gX λd U=>?_
 have fin:∀{o o':Obj},OR m o o'->(∀e c f,o≠.cells e c f)->gU P VR m (do pure (.pointer (some ⟨<-bF o,0,none⟩))) (do pure (.pointer (some ⟨<-bF o',0,none⟩))):=by
  intro o o' B O;exact gU.new B (λe c f h=>absurd h (O e c f)) λm' i i' _ hb _=>.pure (.ptr (.mk hb))
 cases d<;>first|exact .gW trivial|skip
 .cases D<;>first|exact .gW trivial|exact fin (.stringIter _ _) (λ_ _ _ h=>by cases h)
 .cases D<;>first|exact .gW trivial|skip
  .exact fin (.jI _ _ _) (λ_ _ _ h=>by cases h)
  .rename_i hb;refine jB hb λo o' B=>?_;cases B<;>first|exact .gW trivial|exact fin (.mapIter _ _ _ hb) (λ_ _ _ h=>by cases h)
  .exact .gone ‹_›
theorem Gk{RB:Ren->γ->δ->Prop}{f:bs->Sem γ}{f':bs->Sem δ}(h:∀n,gU P RB m (f n) (f' n)):gU P RB m (bM t >>= f) (bM t >>= f'):=by
 unfold bM;simp only[bind_assoc];refine gX λd B=>?_;cases d<;>first|exact .gW trivial|exact h _
theorem Hn{RA:Ren->α->β->Prop}:gU P RA m (bv .panicNil) (bv .panicNil):=by
 refine .program ?_;refine Gk λn=>hU (RA:=Ir) (zh (.K6 (.nil m))) λm' r r' _ B=>.panic (.iface _ (.ptr B.1))
theorem PD(B:VR m v v'):gU P VR m (aL v) (aL v'):=by
 cases B<;>first|exact .gW trivial|exact .panic (.iface _ ‹_›)|skip
 unfold aL Instr.panicnil;simp only[bind_assoc];refine gU.env λr=>?_;cases r<;>first|exact .gW trivial|skip
 refine gU.program ?_;exact ig (λ_=>.panic .nilIface) (λ_=>Hn)
end
end
section
variable {a a' b b':Addr} {α γ δ σ:Type}
def qg(P:Program):Nat->bs->Bool
 |0,_=>true
 |d+1,t=>match P.underlying t with
  |some (.pointer _)|some .unsafePointer|some (.interface _)=>false
  |some (.struct B)=>B.all λf=>qg P d f.type
  |some (.array _ e)=>qg P d e
  |_=>true
def jY(m:Ren):Prop:=∀r,¬m.loose r
theorem jY.mono{m m':Ren}(h:m.Le m')(x:jY m):jY m':=λr B=>x r (h.less r B)
section
variable {P:Program} {m:Ren}
theorem xm{RB:Ren->γ->δ->Prop}(D:jY m)(B:AR m a a'){f:Bool->Sem γ}{f':Bool->Sem δ}(h:∀b,gU P RB m (f b) (f' b)):gU P RB m (bC a >>= f) (bC a' >>= f'):=by
 unfold bC;simp only[bind_assoc];refine pD B (D _) λx=>?_;cases x
 .refine mz B.blk λy=>?_
  cases y with
  |none=>exact h _
  |some z=>exact pD (.mk B.blk) (D _) λb=>h b
 .exact h _
theorem An{RB:Ren->γ->δ->Prop}(B:jY m)(D:AR m a a')(hb:AR m b b'){f:Bool->Sem γ}{f':Bool->Sem δ}(h:∀b,gU P RB m (f b) (f' b)):gU P RB m (bG a b >>= f) (bG a' b' >>= f'):=by
 unfold bG;simp only[bind_assoc];exact xm B D λsa=>xm B hb λO=>mz D.blk λx=>mz hb.blk λy=>h _
theorem AN(D:jY m)(B:AR m a a')(hb:AR m b b'):gU P ym m (bE a b) (bE a' b'):=by
 unfold bE;have O:(a.block==b.block)=(a'.block==b'.block):=by rw[cb]; simp only[beq_iff_eq]; exact B.tr hb
 have U:(a==b)=(a'==b'):=by rw[cb]; simp only[beq_iff_eq]; exact B.eq_iff hb
 dsimp only;rw[O,U];refine ig (λ_=>.pure rfl) (λ_=>?_);refine pD B (D _) λx=>?_;exact pD hb (D _) λy=>ig (λ_=>.gW trivial) (λ_=>sD B (sD hb (An D B hb λx=>ig (λ_=>jU λn=>.pure rfl) (λ_=>.pure rfl))))
theorem iF{RB:Ren->γ->δ->Prop}(B:AR m a a'){f:Addr×Bool->Sem γ}{f':Addr×Bool->Sem δ}(h:∀p D l,AR m p D->gU P RB m (f (p,l)) (f' (D,l))) :
  gU P RB m (b7 a >>= f) (b7 a' >>= f'):=by
 unfold b7 b9;simp only[bind_assoc];refine mz B.blk λx=>?_
 cases x with
 |some y=>exact h _ _ _ B
 |none=>
  refine jB B.blk λo o' O=>?_
  cases O with
  |number l U=>exact h _ _ _ U
  |_=>exact h _ _ _ B
theorem sf{f f':α->σ->Sem (ForInStep σ)}:∀(l:List α)(s:σ)(m':Ren),m.Le m'->(∀m' a s,a∈l->m.Le m'->gU P ym m' (f a s) (f' a s))->gU P ym m' (forIn l s f) (forIn l s f')
 |[],s,m',_,_=>by simp only[cu]; exact .pure rfl
 |a::l,s,m',U,h=>by
  simp only[ct];refine hU (h m' a s (by simp) U) λB x y D O=>?_;cases O
  cases x with
  |done b=>exact .pure rfl
  |yield b=>exact sf l b B (U.trans D) λW a s Y=>h W a s (by simp[Y])
theorem qB{f f':α->σ->Sem (ForInStep σ)}(xs:Array α)(s:σ)(h:∀m' a s,a∈xs.toList->m.Le m'->gU P ym m' (f a s) (f' a s)):gU P ym m (forIn xs s f) (forIn xs s f'):=by
 rw[<-bd,<-bd];exact sf _ s m (.refl m) h
theorem qH{f f':Nat->σ->Sem (ForInStep σ)}(n:Nat)(s:σ)(h:∀m' a s,m.Le m'->gU P ym m' (f a s) (f' a s)):gU P ym m (forIn [:n] s f) (forIn [:n] s f'):=by
 rw[c9,c9];exact sf _ s m (.refl m) λB a s _=>h B a s
theorem Lg{RB:Ren->γ->δ->Prop}{t:bs}{f:String->Sem γ}{f':String->Sem δ}(h:∀n,gU P RB m (f n) (f' n)):gU P RB m (bH t >>= f) (bH t >>= f'):=by
 unfold bH;simp only[bind_assoc];refine iw λB _=>?_;split
 .exact .gW trivial
 .exact h _
theorem SD(B:AR m a a')(hb:AR m b b'):(a==b)=(a'==b'):=by rw[cb]; simp only[beq_iff_eq]; exact B.eq_iff hb
theorem qW:∀(d:Nat)(m:Ren)(t:bs){x x' y y':Value},m.G=P.globals.size->VR m x x'->VR m y y'->jY m\/qg P d t=true->gU P ym m (bQ d t x y) (bQ d t x' y')
 |0,m,t,_,_,_,_,_,_,_,_=>.gW trivial
 |d+1,m,t,x,x',y,y',hG,U,D,B=>by
  unfold bQ
  refine gX λde hd=>?_
  cases de with
  |bool=>cases U<;>first|exact .gW trivial|(cases D<;>first|exact .gW trivial|exact .pure rfl)
  |string=>cases U<;>first|exact .gW trivial|(cases D<;>first|exact .gW trivial|exact .pure rfl)
  |int k=>
   cases U with
   |int k n=>
    cases D with
    |int k' n'=>exact ig (λ_=>.pure rfl) (λ_=>.gW trivial)
    |ptr ha=>
     cases n with
     |ofNat n=>cases n<;>first|exact .pure rfl|exact .gW trivial
     |negSucc n=>exact .gW trivial
    |_=>exact .gW trivial
   |ptr ha=>
    cases D with
    |int k' n'=>
     cases n' with
     |ofNat n=>cases n<;>first|exact .pure rfl|exact .gW trivial
     |negSucc n=>exact .gW trivial
    |ptr hb=>
     refine iF ha λp p' l hp=>iF hb λq q' l' hq=>kD ?_
     have e1:(p.block==q.block)=(p'.block==q'.block):=by rw[cb]; simp only[beq_iff_eq]; exact hp.tr hq
     have e2:(p==q)=(p'==q'):=by rw[cb]; simp only[beq_iff_eq]; exact hp.eq_iff hq
     have e3:decide (p.block<P.globals.size)=decide (p'.block<P.globals.size):=by rw[<-hG]; exact decide_eq_decide.2 (m.qG _ _ hp.blk)
     rw[e1,e2,e3];refine ig (λ_=>?_) (λ_=>iw λti _=>?_)
     .refine hU (pY hp) λm' x y W h=>?_;cases h;refine hU (pY (hq.mono W)) λad x' y' W h=>?_;cases h;exact .pure rfl
     .split
      .exact ig (λ_=>.pure rfl) (λ_=>.gW trivial)
      .exact .gW trivial
    |_=>exact .gW trivial
   |ku=>exact .gW trivial
   |_=>cases D<;>exact .gW trivial
  |pointer e=>
   cases U with
   |ku=>cases D<;>first|exact .gW trivial|exact .pure rfl
   |ptr ha=>
    cases D with
    |ku=>exact .pure rfl
    |ptr hb=>
     rcases B with B|B
     .refine iT λn=>ig (λ_=>AN B ha hb) (λ_=>?_);rw[SD ha hb];exact ig (λ_=>.pure rfl) (λ_=>jU λn=>.pure rfl)
     .simp[qg,hd]at B
    |_=>exact .gW trivial
   |_=>exact .gW trivial
  |interface ms=>
   cases U with
   |nilIface=>cases D<;>first|exact .gW trivial|exact .pure rfl
   |iface tx ab=>
    cases D with
    |nilIface=>exact .pure rfl
    |iface ty ac=>
     rcases B with B|B
     .refine ig (λ_=>.pure rfl) (λae=>iw λti _=>ig (λ_=>kD (kD ?_)) (λ_=>qW d m tx hG ab ac (.inl B)));dsimp only;exact ig (λ_=>.gW trivial) (λ_=>Lg λn=>jm (e:=.error _) trivial)
     .simp[qg,hd]at B
    |_=>exact .gW trivial
   |_=>exact .gW trivial
  |struct fs=>
   cases U<;>first|exact .gW trivial|(cases D<;>first|exact .gW trivial|skip)
   rename_i h1 Y c c' h3 h4
   have aa:∀f∈fs.toList,jY m\/qg P d f.type=true:=by
    intro f hf;rcases B with B|B
    .exact .inl B
    .right;simp only[qg,hd,bf]at B;exact B f (by simpa using hf)
   refine kD ?_;dsimp only;refine ig (λ_=>.gW trivial) (λ_=>?_);refine hU (RA:=ym) (qB _ _ λm' f s hf W=>ig (λ_=>?_) (λ_=>.pure rfl)) λm' a b _ O=>?_
   .refine hU (pe ((iI.kG h1 Y).mono W) _) λm1 u u' l1 hu=>hU (pe ((iI.kG h3 h4).mono (W.trans l1)) _) λm2 v v' l2 hv=>?_;have l3:=(W.trans l1).trans l2;refine hU (qW d m2 _ (by rw[l3.G,hG]) (hu.mono l2) hv ((aa f hf).imp (λx=>x.mono l3) id)) λm3 a b _ O=>?_;cases O;exact ig (λ_=>.pure rfl) (λ_=>.pure rfl)
   .cases O;obtain⟨o,_⟩:=a;cases o<;>exact .pure rfl
  |array n e=>
   cases U<;>first|exact .gW trivial|(cases D<;>first|exact .gW trivial|skip)
   rename_i h1 Y c c' h3 h4
   have aa:jY m\/qg P d e=true:=by
    rcases B with B|B
    .exact .inl B
    .right;simpa only[qg,hd]using B
   refine iT λsz=>?_;refine hU (RA:=ym) (qH _ _ λm' i s W=>?_) λm' a b _ O=>?_
   .refine hU (pe ((iI.kG h1 Y).mono W) _) λm1 u u' l1 hu=>hU (pe ((iI.kG h3 h4).mono (W.trans l1)) _) λm2 v v' l2 hv=>?_;have l3:=(W.trans l1).trans l2;refine hU (qW d m2 _ (by rw[l3.G,hG]) (hu.mono l2) hv (aa.imp (λx=>x.mono l3) id)) λm3 a b _ O=>?_;cases O;exact ig (λ_=>.pure rfl) (λ_=>.pure rfl)
   .cases O;obtain⟨o,_⟩:=a;cases o<;>exact .pure rfl
  |slice e=>cases U<;>first|exact .gW trivial|(cases D<;>first|exact .gW trivial|exact .pure rfl)
  |map k e=>cases U<;>first|exact .gW trivial|(cases D<;>first|exact .gW trivial|exact .pure rfl)
  |func a b c=>cases U<;>first|exact .gW trivial|(cases D<;>first|exact .gW trivial|exact .pure rfl)
  |unsafePointer=>
   rcases B with B|B
   .cases U<;>first|exact .gW trivial|(cases D<;>first|exact .gW trivial|exact .pure rfl|exact AN B ‹_› ‹_›)
   .simp[qg,hd]at B
  |chan a b=>
   cases U<;>first|exact .gW trivial|(cases D<;>first|exact .gW trivial|exact .pure rfl|skip)
   rename_i r r' h1 s s' Y;refine .pure ?_;show((some r==some s)=(some r'==some s'));rw[cb];simp only[beq_iff_eq,cw];constructor
   .intro e; subst e; rw[h1]at Y; cases Y; rfl
   .intro e; subst e; exact m.wD _ _ _ h1 Y
  |_=>cases U<;>exact .gW trivial
end
end
section
variable {γ:Type} {d:TypeDesc} {t:bs} {a a' b b' k k' x x':Value}
def s7(P:Program):Nat->bs->Bool
 |0,_=>true
 |d+1,t=>match P.underlying t with
  |some (.interface _)=>false
  |some (.struct B)=>B.all λf=>s7 P d f.type
  |some (.array _ e)=>s7 P d e
  |_=>true
section
variable {P:Program} {m:Ren}
theorem qc(b:Bool):∀(n:Nat)(m:Ren)(t:bs){v v':Value},VR m v v'->s7 P n t=true->gU P zi m (a0 b n t v) (a0 b n t v')
 |0,m,t,_,_,_,_=>.gW trivial
 |n+1,m,t,v,v',hv,B=>by
  unfold a0;refine gX λd D=>?_
  cases d with
  |interface ms=>simp[s7,D]at B
  |struct fs=>
   simp only[s7,D,bf]at B;cases hv<;>first|exact .gW trivial|skip
   rename_i O U;refine(hU (RA:=ym) (qB _ _ λm' f s hf W=>ig (λ_=>?_) (λ_=>.pure rfl)) λ_ _ _ _ _=>.pure trivial);refine hU (pe ((iI.kG O U).mono W) _) λY u u' l1 hu=>hU (qc b n Y _ hu (B f (by simpa using hf))) λ_ _ _ _ _=>.pure rfl
  |array l e=>
   simp only[s7,D]at B;cases hv<;>first|exact .gW trivial|skip
   rename_i O U;refine(hU (RA:=ym) (qH _ _ λm' i s W=>iT λsz=>?_) λ_ _ _ _ _=>.pure trivial);refine hU (pe ((iI.kG O U).mono W) _) λY u u' l1 hu=>hU (qc b n Y _ hu B) λ_ _ _ _ _=>.pure rfl
  |_=>exact .pure trivial
def Hs(m:Ren):Option (Nat×Value)->Option (Nat×Value)->Prop:=oq λx y=>y.1=x.1/\VR m x.2 y.2
theorem vk(O:∀m',m.Le m'->jY m'\/qg P bO t=true)(U:m.G=P.globals.size)(W:VR m k k'):∀{es es':List MapEntry}(i:Nat)(m':Ren),m.Le m'->iu (tM m) es es'->gU P Hs m' (ay t k es i) (ay t k' es' i)
 |_,_,_,m',_,.nil=>by unfold ay; exact .pure .none
 |_,_,i,m',B,.cons Y h=>by
  unfold ay;refine hU (qW _ m' t (by rw[B.G,U]) (W.mono B) (Y.key.mono B) (O m' B)) λm2 a b l2 D=>?_;cases D;exact ig (λ_=>.pure (.some ⟨rfl,Y.val.mono (B.trans l2)⟩)) (λ_=>vk O U W (i+1) m2 (B.trans l2) h)
theorem Kw(B:VR m k k')(D:VR m x x')(b:Bool)(h:aw d k x=some b):aw d k' x'=some b:=by
 cases d with
 |bool=>
  cases B with
  |bool c=>cases D with|bool e=>exact h|_=>cases(h:(none:Option Bool)=some b)
  |_=>cases(h:(none:Option Bool)=some b)
 |int j=>
  cases B with
  |int c n=>cases D with|int e O=>exact h|_=>cases(h:(none:Option Bool)=some b)
  |_=>cases(h:(none:Option Bool)=some b)
 |string=>
  cases B with
  |string c=>cases D with|string e=>exact h|_=>cases(h:(none:Option Bool)=some b)
  |_=>cases(h:(none:Option Bool)=some b)
 |_=>cases(h:(none:Option Bool)=some b)
theorem CF(U:P.underlying t=some d)(D:VR m k k')(O:VR m x x')(h:aw d k x=none){b:Bool}(h':aw d k' x'=some b):iE P (bP t k x):=by
 have key:∀{γ:Type}(f:TypeDesc->Sem γ),iE P (f d)->iE P (bw t >>= f):=by
  intro γ f W;show iE P ((match P.underlying t with|some d=>pure d|none=>stuck _) >>= f);rw[U]; exact W
 unfold bP bO bQ
 cases d with
 |bool=>
  cases D with
  |bool c=>cases O with
   |bool e=>cases(h:some _=none)
   |jC v B=>exact key _ trivial
   |_=>cases(h':(none:Option Bool)=some b)
  |jC v B=>exact key _ trivial
  |_=>cases(h':(none:Option Bool)=some b)
 |int j=>
  cases D with
  |int c n=>cases O with
   |int e Y=>rw[show aw (.int j) (.int c n) (.int e Y)=some b from h']at h; cases h
   |jC v B=>exact key _ trivial
   |_=>cases(h':(none:Option Bool)=some b)
  |jC v B=>exact key _ (by cases x<;>trivial)
  |_=>cases(h':(none:Option Bool)=some b)
 |string=>
  cases D with
  |string c=>cases O with
   |string e=>cases(h:some _=none)
   |jC v B=>exact key _ trivial
   |_=>cases(h':(none:Option Bool)=some b)
  |jC v B=>exact key _ trivial
  |_=>cases(h':(none:Option Bool)=some b)
 |_=>cases(h':(none:Option Bool)=some b)
theorem EB(B:P.underlying t=some d)(h:aw d k x=some false)(f:Bool->Sem γ)(D:iE P (f false)):iE P (bP t k x >>= f):=by
 have key:∀(g:TypeDesc->Sem Bool),g d=pure false->iE P ((bw t >>= g) >>= f):=by
  intro g O;show iE P (((match P.underlying t with|some d=>pure d|none=>stuck _) >>= g) >>= f);rw[B];show iE P (g d >>= f);rw[O]; exact D
 unfold bP bO bQ
 match d,k,x,h with
 |.bool,.bool a,.bool b,h=>exact key _ (by simp only[aw,cw]at h; simp[h])
 |.string,.string a,.string b,h=>exact key _ (by simp only[aw,cw]at h; simp[h])
 |.int j,.int k a,.int k' b,h=>
  refine key _ ?_;simp only[aw]at h;split at h
  .simp only[cw]at h
   rename_i e;simp[e,h]
  .cases h
theorem BL(B:P.underlying t=some d)(D:VR m k k'):∀{es es':List MapEntry}(i:Nat),iu (tM m) es es'->
  (∀r,az d k es i=some r->∃r',az d k' es' i=some r'/\Hs m r r')/\(az d k es i=none->az d k' es' i=none\/∀j,iE P (ay t k es j))
 |_,_,i,.nil=>by
  unfold az
  exact⟨λr h=>by cases h; exact⟨_,rfl,.none⟩,λh=>by cases h⟩
 |e::es,e'::es',i,.cons O h=>by
  obtain⟨U,W⟩:=BL B D (i+1) h
  unfold az
  cases Y:aw d k e.key with
  |some b=>
   rw[Kw D O.key b Y]
   cases b with
   |true=>exact⟨λr h=>by cases h; exact⟨_,rfl,.some ⟨rfl,O.val⟩⟩,λh=>by cases h⟩
   |false=>
    refine⟨U,λhn=>(W hn).imp id λhD j=>?_⟩;unfold ay;exact EB B Y _ (hD _)
  |none=>
   refine⟨(λr h=>by cases h),λ_=>?_⟩
   cases aa:aw d k' e'.key with
   |none=>exact .inl rfl
   |some b=>
    refine .inr λj=>?_;unfold ay;exact(CF B D O.key Y aa).bind
theorem wq(O:jY m\/qg P bO t=true)(U:m.G=P.globals.size)(B:VR m k k'){es es':List MapEntry}(h:iu (tM m) es es'):gU P Hs m (a1 t k es) (a1 t k' es'):=by
 unfold a1;refine gX λd W=>?_;obtain⟨Y,h2⟩:=BL W B 0 h
 cases D:az d k es 0 with
 |some r=>
  obtain⟨r',e,hr⟩:=Y r D;rw[e];exact .pure hr
 |none=>
  rcases h2 D with e|hD
  .rw[e];exact vk (λm' hl=>O.imp (λx=>x.mono hl) id) U B 0 m (.refl m) h
  .exact .gW (hD 0)
theorem MH(W:oJ P)(Y:m.G=P.globals.size)(hK:∀k e,P.underlying t=some (.map k e)->s7 P 10000 k=true/\(jY m\/qg P bO k=true)){i i':Value}(hx:VR m x x')(hi:VR m i i')(b:Bool):gU P VR m (aI t x i b) (aI t x' i' b):=by
 unfold aI;refine gX λd hd=>?_;cases d<;>first|exact .gW trivial|skip
 rename_i k e;obtain⟨O,U⟩:=hK k e hd;dsimp only
 have fin:∀{es es':Array MapEntry},iu (tM m) es.toList es'.toList->gU P VR m
   (do a0 es.isEmpty 10000 k i; match <-a1 k i es.toList with|some (_,v)=>(do let y <-pure (v,true); match y with|(v,ok)=>pure (if b=true then .tuple #[v,.bool ok]else v))|none=>(do let z <-bt e; let y <-pure (z,false); match y with|(v,ok)=>pure (if b=true then .tuple #[v,.bool ok]else v)))
   (do a0 es'.isEmpty 10000 k i'; match <-a1 k i' es'.toList with|some (_,v)=>(do let y <-pure (v,true); match y with|(v,ok)=>pure (if b=true then .tuple #[v,.bool ok]else v))|none=>(do let z <-bt e; let y <-pure (z,false); match y with|(v,ok)=>pure (if b=true then .tuple #[v,.bool ok]else v))):=by
  intro es es' h
  have he:es.isEmpty=es'.isEmpty:=by
   have:=h.length;simp only[be]at this;simp[bi,this]
  rw[he];refine hU (qc _ _ m _ hi O) λm1 _ _ B _=>hU (wq (U.imp (λx=>x.mono B) id) (by rw[B.G,Y]) (hi.mono B) (h.mono λ_ _ x=>x.mono B)) λm2 r r' l2 hr=>?_
  have pr:∀(m':Ren)(v v':Value)(o:Bool),VR m' v v'->VR m' (if b=true then .tuple #[v,.bool o]else v) (if b=true then .tuple #[v',.bool o]else v'):=by
   intro m' v v' o D;split
   .exact .nO (.cons D (.cons (.bool _) .nil))
   .exact D
  cases hr with
  |none=>exact j6 W λz hz=>.pure (pr _ _ _ _ hz)
  |some D=>exact .pure (pr _ _ _ _ D.2)
 cases hx<;>first|exact .gW trivial|skip
 .exact fin .nil
 .rename_i hb;refine jB hb λo o' ho=>?_;cases ho<;>first|exact .gW trivial|exact fin ‹_›
 .exact .gone ‹_›
theorem G2:∀(n:Nat)(a b:Value),av n a b=true->a=b:=by
 intro n
 induction n with
 |zero=>
  intro a b h;unfold av at h;split at h
  .rw[eq_of_beq h]
  .simp only[ca,beq_iff_eq]at h; rw[h.1,h.2]
  .simp only[ca,beq_iff_eq]at h; rw[h.1,h.2]
  .simp only[ca,beq_iff_eq]at h; rw[h.1.1,h.1.2,h.2]
  .rw[(Go.MapKept.bytes_beq _ _).1 h]
  .rw[eq_of_beq h]
  .rw[eq_of_beq h]
  .rfl
  .rename_i e; cases e
  .rename_i e; cases e
  .cases h
 |succ n B=>
  intro a b h;unfold av at h;split at h
  .rw[eq_of_beq h]
  .simp only[ca,beq_iff_eq]at h; rw[h.1,h.2]
  .simp only[ca,beq_iff_eq]at h; rw[h.1,h.2]
  .simp only[ca,beq_iff_eq]at h; rw[h.1.1,h.1.2,h.2]
  .rw[(Go.MapKept.bytes_beq _ _).1 h]
  .rw[eq_of_beq h]
  .rw[eq_of_beq h]
  .rfl
  .rename_i e; cases e;simp only[ca,beq_iff_eq]at h;rw[h.1,B _ _ h.2]
  .rename_i x y e; cases e;simp only[ca,beq_iff_eq,cr]at h
   have:x=y:=by
    apply Array.ext h.1;intro i D O;refine B _ _ (h.2 (x[i],y[i]) ?_);rw[cq];exact⟨i,by simp[cp,D,O]⟩
   rw[this]
  .cases h
theorem tG(W:VR m a a')(hb:VR m b b'):(∀p q,a=.pointer p->b=.pointer q->∃B D,a'=.pointer B/\b'=.pointer D/\(p==q)=(B==D))/\(∀p q,a=.chan p->b=.chan q->∃B D,a'=.chan B/\b'=.chan D/\(p==q)=(B==D)):=by
 constructor
 .intro p q O U;subst O U
  cases W with
  |ku=>cases hb with
   |ku=>exact⟨_,_,rfl,rfl,rfl⟩
   |ptr h=>exact⟨_,_,rfl,rfl,rfl⟩
  |ptr h=>cases hb with
   |ku=>exact⟨_,_,rfl,rfl,rfl⟩
   |ptr h'=>exact⟨_,_,rfl,rfl,by rw[cb]; simp only[beq_iff_eq,cw]; exact h.eq_iff h'⟩
 .intro p q O U;subst O U
  cases W with
  |lO=>cases hb with
   |lO=>exact⟨_,_,rfl,rfl,rfl⟩
   |chan h=>exact⟨_,_,rfl,rfl,rfl⟩
  |chan h=>cases hb with
   |lO=>exact⟨_,_,rfl,rfl,rfl⟩
   |chan h'=>
    refine⟨_,_,rfl,rfl,?_⟩;rw[cb]; simp only[beq_iff_eq,cw];constructor
    .intro e; subst e; rw[h]at h'; cases h'; rfl
    .intro e; subst e; exact m.wD _ _ _ h h'
theorem Gf:∀(n:Nat){a b a' b':Value},VR m a a'->VR m b b'->av n a b=true->av n a' b'=true:=by
 intro n
 induction n with
 |zero=>
  intro a b a' b' B hb h;unfold av at h;split at h
  .cases B; cases hb; simpa[av]using h
  .cases B; cases hb; simpa[av]using h
  .cases B
  .cases B
  .cases B; cases hb; simpa[av]using h
  .obtain⟨U,W,rfl,rfl,e⟩:=(tG B hb).1 _ _ rfl rfl; rw[e]at h; simpa[av]using h
  .obtain⟨U,W,rfl,rfl,e⟩:=(tG B hb).2 _ _ rfl rfl; rw[e]at h; simpa[av]using h
  .cases B; cases hb; rfl
  .rename_i e; cases e
  .rename_i e; cases e
  .cases h
 |succ n ih=>
  intro a b a' b' B hb h;unfold av at h;split at h
  .cases B; cases hb; simpa[av]using h
  .cases B; cases hb; simpa[av]using h
  .cases B
  .cases B
  .cases B; cases hb; simpa[av]using h
  .obtain⟨U,W,rfl,rfl,e⟩:=(tG B hb).1 _ _ rfl rfl; rw[e]at h; simpa[av]using h
  .obtain⟨U,W,rfl,rfl,e⟩:=(tG B hb).2 _ _ rfl rfl; rw[e]at h; simpa[av]using h
  .cases B; cases hb; rfl
  .rename_i e; cases e
   cases B with
   |iface t Y=>cases hb with
    |iface u h2=>
     simp only[ca,beq_iff_eq]at h;simp only[av,ca,beq_iff_eq];exact⟨h.1,ih Y h2 h.2⟩
  .rename_i x y e; cases e
   cases B with
   |agg s1 Y=>cases hb with
    |agg s2 h2=>
     simp only[ca,beq_iff_eq,cr]at h;simp only[av,ca,beq_iff_eq,cr];refine⟨by rw[<-s1,<-s2]; exact h.1,λp hp=>?_⟩;rw[cq]at hp;obtain⟨i,hi⟩:=hp;simp only[cp,aZ]at hi;obtain⟨g1,g2⟩:=hi;obtain⟨k1,e1⟩:=aY.1 g1;obtain⟨k2,e2⟩:=aY.1 g2;have D:i<x.size:=by rw[s1]; exact k1
     have O:i<y.size:=by rw[s2]; exact k2
     rw[<-e1,<-e2];refine ih (Y i D k1) (h2 i O k2) (h.2 (x[i],y[i]) ?_);rw[cq];exact⟨i,by simp[cp,D,O]⟩
  .cases h
theorem Ax{δ:Type}{RB:Ren->γ->δ->Prop}(B:VR m a a')(hb:VR m b b'){f:Value->Sem γ}{f':Value->Sem δ}(U:∀v,jG (f v))(h:∀v v',VR m v v'->gU P RB m (f v) (f' v')) :
  nY P RB m (a3 a b >>= f) (a3 a' b' >>= f'):=by
 unfold a3;by_cases D:av 10000 a b=true
 .rw[if_pos D,if_pos (Gf _ B hb D)];exact .base (h _ _ hb)
 .rw[if_neg D];by_cases O:av 10000 a' b'=true
  .rw[if_pos O];have e:=G2 _ _ _ O;refine nY.SV (λn=>?_) (λn=>?_)
   .exact U _
   .show gU P RB m (f (if n=0 then b else a)) (f' b');split
    .exact h _ _ hb
    .exact h _ _ (e▸B)
  .rw[if_neg O];refine .base (gU.choose λn=>?_);show gU P RB m (f (if n=0 then b else a)) (f' (if n=0 then b' else a'));split
   .exact h _ _ hb
   .exact h _ _ B
end
end
section
variable {es es':Array MapEntry} {α β γ δ:Type} {i' k k' mp mp' v v':Value}
section
variable {P:Program} {m:Ren}
theorem jG.bind{s:Sem α}{f:α->Sem β}(h:jG s)(D:∀a,jG (f a)):jG (s.bind f):=by
 induction s with
 |pure a=>exact D a
 |load m a k B=>exact λv=>B v (h v)
 |store m a v k B=>exact B h
 |new o k B=>exact λv=>B v (h v)
 |shape r k B=>exact λv=>B v (h v)
 |freeze a n k B=>exact B h
 |frozen a k B=>exact λv=>B v (h v)
 |getObj r k B=>exact λv=>B v (h v)
 |setObj r o k B=>exact B h
 |choose q k B=>exact h.elim
 |sys c k B=>exact λv=>B v (h v)
 |program k B=>exact λv=>B v (h v)
 |mark m k B=>exact B h
 |halt x=>trivial
theorem nY.map{RA:Ren->α->β->Prop}{RB:Ren->γ->δ->Prop}{s:Sem α}{s':Sem β}{g:α->γ}{g':β->δ}(h:nY P RA m s s')(O:∀m' a b,m.Le m'->RA m' a b->RB m' (g a) (g' b)) :
  nY P RB m (s.bind λa=>.pure (g a)) (s'.bind λb=>.pure (g' b)):=by
 induction h with
 |base h=>exact .base (h.bind λm' a b B D=>.pure (O m' a b B D))
 |bind h _ ih=>
  rw[cm,cm];exact .bind h λm' a b B D=>ih m' a b B D λU c d W Y=>O U c d (B.trans W) Y
 |SV hd h=>exact .SV (λn=>(hd n).bind λ_=>trivial) λn=>(h n).bind λm' a b B D=>.pure (O m' a b B D)
theorem qk{RC:Ren->γ->δ->Prop}{RA:Ren->α->β->Prop}{s:Sem γ}{s':Sem δ}{f:γ->Sem α}{f':δ->Sem β}(h:gU P RC m s s')(B:∀m' a b,m.Le m'->RC m' a b->nY P RA m' (f a) (f' b)):nY P RA m (s >>= f) (s' >>= f'):=.bind h B
theorem vd{t:bs}:gU P (λ_ a b=>a=b/\P.underlying t=some a) m (bw t) (bw t):=by
 have:=gX (P:=P) (m:=m) (t:=t) (RB:=λ_ a b=>a=b/\P.underlying t=some a) (f:=pure) (f':=pure) λd B=>.pure ⟨rfl,B⟩;simpa using this
theorem Fj{r r':Nat}(hb:m.blk r=some r'):gU P OR m (getObj r) (getObj r'):=.getObj hb λ_ _ h=>.pure h
theorem AM(h:iu (tM m) es.toList es'.toList)(i:Nat){f f':MapEntry->MapEntry}(Y:∀e U,tM m e U->tM m (f e) (f' U)):iu (tM m) (es.modify i f).toList (es'.modify i f').toList:=by
 refine iu.I5 (by simpa using h.length) λj a b B hb=>?_;simp only[aZ,bb]at B hb;by_cases e:i=j
 .simp only[e,if_true,Option.map_eq_some_iff]at B hb;obtain⟨x,hx,rfl⟩:=B;obtain⟨y,W,rfl⟩:=hb;obtain⟨z,D,O⟩:=h.get (i:=j) (a:=x) (by simpa using hx);simp only[aZ]at D;rw[D]at W; cases W;exact Y _ _ O
 .simp only[e,if_false]at B hb;obtain⟨z,D,O⟩:=h.get (i:=j) (a:=a) (by simpa using B);simp only[aZ]at D;rw[D]at hb; cases hb;exact O
theorem uZ(h:iu (tM m) es.toList es'.toList){e B:MapEntry}(D:tM m e B):iu (tM m) (es.push e).toList (es'.push B).toList:=by
 simp only[bo];exact h.append (.cons D .nil)
theorem CA(h:iu (tM m) es.toList es'.toList)(i:Nat):oq (tM m) es[i]? es'[i]?:=by
 cases B:es[i]? with
 |none=>
  have:=h.get_none (i:=i) (by simpa using B);simp only[aZ]at this;rw[this]; exact .none
 |some x=>
  obtain⟨y,D,O⟩:=h.get (i:=i) (a:=x) (by simpa using B);simp only[aZ]at D;rw[D]; exact .some O
theorem pF{c:Nat}:∀x y z,Obj.map es c≠.cells x y z:=λ_ _ _ h=>by cases h
theorem E6(hG:m.G=P.globals.size){t:bs}(hK:∀k e,P.underlying t=some (.map k e)->s7 P 10000 k=true/\(jY m\/qg P bO k=true))(hm:VR m mp mp')(U:VR m k k')(hv:VR m v v') :
  nY P zi m (a9 t mp k v) (a9 t mp' k' v'):=by
 unfold a9;refine qk vd λm1 d d' l1 hd=>?_;obtain⟨rfl,hd⟩:=hd;cases d<;>first|exact .base (.gW trivial)|skip
 rename_i kt et;obtain⟨ab,ac⟩:=hK kt et hd;have hm:=hm.mono l1;cases hm<;>first|exact .base (.gW trivial)|exact .base (jm (e:=.plain _) trivial)|skip
 case map.gone=>exact .base (.gone ‹_›)
 rename_i r r' hb;refine qk (Fj hb) λm2 o o' l2 ho=>?_;have ad:=l2.blk _ _ hb;cases ho<;>first|exact .base (.gW trivial)|skip
 rename_i es es' clock W;have Y:=l1.trans l2;refine qk (qc _ _ m2 _ (U.mono Y) ab) λm3 _ _ l3 _=>?_;have O:=Y.trans l3;refine qk (wq (ac.imp (λx=>x.mono O) id) (by rw[O.G,hG]) (U.mono O) (W.mono λ_ _ x=>x.mono l3)) λm4 a b l4 ae=>?_;have B:=O.trans l4;have D:iu (tM m4) es.toList es'.toList:=W.mono λ_ _ x=>x.mono (l3.trans l4);have aa:=(l3.trans l4).blk _ _ ad
 cases ae with
 |none=>exact .base (rF aa (.map _ (uZ D ⟨U.mono B,hv.mono B,rfl⟩)) pF)
 |some hx=>
  rename_i x y;obtain⟨i,u⟩:=x;obtain⟨i',u'⟩:=y;obtain⟨hi,_⟩:=hx;simp only at hi;subst hi;refine Ax ?_ (U.mono B) (λ_=>trivial) λq q' hq=>rF aa (.map _ (AM D _ λe e' he=>⟨hq,hv.mono B,he.born⟩)) pF;have:=CA D i';revert this;generalize es[i']?=p;generalize es'[i']?=p';intro hp
  cases hp with
  |none=>exact U.mono B
  |some he=>exact he.key
theorem Ig(hP:oJ P)(hG:m.G=P.globals.size){t:bs}(hK:∀k e,P.underlying t=some (.map k e)->s7 P 10000 k=true/\(jY m\/qg P bO k=true))(hm:VR m mp mp')(W:VR m k k') :
  nY P VR m (aB t mp k) (aB t mp' k'):=by
 unfold aB;refine qk vd λm1 d d' l1 hd=>?_;obtain⟨rfl,hd⟩:=hd;cases d<;>first|exact .base (.gW trivial)|skip
 rename_i kt et;obtain⟨ac,ad⟩:=hK kt et hd;have hm:=hm.mono l1;cases hm<;>first|exact .base (.gW trivial)|exact .base (jm (e:=.plain _) trivial)|skip
 case map.gone=>exact .base (.gone ‹_›)
 rename_i r r' hb;refine qk (Fj hb) λm2 o o' l2 ho=>?_;have ae:=l2.blk _ _ hb;cases ho<;>first|exact .base (.gW trivial)|skip
 rename_i es es' clock Y;have aa:=l1.trans l2;refine qk (qc _ _ m2 _ (W.mono aa) ac) λm3 _ _ l3 _=>?_;have D:=aa.trans l3;refine qk (wq (ad.imp (λx=>x.mono D) id) (by rw[D.G,hG]) (W.mono D) (Y.mono λ_ _ x=>x.mono l3)) λm4 a b l4 af=>?_;have O:=D.trans l4;have B:iu (tM m4) es.toList es'.toList:=Y.mono λ_ _ x=>x.mono (l3.trans l4);have ab:=(l3.trans l4).blk _ _ ae
 cases af with
 |none=>exact .base (j6 hP λz hz=>mB ab (.map _ (uZ B ⟨W.mono O,hz,rfl⟩)) pF (.pure (.nO (.cons hz (.cons (.int _ _) .nil)))))
 |some hx=>
  rename_i x y;obtain⟨i,u⟩:=x;obtain⟨i',u'⟩:=y;obtain⟨hi,hu⟩:=hx;simp only at hi;subst hi;have hg:=CA B i';refine Ax ?_ (W.mono O) (λ_=>trivial) λq q' hq=>mB ab (.map _ (AM B _ λe e' U=>⟨hq,U.val,U.born⟩)) pF (.pure (.nO (.cons hu (.cons ?_ .nil))))
  .revert hg;generalize es[i']?=p;generalize es'[i']?=p';intro hp
   cases hp with
   |none=>exact W.mono O
   |some U=>exact U.key
  .revert hg;generalize es[i']?=p;generalize es'[i']?=p';intro hp
   cases hp with
   |none=>exact .int _ _
   |some U=>show VR m4 _ (goInt _); rw[cB,cB,cA,cA,U.born]; exact .int _ _
theorem Kg{es es':List MapEntry}(h:iu (tM m) es es')(p:Nat->Bool):es.findIdx? (λe=>p e.born)=es'.findIdx? (λe=>p e.born):=by
 induction h with
 |nil=>rfl
 |cons B _ D=>simp only[List.findIdx?_cons,B.born,D]
theorem D5{t:bs}{s s':Value}(hm:VR m mp mp')(O:VR m s s')(U:VR m v v'):gU P zi m (a7 t mp s v) (a7 t mp' s' v'):=by
 unfold a7;cases hm<;>first|exact .gW trivial|skip
 case gone=>exact .gone ‹_›
 rename_i r r' hb;refine jB hb λo o' W=>?_;cases W<;>first|exact .gW trivial|skip
 rename_i es es' clock B;refine m9 O λn=>?_
 have e:es.findIdx? (λe=>(e.born:Int)==n)=es'.findIdx? (λe=>(e.born:Int)==n):=by
  have:=Kg B (λb=>(b:Int)==n);obtain⟨a⟩:=es;obtain⟨a'⟩:=es';simpa using this
 rw[e];split
 .exact rF hb (.map _ (AM B _ λe Y D=>⟨D.key,U,D.born⟩)) pF
 .exact .gW trivial
theorem Rt{es es':List MapEntry}(h:iu (tM m) es es')(p:Nat->Bool):oq (tM m) (es.find? λe=>p e.born) (es'.find? λe=>p e.born):=by
 induction h with
 |nil=>exact .none
 |cons B _ D=>
  simp only[List.find?_cons,B.born];split
  .exact .some B
  .exact D
theorem QJ{i:Value}(h:VR m i i'):gU P VR m (aO i) (aO i'):=by
 unfold aO;cases h<;>first|exact .gW trivial|skip
 rename_i W
 cases W with
 |@mk b b' o s hb=>
 cases o<;>first|exact .gW trivial|skip
 refine jB hb λo o' D=>?_;cases D<;>first|exact .gW trivial|skip
 rename_i r r' x y z hm;dsimp only
 cases y.back? with
 |none=>exact .gW trivial
 |some B=>
  refine jB hm λo o' D=>?_;cases D<;>first|exact .gW trivial|skip
  rename_i es es' clock O;dsimp only;split
  .exact .gW trivial
  .have:=Rt O (λb=>b==B);simp only[Array.find?_toList]at this;revert this;generalize es.find? _=p;generalize es'.find? _=p';intro Y
   cases Y with
   |none=>exact .gW trivial
   |some U=>exact .pure (.nO (.cons U.key (.cons U.val .nil)))
theorem zP{es es':List MapEntry}(h:iu (tM m) es es')(p:Nat->Bool):iu (tM m) (es.filter λe=>p e.born) (es'.filter λe=>p e.born):=by
 induction h with
 |nil=>exact .nil
 |cons B _ D=>
  simp only[List.filter_cons,B.born];split
  .exact .cons B D
  .exact D
theorem Ts{es es':List MapEntry}(h:iu (tM m) es es')(p:Nat->Bool):es.all (λe=>p e.born)=es'.all (λe=>p e.born):=by
 induction h with
 |nil=>rfl
 |cons B _ D=>simp only[List.all_cons,B.born,D]
def Bt(bz:Array Nat)(B:Nat)(es:Array MapEntry):Array (Option MapEntry):=
 (if(ba (λx=>decide (x.born<B)) (ba (λe=>!bz.contains e.born) es)).isEmpty=true then #[none]else #[]) ++
  bh some (ba (λx=>decide (x.born<B)) (ba (λe=>!bz.contains e.born) es)++ba (λx=>decide (x.born ≥ B)) (ba (λe=>!bz.contains e.born) es))
theorem Sj(bz:Array Nat)(B:Nat)(h:iu (tM m) es.toList es'.toList):iu (oq (tM m)) (Bt bz B es).toList (Bt bz B es').toList:=by
 have D:=zP h (λb=>!bz.contains b);have O:=zP D (λb=>decide (b<B));have U:=zP D (λb=>decide (b ≥ B));unfold Bt
 have e:(ba (λx=>decide (x.born<B)) (ba (λe=>!bz.contains e.born) es)).isEmpty=(ba (λx=>decide (x.born<B)) (ba (λe=>!bz.contains e.born) es')).isEmpty:=by
  have:=O.length;simp only[<-bk,be]at this;simp only[bi,this]
 rw[e];simp only[bl,bg,bk];refine iu.append ?_ (iu.map (λa b h=>.some h) (iu.append O U));split
 .exact .cons .none .nil
 .exact .nil
theorem RI{i:Value}(h:VR m i i')(b:Bool)(t:bs):gU P VR m (aR i b t) (aR i' b t):=by
 unfold aR;cases h<;>first|exact .gW trivial|skip
 rename_i ha
 cases ha with
 |@mk c c' o s hb=>
 cases o<;>first|exact .gW trivial|skip
 dsimp only;refine jB hb λo o' O=>?_;cases O<;>cases b<;>first|exact .gW trivial|skip
 .dsimp only;refine ig (λ_=>mB hb (.stringIter _ _) (λ_ _ _ h=>by cases h) (.pure (.nO (.cons (.bool _) (.cons (.int _ _) (.cons (.int _ _) .nil)))))) (λ_=>.pure (.nO (.one (.bool _))))
 .exact .pure (.nO (.one (.bool _)))
 .rename_i r r' B bz last hm;refine jB hm λo o' O=>?_;cases O<;>first|exact .gW trivial|skip
  rename_i es es' clock D;have W:=D.length;simp only[be]at W;have e1:es.isEmpty=es'.isEmpty:=by simp only[bi,W]
  have e2:es.all (λx=>decide (x.born ≥ last))=es'.all (λx=>decide (x.born ≥ last)):=by
   have:=Ts D (λb=>decide (b ≥ last));rw[<-bq,<-bq]; exact this
  dsimp only;rw[e1,e2];refine ig (λ_=>.gW trivial) (λ_=>?_)
  change gU P VR m (choose (.mapNext (Bt bz B es).size) >>= λn=>match (Bt bz B es)[n]? with
    |some (some e)=>(do setObj c (.mapIter (some r) B (bz.push e.born) clock); pure (.tuple #[.bool true,e.key,e.val]))
    |some none=>pure (.tuple #[.bool false])
    |none=>stuck "Next: no such candidate")
   (choose (.mapNext (Bt bz B es').size) >>= λn=>match (Bt bz B es')[n]? with
     |some (some e)=>(do setObj c' (.mapIter (some r') B (bz.push e.born) clock); pure (.tuple #[.bool true,e.key,e.val]))
     |some none=>pure (.tuple #[.bool false])
     |none=>stuck "Next: no such candidate")
  have Y:=Sj bz B D;have e3:(Bt bz B es).size=(Bt bz B es').size:=by simpa using Y.length
  rw[e3];refine jU λn=>?_
  cases hn:(Bt bz B es)[n]? with
  |none=>exact .gW trivial
  |some x=>
   obtain⟨y,hy,hr⟩:=Y.get (i:=n) (a:=x) (by simpa using hn);simp only[aZ]at hy;rw[hy]
   cases hr with
   |none=>exact .pure (.nO (.one (.bool _)))
   |some U=>
    dsimp only;rw[U.born];exact mB hb (.mapIter _ _ _ hm) (λ_ _ _ h=>by cases h) (.pure (.nO (.cons (.bool _) (.cons U.key (.cons U.val .nil)))))
end
end
section
variable {a':Addr} {r r':Nat} {x x' y y':Value}
section
variable {P:Program} {m:Ren}
theorem Ep(O:oJ P)(U:VR m x x')(t u:bs):gU P VR m (a5 x t u true) (a5 x' t u true):=by
 have B:gU P VR m (do pure (.tuple #[<-bt u,.bool false])) (do pure (.tuple #[<-bt u,.bool false])):=
  j6 O λz W=>.pure (.nO (.cons W (.cons (.bool _) .nil)))
 unfold a5;dsimp only;refine gX λd hd=>?_
 cases U with
 |nilIface=>cases d<;>exact B
 |iface s D=>
  cases d
  case interface ms=>
   refine iw λY _=>?_
   cases Instr.missingMethod ms Y.methods with
   |none=>exact .pure (.nO (.cons (.iface _ D) (.cons (.bool _) .nil)))
   |some _=>exact B
  all_goals exact ig (λ_=>.pure (.nO (.cons D (.cons (.bool _) .nil)))) (λ_=>B)
 |_=>cases d<;>exact .gW trivial
theorem A9(op:BinOp)(k:IntKind)(a b:Int):gU P VR m (bT op k a b) (bT op k a b):=by
 cases op<;>first|exact .gW trivial|exact .pure (.int _ _)
theorem C9(op:BinOp)(k:IntKind)(a b:Int):gU P VR m (bU op k a b) (bU op k a b):=by
 cases op<;>first|exact .gW trivial|exact .pure (.int _ _)
theorem N5(op:BinOp)(a b:Int):gU P VR m (bY op a b) (bY op a b):=by
 cases op<;>first|exact .gW trivial|exact .pure (.bool _)
theorem MQ(op:BinOp)(k:IntKind)(a b:Int):gU P VR m (bW op k a b) (bW op k a b):=by
 unfold bW;refine ig (λ_=>jm (e:=.error _) trivial) (λ_=>?_);cases op<;>first|exact .gW trivial|exact .pure (.int _ _)
theorem JQ(op:BinOp)(k j:IntKind)(a b:Int):gU P VR m (bX op k a j b) (bX op k a j b):=by
 unfold bX;refine ig (λ_=>jm (e:=.error _) trivial) (λ_=>?_);cases op<;>first|exact .gW trivial|exact .pure (.int _ _)
theorem Iu(op:BinOp)(a b:ByteArray):gU P VR m (bS op a b) (bS op a b):=by
 unfold bS;cases op<;>first|exact .gW trivial|exact .pure (.bool _)|exact ig (λ_=>.gW trivial) (λ_=>.pure (.string _))
theorem Qp(op:UnOp)(h:VR m x x'):gU P VR m (bZ op x) (bZ op x'):=by
 cases h<;>cases op<;>first|exact .gW trivial|exact .pure (.bool _)|skip
 .rename_i k n;show gU P VR m (bT .sub k 0 n) (bT .sub k 0 n);exact A9 _ _ _ _
 .rename_i k n;show gU P VR m (bU .xor k (if k.signed then -1 else k.max) n) (bU .xor k (if k.signed then -1 else k.max) n);exact C9 _ _ _ _
theorem M6{γ δ:Type}{RB:Ren->γ->δ->Prop}(hb:m.blk r=some r'){f:Option (Addr×bs)->Sem γ}{f':Option (Addr×bs)->Sem δ}(h:gU P RB m (f none) (f' none)):gU P RB m (bK r >>= f) (bK r' >>= f'):=by
 unfold bK;simp only[bind_assoc];refine mz hb λx=>?_
 cases x with
 |some y=>exact h
 |none=>
  refine jB hb λo o' B=>?_;cases B<;>exact h
def TB(m:Ren)(v v':Value):Prop:=∃a a',v=.pointer (some a)/\v'=.pointer (some a')/\AR m a a'
theorem sQ{a:Array bs}{t:bs}(O:VR m x x')(D:VR m y y'):gU P TB m (cd a t #[x,y]) (cd a t #[x',y']):=by
 cases O<;>first|exact .gW trivial|skip
 .refine m9 D λn=>?_;dsimp only;split
  .exact .gW trivial
  .split<;>exact .gW trivial
 .rename_i B;refine m9 D λn=>?_;dsimp only;split
  .refine M6 B.blk ?_;exact .pure ⟨_,_,rfl,rfl,B⟩
  .split
   .exact .gW trivial
   .refine mz B.blk λz=>?_
    cases z with
    |none=>exact .gW trivial
    |some z=>
     refine kD ?_
     cases B with
     |mk hb=>
     dsimp only;split
     .exact .pure ⟨_,_,rfl,rfl,.mk hb⟩
     .exact .gW trivial
theorem H'(hb:m.blk r=some r'):gU P (λm=>oq λx y=>AR m x.1 y.1/\y.2=x.2) m (b9 r) (b9 r'):=by
 unfold b9;refine mz hb λx=>?_
 cases x with
 |some y=>exact .pure .none
 |none=>
  refine jB hb λo o' B=>?_
  cases B with
  |number l D=>exact .pure (.some ⟨D,rfl⟩)
  |_=>exact .pure .none
theorem IR{a:Addr}(B:AR m a a')(l:Bool):gU P VR m (asNumber a l) (asNumber a' l):=
 gU.new (.number l B) (λ_ _ _ h=>by cases h) λm' r r' _ hb _=>.pure (.ptr (.mk hb))
theorem lU{t:bs}(D:VR m x x')(B:VR m y y'):gU P VR m (bA t x y) (bA t x' y'):=by
 unfold bA;refine gX λd Y=>?_;dsimp only;split
 .exact .gW trivial
 .cases D with
  |ptr O=>
   refine iF O λp p' l U=>?_;refine hU (sQ (.ptr U) B) λm' v v' hl W=>?_;obtain⟨b,b',rfl,rfl,hb⟩:=W;exact IR hb l
  |ku=>exact(sQ (a:=#[]) (t:=t) .ku B).mono λm' v v' _ h=>by obtain⟨b,b',rfl,rfl,hb⟩:=h; exact .ptr hb
  |_=>exact .gW trivial
theorem sT{t:bs}(D:VR m x x')(O:VR m y y'):gU P VR m (b6 t x y) (b6 t x' y'):=by
 have fin:∀m',m.Le m'->gU P VR m' (cd #[] t #[x,y]) (cd #[] t #[x',y']):=λm' B=>(sQ (D.mono B) (O.mono B)).mono λm' v v' _ h=>by obtain⟨b,b',rfl,rfl,hb⟩:=h; exact .ptr hb
 unfold b6
 cases D with
 |ptr U=>
  refine hU (H' U.blk) λm' o o' B W=>?_
  cases W with
  |none=>exact fin m' B
  |some _=>exact .gW trivial
 |jC v Y=>exact .gW trivial
 |_=>exact fin m (.refl m)
theorem xK{t:bs}(y:Value):iE P (bP t (.tuple #[]) y):=by
 unfold bP bO bQ;show iE P ((match P.underlying t with|some d=>pure d|none=>stuck _) >>= _)
 cases P.underlying t with
 |none=>trivial
 |some d=>cases d<;>first|trivial|(cases y<;>trivial)
theorem xC{t:bs}(x:Value):iE P (bP t x (.tuple #[])):=by
 unfold bP bO bQ;show iE P ((match P.underlying t with|some d=>pure d|none=>stuck _) >>= _)
 cases P.underlying t with
 |none=>trivial
 |some d=>cases d<;>first|trivial|(cases x<;>first|trivial|(rename_i a; cases a<;>trivial)|(rename_i a b; cases b<;>first|trivial|(rename_i c; cases c<;>trivial))|(rename_i a b c; cases a<;>trivial))
theorem Fy(O:m.G=P.globals.size){a b b':Addr}(B:AR m a a')(hb:AR m b b'):gU P ym m (bR a b) (bR a' b'):=by
 unfold bR;refine kD ?_
 have U:(a.block != b.block)=(a'.block != b'.block):=by
  have:(a.block==b.block)=(a'.block==b'.block):=by rw[cb]; simp only[beq_iff_eq]; exact B.tr hb
  simp only[bne,this]
 have W:decide (a.block ≥ P.globals.size)=decide (a'.block ≥ P.globals.size):=by
  have:=m.qG _ _ B.blk;rw[O]at this;exact decide_eq_decide.2 ⟨λh=>cz λx=>absurd (this.2 x) (by omega),λh=>cz λx=>absurd (this.1 x) (by omega)⟩
 rw[U,W];refine ig (λ_=>.gW trivial) (λ_=>?_);refine hU (pY B) λm' x y D h=>?_;cases h;refine hU (pY (hb.mono D)) λY x' y' D h=>?_;cases h;exact .pure rfl
theorem wi{k:IntKind}{a:Addr}(B:AR m a a')(n:Int):gU P VR m (bV k a n) (bV k a' n):=by
 unfold bV;refine mz B.blk λx=>?_
 cases x with
 |none=>exact .gW trivial
 |some y=>
  refine iw λD _=>?_;dsimp only;refine ig (λ_=>.gW trivial) (λ_=>?_);refine hU (pY B) λm' x y O h=>?_;cases h;exact .pure (.int _ _)
theorem Ju(D:m.G=P.globals.size){t:bs}(O:jY m\/qg P bO t=true)(U:VR m x x')(W:VR m y y'):gU P VR m (do pure (.bool (<-bP t x y))) (do pure (.bool (<-bP t x' y')))/\gU P VR m (do pure (.bool (!(<-bP t x y)))) (do pure (.bool (!(<-bP t x' y')))):=by
 have h:=qW (P:=P) bO m t D U W O;constructor
 .exact hU h λm' a b _ B=>by cases B; exact .pure (.bool _)
 .exact hU h λm' a b _ B=>by cases B; exact .pure (.bool _)
theorem Lx(op:BinOp)(t:bs)(k k':IntKind)(a b:Int):gU P VR m (binOp op t (.int k a) (.int k' b)) (binOp op t (.int k a) (.int k' b)):=by
 cases op
 case shl=>exact JQ .shl k k' a b
 case shr=>exact JQ .shr k k' a b
 all_goals
  unfold binOp;refine ig (λ_=>.gW trivial) (λ_=>?_)
  first|exact A9 _ _ _ _|exact MQ _ _ _ _|exact C9 _ _ _ _|exact N5 _ _ _
theorem DO(op:BinOp)(U:m.G=P.globals.size){t:bs}(hE:op=.eql\/op=.neq->jY m\/qg P bO t=true)(W:VR m x x')(D:VR m y y'):gU P VR m (binOp op t x y) (binOp op t x' y'):=by
 have heq:op=.eql->gU P VR m (do pure (.bool (<-bP t x y))) (do pure (.bool (<-bP t x' y'))):=λe=>(Ju U (hE (.inl e)) W D).1;have hne:op=.neq->gU P VR m (do pure (.bool (!(<-bP t x y)))) (do pure (.bool (!(<-bP t x' y')))):=λe=>(Ju U (hE (.inr e)) W D).2
 have B:∀(z:Value),y=.tuple #[]->op=.eql\/op=.neq->x=z->gU P VR m (binOp op t x y) (binOp op t x' y'):=by
  intro z e1 e2 e3;subst e1;refine .gW ?_;rcases e2 with rfl|rfl
  .cases x<;>exact(xC _).bind
  .cases x<;>exact(xC _).bind
 cases W with
 |jC v O=>
  refine .gW ?_;cases op
  case eql=>exact(xK _).bind
  case neq=>exact(xK _).bind
  all_goals(cases y<;>trivial)
 |int k a=>
  cases D with
  |int k' b=>exact Lx op t k k' a b
  |jC v O=>cases op<;>first|exact .gW trivial|exact B _ rfl (.inl rfl) rfl|exact B _ rfl (.inr rfl) rfl
  |ku=>cases op<;>first|exact .gW trivial|exact heq rfl|exact hne rfl|exact lU .ku (.int _ _)
  |ptr hb=>
   cases op
   case add=>exact lU (.ptr hb) (.int _ _)
   case and=>exact iF hb λp p' l hp=>wi hp _
   all_goals first|exact .gW trivial|exact heq rfl|exact hne rfl
  |_=>cases op<;>first|exact .gW trivial|exact heq rfl|exact hne rfl
 |string a=>
  cases D with
  |string b=>
   have e:∀op,binOp op t (.string a) (.string b)=bS op a b:=λop=>by cases op<;>rfl
   rw[e]; exact Iu _ a b
  |jC v O=>cases op<;>first|exact .gW trivial|exact B _ rfl (.inl rfl) rfl|exact B _ rfl (.inr rfl) rfl
  |_=>cases op<;>first|exact .gW trivial|exact heq rfl|exact hne rfl
 |ku=>
  cases D with
  |jC v O=>cases op<;>first|exact .gW trivial|exact B _ rfl (.inl rfl) rfl|exact B _ rfl (.inr rfl) rfl
  |int k n=>
   cases op
   case add=>
    refine gX λd hd=>?_;exact ig (λ_=>sT .ku (.int _ _)) (λ_=>lU .ku (.int _ _))
   case sub=>exact lU .ku (.int _ _)
   all_goals first|exact .gW trivial|exact heq rfl|exact hne rfl
  |_=>cases op<;>first|exact .gW trivial|exact heq rfl|exact hne rfl
 |ptr ha=>
  cases D with
  |jC v O=>cases op<;>first|exact .gW trivial|exact B _ rfl (.inl rfl) rfl|exact B _ rfl (.inr rfl) rfl
  |int k n=>
   cases op
   case add=>
    refine gX λd hd=>?_;exact ig (λ_=>sT (.ptr ha) (.int _ _)) (λ_=>lU (.ptr ha) (.int _ _))
   case sub=>exact lU (.ptr ha) (.int _ _)
   case rem=>exact iF ha λp p' l hp=>wi hp _
   case and=>exact iF ha λp p' l hp=>wi hp _
   all_goals first|exact .gW trivial|exact heq rfl|exact hne rfl
  |ptr hb=>
   have two:∀(f:Nat×Nat->Sem Value),(∀m' p,gU P VR m' (f p) (f p))->∀{a a' b b':Addr},AR m a a'->AR m b b'->gU P VR m (bR a b >>= f) (bR a' b' >>= f):=
    λf hf a a' b b' h1 h2=>hU (Fy U h1 h2) λm' p q _ Y=>by cases Y; exact hf m' p
   cases op
   case eql=>exact heq rfl
   case neq=>exact hne rfl
   case sub=>exact iF ha λp p' l hp=>iF hb λq q' l' hq=>two _ (λm' p=>.pure (.int _ _)) hp hq
   case lss=>exact iF ha λp p' l hp=>iF hb λq q' l' hq=>two _ (λm' p=>.pure (.bool _)) hp hq
   case leq=>exact iF ha λp p' l hp=>iF hb λq q' l' hq=>two _ (λm' p=>.pure (.bool _)) hp hq
   case gtr=>exact iF ha λp p' l hp=>iF hb λq q' l' hq=>two _ (λm' p=>.pure (.bool _)) hp hq
   case geq=>exact iF ha λp p' l hp=>iF hb λq q' l' hq=>two _ (λm' p=>.pure (.bool _)) hp hq
   all_goals exact .gW trivial
  |_=>cases op<;>first|exact .gW trivial|exact heq rfl|exact hne rfl
 |_=>
  cases op
  case eql=>exact heq rfl
  case neq=>exact hne rfl
  all_goals(cases D<;>exact .gW trivial)
end
end
section
variable {a a':Addr} {n:Nat} {γ δ:Type} {x x':Value}
section
variable {P:Program} {m:Ren}
theorem yv{RB:Ren->γ->δ->Prop}(B:AR m a a')(D:¬m.loose a.block){f:Unit->Sem γ}{f':Unit->Sem δ}(h:gU P RB m (f ()) (f' ())):gU P RB m (b4 a >>= f) (b4 a' >>= f'):=by
 unfold b4;simp only[bind_assoc];refine mz B.blk λx=>?_
 cases x with
 |none=>exact h
 |some y=>exact gU.freeze (.mk B.blk) D h
theorem Cy(s:ByteArray):iI m (s.data.map λb=>Value.int .u8 b.toNat) (s.data.map λb=>Value.int .u8 b.toNat):=by
 refine .refl λv B=>?_;simp only[bg,cv]at B;obtain⟨i,_,rfl⟩:=B;exact .int _ _
theorem yA{e:bs}{s:ByteArray}:gU P VR m (c3 e s) (c3 e s):=by
 unfold c3;refine jU λcap=>?_;refine hU (RA:=Ir) (qL ((Cy s).append (.replicate _ (.int _ _)))) λm' a a' _ B=>?_;exact yv B.1 B.2 (.pure (.slice _ _ B.1))
theorem G9{c c':List Value}(h:iu (VR m) c c'):∀(s:ByteArray),gU P ym m
  (forIn c s λc s=>match c with|.int .u8 n=>pure (ForInStep.yield (s.push (UInt8.ofNat n.toNat)))|_=>(do stuck "bytesToString: byte expected"; pure (ForInStep.yield s)))
  (forIn c' s λc s=>match c with|.int .u8 n=>pure (ForInStep.yield (s.push (UInt8.ofNat n.toNat)))|_=>(do stuck "bytesToString: byte expected"; pure (ForInStep.yield s))):=by
 induction h with
 |nil=>intro s; simp only[cu]; exact .pure rfl
 |cons B _ D=>
  intro s;simp only[ct]
  cases B with
  |int k n=>cases k<;>first|exact .gW trivial|exact D _
  |_=>exact .gW trivial
theorem yq(D:VR m x x'):gU P VR m (c4 x) (c4 x'):=by
 unfold c4;cases D<;>first|exact .gW trivial|exact .pure (.string _)|skip
 rename_i l c O;dsimp only;refine hU (xy O l) λm' c c' _ U=>?_;rw[<-bd,<-bd];exact hU (G9 U _) λm' a b _ B=>by cases B; exact .pure (.string _)
theorem Em{RB:Ren->γ->δ->Prop}(O:AR m a a'){f:Array Value->Sem γ}{f':Array Value->Sem δ}(h:∀c c',iI m c c'->gU P RB m (f c) (f' c')):gU P RB m (b5 a n >>= f) (b5 a' n >>= f'):=by
 have key:∀(n i:Nat)(acc B:Array Value),iI m acc B->gU P RB m (b1 a i n acc >>= f) (b1 a' i n B >>= f'):=by
  intro n
  induction n with
  |zero=>intro i acc B D; exact h _ _ D
  |succ n U=>intro i acc B D; exact gU.load (O.add i) λv v' W=>U _ _ _ (D.push W)
 exact key n 0 _ _ (.nil m)
theorem iL{RB:Ren->γ->δ->Prop}{size:Nat}(B:VR m x x'){f:Array Value->Sem γ}{f':Array Value->Sem δ}(h:∀c c',iI m c c'->gU P RB m (f c) (f' c')):gU P RB m (cg size n x >>= f) (cg size n x' >>= f'):=by
 cases B<;>first|exact .gW trivial|exact Em ‹_› h|exact h _ _ (Cy _)|exact h _ _ (.nil m)
theorem rj{RB:Ren->γ->δ->Prop}(B:VR m x x'){f:Nat->Sem γ}{f':Nat->Sem δ}(h:∀n,gU P RB m (f n) (f' n)):gU P RB m (cj x >>= f) (cj x' >>= f'):=by
 cases B<;>first|exact .gW trivial|exact h _
theorem sV{z:Array Value}(h:iI m z z)(n:Nat):iI m (cc z n) (cc z n):=yF h _
theorem oF{α:Type}{size sLen:Nat}{base:Option Addr}{f:Bool->Sem α}(h:∀b,iE P (f b)):iE P (ci size sLen n base x >>= f):=by
 have hold:∀(a:Addr)(k:Nat)(g:Bool->Sem α),(∀b,iE P (g b))->iE P (cf a k >>= g):=by
  intro a k g B;show ∀r,iE P _;intro r
  cases r with
  |none=>exact B _
  |some y=>exact B _
 have tail:∀b:Bool,iE P ((match x with|.slice (some b) _ _=>(do pure (!(<-cf b (n*size)) || base.any (·.block==b.block)))|_=>pure false:Sem Bool) >>= f):=by
  intro _
  cases x with
  |slice a l c=>
   cases a with
   |none=>exact h _
   |some a=>
    simp only[bind_assoc];exact hold a _ _ λb=>h _
  |_=>exact h _
 unfold ci
 cases base with
 |none=>exact tail true
 |some a=>
  simp only[bind_assoc];refine hold a _ _ λb=>?_;show ∀r,iE P _;intro r;show iE P ((if(!(b && !r))=true then pure true else _) >>= f);split
  .exact h _
  .exact tail true
theorem JA(B:oJ P){RB:Ren->γ->δ->Prop}{elem:bs}{size:Nat}{f:Array Value->Sem γ}{f':Array Value->Sem δ}(h:∀c c',iI m c c'->gU P RB m (f c) (f' c')) :
  gU P RB m ((if n*size=0 then pure #[]else do pure (cc (<-bt elem).cells n)) >>= f) ((if n*size=0 then pure #[]else do pure (cc (<-bt elem).cells n)) >>= f'):=by
 split
 .exact h _ _ (.nil m)
 .simp only[bind_assoc];exact j6 B λz D=>h _ _ (sV D.cells _)
theorem Oi(hP:oJ P){aa:Array bs}{t:bs}{args ab:Array Value}(h:iI m args ab):gU P VR m (ce aa t args) (ce aa t ab):=by
 unfold ce
 cases aa[0]? with
 |none=>exact .gW trivial
 |some st=>
 cases h0:args[0]? with
 |none=>exact .gW trivial
 |some s=>
 cases h1:args[1]? with
 |none=>exact .gW trivial
 |some x=>
 obtain⟨s',ae,hs⟩:=h.get h0;obtain⟨x',af,hx⟩:=h.get h1;rw[ae,af];refine gX λd hd=>?_;cases d<;>first|exact .gW trivial|skip
 rename_i elem
 have U:∀{base O:Option Addr}{sLen Y size:Nat}{c c':Array Value}{k:Nat},oq (AR m) base O->iI m c c'->gU P VR m
   (match base with|some a=>(do let r <-bx (a.add (sLen*size)) c.toList; pure (Value.slice base k Y))|_=>pure (Value.slice base k Y))
   (match O with|some a=>(do let r <-bx (a.add (sLen*size)) c'.toList; pure (Value.slice O k Y))|_=>pure (Value.slice O k Y)):=by
  intro base O sLen Y size c c' k hb D
  cases hb with
  |none=>exact .pure (.jq _ _)
  |some ha=>exact hU (nZ (ha.add _) 0 D) λm' _ _ hl _=>.pure (.slice _ _ (ha.mono hl))
 have B:∀{old ac new ad:Array Value}{k cap q:Nat},iI m old ac->iI m new ad->gU P VR m
   (do let z <-bt elem; let a <-b0 elem (old++new++cc z.cells q); pure (Value.slice (some a) k cap))
   (do let z <-bt elem; let a <-b0 elem (ac++ad++cc z.cells q); pure (Value.slice (some a) k cap)):=by
  intro old ac new ad k cap q ho hn;exact j6 hP λz hz=>hU (RA:=Ir) (qL ((ho.append hn).append (sV hz.cells _))) λm' a a' _ ha=>.pure (.slice _ _ ha.1)
 cases hs<;>first|exact .gW trivial|skip
 .rename_i l c;have hs:VR m (.slice none l c) (.slice none l c):=.jq l c;refine iT λsize=>?_;dsimp only
  cases aa[1]? with
  |none=>
   refine rj hx λn=>?_;refine ig (λ_=>?_) (λ_=>?_)
   .exact iL hx λc c' D=>U (sLen:=l) (size:=size) .none D
   .refine iw λW _=>ig (λ_=>iz (e:=.error _) trivial) (λ_=>?_);refine iw λW _=>ig (λ_=>?_) (λ_=>?_)
    .exact .gW (iE.bind (oF λb=>by cases b<;>trivial))
    .refine jU λq=>iw λW _=>nw ?_;exact iL hs λo o' ho=>iL hx λc c' D=>B ho D
  |some xt=>
   refine gX λd2 _=>?_
   cases d2 with
   |int kk=>
    refine m9 hx λnn=>?_;refine ig (λ_=>iz (e:=.error _) trivial) (λ_=>?_);refine iw λW _=>ig (λ_=>jU λ_=>iz (e:=.error _) trivial) (λ_=>?_);refine ig (λ_=>?_) (λ_=>?_)
    .exact JA hP λc c' D=>U (sLen:=l) (size:=size) .none D
    .refine iw λW _=>ig (λ_=>iz (e:=.error _) trivial) (λ_=>?_);refine iw λW _=>ig (λ_=>?_) (λ_=>?_)
     .exact iz (e:=.error _) trivial
     .refine jU λq=>iw λW _=>nw ?_;exact iL hs λo o' ho=>JA hP λc c' D=>B ho D
   |_=>
    refine rj hx λn=>?_;refine ig (λ_=>?_) (λ_=>?_)
    .exact iL hx λc c' D=>U (sLen:=l) (size:=size) .none D
    .refine iw λW _=>ig (λ_=>iz (e:=.error _) trivial) (λ_=>?_);refine iw λW _=>ig (λ_=>?_) (λ_=>?_)
     .exact .gW (iE.bind (oF λb=>by cases b<;>trivial))
     .refine jU λq=>iw λW _=>nw ?_;exact iL hs λo o' ho=>iL hx λc c' D=>B ho D
 .rename_i a a' l c ha;have hs:VR m (.slice (some a) l c) (.slice (some a') l c):=.slice l c ha;refine iT λsize=>?_;dsimp only
  cases aa[1]? with
  |none=>
   refine rj hx λn=>?_;refine ig (λ_=>?_) (λ_=>?_)
   .exact iL hx λc c' D=>U (sLen:=l) (size:=size) (.some ha) D
   .refine iw λW _=>ig (λ_=>iz (e:=.error _) trivial) (λ_=>?_);refine iw λW _=>ig (λ_=>?_) (λ_=>?_)
    .exact .gW (iE.bind (oF λb=>by cases b<;>trivial))
    .refine jU λq=>iw λW _=>nw ?_;exact iL hs λo o' ho=>iL hx λc c' D=>B ho D
  |some xt=>
   refine gX λd2 _=>?_
   cases d2 with
   |int kk=>
    refine m9 hx λnn=>?_;refine ig (λ_=>iz (e:=.error _) trivial) (λ_=>?_);refine iw λW _=>ig (λ_=>jU λ_=>iz (e:=.error _) trivial) (λ_=>?_);refine ig (λ_=>?_) (λ_=>?_)
    .exact JA hP λc c' D=>U (sLen:=l) (size:=size) (.some ha) D
    .refine iw λW _=>ig (λ_=>iz (e:=.error _) trivial) (λ_=>?_);refine iw λW _=>ig (λ_=>?_) (λ_=>?_)
     .exact iz (e:=.error _) trivial
     .refine jU λq=>iw λW _=>nw ?_;exact iL hs λo o' ho=>JA hP λc c' D=>B ho D
   |_=>
    refine rj hx λn=>?_;refine ig (λ_=>?_) (λ_=>?_)
    .exact iL hx λc c' D=>U (sLen:=l) (size:=size) (.some ha) D
    .refine iw λW _=>ig (λ_=>iz (e:=.error _) trivial) (λ_=>?_);refine iw λW _=>ig (λ_=>?_) (λ_=>?_)
     .exact .gW (iE.bind (oF λb=>by cases b<;>trivial))
     .refine jU λq=>iw λW _=>nw ?_;exact iL hs λo o' ho=>iL hx λc c' D=>B ho D
end
end
end Go.Proofs.YtocbogeoffeolaaGreatDoor
