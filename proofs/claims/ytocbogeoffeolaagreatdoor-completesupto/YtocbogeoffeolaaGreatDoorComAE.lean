import GoSem.Step
import Derived.Conc.Events
import Derived.Laws.Tables
import Derived.MapKept
import Derived.Conc.Listed
import Derived.DyingOn
import Derived.Test.YtocbogeoffeolaaGreatDoorCom0
set_option linter.all false
set_option maxHeartbeats 8000000
set_option maxRecDepth 1000000
open Array renaming getElem?_setIfInBounds_ne->ax,getElem?_eq_some_iff->ay,getElem?_toList->az,mapM_eq_mapM_toList->a0,filter->a1,getElem?_modify->a2,range->a3,toList_map->a4,length_toList->a5,forIn_toList->a6,foldl_toList->a7,empty_append->a8,mem_append->a9,isEmpty->aA,all_eq_true_iff_forall_mem->aB,map->aC,mem_toList_iff->aD,toList_zipIdx->aE,toList_filter->aF,toList_append->aG,append_assoc->aH,toList_push->aI,mem_flatMap->aJ,toList_zip->aK,all_toList->aL,replicate->aM
open Go.Instr renaming sameBits->aN,sameNow->aO,fill->aP,endRound->aQ,findNow->aR,takeDeferred->aS,findAsking->aT,beginRound->aU,checkKey->aV,findKey->aW,keyThatStays->aX,deferInRound->aY,sliceBounds->aZ,sliceBound->ba,sliceAt->bc,indexAt->bd,getLoop->be,extract->bf,yield->bg,slice->bh,makeInterface->bi,next->bj,typeAssert->bk,entryStore->bm,buildSlice->bn,mapUpdate->bo,makeSlice->bp,enterLoop->bq,sureAddr->br,mapEntry->bs,makeFunc->bt,makeChan->bu,storeAt->bv,makeMap->bw,fieldAt->bx,endLoop->bz,lookup->b0,loadAt->b1,range->b3,panic->b4,index->b5,field->b6,entry->b7,build->b8,alloc->b9,box->bA
open Go renaming tryRecover->bB,doReturn->bC,zeroValue->bD,seen->bE,TypeId->bF,stepG->bG,underlying->bH,endThrow->bI,boundsPanic->bJ,runtimePanic->bK,unwind->bL,callDeferred->bM,newRow->bN,yielded->bO,loadCellsFrom->bP,storeCells->bQ,sizeOf->bR,findLabel->bS,loadBytes->bT,loadCells->bU,dieOf->bV,resolve->bW,gotoIn->bX,exitTo->bY,execOp->bZ,askRoom->cd,FuncId->ce,typeInfo->cf,goexitEntry->cg,sameAddr->ci,newObj->cj,mayBeOne->ck,nilAhead->cl,markStringish->cm,typeStr->cp,results->cq,movedPointer->cr,behindNumber->cu,method->cv,variablesAt->cw,movedNumber->cx,undef->cy,fieldPlace->cz,elemOf->c0,byteOf->c3
open Go.Op renaming operands->c4,equal->c5,maxDepth->c6,twoPlaces->c7,eqGuardIn->c8,stringOp->c9,intArith->cA,intBits->cB,equalIn->cC,addrMod->cD,intDiv->cE,intCmp->cF,unary->cG,shift->cH
open Go.stepG renaming apply->cI,exec->cJ
open Go.GStep renaming after->cK
open Go.Sem renaming run->cL,runT_fst->cM,runT->cN,run_bind'->cO,bind_assoc'->cP
open Go.Builtin renaming zeroCells->cQ,unsafeAdd_->cR,firstCells->cS,append_->cT,clear_->cU,copy_->cV,min_->cW,max_->cX,len_->cY,cap_->cZ,unsafeString_->db,holdsCells->dc,mayShare->dd,lenOf->dg,min2->dh,max2->di
open Bool renaming and_eq_true->dj,eq_iff_iff->dl,false_eq_true->dr
open Nat renaming le_trans->dw,le_refl->dB,le_succ_of_le->dN,lt_of_lt_of_le->dS,lt_of_succ_le->ee,le_of_succ_le->eg,le_of_not_lt->ei,zero_mul->ej,le_succ->ek
open Go.Frame renaming eval->en,pos->er,round->ev,raise->ey,enter->ez,catches->e8,finish->eC,oper?->fa
open List renaming getElem?_zip_eq_some->fb,mem_iff_getElem?->fd,all_eq_true->ff,forIn_cons->fi,mapM_cons->fk,mem_cons->fm,mem_map->ft
open Option.some renaming injEq->fv,inj->fB
open Option renaming getD_some->ga,map_some->gc,bind_some->gd
open Go.Call renaming operands->ge
open Go.World renaming freeze->gg,frozen?->gi,noCell->gj,cell?->gm
open Go.Conv renaming bytesToString->gn,stringToBytes->gs,runesToString->gt
open Go.Extern.SlicesOverlaps renaming overlaps->gv
open Go.Extern.Bytes renaming loadBytes->gx,bytesOf->gy
open Std.Legacy.Range renaming forIn_eq_forIn_range'->gz
open Go.GStep.go renaming injEq->g8
open Ne renaming symm->g9
open Go.Region renaming wanted->gA,schedule->gB
open Bool renaming false->f?,true->t?
open Go renaming Program->P?,Value->v?,World->w?
open Go.Item renaming inRegion->r?
open Go.Obj renaming cells->c?
open Go.Value renaming int->n?,pointer->p?,string->s?
open List renaming length->l?
open Option renaming none->x?,some->y?
namespace Go.Proofs.YtocbogeoffeolaaGreatDoor
section
variable {α β:Type}
inductive dY{α β:Type}(R:α->β->Prop):List α->List β->Prop
 |nil:dY R [] []|cons {a b l l'}:R a b->dY R l l'->dY R (a::l) (b::l')
def dY.mono{R S}(h:∀a b,R a b->S a b):∀{l:List α}{l':List β},dY R l l'->dY S l l'
 |_,_,.nil=>.nil|_,_,.cons a b=>.cons (h _ _ a) (dY.mono h b)
def dY.length{R}:∀{l:List α}{l':List β},dY R l l'->l? l=l? l'
 |_,_,.nil=>rfl|_,_,.cons _ b=>by simp[dY.length b]
def dY.append{R}:∀{l l₂:List α}{l' B:List β},dY R l l'->dY R l₂ B->dY R (l++l₂) (l'++B)
 |_,_,_,_,.nil,h=>h|_,_,_,_,.cons a b,h=>.cons a (dY.append b h)
def dY.get{R}:∀{l}{l':List β},dY R l l'->∀{i:Nat}{a:α},l[i]?=y? a->∃b,l'[i]?=y? b/\R a b
 |_,_,.nil,i,a,h=>by simp at h
 |_,_,.cons (b:=b) x y,0,a,h=>⟨b,i!,by simp at h;exact h▸x⟩
 |_,_,.cons x y,i+1,a,h=>by simpa using dY.get y (u! h)
def dY.get_none{R}{l:List α}{l':List β}(h:dY R l l'){i:Nat}(B:l[i]?=x?):l'[i]?=x?:=by rw[List.getElem?_eq_none_iff]at B⊢;rw[<-h.length];exact B
def dY.JS{R}:∀{l:List α}{l':List β},l? l=l? l'->(∀(i:Nat)a b,l[i]?=y? a->l'[i]?=y? b->R a b)->dY R l l'
 |[],[],_,_=>.nil|a::l,b::l',h,g=>.cons (g 0 a b i! i!) (dY.JS (u! h) λi x y B O=>g (i+1) x y (u! B) (u! O))|[],b::l',h,_=>by simp at h
 |a::l,[],h,_=>by simp at h
def dY.take{R}:∀(n){l:List α}{l':List β},dY R l l'->dY R (l.take n) (l'.take n)
 |0,_,_,_=>by simpa using .nil
 |n+1,_,_,.nil=>by simpa using .nil
 |n+1,_,_,.cons a b=>by simpa using .cons a (dY.take n b)
def dY.drop{R}:∀(n){l:List α}{l':List β},dY R l l'->dY R (l.drop n) (l'.drop n)
 |0,_,_,h=>by simpa using h
 |n+1,_,_,.nil=>by simpa using .nil
 |n+1,_,_,.cons a b=>by simpa using dY.drop n b
def dY.set{R}:∀{l l'},dY R l l'->∀(i){a:α}{b:β},R a b->dY R (l.set i a) (l'.set i b)
 |_,_,.nil,_,_,_,_=>by simpa using .nil
 |_,_,.cons x y,0,_,_,h=>by simpa using .cons h y
 |_,_,.cons x y,i+1,_,_,h=>by simpa using .cons x (dY.set y i h)
def dY.map{γ δ R S}{f:α->γ}{g:β->δ}(h:∀a b,R a b->S (f a) (g b)):∀{l l'},dY R l l'->dY S (l.map f) (l'.map g)
 |_,_,.nil=>.nil|_,_,.cons a b=>.cons (h _ _ a) (dY.map h b)
def dY.refl{R}:∀{l:List α},(∀a∈l,R a a)->dY R l l
 |[],_=>.nil|a::l,h=>.cons (h a i!) (dY.refl λx B=>h x (by simp[B]))
structure Ren where
 blk:Nat->Option Nat
 ch:Nat->Option Nat
 loose:Nat->Prop
 ok:Oper->Prop
 gE:ce->Prop
 jf:Prop
 dead:Nat->Prop
 dm:Nat->Nat
 tK:Nat->Nat->Option v?
 lS:Nat->Option Obj
 G:Nat
 qa:∀r r',blk r=some r'->(r<G↔r'<G)
 inj:∀r s t,blk r=some t->blk s=some t->r=s
 xu:∀r s t,ch r=some t->ch s=some t->r=s
structure Ren.Le(m m':Ren):Prop where
 blk:∀r r',m.blk r=some r'->m'.blk r=some r'
 ch:∀r r',m.ch r=some r'->m'.ch r=some r'
 loose:∀r r',m.blk r=some r'->(m'.loose r↔m.loose r)
 less:∀r,m'.loose r->m.loose r
 ok:m'.ok=m.ok
 gE:m'.gE=m.gE
 jf:m'.jf=m.jf
 G:m'.G=m.G
 dead:m'.dead=m.dead
 dm:m'.dm=m.dm
 tK:m'.tK=m.tK
def Ren.Le.refl(m:Ren):m.Le m:=⟨λ_ _ h=>h,λ_ _ h=>h,λ_ _ _=>Iff.rfl,λ_ h=>h,q?,q?,q?,q?,q?,q?,q?⟩
def Ren.Le.trans{m m' B:Ren}(h:m.Le m')(h':m'.Le B):m.Le B:=
 ⟨λr r' x=>h'.blk r r' (h.blk r r' x),λr r' x=>h'.ch r r' (h.ch r r' x),λr r' x=>(h'.loose r r' (h.blk r r' x)).trans (h.loose r r' x),λr x=>h.less r (h'.less r x),h'.ok.trans h.ok,h'.gE.trans h.gE,h'.jf.trans h.jf,h'.G.trans h.G,h'.dead.trans h.dead,h'.dm.trans h.dm,h'.tK.trans h.tK⟩
inductive AR(m:Ren):Addr->Addr->Prop
 |mk {b b' o s}:m.blk b=some b'->AR m ⟨b,o,s⟩ ⟨b',o,s⟩
def AR.blk{m a a'}(h:AR m a a'):m.blk a.block=y? a'.block:=by cases h;assumption
def AR.off{m a a'}(h:AR m a a'):a'.off=a.off:=by cases h;rfl
def AR.spot{m a a'}(h:AR m a a'):a'.spot=a.spot:=by cases h;rfl
def AR.mono{m m'}(h:m.Le m'){a a'}(x:AR m a a'):AR m' a a':=by cases x with|mk hb=>exact .mk (h.blk _ _ hb)
def AR.add{m a a'}(h:AR m a a')(n):AR m (a.add n) (a'.add n):=by
 cases h with
 |mk hb=>unfold Addr.add;split<;>exact .mk hb
def AR.eq_iff{m a a' b b'}(h:AR m a a')(h':AR m b b'):(a=b↔a'=b'):=by
 cases h with
 |mk hb=>cases h' with
  |mk B=>constructor;intro e;cases e;rw[hb]at B;cases B;rfl;intro e;cases e;have:=m.inj _ _ _ hb B;subst this;rfl
def AR.tu{m a a' b b'}(h:AR m a a')(h':AR m b b'):(a.block=b.block↔a'.block=b'.block):=by
 cases h with
 |mk hb=>cases h' with
  |mk B=>constructor;intro e;subst e;rw[hb]at B;cases B;rfl;intro e;subst e;exact m.inj _ _ _ hb B
inductive NN(m:Ren):Fn->Fn->Prop
 |func (f):m.gE f->NN m (.func f) (.func f)|yield {l l'}:m.blk l=some l'->NN m (.yield l) (.yield l')
def NN.mono{m m'}(h:m.Le m'){a a'}(x:NN m a a'):NN m' a a':=by
 cases x with
 |func f B=>exact .func f (h.gE▸B)|yield hb=>exact .yield (h.blk _ _ hb)
def OY:v?->Prop
 |p? (y? _)|.slice (y? _) _ _|.map (y? _)|.chan (y? _)|.iface ..|.float ..|.complex ..|.tuple _|.func (.func _) _ _|.func (.yield _) _ _|.func (.methodOf _ _) _ _|.func (.via ..) _ _=>True|_=>False
inductive VR(m:Ren):v?->v?->Prop
 |gN (v):OY v->VR m (.tuple #[]) v|bool (b):VR m (.bool b) (.bool b)|int (k n):VR m (.int k n) (.int k n)|string (s):VR m (.string s) (.string s)|iE:VR m (.pointer none) (.pointer none)|ptr {a a'}:AR m a a'->VR m (.pointer (some a)) (.pointer (some a'))|gq (l c):VR m (.slice none l c) (.slice none l c)|zero (a):m.dead a.block->VR m (.slice (some a) 0 0) (.slice (some a) 0 0)|slice {a a'} (l c):AR m a a'->VR m (.slice (some a) l c) (.slice (some a') l c)|nH:VR m (.map none) (.map none)|map {r r'}:m.blk r=some r'->VR m (.map (some r)) (.map (some r'))|gone {r}:m.dead r->VR m (.map (some r)) (.map (some (m.dm r)))|jS:VR m (.chan none) (.chan none)|chan {r r'}:m.ch r=some r'->VR m (.chan (some r)) (.chan (some r'))|func {fn fn' f f' c c'}:NN m fn fn'->f.size=f'.size->(∀i(h:i<f.size)(h':i<f'.size),VR m f[i] f'[i])->c.size=c'.size->(∀i(h:i<c.size)(h':i<c'.size),VR m c[i] c'[i])->VR m (.func fn f c) (.func fn' f' c')|nilFunc:VR m .nilFunc .nilFunc|iface (t) {v v'}:VR m v v'->VR m (.iface t v) (.iface t v')|nilIface:VR m .nilIface .nilIface|agg {c c'}:c.size=c'.size->(∀i(h:i<c.size)(h':i<c'.size),VR m c[i] c'[i])->VR m (.agg c) (.agg c')|tuple {c c'}:c.size=c'.size->(∀i(h:i<c.size)(h':i<c'.size),VR m c[i] c'[i])->VR m (.tuple c) (.tuple c')|rY {lf n f c}:lf.size=f.size->(∀i(h:i<lf.size)(h':i<f.size),VR m lf[i] f[i])->(∀t w,f[0]?=some (.iface t w)->∃x,lf[0]?=some (.iface t x))->VR m (.func (.method "") lf #[.func (.method n) f c]) (.func (.method n) f c)
def VR.mono{m m'}(h:m.Le m'){v v'}(x:VR m v v'):VR m' v v':=by
 induction x with
 |gN v hv=>exact .gN v hv|rY B _ U O=>exact .rY B O U|bool|int|string|iE|gq|nH|jS|nilFunc|nilIface=>constructor|zero a W=>exact .zero a (h.dead▸W)|ptr Y=>exact .ptr (Y.mono h)|slice l c Y=>exact .slice l c (Y.mono h)|map hb=>exact .map (h.blk _ _ hb)|gone W=>rw[<-h.dm];exact .gone (h.dead▸W)|chan hb=>exact .chan (h.ch _ _ hb)|func hf B _ U _ i1 i2=>exact .func (hf.mono h) B i1 U i2|iface t _ O=>exact .iface t O|agg B _ O=>exact .agg B O|tuple B _ O=>exact .tuple B O
def eP(m:Ren)(c c':Array v?):Prop:=dY (VR m) c.toList c'.toList
def eP.mono{m m'}(h:m.Le m'){c c'}(x:eP m c c'):eP m' c c':=dY.mono (λ_ _=>VR.mono h) x
def eP.size{m c c'}(h:eP m c c'):c.size=c'.size:=by simpa using dY.length h
def eP.iP{m c c'}(O:c.size=c'.size)(h:∀i(h)(h':i<c'.size),VR m c[i] c'[i]):eP m c c':=by refine dY.JS (u! O) λi a b B hb=>?_;simp only[az]at B hb;obtain⟨U,rfl⟩:=ay.1 B;obtain⟨W,rfl⟩:=ay.1 hb;exact h i U W
def eP.idx{m c c'}(x:eP m c c'):∀i(h)(h':i<c'.size),VR m c[i] c'[i]:=by intro i h h';obtain⟨b,hb,B⟩:=dY.get x (i:=i) (a:=c[i]) (by simp[h]);simp only[az,Array.getElem?_eq_getElem h',fv]at hb;exact hb▸B
def VR.N2{m c c'}(h:eP m c c'):VR m (.agg c) (.agg c'):=.agg h.size h.idx
def VR.mz{m c c'}(h:eP m c c'):VR m (.tuple c) (.tuple c'):=.tuple h.size h.idx
def VR.K6{m fn fn' f f' c c'}(B:NN m fn fn')(h:eP m f f')(h':eP m c c'):VR m (.func fn f c) (.func fn' f' c'):=.func B h.size h.idx h'.size h'.idx
def VR.undef(m:Ren):VR m undef undef:=.gN _ trivial
def eP.get{m c c'}(h:eP m c c'){i:Nat}{v}(B:c[i]?=y? v):∃v',c'[i]?=y? v'/\VR m v v':=by simpa using dY.get h (i:=i) (a:=v) (u! B)
def eP.get_none{m c c'}(h:eP m c c'){i:Nat}(B:c[i]?=x?):c'[i]?=x?:=by simpa using dY.get_none h (i:=i) (u! B)
def eP.getD{m c c'}(h:eP m c c')(i):VR m (c.getD i cy) (c'.getD i cy):=by
 simp only[Array.getD_eq_getD_getElem?]
 cases O:c[i]? with
 |none=>rw[h.get_none O];exact .undef m|some v=>obtain⟨v',B,U⟩:=h.get O;simp only[B,ga];exact U
def eP.push{m c c'}(h:eP m c c'){v v'}(B:VR m v v'):eP m (c.push v) (c'.push v'):=by unfold eP;simp only[aI];exact dY.append h (.cons B .nil)
def eP.append{m c c' d d'}(h:eP m c c')(h':eP m d d'):eP m (c++d) (c'++d'):=by unfold eP;simp only[aG];exact dY.append h h'
def eP.extract{m c c'}(h:eP m c c')(i j):eP m (c.extract i j) (c'.extract i j):=by unfold eP;simp only[Array.toList_extract,List.extract_eq_take_drop];exact dY.take _ (dY.drop _ h)
def eP.set{m c c'}(h:eP m c c')(i){v v'}(B:VR m v v'):eP m (c.setIfInBounds i v) (c'.setIfInBounds i v'):=by unfold eP;simp only[Array.toList_setIfInBounds];exact dY.set h i B
def eP.nil(m):eP m #[] #[]:=dY.nil
def eP.one{m v v'}(h:VR m v v'):eP m #[v] #[v']:=dY.cons h dY.nil
def Plain:v?->Prop
 |.bool _|n? _ _|s? _|p? x?|.slice x? _ _|.map x?|.chan x?|.nilFunc|.nilIface=>True|_=>False
def VR.plain{m}:∀{v},Plain v->VR m v v:=by
 intro v h;match v,h with
 |.bool _,_=>constructor|.int ..,_=>constructor|s? _,_=>constructor|p? x?,_=>constructor|.slice x? ..,_=>constructor|.map x?,_=>constructor|.chan x?,_=>constructor|.nilFunc,_=>constructor|.nilIface,_=>constructor
def VR.cells{m v v'}(h:VR m v v'):eP m v.cells v'.cells:=by
 cases h with
 |gN v B=>
  have:v'.cells=#[v']:=by cases v'<;>first|rfl|exact B.elim
  rw[this];exact eP.one (.gN _ B)
 |rY a b c=>exact eP.one (.rY a b c)|agg O U=>exact eP.iP O U|bool|int|string|iE|gq|nH|jS|nilFunc|nilIface=>exact eP.one (by constructor)|zero a W=>exact eP.one (.zero a W)|ptr h=>exact eP.one (.ptr h)|slice l c h=>exact eP.one (.slice l c h)|map h=>exact eP.one (.map h)|gone h=>exact eP.one (.gone h)|chan h=>exact eP.one (.chan h)|func a b c d e=>exact eP.one (.func a b c d e)|iface t h=>exact eP.one (.iface t h)|tuple a b=>exact eP.one (.tuple a b)
def eP.replicate{m v v'}(n)(h:VR m v v'):eP m (aM n v) (aM n v'):=by refine eP.iP i! λi B O=>?_;simpa using h
def eP.refl{m}{c:Array v?}(h:∀v∈c.toList,VR m v v):eP m c c:=dY.refl h
variable {m':Ren}
def wH:Operand->Prop
 |.tmp _=>True|.const v=>Plain v|_=>False
def gG(ok:Oper->Prop):Code->Prop
 |.skip|.exit _|.label _|.goto _|.ret=>True|.region _ ops _=>∀o∈ops.toList,ok o|.seq a b=>gG ok a/\gG ok b|.cond c a b=>wH c/\gG ok a/\gG ok b|.block _ c|.loop c|.scope c=>gG ok c|.rangeFunc f _ a b=>wH f/\gG ok a/\gG ok b|.refuse _=>False
structure xK(m:Ren)(l l':Loop):Prop where
 state:l.state=l'.state
 pending:l.pending=l'.pending
 UK:∀c,l.pending=some c->gG m.ok c
 fn:l.fn=l'.fn
 tmps:eP m l.tmps l'.tmps
 params:l.params=l'.params
 assign:l.assign=l'.assign
 body:l.body=l'.body
 UE:gG m.ok l.assign
 yz:gG m.ok l.body
 defers:m.blk l.defers=some l'.defers
def VJ(m:Ren)(f f':Fn)(c c':Array v?):Prop:=(NN m f f'/\eP m c c')\/(f=.method ""/\∃n,f'=.method n)
def VJ.mono{m}(h:m.Le m'){f f' c c'}(x:VJ m f f' c c'):VJ m' f f' c c':=x.imp (λy=>⟨y.1.mono h,y.2.mono h⟩) id
inductive TR(m:Ren):Target->Target->Prop
 |fn {f f' c c'}:VJ m f f' c c'->TR m (.fn f c) (.fn f' c')|nil:TR m .nil .nil|builtin (a t c):m.jf->TR m (.builtin .close a t c) (.builtin .close a t c)|mark {r} (a t c):m.dead r->TR m (.collected r) (.builtin .close a t c)|collected {r r'}:m.blk r=some r'->TR m (.collected r) (.collected r')
structure DR(m:Ren)(d d':Deferred):Prop where
 target:TR m d.target d'.target
 args:eP m d.args d'.args
structure uI(m:Ren)(e e':MapEntry):Prop where
 key:VR m e.key e'.key
 val:VR m e.val e'.val
 born:e'.born=e.born
inductive OR(m:Ren):Obj->Obj->Prop
 |cells {c c'} (e f f'):eP m c c'->OR m (.cells c e f) (.cells c' e f')|map {es es'} (clock):dY (uI m) es.toList es'.toList->OR m (.map es clock) (.map es' clock)|number {a a'} (l):AR m a a'->OR m (.number a l) (.number a' l)|stringIter (s p):OR m (.stringIter s p) (.stringIter s p)|gW (a b c):OR m (.mapIter none a b c) (.mapIter none a b c)|mapIter {r r'} (a b c):m.blk r=some r'->OR m (.mapIter (some r) a b c) (.mapIter (some r') a b c)|loop {l l'}:xK m l l'->OR m (.loop l) (.loop l')|fF:OR m (.deferred none) (.deferred none)|deferred {ds ds'}:dY (DR m) ds ds'->OR m (.deferred (some ds)) (.deferred (some ds'))
def TR.mono{m}(h:m.Le m'){a a'}(x:TR m a a'):TR m' a a':=by
 cases x with
 |fn B=>exact .fn (B.mono h)|nil=>exact .nil|builtin a t c hm=>exact .builtin a t c (h.jf▸hm)|mark a t c O=>exact .mark a t c (h.dead▸O)|collected hb=>exact .collected (h.blk _ _ hb)
def DR.mono{m}(h:m.Le m'){a a'}(x:DR m a a'):DR m' a a':=⟨x.target.mono h,x.args.mono h⟩
def uI.mono{m}(h:m.Le m'){a a'}(x:uI m a a'):uI m' a a':=⟨x.key.mono h,x.val.mono h,x.born⟩
def xK.mono{m}(h:m.Le m'){a a'}(x:xK m a a'):xK m' a a':=
 ⟨x.state,x.pending,λc B=>h.ok▸x.UK c B,x.fn,x.tmps.mono h,x.params,x.assign,x.body,h.ok▸x.UE,h.ok▸x.yz,h.blk _ _ x.defers⟩
def OR.mono{m}(h:m.Le m'){a a'}(x:OR m a a'):OR m' a a':=by
 cases x with
 |cells e f f' B=>exact .cells e f f' (B.mono h)|map clock O=>exact .map clock (dY.mono (λ_ _ y=>y.mono h) O)|number l U=>exact .number l (U.mono h)|stringIter s p=>exact .stringIter s p|gW a b c=>exact .gW a b c|mapIter a b c hb=>exact .mapIter a b c (h.blk _ _ hb)|loop W=>exact .loop (W.mono h)|fF=>exact .fF|deferred Y=>exact .deferred (dY.mono (λ_ _ y=>y.mono h) Y)
def eN(P:P?){α}:Sem α->Prop
 |.pure _=>False|.load _ _ _=>False|.store _ _ (.agg _) _=>True|.store _ _ (.tuple _) _=>True|.store _ _ _ _=>False|.new _ k=>∀r,eN P (k r)|.shape _ k=>∀r,eN P (k r)|.freeze _ _ k=>eN P k|.frozen _ k=>∀r,eN P (k r)|.getObj _ k=>∀r,eN P (k r)|.setObj _ _ k=>eN P k|.choose _ k=>∀r,eN P (k r)|.sys _ k=>∀r,eN P (k r)|.program k=>eN P (k P)|.mark _ k=>eN P k|.halt (.unsupported (.initOrder _))=>False|.halt (.unsupported _)=>True|.halt (.stuck _)=>True|.halt (.throw _)=>True|.halt _=>False
def gV{α}:Sem α->Prop
 |.pure _=>True|.load _ _ k=>∀v,gV (k v)|.store _ _ _ k=>gV k|.new _ k=>∀r,gV (k r)|.shape _ k=>∀r,gV (k r)|.freeze _ _ k=>gV k|.frozen _ k=>∀r,gV (k r)|.getObj _ k=>∀r,gV (k r)|.setObj _ _ k=>gV k|.choose _ _=>False|.sys _ k=>∀r,gV (k r)|.program k=>∀P,gV (k P)|.mark _ k=>gV k|.halt _=>True
def O4:Mark->Prop
 |.noRoom|.extern _=>True|_=>False
inductive dz(P:P?){α β:Type}(RA:Ren->α->β->Prop):Ren->Sem α->Sem β->Prop
 |uH {m s s'}:eN P s->dz P RA m s s'|pure {m a b}:RA m a b->dz P RA m (.pure a) (.pure b)|load {m a a' k k'}:AR m a a'->(∀v v',VR m v v'->dz P RA m (k v) (k' v'))->dz P RA m (.load .plain a k) (.load .plain a' k')|store {m a a' v v' k k'}:AR m a a'->VR m v v'->dz P RA m k k'->dz P RA m (.store .plain a v k) (.store .plain a' v' k')|new {m o o' k k'}:OR m o o'->(∀e c f,o=.cells e c f->∃e',o'=.cells e' c f)->(∀m' r r',m.Le m'->m'.blk r=some r'->¬m'.loose r->dz P RA m' (k r) (k' r'))->dz P RA m (.new o k) (.new o' k')|r9 {m c b x s r t c' b' x' s' r' t' k k'}:m.jf->(∀m' i i',m.Le m'->m'.ch i=some i'->dz P RA m' (k i) (k' i'))->dz P RA m (.new (.chan c b x s r t) k) (.new (.chan c' b' x' s' r' t') k')|shape {m r r' k k'}:m.blk r=some r'->(∀x,dz P RA m (k x) (k' x))->dz P RA m (.shape r k) (.shape r' k')|freeze {m a a' n k k'}:AR m a a'->¬m.loose a.block->dz P RA m k k'->dz P RA m (.freeze a n k) (.freeze a' n k')|frozen {m a a' k k'}:AR m a a'->¬m.loose a.block->(∀x,dz P RA m (k x) (k' x))->dz P RA m (.frozen a k) (.frozen a' k')|getObj {m r r' k k'}:m.blk r=some r'->(∀o o',OR m o o'->dz P RA m (k o) (k' o'))->dz P RA m (.getObj r k) (.getObj r' k')|setObj {m r r' o o' k k'}:m.blk r=some r'->OR m o o'->(∀c e f,o≠.cells c e f)->dz P RA m k k'->dz P RA m (.setObj r o k) (.setObj r' o' k')|choose {m q k k'}:(∀n,dz P RA m (k n) (k' n))->dz P RA m (.choose q k) (.choose q k')|env {m k k'}:(∀r,dz P RA m (k r) (k' r))->dz P RA m (.sys .env k) (.sys .env k')|program {m k k'}:dz P RA m (k P) (k' P)->dz P RA m (.program k) (.program k')|mark {m x k k'}:O4 x->dz P RA m k k'->dz P RA m (.mark x k) (.mark x k')|gone {m r k s'}:m.dead r->dz P RA m (.getObj r k) s'|panic {m v v'}:VR m v v'->dz P RA m (.halt (.panic v)) (.halt (.panic v'))
def dz.dm{P α β RA m}{s:Sem α}{s':Sem β}(h:eN P s:=by exact trivial):dz P RA m s s':=.uH h
section
variable {P:P?} {α β γ δ:Type}
def eN.bind{s}{f:α->Sem γ}(h:eN P s):eN P (s.bind f):=by
 induction s with
 |pure a=>exact h.elim|load m a k B=>exact h.elim|store m a v k B=>cases v<;>exact h
 |new o k B=>exact λv=>B v (h v)|shape r k B=>exact λv=>B v (h v)|freeze a n k B=>exact B h|frozen a k B=>exact λv=>B v (h v)|getObj r k B=>exact λv=>B v (h v)|setObj r o k B=>exact B h|choose q k B=>exact λv=>B v (h v)|sys c k B=>exact λv=>B v (h v)|program k B=>exact B P h|mark m k B=>exact B h|halt x=>cases x<;>first|exact h|(rename_i u;cases u<;>exact h)
def dz.bind{RA RB m s s'}{f:α->Sem γ}{f':β->Sem δ}
  (h:dz P RA m s s') (O:∀m' a b,m.Le m'->RA m' a b->dz P RB m' (f a) (f' b)):dz P RB m (s.bind f) (s'.bind f'):=by
 induction h with
 |uH hd=>exact .uH hd.bind|pure hr=>exact O _ _ _ (.refl _) hr|load U _ B=>exact .load U λv v' hv=>B v v' hv O|store U hv _ B=>exact .store U hv (B O)|new ho hc _ B=>exact .new ho hc λm' r r' hl hb hn=>B m' r r' hl hb hn λW a b Y hr=>O W a b (hl.trans Y) hr|r9 hm _ B=>exact .r9 hm λm' i i' hl hb=>B m' i i' hl hb λW a b Y hr=>O W a b (hl.trans Y) hr|shape hb _ B=>exact .shape hb λx=>B x O|freeze U hn _ B=>exact .freeze U hn (B O)|frozen U hn _ B=>exact .frozen U hn λx=>B x O|getObj hb _ B=>exact .getObj hb λo o' ho=>B o o' ho O|setObj hb ho hc _ B=>exact .setObj hb ho hc (B O)|choose _ B=>exact .choose λn=>B n O|env _ B=>exact .env λn=>B n O|program _ B=>exact .program (B O)|mark hm _ B=>exact .mark hm (B O)|gone hd=>exact .gone hd|panic hv=>exact .panic hv
def dz.mono{RA RB:Ren->α->β->Prop}{m s s'}(h:dz P RA m s s')(O:∀m' a b,m.Le m'->RA m' a b->RB m' a b):dz P RB m s s':=by
 induction h with
 |uH hd=>exact .uH hd|pure x=>exact .pure (O _ _ _ (.refl _) x)|load U _ B=>exact .load U λv v' hv=>B v v' hv O|store U hv _ B=>exact .store U hv (B O)|new ho hc _ B=>exact .new ho hc λm' r r' hl hb hn=>B m' r r' hl hb hn λW a b Y x=>O W a b (hl.trans Y) x|r9 hm _ B=>exact .r9 hm λm' i i' hl hb=>B m' i i' hl hb λW a b Y x=>O W a b (hl.trans Y) x|shape hb _ B=>exact .shape hb λx=>B x O|freeze U hn _ B=>exact .freeze U hn (B O)|frozen U hn _ B=>exact .frozen U hn λx=>B x O|getObj hb _ B=>exact .getObj hb λo o' ho=>B o o' ho O|setObj hb ho hc _ B=>exact .setObj hb ho hc (B O)|choose _ B=>exact .choose λn=>B n O|env _ B=>exact .env λn=>B n O|program _ B=>exact .program (B O)|mark hm _ B=>exact .mark hm (B O)|gone hd=>exact .gone hd|panic hv=>exact .panic hv
end
def inside(f:Nat×Nat)(o:Nat):Prop:=f.1<=o/\o<f.2
def pO:v?->Prop
 |.agg _|.tuple _=>True|_=>False
def WI(m:Ren)(w w':w?):Prop:=∀r o v,m.tK r o=y? v->∃r',m.blk r=y? r'/\∀c e f c' B f' x,w.1[r]?=y? (c? c e f)->w'.1[r']?=y? (c? c' B f')->c[o]?=y? x->pO x->c'[o]?=y? v
structure WR(m:Ren)(w w':w?):Prop where
 obj:∀r r',m.blk r=some r'->∃o o',w.1[r]?=some o/\w'.1[r']?=some o'/\OR m o o'
 fz:∀r r' c e f c' e' f',m.blk r=some r'->w.1[r]?=some (.cells c e f)->w'.1[r']?=some (.cells c' e' f')->¬m.loose r->f'=f
 all:∀r r' c e f c' e' f',m.blk r=some r'->w.1[r]?=some (.cells c e f)->w'.1[r']?=some (.cells c' e' f')->m.loose r->∀o,o<c.size->inside f o
 NO:∀r r',m.ch r=some r'->r<w.1.size/\r'<w'.1.size
 NJ:m.G<=w.1.size
 KV:m.G<=w'.1.size
 os:w'.os=w.os
 lS:∀r o,m.lS r=some o->w.1[r]?=some o/\∃c b x s y t,o=.chan c b x s y t
 lk:∀r r',m.blk r=some r'->m.loose r->∃c e f,w.1[r]?=some (.cells c e f)
 dead:∀r,m.dead r->m.blk r=none/\∃c f,w.1[r]?=some (.cells c 0 f)
 tK:WI m w w'
def Al(w w':w?):Prop:=∀i q,w'.tape (w'.drawn+i) q=w.tape (w.drawn+i) q
def qd(m:Ren)(e:Event):Prop:=
 match e.loc with
 |.cell a'=>e.sync=f?/\∃a,AR m a a'/\(e.write=t?->¬m.loose a.block)
 |.obj r'=>e.sync=f?/\∃r,m.blk r=y? r'/\¬m.loose r|.mark k=>O4 k|.output=>True|_=>False
structure gw(m dA:Ren)(w w₁:w?):Prop where
 old:∀r',r'<w.1.size->(∀r,m.blk r≠some r')->w₁.1[r']?=w.1[r']?
 size:w.1.size<=w₁.1.size
 fresh:∀r',w.1.size<=r'->r'<w₁.1.size->(∃r,dA.blk r=some r')\/(∃r,dA.ch r=some r')
 news:∀r r',dA.blk r=some r'->m.blk r=some r'\/w.1.size<=r'
 UT:∀r r',dA.ch r=some r'->m.ch r=some r'\/w.1.size<=r'
 tape:w₁.tape=w.tape
 output:w₁.output=w.output
 os:w₁.os=w.os
 nT:¬m.jf->dA.ch=m.ch
 lS:dA.lS=m.lS
 still:∀r r',m.blk r=some r'->m.loose r->w₁.1[r']?=w.1[r']?
def gw.refl(m)(w):gw m m w w:=⟨λ_ _ _=>rfl,dB _,λr' h h'=>absurd h' o!,λ_ _ h=>.inl h,λ_ _ h=>.inl h,q?,q?,q?,λ_=>rfl,q?,λ_ _ _ _=>rfl⟩
def qd.mono{m}(h:m.Le m'){e}(x:qd m e):qd m' e:=by unfold qd at x⊢;split<;>simp_all only;obtain⟨_,a,B,O⟩:=x;exact⟨t!,a,B.mono h,λU=>by rw[h.loose _ _ B.blk];exact O U⟩;obtain⟨_,a,B,W⟩:=x;exact⟨t!,a,h.blk _ _ B,λy=>W ((h.loose _ _ B).1 y)⟩
def gw.trans{m dA m₂ w w₁ nQ}(U:m.Le dA)(B:dA.Le m₂)(h:gw m dA w w₁)(h':gw dA m₂ w₁ nQ):gw m m₂ w nQ:=by
 refine⟨λr' O Y=>?_,dw h.size h'.size,λr' O W=>?_,λr r' hb=>?_,λr r' hb=>?_,h'.tape.trans h.tape,h'.output.trans h.output,h'.os.trans h.os,λhm=>(h'.nT (by rw[U.jf];exact hm)).trans (h.nT hm),h'.lS.trans h.lS,λr r' hb hx=>(h'.still r r' (U.blk _ _ hb) ((U.loose _ _ hb).2 hx)).trans (h.still r r' hb hx)⟩;rw[h'.old r' (dS O h.size) λr hb=>?_,h.old r' O Y];obtain x|x:=h.news r r' hb
 exact Y r x;omega;by_cases hc:r'<w₁.1.size;obtain⟨r,x⟩|⟨r,x⟩:=h.fresh r' O hc
 exact .inl ⟨r,B.blk _ _ x⟩;exact .inr ⟨r,B.ch _ _ x⟩;exact h'.fresh r' o! W;obtain x|x:=h'.news r r' hb
 exact h.news r r' x;exact .inr (dw h.size x);obtain x|x:=h'.UT r r' hb
 exact h.UT r r' x;exact .inr (dw h.size x)
section
variable {m:Ren} {w w':w?}
def WR.lt(h:WR m w w'){r r'}(hb:m.blk r=y? r'):r<w.1.size/\r'<w'.1.size:=by obtain⟨o,o',B,O,_⟩:=h.obj r r' hb;exact⟨(ay.1 B).1,(ay.1 O).1⟩
def WR.cell(h:WR m w w'){a a'}(B:AR m a a'){v}(hv:w.cell? a=y? v):∃v',w'.cell? a'=y? v'/\VR m v v':=by
 cases B with
 |@mk b b' o s hb=>
 obtain⟨x,x',O,U,W⟩:=h.obj b b' hb;unfold gm at hv⊢;simp only[O,U]at hv⊢
 cases W with
 |cells e f f' Y=>
  simp only at hv⊢;split at hv
  cases hv;rename_i hs;rw[if_neg hs];exact Y.get hv
 |_=>cases hv
def WR.Qb(h:WR m w w'){a a'}(B:AR m a a')(W:w.cell? a=x?)(P)(b):∃y,w.farLoad P a b=.error (.stuck y):=by
 cases B with
 |@mk b b' o s hb=>
 obtain⟨x,x',O,Y,U⟩:=h.obj b b' hb;unfold World.farLoad gj;simp only[O];cases U<;>exact⟨_,q?⟩
def WR.KE(h:WR m w w'){a a'}(B:AR m a a')(W:w.cell? a=x?)(P)(v)(b):∃y,w.farStore P a v b=.error (.stuck y):=by
 cases B with
 |@mk b b' o s hb=>
 obtain⟨x,x',O,Y,U⟩:=h.obj b b' hb;unfold World.farStore gj;simp only[O];cases U<;>exact⟨_,q?⟩
end
variable {a':Addr} {es:Array Event} {h:Array Obj} {r r':Nat} {o o':Obj} {P:P?} {al:Prop}
def l7:Halt->Prop
 |.unsupported (.initOrder _)=>False|.unsupported _=>True|.stuck _=>True|.throw _=>True|_=>False
def eN.run{s:Sem α}(h:eN P s):∀w,∃x w₁,s.run P w=.halt x w₁/\l7 x:=by
 induction s with
 |pure a=>exact h.elim|load m a k B=>exact h.elim|store m a v k B=>intro w;cases v<;>first|exact h.elim|exact⟨_,_,q?,t!⟩
 |new o k B=>exact λw=>B _ (h _) _|shape r k B=>exact λw=>B _ (h _) _|freeze a n k B=>exact λw=>B h _|frozen a k B=>exact λw=>B _ (h _) _|getObj r k B=>intro w;simp only[cL];split;exact⟨_,_,q?,t!⟩;exact B _ (h _) _;exact⟨_,_,q?,t!⟩
 |setObj r o k B=>intro w;simp only[cL];split;exact⟨_,_,q?,t!⟩;exact B h _;exact⟨_,_,q?,t!⟩
 |choose q k B=>intro w;simp only[cL];split;exact B _ (h _) _;exact B _ (h _) _
 |sys c k B=>exact λw=>B _ (h _) _|program k B=>exact λw=>B P h _|mark m k B=>exact λw=>B h _|halt x=>intro w;refine⟨x,w,q?,?_⟩;cases x<;>first|exact h.elim|trivial|(rename_i u;cases u<;>first|exact h.elim|trivial)
def Ren.ext(m:Ren)(r r')(_h:m.blk r=x?)(h':∀s,m.blk s≠y? r')(W:r<m.G↔r'<m.G):Ren where
 blk:=λs=>if s=r then y? r' else m.blk s
 ch:=m.ch
 loose:=λs=>if s=r then False else m.loose s
 ok:=m.ok
 gE:=m.gE
 jf:=m.jf
 dead:=m.dead
 dm:=m.dm
 tK:=m.tK
 lS:=m.lS
 G:=m.G
 qa:=λa b B=>by
  by_cases O:a=r
  .simp[O]at B;subst B;rw[O];exact W
  .simp[O]at B;exact m.qa _ _ B
 inj:=λa b t B hb=>by
  by_cases O:a=r<;>by_cases U:b=r
  .rw[O,U]
  .simp[O,U]at B hb;subst B;exact absurd hb (h' _)
  .simp[O,U]at B hb;subst hb;exact absurd B (h' _)
  .simp[O,U]at B hb;exact m.inj _ _ _ B hb
 xu:=m.xu
def Ren.uJ(m:Ren)(r r')(_h:m.ch r=x?)(h':∀s,m.ch s≠y? r'):Ren where
 blk:=m.blk
 ch:=λs=>if s=r then y? r' else m.ch s
 loose:=m.loose
 ok:=m.ok
 gE:=m.gE
 jf:=m.jf
 dead:=m.dead
 dm:=m.dm
 tK:=m.tK
 lS:=m.lS
 G:=m.G
 qa:=m.qa
 inj:=m.inj
 xu:=λa b t B hb=>by
  by_cases O:a=r<;>by_cases U:b=r
  .rw[O,U]
  .simp[O,U]at B hb;subst B;exact absurd hb (h' _)
  .simp[O,U]at B hb;subst hb;exact absurd B (h' _)
  .simp[O,U]at B hb;exact m.xu _ _ _ B hb
def Ren.xq{m:Ren}(h)(h')(hG):m.Le (m.ext r r' h h' hG):=by
 refine⟨λs s' B=>?_,λ_ _ x=>x,λs s' B=>?_,λs B=>?_,q?,q?,q?,q?,q?,q?,q?⟩;have:s≠r:=λe=>by rw[e,h]at B;cases B
 simp[Ren.ext,this,B];have:s≠r:=λe=>by rw[e,h]at B;cases B
 simp[Ren.ext,this];by_cases e:s=r;simp[Ren.ext,e]at B;simpa[Ren.ext,e]using B
def Ren.yY{m:Ren}(h)(h'):m.Le (m.uJ r r' h h'):=by
 refine⟨λ_ _ x=>x,λs s' B=>?_,λs s' B=>Iff.rfl,λ_ h=>h,q?,q?,q?,q?,q?,q?,q?⟩;have:s≠r:=λe=>by rw[e,h]at B;cases B
 simp[Ren.uJ,this,B]
section
variable {m:Ren} {w w':w?}
def WR.ii(h:WR m w w'):m.blk w.1.size=x?:=by
 cases hb:m.blk _ with
 |none=>rfl|some r'=>have:=(h.lt hb).1;omega
def WR.mN(h:WR m w w'):∀s,m.blk s≠y? w'.1.size:=λs hb=>by have:=(h.lt hb).2;omega
def WR.rp(h:WR m w w'):m.ch w.1.size=x?:=by
 cases hb:m.ch _ with
 |none=>rfl|some r'=>have:=(h.NO _ _ hb).1;omega
def WR.oW(h:WR m w w'):∀s,m.ch s≠y? w'.1.size:=λs hb=>by have:=(h.NO _ _ hb).2;omega
def WR.Uf(h:WR m w w'):w.1.size<m.G↔w'.1.size<m.G:=⟨λx=>absurd h.NJ o!,λx=>absurd h.KV o!⟩
def fw(B:r<h.size):(h.push o)[r]?=h[r]?:=by rw[Array.getElem?_push];have:r≠h.size:=o!;simp[this]
def lh(x:h[r]?=y? o):r<h.size:=(ay.1 x).1
def jJ{x}(B:h[r]?=y? x):(h.push o)[r]?=y? x:=by rw[fw (lh B)];exact B
def WR.push(h:WR m w w')(ho:OR m o o')(hc:∀e c f,o=c? e c f->∃e',o'=c? e' c f) :
  WR (m.ext w.1.size w'.1.size h.ii h.mN h.Uf) {w with heap:=w.1.push o} {w' with heap:=w'.1.push o'}:=by
 have O:=Ren.xq h.ii h.mN h.Uf
 have key:∀r r',(m.ext w.1.size w'.1.size h.ii h.mN h.Uf).blk r=y? r'->(r=w.1.size/\r'=w'.1.size)\/(m.blk r=y? r'/\r<w.1.size/\r'<w'.1.size):=by intro r r' hb;by_cases e:r=w.1.size;simp[Ren.ext,e]at hb;exact .inl ⟨e,hb.symm⟩;simp[Ren.ext,e]at hb;exact .inr ⟨hb,h.lt hb⟩
 refine⟨λr r' hb=>?_,λr r' c e f c' e' f' hb U W hn=>?_,λr r' c e f c' e' f' hb U W hl=>?_,λr r' hb=>?_,by simp;have:=h.NJ;first|exact dN this|exact this,by simp;have:=h.KV;first|exact dN this|exact this,h.os,λr o hr=>⟨jJ (h.lS r o hr).1,(h.lS r o hr).2⟩,λr r' hb hl=>?_,λr hr=>⟨?_,?_⟩,λr i v hv=>?_⟩;obtain⟨rfl,rfl⟩|⟨B,Y,l2⟩:=key r r' hb
 exact⟨o,o',i!,i!,ho.mono O⟩;obtain⟨x,x',g1,g2,g3⟩:=h.obj r r' B;exact⟨x,x',by rw[fw Y];exact g1,by rw[fw l2];exact g2,g3.mono O⟩;obtain⟨rfl,rfl⟩|⟨B,Y,l2⟩:=key r r' hb
 simp at U W;obtain⟨y,hy⟩:=hc _ _ _ U;rw[hy]at W;cases W;rfl;simp only[fw Y,fw l2]at U W;refine h.fz r r' _ _ _ _ _ _ B U W λhl=>hn ((O.loose r r' B).2 hl);obtain⟨rfl,rfl⟩|⟨B,Y,l2⟩:=key r r' hb
 simp[Ren.ext]at hl;simp only[fw Y,fw l2]at U W;exact h.all r r' _ _ _ _ _ _ B U W ((O.loose r r' B).1 hl);have:=h.NO r r' hb;simp;omega;obtain⟨rfl,rfl⟩|⟨B,Y,l2⟩:=key r r' hb
 simp[Ren.ext]at hl;obtain⟨c,e,f,hx⟩:=h.lk r r' B ((O.loose r r' B).1 hl);exact⟨c,e,f,jJ hx⟩;obtain⟨U,c,f,hx⟩:=h.dead r hr;have:r≠w.1.size:=Nat.ne_of_lt (lh hx);simp[Ren.ext,this,U];obtain⟨U,c,f,hx⟩:=h.dead r hr;exact⟨c,f,jJ hx⟩;obtain⟨r',hb,hp⟩:=h.tK r i v hv;refine⟨r',O.blk _ _ hb,λc e f c' e' f' x g1 g2=>?_⟩;obtain⟨Y,l2⟩:=h.lt hb;simp only[fw Y,fw l2]at g1 g2;exact hp c e f c' e' f' x g1 g2
def WR.PN(h:WR m w w')(o o'):WR (m.uJ w.1.size w'.1.size h.rp h.oW) {w with heap:=w.1.push o} {w' with heap:=w'.1.push o'}:=by have aa:=Ren.yY h.rp h.oW;refine⟨λr r' hb=>?_,λr r' c e f c' e' f' hb B W hn=>?_,λr r' c e f c' e' f' hb B W hl=>?_,λr r' hb=>?_,by simp;have:=h.NJ;first|exact dN this|exact this,by simp;have:=h.KV;first|exact dN this|exact this,h.os,λr o Y=>⟨jJ (h.lS r o Y).1,(h.lS r o Y).2⟩,λr r' hb hl=>by obtain⟨c,e,f,hx⟩:=h.lk r r' hb hl;exact⟨c,e,f,jJ hx⟩,λr Y=>by obtain⟨B,c,f,hx⟩:=h.dead r Y;exact⟨B,c,f,jJ hx⟩,λr i v hv=>?_⟩;obtain⟨O,U⟩:=h.lt (show m.blk r=y? r' from hb);obtain⟨x,x',g1,g2,g3⟩:=h.obj r r' hb;exact⟨x,x',by rw[fw O];exact g1,by rw[fw U];exact g2,g3.mono aa⟩;obtain⟨O,U⟩:=h.lt (show m.blk r=y? r' from hb);simp only[fw O,fw U]at B W;exact h.fz r r' _ _ _ _ _ _ hb B W hn;obtain⟨O,U⟩:=h.lt (show m.blk r=y? r' from hb);simp only[fw O,fw U]at B W;exact h.all r r' _ _ _ _ _ _ hb B W hl;by_cases e:r=w.1.size;simp[Ren.uJ,e]at hb;subst hb;simp[e];simp[Ren.uJ,e]at hb;have:=h.NO r r' hb;simp;omega;obtain⟨r',hb,hp⟩:=h.tK r i v hv;refine⟨r',hb,λc e f c' e' f' x g1 g2=>?_⟩;obtain⟨O,U⟩:=h.lt hb;simp only[fw O,fw U]at g1 g2;exact hp c e f c' e' f' x g1 g2
def WR.turn(h:WR m w w')(hb:m.blk r=y? r')(ho:OR m o o')
  (hf:∀c e f c' U f',o=c? c e f->o'=c? c' U f'->(¬m.loose r->f'=f)/\(m.loose r->∀i,i<c.size->inside f i)) (aa:m.loose r->∃c e f,o=c? c e f)
  (ab:∀c e f c' U f',o=c? c e f->o'=c? c' U f'->∀i x v,m.tK r i=y? v->c[i]?=y? x->pO x->c'[i]?=y? v) :
  WR m {w with heap:=w.1.setIfInBounds r o} {w' with heap:=w'.1.setIfInBounds r' o'}:=by
 obtain⟨l1,l2⟩:=h.lt hb
 have key:∀s s',m.blk s=y? s'->(s=r/\s'=r')\/(s≠r/\s'≠r'):=by intro s s' B;by_cases e:s=r;subst e;rw[hb]at B;cases B;exact .inl ⟨q?,q?⟩;exact .inr ⟨e,λU=>e (m.inj _ _ _ (U▸B) hb)⟩
 refine⟨λs s' B=>?_,λs s' c e f c' U f' B O W hn=>?_,λs s' c e f c' U f' B O W hl=>?_,λs s' B=>by simpa using h.NO s s' B,u! h.NJ,u! h.KV,h.os,λs x B=>?_,λs s' B hl=>?_,λs B=>?_,λs i v hv=>?_⟩;obtain⟨rfl,rfl⟩|⟨n1,n2⟩:=key s s' B
 exact⟨o,o',by simp[l1],by simp[l2],ho⟩;obtain⟨x,x',Y,g2,g3⟩:=h.obj s s' B;exact⟨x,x',by rw[ax (g9 n1)];exact Y,by rw[ax (g9 n2)];exact g2,g3⟩;obtain⟨rfl,rfl⟩|⟨n1,n2⟩:=key s s' B
 simp[l1,l2]at O W;exact(hf _ _ _ _ _ _ O W).1 hn;simp only[ax (g9 n1),ax (g9 n2)]at O W;exact h.fz s s' _ _ _ _ _ _ B O W hn;obtain⟨rfl,rfl⟩|⟨n1,n2⟩:=key s s' B
 simp[l1,l2]at O W;exact(hf _ _ _ _ _ _ O W).2 hl;simp only[ax (g9 n1),ax (g9 n2)]at O W;exact h.all s s' _ _ _ _ _ _ B O W hl;obtain⟨Y,g2⟩:=h.lS s x B;refine⟨?_,g2⟩
 have:r≠s:=by rintro rfl;obtain⟨y,y',k1,_,k3⟩:=h.obj r r' hb;obtain⟨c,b,x',s',z,t,rfl⟩:=g2;rw[Y]at k1;cases k1;cases k3
 show(w.1.setIfInBounds r o)[s]?=_;rw[ax this];exact Y;obtain⟨rfl,rfl⟩|⟨n1,n2⟩:=key s s' B
 obtain⟨c,e,f,rfl⟩:=aa hl;exact⟨c,e,f,by simp[l1]⟩;obtain⟨c,e,f,hx⟩:=h.lk s s' B hl;exact⟨c,e,f,by simpa only[ax (g9 n1)]using hx⟩;obtain⟨O,c,f,hx⟩:=h.dead s B;have:r≠s:=by rintro rfl;rw[hb]at O;cases O
 exact⟨O,c,f,by simpa only[ax this]using hx⟩;obtain⟨s',B,hp⟩:=h.tK s i v hv;refine⟨s',B,λc e f c' U f' x Y g2=>?_⟩;obtain⟨rfl,rfl⟩|⟨n1,n2⟩:=key s s' B
 simp[l1,l2]at Y g2;exact λg3 g4=>ab _ _ _ _ _ _ Y g2 i x v hv g3 g4;simp only[ax (g9 n1),ax (g9 n2)]at Y g2;exact hp c e f c' U f' x Y g2
def rB(h:Array Obj)(r)(f)(o)(O:h[r]?=y? o):h.modify r f=h.setIfInBounds r (f o):=by apply Array.ext_getElem?;intro i;obtain⟨B,U⟩:=ay.1 O;by_cases e:r=i;subst e;rw[a2];simp[B,U];rw[a2];simp[e]
def WR.setCell(h:WR m w w'){a}(ha:AR m a a'){v v'}(hv:VR m v v')(ab:¬pO v):WR m (w.setCell a v) (w'.setCell a' v'):=by
 cases ha with
 |@mk b b' o s hb=>
 obtain⟨x,x',U,W,ho⟩:=h.obj b b' hb;unfold World.setCell;simp only[rB _ _ _ _ U,rB _ _ _ _ W]
 cases ho with
 |cells e f f' hc=>
  refine h.turn hb (.cells e f f' ?_) (λc e f c' e' f' e1 e2=>?_) (λ_=>⟨_,_,_,q?⟩) ?_;split;exact hc;exact hc.set _ hv
  cases e1;cases e2;refine⟨λY=>h.fz b b' _ _ _ _ _ _ hb U W Y,λO i hi=>h.all b b' _ _ _ _ _ _ hb U W O i ?_⟩;revert hi;split<;>simp;intro c1 e1 f1 c2 e2 f2 q1 q2 i x u hu B Y;cases q1;cases q2;obtain⟨b2,aa,hp⟩:=h.tK b i u hu;rw[hb]at aa;cases aa;revert B;split;exact λB=>hp _ _ _ _ _ _ x U W B Y;intro B;by_cases e:o=i;subst e;rw[Array.getElem?_setIfInBounds]at B;simp at B;exact absurd (B.2▸Y) ab;rw[ax e]at B⊢;exact hp _ _ _ _ _ _ x U W B Y
 |map clock he=>exact h.turn hb (.map clock he) (nofun) (λO=>(by obtain⟨c,e,f,B⟩:=h.lk _ _ hb O;rw[U]at B;cases B)) (nofun)|number l B=>exact h.turn hb (.number l B) (nofun) (λO=>(by obtain⟨c,e,f,B⟩:=h.lk _ _ hb O;rw[U]at B;cases B)) (nofun)|stringIter s p=>exact h.turn hb (.stringIter s p) (nofun) (λO=>(by obtain⟨c,e,f,B⟩:=h.lk _ _ hb O;rw[U]at B;cases B)) (nofun)|gW x y z=>exact h.turn hb (.gW x y z) (nofun) (λO=>(by obtain⟨c,e,f,B⟩:=h.lk _ _ hb O;rw[U]at B;cases B)) (nofun)|mapIter x y z hm=>exact h.turn hb (.mapIter x y z hm) (nofun) (λO=>(by obtain⟨c,e,f,B⟩:=h.lk _ _ hb O;rw[U]at B;cases B)) (nofun)|loop O=>exact h.turn hb (.loop O) (nofun) (λO=>(by obtain⟨c,e,f,B⟩:=h.lk _ _ hb O;rw[U]at B;cases B)) (nofun)|fF=>exact h.turn hb .fF (nofun) (λO=>(by obtain⟨c,e,f,B⟩:=h.lk _ _ hb O;rw[U]at B;cases B)) (nofun)|deferred hd=>exact h.turn hb (.deferred hd) (nofun) (λO=>(by obtain⟨c,e,f,B⟩:=h.lk _ _ hb O;rw[U]at B;cases B)) (nofun)
def WR.freeze(h:WR m w w'){a}(ha:AR m a a')(hn:¬m.loose a.block)(n):WR m (w.freeze a n) (w'.freeze a' n):=by
 cases ha with
 |@mk b b' o s hb=>
 obtain⟨x,x',U,Y,ho⟩:=h.obj b b' hb;unfold gg;split
 .exact h
 simp only[rB _ _ _ _ U,rB _ _ _ _ Y]
 cases ho with
 |cells e f f' hc=>
  have ef:=h.fz b b' _ _ _ _ _ _ hb U Y hn;subst ef;refine h.turn hb (.cells e _ _ hc) (λc e f c' e' f' e1 e2=>?_) (λ_=>⟨_,_,_,q?⟩) ?_
  cases e1;cases e2;exact⟨λ_=>rfl,λO=>absurd O hn⟩;intro c1 e1 f1 c2 e2 f2 q1 q2 i x u hu B aa;cases q1;cases q2;obtain⟨b2,W,hp⟩:=h.tK b i u hu;rw[hb]at W;cases W;exact hp _ _ _ _ _ _ x U Y B aa
 |map clock he=>exact h.turn hb (.map clock he) (nofun) (λO=>(by obtain⟨c,e,f,B⟩:=h.lk _ _ hb O;rw[U]at B;cases B)) (nofun)|number l B=>exact h.turn hb (.number l B) (nofun) (λO=>(by obtain⟨c,e,f,B⟩:=h.lk _ _ hb O;rw[U]at B;cases B)) (nofun)|stringIter s p=>exact h.turn hb (.stringIter s p) (nofun) (λO=>(by obtain⟨c,e,f,B⟩:=h.lk _ _ hb O;rw[U]at B;cases B)) (nofun)|gW x y z=>exact h.turn hb (.gW x y z) (nofun) (λO=>(by obtain⟨c,e,f,B⟩:=h.lk _ _ hb O;rw[U]at B;cases B)) (nofun)|mapIter x y z hm=>exact h.turn hb (.mapIter x y z hm) (nofun) (λO=>(by obtain⟨c,e,f,B⟩:=h.lk _ _ hb O;rw[U]at B;cases B)) (nofun)|loop O=>exact h.turn hb (.loop O) (nofun) (λO=>(by obtain⟨c,e,f,B⟩:=h.lk _ _ hb O;rw[U]at B;cases B)) (nofun)|fF=>exact h.turn hb .fF (nofun) (λO=>(by obtain⟨c,e,f,B⟩:=h.lk _ _ hb O;rw[U]at B;cases B)) (nofun)|deferred hd=>exact h.turn hb (.deferred hd) (nofun) (λO=>(by obtain⟨c,e,f,B⟩:=h.lk _ _ hb O;rw[U]at B;cases B)) (nofun)
def WR.draw(h:WR m w w')(a b):WR m {w with drawn:=a} {w' with drawn:=b}:=⟨h.obj,h.fz,h.all,h.NO,h.NJ,h.KV,h.os,h.lS,h.lk,h.dead,h.tK⟩
def Al.draw(h:Al w w'):Al {w with drawn:=w.drawn+1} {w' with drawn:=w'.drawn+1}:=λi q=>by have:=h (i+1) q;have B:w'.drawn+1+i=w'.drawn+(i+1):=o!;have O:w.drawn+1+i=w.drawn+(i+1):=o!;simp only[B,O];exact this
def WR.shape(h:WR m w w')(hb:m.blk r=y? r'):w'.shape? r'=w.shape? r:=by
 obtain⟨x,x',B,O,U⟩:=h.obj r r' hb;unfold World.shape?;simp only[B,O];cases U<;>try rfl
 rename_i W;simp[W.size]
def WR.frozen(h:WR m w w'){a}(U:AR m a a')(W:¬m.loose a.block):w'.frozen? a'=w.frozen? a:=by
 cases U with
 |@mk b b' o s hb=>
 obtain⟨x,x',B,O,Y⟩:=h.obj b b' hb;unfold gi;simp only[B,O];cases Y<;>try rfl
 rw[h.fz b b' _ _ _ _ _ _ hb B O W]
end
def jB{α β}(RA:Ren->α->β->Prop)(al:Prop)(m:Ren)(w':w?)(es:Array Event)(r:Result β×Array Event):Result α->Prop
 |.ok a w₁=>∃dA b B es₁,r=(.ok b B,es++es₁)/\m.Le dA/\RA dA a b/\WR dA w₁ B/\(al->Al w₁ B)/\gw m dA w' B/\∀e∈es₁,qd dA e|.halt (.panic v) w₁=>∃dA v' B es₁,r=(.halt (.panic v') B,es++es₁)/\m.Le dA/\VR dA v v'/\WR dA w₁ B/\(al->Al w₁ B)/\gw m dA w' B/\∀e∈es₁,qd dA e|.halt x _=>l7 x
def jB.ahead{RA al₁ m dA w' Hr es₁}{r:Result β×Array Event}{q:Result α}
  (ha:al->al₁) (hl:m.Le dA) (hk:gw m dA w' Hr) (he:∀e∈es₁,qd dA e) (h:jB RA al₁ dA Hr (es++es₁) r q):jB RA al m w' es r q:=by
 unfold jB at h⊢;split;obtain⟨m₂,b,O,B,h1,U,h3,h4,W,h5,h6⟩:=h;refine⟨m₂,b,O,es₁++B,by rw[h1,aH],hl.trans U,h3,h4,λx=>W (ha x),hk.trans hl U h5,λe Y=>?_⟩;obtain x|x:=a9.1 Y
 exact(he e x).mono U;exact h6 e x;obtain⟨m₂,b,O,B,h1,U,h3,h4,W,h5,h6⟩:=h;refine⟨m₂,b,O,es₁++B,by rw[h1,aH],hl.trans U,h3,h4,λx=>W (ha x),hk.trans hl U h5,λe Y=>?_⟩;obtain x|x:=a9.1 Y
 exact(he e x).mono U;exact h6 e x;rename_i x y Y;cases x<;>first|exact h|exact absurd q? (Y _)
def gw.cell{m w'}(hb:m.blk r=y? r')(O:¬m.loose r)(o):gw m m w' {w' with heap:=w'.1.setIfInBounds r' o}:=
 ⟨λx _ U=>by
   have B:r'≠x:=λe=>U r (e▸hb);rw[ax B],i!,λr' h h'=>absurd h' (u! h),λ_ _ h=>.inl h,λ_ _ h=>.inl h,q?,q?,q?,λ_=>rfl,q?,λs s' W B=>by
   have:r'≠s':=λe=>O (m.inj _ _ _ (e▸W) hb▸B)
   rw[ax this]⟩
def gw.modify{m w'}(hb:m.blk r=y? r')(O:¬m.loose r)(f):gw m m w' {w' with heap:=w'.1.modify r' f}:=
 ⟨λx _ U=>by
   have B:¬r'=x:=λe=>U r (e▸hb);rw[a2];simp[B],i!,λr' h h'=>absurd h' (u! h),λ_ _ h=>.inl h,λ_ _ h=>.inl h,q?,q?,q?,λ_=>rfl,q?,λs s' W B=>by
   have:r'≠s':=λe=>O (m.inj _ _ _ (e▸W) hb▸B)
   rw[a2];simp[this]⟩
def kY{RA m w'}{r:Result β×Array Event}{q:Result α}{e}
  (B:qd m e) (h:jB RA al m w' (es.push e) r q):jB RA al m w' es r q:=
 jB.ahead (es₁:=#[e]) id (.refl m) (.refl m w') (u! B) (u! h)
def dz.run{RA m}{s:Sem α}{s':Sem β}(h:dz P RA m s s') :
  ∀(w w')(es),WR m w w'->(Al w w'\/gV s)->jB RA (Al w w') m w' es (s'.runT P w' es) (s.run P w):=by
 induction h with
 |uH hd=>intro w w' es O B;obtain⟨x,w₁,hr,hh⟩:=hd.run w;rw[hr];cases x<;>first|exact hh|exact hh.elim
 |pure hr=>intro w w' es O B;exact⟨_,_,w',#[],by simp[cN],.refl _,hr,O,id,.refl _ _,i!⟩
 |@load m a a' k k' ha _ U=>
  intro w w' es O B;simp only[cL,cN]
  cases hc:w.cell? a with
  |some v=>obtain⟨v',ah,hv⟩:=O.cell ha hc;simp only[ah];exact kY (e:=⟨.cell a',f?,f?⟩) ⟨q?,a,ha,i!⟩ (U v v' hv w w' _ O (B.imp id λx=>x v))
  |none=>obtain⟨y,hy⟩:=O.Qb ha hc P (Mode.plain==.atomic);simp only[hy];trivial
 |@store m a a' v v' k k' ha hv _ U=>
  intro w w' es O B;by_cases h1:∃c,v=.agg c
  .obtain⟨c,rfl⟩:=h1;simp only[cL];trivial
  by_cases h2:∃c,v=.tuple c
  .obtain⟨c,rfl⟩:=h2;simp only[cL];trivial
  have ai:∀c,v'≠.agg c:=λc e=>by subst e;cases hv<;>first|exact h1 ⟨_,q?⟩|exact h2 ⟨_,q?⟩
  have aj:∀c,v'≠.tuple c:=λc e=>by subst e;cases hv<;>first|exact h1 ⟨_,q?⟩|exact h2 ⟨_,q?⟩
  have e1:(Sem.store Mode.plain a v k).run P w=match w.cell? a with
    |some _=>if w.frozen? a then .halt (.unsupported (.unsafePointer "a write to bytes that a string shares")) w else k.run P (w.setCell a v)|none=>match w.farStore P a v (Mode.plain==.atomic)with
     |.ok (w,_)=>k.run P w|.error h=>.halt h w:=by
   rw[cL];rfl;exact λc e=>h1 ⟨c,e⟩;exact λc e=>h2 ⟨c,e⟩
  have e2:(Sem.store Mode.plain a' v' k').runT P w' es=match w'.cell? a' with
    |some _=>if w'.frozen? a' then(.halt (.unsupported (.unsafePointer "a write to bytes that a string shares")) w',es)else k'.runT P (w'.setCell a' v') (es.push ⟨.cell a',t?,Mode.plain==.atomic⟩)|none=>match w'.farStore P a' v' (Mode.plain==.atomic)with
     |.ok (w,aa)=>k'.runT P w (es++aa.toArray.map (⟨.cell ·,t?,Mode.plain==.atomic⟩))|.error h=>(.halt h w',es):=by
   rw[cN];rfl;exact ai;exact aj
  have ag:¬pO v:=by intro ak;cases v<;>first|exact ak.elim|exact h1 ⟨_,q?⟩|exact h2 ⟨_,q?⟩
  rw[e1,e2]
  cases hc:w.cell? a with
  |none=>obtain⟨y,hy⟩:=O.KE ha hc P v (Mode.plain==.atomic);simp only[hy];trivial
  |some u=>
   obtain⟨u',am,_⟩:=O.cell ha hc;simp only[am];by_cases hf:w.frozen? a=t?
   .simp only[hf,if_true];trivial
   have ad:¬m.loose a.block:=by
    intro hl
    cases ha with
    |@mk b b' o s hb=>
    obtain⟨x,x',g1,g2,ho⟩:=O.obj b b' hb;unfold gm at hc;simp only[g1]at hc
    cases ho with
    |cells e f f' au=>
     simp only at hc;split at hc
     cases hc;have an:=(ay.1 hc).1;have:=O.all b b' _ _ _ _ _ _ hb g1 g2 hl o an;apply hf;unfold gi;simp only[g1];simpa[inside]using this
    |_=>cases hc
   have ao:w'.frozen? a'=f?:=by rw[O.frozen ha ad];simpa using hf
   simp only[hf,ao,if_false,dr];have ap:(Mode.plain==Mode.atomic)=f?:=rfl;rw[ap];refine jB.ahead (es₁:=#[⟨.cell a',t?,f?⟩]) (al₁:=Al (w.setCell a v) (w'.setCell a' v')) (λh=>h) (.refl _) ?_ ?_ (by simpa using U (w.setCell a v) _ _ (O.setCell ha hv ag) B)
   cases ha with
   |mk hb=>exact gw.modify hb ad _
   simp only[List.mem_toArray,fm,List.not_mem_nil,or_false,forall_eq];exact⟨q?,a,ha,λ_=>ad⟩
 |@new m o o' k k' ho hc _ U=>
  intro w w' es O B;simp only[cL,cN];have ab:=Ren.xq O.ii O.mN O.Uf;have ac:(m.ext w.1.size w'.1.size O.ii O.mN O.Uf).blk w.1.size=y? w'.1.size:=by simp[Ren.ext]
  refine jB.ahead (es₁:=#[]) (al₁:=Al {w with heap:=w.1.push o} {w' with heap:=w'.1.push o'}) (λh=>h) ab ?_ i! (by simpa using U _ _ _ ab ac (by simp[Ren.ext]) {w with heap:=w.1.push o} _ _ (O.push ho hc) (B.imp id λx=>x _));refine⟨λr' hr hn=>fw hr,i!,λr' h h'=>.inl ⟨w.1.size,?_⟩,λr r' hb=>?_,λ_ _ h=>.inl h,q?,q?,q?,λ_=>rfl,q?,λr r' hb _=>fw (O.lt hb).2⟩;have:r'=w'.1.size:=by simp at h';omega
  rw[this];exact ac;by_cases e:r=w.1.size;simp[Ren.ext,e]at hb;exact .inr o!;simp[Ren.ext,e]at hb;exact .inl hb
 |@r9 m c b x s r t c' b' x' s' r' t' k k' aq _ U=>
  intro w w' es O B;simp only[cL,cN];have ab:=Ren.yY O.rp O.oW;have ac:(m.uJ w.1.size w'.1.size O.rp O.oW).ch w.1.size=y? w'.1.size:=by simp[Ren.uJ]
  refine jB.ahead (es₁:=#[]) (al₁:=Al {w with heap:=w.1.push (.chan c b x s r t)} {w' with heap:=w'.1.push (.chan c' b' x' s' r' t')}) (λh=>h) ab ?_ i! (by simpa using U _ _ _ ab ac {w with heap:=w.1.push _} _ _ (O.PN _ _) (B.imp id λx=>x _));refine⟨λr' hr hn=>fw hr,i!,λr' h h'=>.inr ⟨w.1.size,?_⟩,λ_ _ h=>.inl h,λr r' hb=>?_,q?,q?,q?,λhn=>absurd aq hn,q?,λr r' hb _=>fw (O.lt hb).2⟩;have:r'=w'.1.size:=by simp at h';omega
  rw[this];exact ac;by_cases e:r=w.1.size;simp[Ren.uJ,e]at hb;exact .inr o!;simp[Ren.uJ,e]at hb;exact .inl hb
 |shape hb _ U=>intro w w' es O B;simp only[cL,cN,O.shape hb];exact U _ w w' es O (B.imp id λx=>x _)
 |@freeze m a a' n k k' ha hn _ U=>
  intro w w' es O B;simp only[cL,cN];refine jB.ahead (es₁:=#[]) (al₁:=Al (w.freeze a n) (w'.freeze a' n)) (λh=>by unfold gg;split<;>exact h) (.refl _) ?_ i! (by simpa using U _ _ _ (O.freeze ha hn _) (B.imp (λh=>by unfold gg;split<;>exact h) λx=>x))
  cases ha with
  |mk hb=>unfold gg;split;exact .refl _ _;exact gw.modify hb hn _
 |frozen ha hn _ U=>intro w w' es O B;simp only[cL,cN,O.frozen ha hn];exact U _ w w' es O (B.imp id λx=>x _)
 |getObj hb _ U=>
  intro w w' es O B;obtain⟨x,x',h1,h2,ho⟩:=O.obj _ _ hb;simp only[cL,cN,h1,h2];obtain W|W:=Classical.em (Ren.loose _ _)
  .obtain⟨c,e,f,hx⟩:=O.lk _ _ hb W;rw[h1]at hx;cases hx;trivial
  have Y:qd _ ⟨.obj _,f?,f?⟩:=⟨q?,_,hb,W⟩
  cases ho with
  |cells=>trivial|map clock he=>exact kY Y (U _ _ (.map clock he) w w' _ O (B.imp id λx=>x _))|number l hx=>exact kY Y (U _ _ (.number l hx) w w' _ O (B.imp id λx=>x _))|stringIter s p=>exact kY Y (U _ _ (.stringIter s p) w w' _ O (B.imp id λx=>x _))|gW a b c=>exact kY Y (U _ _ (.gW a b c) w w' _ O (B.imp id λx=>x _))|mapIter a b c hm=>exact kY Y (U _ _ (.mapIter a b c hm) w w' _ O (B.imp id λx=>x _))|loop hl=>exact kY Y (U _ _ (.loop hl) w w' _ O (B.imp id λx=>x _))|fF=>exact kY Y (U _ _ .fF w w' _ O (B.imp id λx=>x _))|deferred hd=>exact kY Y (U _ _ (.deferred hd) w w' _ O (B.imp id λx=>x _))
 |@setObj m r r' o o' k k' hb ho hc _ U=>
  intro w w' es O B;obtain⟨x,x',h1,h2,hx⟩:=O.obj _ _ hb;have ar:o'.isChan=f?:=by cases ho<;>rfl
  obtain W|W:=Classical.em (m.loose r)
  .obtain⟨c,e,f,hy⟩:=O.lk _ _ hb W;simp only[cL,hy];trivial
  have ae:=O.turn hb ho (λc e f c' e' f' e1 _=>absurd e1 (hc c e f)) (λh=>absurd h W) (λc e f c' e' f' e1 _=>absurd e1 (hc c e f))
  have fin:jB RA (Al w w') m w' es (k'.runT P {w' with heap:=w'.1.setIfInBounds r' o'} (es.push ⟨.obj r',t?,o'.isChan⟩)) (k.run P {w with heap:=w.1.setIfInBounds r o}):=by rw[ar];exact jB.ahead (es₁:=#[⟨.obj r',t?,f?⟩]) (al₁:=Al {w with heap:=w.1.setIfInBounds r o} {w' with heap:=w'.1.setIfInBounds r' o'}) (λh=>h) (.refl _) (gw.cell hb W _) (by simpa using⟨rfl,_,hb,W⟩) (by simpa using U _ _ _ ae B)
  simp only[cL,cN,h1,h2];cases hx<;>first|trivial|exact fin
 |choose _ U=>
  intro w w' es O B;obtain af|B:=B
  simp only[cL,cN];split;exact U _ w w' es O (.inl af);have:=af 0;simp only[Nat.add_zero]at this;rw[this];refine jB.ahead (es₁:=#[]) (λh=>h.draw) (.refl _) ?_ i! (by simpa using U _ {w with drawn:=w.drawn+1} _ _ (O.draw _ _) (.inl af.draw));exact⟨λ_ _ _=>rfl,dB _,λr' h h'=>absurd h' (u! h),λ_ _ h=>.inl h,λ_ _ h=>.inl h,q?,q?,q?,λ_=>rfl,q?,λ_ _ _ _=>rfl⟩;exact B.elim
 |gone hd=>intro w w' es O B;obtain⟨_,c,f,hx⟩:=O.dead _ hd;simp only[cL,hx];trivial
 |env _ U=>intro w w' es O B;have e:∀x:w?,x.sys .env=(.strings x.os.env,x):=λ_=>rfl;simp only[cL,cN,e,O.os];exact kY (e:=⟨.output,t?,f?⟩) trivial (U _ w w' _ O (B.imp id λx=>x _))
 |program _ U=>exact λw w' es O B=>U w w' es O (B.imp id λx=>x P)|@mark m x k k' hm _ U=>exact λw w' es O B=>kY (e:=⟨.mark x,f?,t?⟩) hm (U w w' _ O B)|panic hv=>intro w w' es O B;exact⟨_,_,w',#[],by simp[cN],.refl _,hv,O,id,.refl _ _,i!⟩
inductive lZ(P:P?){α β:Type}(RA:Ren->α->β->Prop):Ren->Sem α->Sem β->Prop
 |base {m s s'}:dz P RA m s s'->lZ P RA m s s'|bind {γ δ:Type} {RC:Ren->γ->δ->Prop} {m} {s:Sem γ} {s':Sem δ} {f:γ->Sem α} {f':δ->Sem β}:dz P RC m s s'->(∀m' a b,m.Le m'->RC m' a b->lZ P RA m' (f a) (f' b))->lZ P RA m (s.bind f) (s'.bind f')|VA {m q k s'}:(∀n,gV (k n))->(∀n,dz P RA m (k n) s')->lZ P RA m (.choose q k) s'
def UU{α β}(RA:Ren->α->β->Prop)(m:Ren)(w':w?)(es:Array Event)(r:Result β×Array Event)(q:Result α):Prop:=jB RA False m w' es r q
def jB.U5{RA m w'}{r:Result β×Array Event}{q:Result α}(h:jB RA al m w' es r q):UU RA m w' es r q:=
 jB.ahead (es₁:=#[]) (nofun) (.refl m) (.refl m w') i! (u! h)
def lZ.run{RA m}{s:Sem α}{s':Sem β}(h:lZ P RA m s s') :
  ∀(w w')(es),WR m w w'->Al w w'->UU RA m w' es (s'.runT P w' es) (s.run P w):=by
 induction h with
 |base h=>exact λw w' es U O=>(h.run w w' es U (.inl O)).U5|@bind γ δ RC m s s' f f' h _ ih=>
  intro w w' es U O;have W:=h.run w w' es U (.inl O);rw[cO,Sem.runT_bind']
  cases hr:s.run P w with
  |ok a w₁=>rw[hr]at W;obtain⟨dA,b,B,es₁,e1,Y,e3,e4,e5,e6,e7⟩:=W;rw[e1];exact jB.ahead (es₁:=es₁) (nofun) Y e6 e7 (ih dA a b Y e3 w₁ B _ e4 (e5 O))
  |halt x w₁=>
   rw[hr]at W
   cases x with
   |panic v=>obtain⟨dA,b,B,es₁,e1,Y,e3,e4,e5,e6,e7⟩:=W;rw[e1];exact⟨dA,b,B,es₁,q?,Y,e3,e4,nofun,e6,e7⟩
   |_=>exact W
 |VA hd h=>intro w w' es U O;simp only[cL];split;exact((h _).run w w' es U (.inl O)).U5;exact((h _).run _ w' es (U.draw ..) (.inr (hd _))).U5
variable {a:Addr} {c c':Array v?} {γ δ:Type} {t:bF} {v v' x x':v?}
structure nC(P:P?):Prop where
 zero:∀t i v,P.info? t=some i->i.zero=some v->∀m,VR m v v
 W6:∀t i,P.info? t=some i->i.methods.find? (·.name == "")=none
def yw{α:Type}:Ren->α->α->Prop:=λ_ a b=>a=b
def Bj{α β:Type}:Ren->α->β->Prop:=λ_ _ _=>True
section
variable {P:P?} {m:Ren}
def dJ{RA RB s s'}{f:α->Sem γ}{f':β->Sem δ}
  (h:dz P RA m s s') (B:∀m' a b,m.Le m'->RA m' a b->dz P RB m' (f a) (f' b)):dz P RB m (s >>= f) (s' >>= f'):=dz.bind h B
def dR{RA:Ren->α->β->Prop}{c}[Decidable c]{s t s' t'}(h:c->dz P RA m s s')(h':¬c->dz P RA m t t') :
  dz P RA m (if c then s else t) (if c then s' else t'):=by
 split;exact h ‹_›;exact h' ‹_›
def iL{RB}{f:P?->Sem γ}{f':P?->Sem δ}(h:dz P RB m (f P) (f' P)):dz P RB m (program >>= f) (program >>= f'):=.program h
def dF{RB}{f:TypeDesc->Sem γ}{f':TypeDesc->Sem δ}(h:∀d,P.underlying t=y? d->dz P RB m (f d) (f' d)) :
  dz P RB m (bH t >>= f) (bH t >>= f'):=by
 refine .program ?_;show dz P RB m ((match P.underlying t with|some d=>pure d|none=>stuck _) >>= f) ((match P.underlying t with|some d=>pure d|none=>stuck _) >>= f')
 cases B:P.underlying t with
 |none=>exact .dm|some d=>exact h d B
def eZ{RB}{f:TypeInfo->Sem γ}{f':TypeInfo->Sem δ}(h:∀d,P.info? t=y? d->dz P RB m (f d) (f' d)) :
  dz P RB m (cf t >>= f) (cf t >>= f'):=by
 refine .program ?_;show dz P RB m ((match P.info? t with|some d=>pure d|none=>stuck _) >>= f) ((match P.info? t with|some d=>pure d|none=>stuck _) >>= f')
 cases B:P.info? t with
 |none=>exact .dm|some d=>exact h d B
def eW{RB}{f:Nat->Sem γ}{f':Nat->Sem δ}(h:∀n,dz P RB m (f n) (f' n)):dz P RB m (bR t >>= f) (bR t >>= f'):=by
 refine .program ?_;show dz P RB m (((match P.info? t with|some d=>pure d|none=>stuck _) >>= λi=>pure _) >>= f) (((match P.info? t with|some d=>pure d|none=>stuck _) >>= λi=>pure _) >>= f')
 cases B:P.info? t with
 |none=>exact .dm|some d=>exact h _
def gK(B:nC P){RB}{f:v?->Sem γ}{f':v?->Sem δ}(h:∀v,VR m v v->dz P RB m (f v) (f' v)) :
  dz P RB m (bD t >>= f) (bD t >>= f'):=by
 refine .program ?_;show dz P RB m (((match P.info? t with|some d=>pure d|none=>stuck _) >>= λi=>match i.zero with|some v=>pure v|none=>unsupported _) >>= f) (((match P.info? t with|some d=>pure d|none=>stuck _) >>= λi=>match i.zero with|some v=>pure v|none=>unsupported _) >>= f')
 cases O:P.info? t with
 |none=>exact .dm|some d=>
  show dz P RB m ((match d.zero with|some v=>pure v|none=>unsupported _) >>= f) ((match d.zero with|some v=>pure v|none=>unsupported _) >>= f')
  cases U:d.zero with
  |none=>exact .dm|some v=>exact h v (B.zero t d v O U m)
def Gk{RB}{f:Bool->Sem γ}{f':Bool->Sem δ}(h:∀b,dz P RB m (f b) (f' b)):dz P RB m (isAgg t >>= f) (isAgg t >>= f'):=by
 refine .program ?_;show dz P RB m (((match P.underlying t with|some d=>pure d|none=>stuck _) >>= λx=>match x with|.struct _|.array .. => pure t?|_=>pure f?) >>= f) (((match P.underlying t with|some d=>pure d|none=>stuck _) >>= λx=>match x with|.struct _|.array .. => pure t?|_=>pure f?) >>= f')
 cases B:P.underlying t with
 |none=>exact .dm|some d=>cases d<;>exact h _
def CZ{RB}{f:v?->Sem γ}{f':v?->Sem δ}(B:AR m a a')(h:∀v v',VR m v v'->dz P RB m (f v) (f' v')) :
  dz P RB m (load a >>= f) (load a' >>= f'):=.load B h
def Pe{RB}{f:Unit->Sem γ}{f':Unit->Sem δ}(B:AR m a a')(O:VR m v v')(h:dz P RB m (f ()) (f' ())) :
  dz P RB m (store a v >>= f) (store a' v' >>= f'):=.store B O h
def gO{RB}{f:Obj->Sem γ}{f':Obj->Sem δ}(hb:m.blk r=y? r')(h:∀o o',OR m o o'->dz P RB m (f o) (f' o')) :
  dz P RB m (getObj r >>= f) (getObj r' >>= f'):=.getObj hb h
def li{RB}{f:Unit->Sem γ}{f':Unit->Sem δ}(hb:m.blk r=y? r')(B:OR m o o')(O:∀c e f,o≠c? c e f)(h:dz P RB m (f ()) (f' ())) :
  dz P RB m (setObj r o >>= f) (setObj r' o' >>= f'):=.setObj hb B O h
def rL(hb:m.blk r=y? r')(B:OR m o o')(O:∀c e f,o≠c? c e f):dz P Bj m (setObj r o) (setObj r' o'):=.setObj hb B O (.pure t!)
def ki{RB q}{f:Nat->Sem γ}{f':Nat->Sem δ}(h:∀n,dz P RB m (f n) (f' n)):dz P RB m (choose q >>= f) (choose q >>= f'):=.choose h
def kW{RB}{f:Option (bF×Nat)->Sem γ}{f':Option (bF×Nat)->Sem δ}(hb:m.blk r=y? r')(h:∀x,dz P RB m (f x) (f' x)) :
  dz P RB m (shape r >>= f) (shape r' >>= f'):=.shape hb h
def oB{RB}{f:Bool->Sem γ}{f':Bool->Sem δ}(B:AR m a a')(O:¬m.loose a.block)(h:∀x,dz P RB m (f x) (f' x)) :
  dz P RB m (frozen a >>= f) (frozen a' >>= f'):=.frozen B O h
def Tf:RuntimeError->Prop
 |.bounds ..|.error _|.plain _|.nilDeref=>True|_=>False
def fX{RA:Ren->α->β->Prop}{e}(h:Tf e):dz P RA m (bK e) (bK e):=by
 refine .program ?_;cases e<;>first|exact h.elim|skip
 .exact .panic (.iface _ (.N2 (.refl λv B=>by
   simp at B
   obtain rfl|rfl|rfl|rfl:=B<;>constructor)))
 all_goals exact .panic (.iface _ (.string _))
def eX{RB e}{f:α->Sem γ}{f':β->Sem δ}(h:Tf e):dz P RB m (bK e >>= f) (bK e >>= f'):=
 dJ (RA:=λ_ _ _=>False) (fX h) nofun
def o8{RA:Ren->α->β->Prop}{k x y c}:dz P RA m (bJ k x y c) (bJ k x y c):=by refine dR (λ_=>?_) (λ_=>?_);exact dz.choose λn=>fX (e:=.bounds _ y _ c) trivial;exact fX (e:=.bounds _ y _ c) trivial
def AY{RB}{f:IntKind×Int->Sem γ}{f':IntKind×Int->Sem δ}(B:VR m x x')(h:∀k n,x=n? k n->dz P RB m (f (k,n)) (f' (k,n))) :
  dz P RB m (asIntOf x >>= f) (asIntOf x' >>= f'):=by
 cases B<;>first|exact h _ _ rfl|exact .dm
def l9{RB}{f:Int->Sem γ}{f':Int->Sem δ}(B:VR m x x')(h:∀n,dz P RB m (f n) (f' n)) :
  dz P RB m (asInt x >>= f) (asInt x' >>= f'):=by
 cases B<;>first|exact h _|exact .dm
def NH{RB}{f:Bool->Sem γ}{f':Bool->Sem δ}(B:VR m x x')(h:∀b,dz P RB m (f b) (f' b)) :
  dz P RB m (asBool x >>= f) (asBool x' >>= f'):=by
 cases B<;>first|exact h _|exact .dm
def Px{RB}{f f':Array v?->_}(B:VR m x x')(h:∀c c',eP m c c'->dz P RB m (f c:Sem γ) (f' c':Sem δ)) :
  dz P RB m (asAgg x >>= f) (asAgg x' >>= f'):=by
 cases B<;>first|exact h _ _ (.iP ‹_› ‹_›)|exact .dm
def CQ{RB}{f:Addr->Sem γ}{f':Addr->Sem δ}(B:VR m x x')(h:∀a a',AR m a a'->dz P RB m (f a) (f' a')) :
  dz P RB m (asAddr x >>= f) (asAddr x' >>= f'):=by
 cases B<;>first|exact h _ _ ‹_›|exact .dm|exact eX (e:=.nilDeref) trivial
def nD{RB}{f:Addr->Sem γ}{f':Addr->Sem δ}(B:VR m x x')(h:∀a a',AR m a a'->dz P RB m (f a) (f' a')) :
  dz P RB m (br x >>= f) (br x' >>= f'):=by
 cases B<;>first|exact h _ _ ‹_›|exact .dm
def rP(O:AR m a a'):∀(n i)(acc B),eP m acc B->dz P eP m (bP a i n acc) (bP a' i n B)
 |0,_,_,_,h=>.pure h|n+1,i,_,_,h=>CZ (O.add i) λv v' U=>rP O n _ _ _ (h.push U)
def xy(B:AR m a a')(n):dz P eP m (bU a n) (bU a' n):=rP B n 0 _ _ (.nil m)
def mg(B:AR m a a'):∀{vs vs'}(i),dY (VR m) vs vs'->dz P Bj m (bQ a vs i) (bQ a' vs' i)
 |_,_,_,.nil=>by unfold bQ;exact .pure trivial
 |_,_,i,.cons O h=>Pe (B.add i) O (mg B _ h)
def CO(B:AR m a a'):dz P VR m (loadVar t a) (loadVar t a'):=by refine Gk λb=>dR (λ_=>?_) (λ_=>.load B λ_ _ O=>.pure O);refine eW λn=>dJ (xy B n) λm' c c' _ U=>.pure (.N2 U)
def II(O:AR m a a')(B:VR m v v'):dz P Bj m (storeVar t a v) (storeVar t a' v'):=by refine eW λn=>?_;rw[<-B.cells.size];split;exact .dm;exact mg O 0 B.cells
def Jc(m:Ren)(a a':Addr):Prop:=AR m a a'/\¬m.loose a.block
def qQ{e}(h:eP m c c'):dz P Jc m (bN e c) (bN e c'):=by refine .new (.cells e _ _ h) (λx y z B=>by cases B;exact⟨_,q?⟩) λm' r r' U hb O=>.pure ⟨.mk hb,O⟩
def Ak{e}(h:VR m v v'):dz P Jc m (newVar e v) (newVar e v'):=qQ h.cells
def nP(h:eP m c c')(off):dz P VR m (part t c off) (part t c' off):=by
 refine Gk λb=>dR (λ_=>?_) (λ_=>?_);exact eW λn=>.pure (.N2 (h.extract ..))
 cases O:c[off]? with
 |none=>exact .dm|some v=>obtain⟨v',B,U⟩:=h.get O;rw[B];exact .pure U
end
end
section
variable {a':Addr} {ps ps':Array (Nat×v?)} {c:BoundsCode} {n:Nat} {h h' l l' x x':Option v?} {α β γ δ:Type} {t:bF} {i i' v v':v?}
section
variable {P:P?} {m:Ren}
def Sv(B:nC P){e}:dz P VR m (b9 e t? (.tuple #[])) (b9 e t? (.tuple #[])):=by exact gK B λv O=>dJ (Ak O) λm' a a' _ h=>.pure (.ptr h.1)
def Vn{e}(B:VR m v v'):dz P VR m (bA e v) (bA e v'):=dJ (Ak B) λm' a a' _ h=>.pure (.ptr h.1)
def Ck(off):∀{l l'}(n){c c'},dY (VR m) l l'->eP m c c'->
  eP m ((l.zipIdx n).foldl (λcs x=>cs.setIfInBounds (off+x.2) x.1) c) ((l'.zipIdx n).foldl (λcs x=>cs.setIfInBounds (off+x.2) x.1) c')
 |_,_,_,_,_,.nil,h=>by simpa using h
 |_,_,n,_,_,.cons B O,h=>by simp only[List.zipIdx_cons,List.foldl_cons];exact Ck off _ O (h.set _ B)
def Ku(m:Ren)(x y:Nat×v?):Prop:=x.1=y.1/\VR m x.2 y.2
def Da(place):∀{ps ps' c c' r},dY (Ku m) ps ps'->eP m c c'->aP place c ps=y? r->∃r',aP place c' ps'=y? r'/\eP m r r'
 |_,_,c,c',r,.nil,h,e=>by
  simp only[aP,fv]at e⊢
  exact⟨c',q?,e▸h⟩
 |_,_,c,c',r,.cons (a:=(i,v)) (b:=(i',v')) B hl,h,e=>by
  obtain⟨U,B⟩:=B
  subst U;simp only[aP]at e⊢
  cases O:place i with
  |none=>rw[O]at e;cases e
  |some x=>
   obtain⟨off,size⟩:=x;rw[O]at e;simp only at e⊢;have W:=B.cells.size;rw[<-W,<-h.size];split at e
   cases e;rename_i Y;rw[if_neg Y];refine Da place hl ?_ e;have:=Ck off 0 B.cells h;rw[<-a7,<-a7,aE,aE];exact this
def yV{z:Array v?}(h:eP m z z)(n):eP m ((a3 n).map (z[· % z.size]!)) ((a3 n).map (z[· % z.size]!)):=by refine .refl λv O=>?_;simp only[a4,ft]at O;obtain⟨i,_,rfl⟩:=O;by_cases B:i % z.size<z.size;rw[getElem!_pos z _ B];exact h.idx _ B B;rw[getElem!_neg z _ B];exact .bool _
def C7{Q}(hm:∀m m' a b,m.Le m'->Q m a b->Q m' a b)(g:α->Sem β)(B:∀m x,dz P Q m (g x) (g x)):∀(l:List α)(m),dz P (λm=>dY (Q m)) m (l.mapM g) (l.mapM g)
 |[],m=>.pure .nil|x::l,m=>by simp only[fk];exact dJ (B m x) λm' a b _ h=>dJ (C7 hm g B l m') λO c d U W=>.pure (.cons (hm _ _ _ _ U h) W)
def dY.eq:∀{l l':List α},dY (λa b=>a=b) l l'->l=l'
 |_,_,.nil=>rfl|_,_,.cons rfl h=>by rw[dY.eq h]
def JO{B:Array Field}:dz P yw m (B.mapM (λx=>do pure (x.offset,<-bR x.type))) (B.mapM (λx=>do pure (x.offset,<-bR x.type))):=by rw[a0];refine dJ (C7 (Q:=yw) (λ_ _ _ _ _ h=>h) _ (λm x=>eW λn=>.pure q?) _ m) λm' a b _ h=>.pure ?_;exact congrArg _ (dY.eq h)
def Sb(hP:nC P)(h:dY (Ku m) ps.toList ps'.toList):dz P VR m (b8 t ps) (b8 t ps'):=by
 refine gK hP λz hz=>dF λd hd=>?_
 have hf:∀m',m.Le m'->∀place,dz P VR m' (match aP place z.cells ps.toList with|some cells=>pure (.agg cells)|_=>stuck "build: a part of the wrong size") (match aP place z.cells ps'.toList with|some cells=>pure (.agg cells)|_=>stuck "build: a part of the wrong size"):=by
  intro m' B place
  cases W:aP place .. with
  |none=>exact .dm|some r=>obtain⟨r',O,U⟩:=Da place (h.mono λ_ _ x=>⟨x.1,x.2.mono B⟩) (hz.cells.mono B) W;rw[O];exact .pure (.N2 U)
 have Y:∀m',m.Le m'->∀place,dz P VR m' (match aP place z.cells ps.toList with|some cells=>pure (.agg cells)|_=>stuck "build: no such field, or a part of the wrong size") (match aP place z.cells ps'.toList with|some cells=>pure (.agg cells)|_=>stuck "build: no such field, or a part of the wrong size"):=by
  intro m' B place
  cases W:aP place .. with
  |none=>exact .dm|some r=>obtain⟨r',O,U⟩:=Da place (h.mono λ_ _ x=>⟨x.1,x.2.mono B⟩) (hz.cells.mono B) W;rw[O];exact .pure (.N2 U)
 cases d<;>first|exact .dm|skip
 exact eW λn=>hf m (.refl m) _;refine dJ JO λm' a b B aa=>?_;cases aa;exact Y m' B _
def Es(W:nC P)(h:dY (Ku m) ps.toList ps'.toList):dz P VR m (bn t n ps) (bn t n ps'):=by
 refine dF λd hd=>?_;cases d<;>first|exact .dm|skip
 rename_i elem;dsimp only;refine eW λsize=>?_;split
 .exact .dm
 have fin:∀z,eP m z z->dz P VR m
   (match aP (λi=>y? (i*size,size)) ((a3 (n*size)).map (z[· % z.size]!)) ps.toList with|some cells=>(do pure (.slice (y? (<-bN elem cells)) n n))|_=>stuck "buildSlice: a part of the wrong size")
   (match aP (λi=>y? (i*size,size)) ((a3 (n*size)).map (z[· % z.size]!)) ps'.toList with|some cells=>(do pure (.slice (y? (<-bN elem cells)) n n))|_=>stuck "buildSlice: a part of the wrong size"):=by
  intro z B
  cases Y:aP .. with
  |none=>exact .dm|some r=>obtain⟨r',O,U⟩:=Da _ h (yV B _) Y;rw[O];exact dJ (qQ U) λm' a a' _ ha=>.pure (.slice _ _ ha.1)
 split;exact fin _ (.nil m);exact gK W λz B=>fin _ B.cells
def Q0{a a'}(h:VR m a a'):dz P VR m (b1 t a) (b1 t a'):=nD h λ_ _ B=>CO B
def Ng{a a'}(h:VR m a a')(B:VR m v v'):dz P Bj m (bv t a v) (bv t a' v'):=nD h λ_ _ O=>II O B
def s9{RB a}{f:Unit->Sem γ}{f':Unit->Sem δ}(B:AR m a a')(h:dz P RB m (f ()) (f' ())):dz P RB m (noView a >>= f) (noView a' >>= f'):=by
 refine dz.shape B.blk λx=>?_
 cases x with
 |some y=>exact h|none=>refine dz.getObj B.blk λo o' O=>?_;cases O<;>exact h
def p8{a}(B:AR m a a'):dz P yw m (c3 a) (c3 a'):=by
 unfold c3;rw[B.spot,B.off]
 cases O:a.spot with
 |some s=>exact .pure rfl|none=>
  refine iL (s9 B (kW B.blk λx=>?_))
  cases x with
  |none=>exact .dm|some y=>refine dR (λ_=>.pure q?) (λ_=>?_);split;exact .pure rfl;exact .dm
def PK{a}(U:AR m a a')(c b):dz P AR m (partAt a c b) (partAt a' c b):=by
 cases U with
 |mk hb=>
 refine dJ (p8 (.mk hb)) λm' x y O h=>?_;cases h;refine dJ (p8 (.mk (O.blk _ _ hb))) λW x' y' B h=>?_;cases h;refine .pure ?_;split<;>exact .mk (B.blk _ _ (O.blk _ _ hb))
def Dp{a}(B:AR m a a')(f):dz P AR m (cz a f) (cz a' f):=by exact eW λn=>dR (λ_=>PK B ..) (λ_=>.pure (B.add _))
def LY{s x x'}(h:VR m x x')(f):dz P VR m (bx s x f) (bx s x' f):=by
 refine dF λd W=>?_;cases d<;>first|exact .dm|skip
 rename_i B;dsimp only
 cases B[f]? with
 |none=>exact .dm|some O=>exact nD h λa a' U=>dJ (Dp U O) λm' b b' _ hb=>.pure (.ptr hb)
def Mg{x x'}(h:VR m x x')(U:VR m i i'):dz P VR m (bd t x i) (bd t x' i'):=by
 unfold bd;refine AY U λk n _=>dF λd W=>?_
 have fin:∀(len:Nat)(elem:bF)(B:Bool){a a':Addr},AR m a a'->dz P VR m
   (if 0<=n/\n<(len:Int)then(do pure (p? (y? (a.add (n.toNat*(<-bR elem))))))else if B=t? then unsupported (.noEntry "op/indexAddr.an index out of range at an array of length 0 or 1 (ledger 616)")else bJ k n len .index)
   (if 0<=n/\n<(len:Int)then(do pure (p? (y? (a'.add (n.toNat*(<-bR elem))))))else if B=t? then unsupported (.noEntry "op/indexAddr.an index out of range at an array of length 0 or 1 (ledger 616)")else bJ k n len .index):=by
  intro len elem B a a' O;exact dR (λ_=>eW λs=>.pure (.ptr (O.add _))) (λ_=>dR (λ_=>.dm) (λ_=>o8))
 cases d<;>first|exact .dm|skip
 cases h with
 |gq l c=>exact dF λd2 _=>o8|zero a _=>refine dF λd2 _=>?_;dsimp only;have e:¬(0<=n/\n<((0:Nat):Int)):=o!;rw[if_neg e];exact dR (λ_=>.dm) (λ_=>o8)
 |slice l c O=>exact dF λd2 _=>fin l _ _ O|_=>exact .dm
 exact nD h λa a' O=>dF λd2 _=>fin _ _ _ O
def zM{RB k x y}{f:α->Sem γ}{f':β->Sem δ}:dz P RB m (bJ k x y c >>= f) (bJ k x y c >>= f'):=
 dJ (RA:=λ_ _ _=>False) o8 nofun
def Br{RB}(h:VR m v v'){y}{f:Nat->Sem γ}{f':Nat->Sem δ}(B:∀n,n<=y->dz P RB m (f n) (f' n)) :
  dz P RB m (ba v y c >>= f) (ba v' y c >>= f'):=by
 cases h with
 |int k n=>
  have e:ba (n? k n) y c=if 0<=n/\n<=y then pure n.toNat else bJ k n y c:=rfl
  rw[e];split;exact B _ o!;exact zM
 |_=>exact .dm
inductive mW{α β:Type}(R:α->β->Prop):Option α->Option β->Prop
 |none:mW R none none|some {a b}:R a b->mW R (some a) (some b)
def mW.mono{R S:α->β->Prop}(h:∀a b,R a b->S a b){o o'}(x:mW R o o'):mW S o o':=by
 cases x with
 |none=>exact .none|some B=>exact .some (h _ _ B)
def jK{RB b len cap}(B:mW (VR m) l l')(O:mW (VR m) h h')(U:mW (VR m) x x'){f:Nat×Nat×Nat->Sem γ}{f':Nat×Nat×Nat->Sem δ}(W:∀n,(len=0->cap=0->n=(0,0,0))->dz P RB m (f n) (f' n)) :
  dz P RB m (aZ b len cap l h x >>= f) (aZ b len cap l' h' x' >>= f'):=by
 unfold aZ
 cases U<;>cases O<;>cases B<;>simp only[bind_assoc,pure_bind] <;>
  repeat first|exact W _ (by intro a b;refine Prod.ext ?_ (Prod.ext ?_ ?_)<;>dsimp only<;>omega)|exact .dm|refine Br a! λ_ _=>?_
def QT(hv:VR m v v')(B:mW (VR m) l l')(O:mW (VR m) h h')(U:mW (VR m) x x'):dz P VR m (bh t v l h x) (bh t v' l' h' x'):=by
 unfold bh;refine dF λd hd=>?_;cases d<;>first|exact .dm|skip
 cases hv<;>first|exact .dm|skip
 rename_i s;have ex:x.isSome=x'.isSome:=by cases U<;>rfl
 dsimp only;rw[ex];split;exact .dm;exact jK B O .none λn _=>.pure (.string _)
 exact CQ hv λa a' W=>dF λd2 _=>by
  cases d2<;>first|exact .dm|skip
  refine jK B O U λn Y=>eW λs=>.pure ?_;split;exact .slice _ _ W;exact .slice _ _ (W.add _)
 cases hv<;>first|exact .dm|skip
 refine jK B O U λn Y=>eW λs=>.pure ?_;split<;>exact .gq _ _;refine jK B O U λn Y=>eW λs=>.pure ?_;rw[Y q? rfl];exact .zero _ ‹_›
 rename_i W;refine jK B O U λn Y=>eW λs=>.pure ?_;split;exact .slice _ _ W;exact .slice _ _ (W.add _)
def Lq(B:VR m v v')(O:mW (VR m) l l')(U:mW (VR m) h h')(W:mW (VR m) x x'):dz P VR m (bc t v l h x) (bc t v' l' h' x'):=by
 unfold bc;refine dF λd hd=>?_;cases d<;>first|exact QT B O U W|skip
 refine nD B λa a' Y=>jK O U W λn hz=>eW λs=>.pure ?_;split;exact .slice _ _ Y;exact .slice _ _ (Y.add _)
def Sx(B:VR m v v')(f):dz P VR m (b6 t v f) (b6 t v' f):=by
 refine dF λd W=>?_;cases d<;>first|exact .dm|skip
 rename_i O;dsimp only
 cases O[f]? with
 |none=>exact .dm|some Y=>exact Px B λc c' U=>nP U _
def RF(B:VR m v v')(O:VR m i i'):dz P VR m (b5 t v i) (b5 t v' i'):=by
 refine AY O λk n _=>dF λd Y=>?_;cases d<;>first|exact .dm|skip
 cases B<;>first|exact .dm|skip
 dsimp only;split;exact .pure (.int ..);exact o8
 cases B<;>first|exact .dm|skip
 rename_i U W;exact dR (λ_=>eW λs=>nP (.iP U W) _) (λ_=>o8)
def Nj(B:VR m v v')(i):dz P VR m (bf v i) (bf v' i):=by
 cases B<;>first|exact .dm|skip
 rename_i O U;unfold bf;dsimp only
 cases W:(_:Array v?)[i]? with
 |none=>exact .dm|some u=>obtain⟨u',Y,hr⟩:=(eP.iP O U).get W;rw[Y];exact .pure hr
def yk(B:VR m v v'):dz P VR m (bi t v) (bi t v'):=by refine dF λd O=>?_;cases d<;>first|exact .dm|exact .pure (.iface _ B)
def Ma{r r'}(h:mW (VR m) r r'):dz P VR m (bw t r) (bw t r'):=by
 have fin:dz P VR m .. :=
  dz.new (.map 0 .nil) (nofun) λm' i i' O hb _=>.pure (.map hb)
 cases h with
 |none=>exact fin|some B=>refine dF λd U=>?_;cases d<;>first|exact .dm|exact l9 B λn=>fin
def qT{RB}{f:Unit->Sem γ}{f':Unit->Sem δ}(h:dz P RB m (f ()) (f' ())):dz P RB m (cd n >>= f) (cd n >>= f'):=by unfold cd;split;exact dz.mark trivial h;exact h
def GY(O:nC P){l l' c c'}(U:VR m l l')(W:VR m c c'):dz P VR m (bp t l c) (bp t l' c'):=by
 refine dF λd hd=>?_;cases d<;>first|exact .dm|skip
 rename_i elem;refine l9 U λln=>l9 W λcn=>eZ λti _=>?_
 have fin:∀{a b:Nat}{x y:Nat},dz P VR m
   (do cd a;let n <-bR elem;if b*n=0 then(do let zero <-pure #[];let r <-bN elem (aC (λx=>zero[x % zero.size]!) (a3 (b*n)));pure (Value.slice (y? r) x y))else(do let z <-bD elem;let zero <-pure z.cells;let r <-bN elem (aC (λx=>zero[x % zero.size]!) (a3 (b*n)));pure (Value.slice (y? r) x y)))
   (do cd a;let n <-bR elem;if b*n=0 then(do let zero <-pure #[];let r <-bN elem (aC (λx=>zero[x % zero.size]!) (a3 (b*n)));pure (Value.slice (y? r) x y))else(do let z <-bD elem;let zero <-pure z.cells;let r <-bN elem (aC (λx=>zero[x % zero.size]!) (a3 (b*n)));pure (Value.slice (y? r) x y))):=by
  refine qT (eW λn=>dR (λ_=>?_) (λ_=>gK O λz Y=>?_));exact dJ (RA:=Jc) (qQ (yV (z:=#[]) (.nil m) _)) λm' r r' _ B=>dz.pure (VR.slice _ _ B.1);exact dJ (RA:=Jc) (qQ (yV Y.cells _)) λm' r r' _ B=>dz.pure (VR.slice _ _ B.1)
 refine dR (λ_=>dR (λ_=>?_) (λ_=>dR (λ_=>?_) (λ_=>ki λn=>?_))) (λ_=>fin)
 all_goals exact eX (e:=.error _) trivial
def JN{f}(B:m.gE f){a a' b b'}(O:eP m a a')(hb:eP m b b'):dz P VR m (bt (.func f) a b) (bt (.func f) a' b'):=.pure (.K6 (.func f B) O hb)
def Js(hm:m.jf){s s'}(B:VR m s s'):dz P VR m (bu t s) (bu t s'):=by
 refine l9 B λn=>dF λd O=>?_;cases d<;>first|exact .dm|skip
 refine eZ λU _=>dR (λ_=>eX (e:=.plain _) t!) (λ_=>?_);exact dz.r9 hm λm' i i' _ hb=>.pure (.chan hb)
def Ra(O:VR m v v'):dz P VR m (b3 t v) (b3 t v'):=by
 refine dF λd W=>?_
 have fin:∀{o o':Obj},OR m o o'->(∀e c f,o≠c? e c f)->dz P VR m (do pure (p? (y? ⟨<-cj o,0,x?⟩))) (do pure (p? (y? ⟨<-cj o',0,x?⟩))):=by intro o o' B U;exact dz.new B (λe c f h=>absurd h (U e c f)) λm' i i' _ hb _=>.pure (.ptr (.mk hb))
 cases d<;>first|exact .dm|skip
 cases O<;>first|exact .dm|exact fin (.stringIter ..) (nofun)
 cases O<;>first|exact .dm|skip
 exact fin (.gW ..) (nofun)
 rename_i hb;refine gO hb λo o' B=>?_;cases B<;>first|exact .dm|exact fin (.mapIter _ _ _ hb) (nofun)
 exact .gone ‹_›
def G6{RB}{f:bF->Sem γ}{f':bF->Sem δ}(h:∀n,dz P RB m (f n) (f' n)):dz P RB m (c0 t >>= f) (c0 t >>= f'):=by unfold c0;simp only[bind_assoc];refine dF λd B=>?_;cases d<;>first|exact .dm|exact h _
def IV{RA:Ren->α->β->Prop}:dz P RA m (bK .panicNil) (bK .panicNil):=by refine .program ?_;refine G6 λn=>dJ (RA:=Jc) (Ak (.N2 (.nil m))) λm' r r' _ B=>.panic (.iface _ (.ptr B.1))
def Rj(B:VR m v v'):dz P VR m (b4 v) (b4 v'):=by
 cases B<;>first|exact .dm|exact .panic (.iface _ ‹_›)|skip
 refine dz.env λr=>?_;cases r<;>first|exact .dm|skip
 refine dz.program ?_;exact dR (λ_=>.panic .nilIface) (λ_=>IV)
end
variable {a b b':Addr} {σ:Type}
def pD(P:P?):Nat->bF->Bool
 |0,_=>t?|d+1,t=>match P.underlying t with
  |some (.pointer _)|some .unsafePointer|some (.interface _)=>f?|some (.struct B)=>B.all λf=>pD P d f.type|some (.array _ e)=>pD P d e|_=>t?
def iw(m:Ren):Prop:=∀r,¬m.loose r
def iw.mono{m m'}(h:m.Le m')(x:iw m):iw m':=λr B=>x r (h.less r B)
section
variable {P:P?} {m:Ren}
def yj{RB}(O:iw m)(B:AR m a a'){f:Bool->Sem γ}{f':Bool->Sem δ}(h:∀b,dz P RB m (f b) (f' b)):dz P RB m (stringish a >>= f) (stringish a' >>= f'):=by
 refine oB B (O _) λx=>?_;cases x;refine kW B.blk λy=>?_
 cases y with
 |none=>exact h _|some z=>exact oB (.mk B.blk) (O _) λb=>h b
 exact h _
def Ax{RB}(B:iw m)(O:AR m a a')(hb:AR m b b'){f:Bool->Sem γ}{f':Bool->Sem δ}(h:∀b,dz P RB m (f b) (f' b)):dz P RB m (ck a b >>= f) (ck a' b' >>= f'):=by unfold ck;simp only[bind_assoc];exact yj B O λsa=>yj B hb λU=>kW O.blk λx=>kW hb.blk λy=>h _
def zO(O:iw m)(B:AR m a a')(hb:AR m b b'):dz P yw m (ci a b) (ci a' b'):=by
 unfold ci;have U:(a.block==b.block)=(a'.block==b'.block):=by rw[dl];simp only[beq_iff_eq];exact B.tu hb
 have W:(a==b)=(a'==b'):=by rw[dl];simp only[beq_iff_eq];exact B.eq_iff hb
 rw[U,W];refine dR (λ_=>.pure q?) (λ_=>?_);refine oB B (O _) λx=>?_;exact oB hb (O _) λy=>dR (λ_=>.dm) (λ_=>s9 B (s9 hb (Ax O B hb λx=>dR (λ_=>ki λn=>.pure q?) (λ_=>.pure q?))))
def eF{RB}(B:AR m a a'){f:Addr×Bool->Sem γ}{f':Addr×Bool->Sem δ}(h:∀p O l,AR m p O->dz P RB m (f (p,l)) (f' (O,l))) :
  dz P RB m (cu a >>= f) (cu a' >>= f'):=by
 refine kW B.blk λx=>?_
 cases x with
 |some y=>exact h _ _ _ B|none=>
  refine gO B.blk λo o' U=>?_
  cases U with
  |number l W=>exact h _ _ _ W|_=>exact h _ _ _ B
def rm{f f'}:∀(l:List α)(s:σ)(m'),m.Le m'->(∀m' a s,a∈l->m.Le m'->dz P yw m' (f a s) (f' a s))->dz P yw m' (forIn l s f) (forIn l s f')
 |[],s,m',_,_=>.pure rfl|a::l,s,m',W,h=>by
  simp only[fi];refine dJ (h m' a s i! W) λB x y O U=>?_;cases U
  cases x with
  |done b=>exact .pure rfl|yield b=>exact rm l b B (W.trans O) λm1 a s Y=>h m1 a s (by simp[Y])
def pZ{f f':α->σ->Sem (ForInStep σ)}(xs:Array α)(s)(h:∀m' a s,a∈xs.toList->m.Le m'->dz P yw m' (f a s) (f' a s)):dz P yw m (forIn xs s f) (forIn xs s f'):=by rw[<-a6,<-a6];exact rm _ s m (.refl m) h
def pW{f f':Nat->σ->Sem (ForInStep σ)}(n)(s)(h:∀m' a s,m.Le m'->dz P yw m' (f a s) (f' a s)):dz P yw m (forIn [:n] s f) (forIn [:n] s f'):=by rw[gz,gz];exact rm _ s m (.refl m) λm1 a s _=>h m1 a s
def NE{RB t}{f:String->Sem γ}{f':String->Sem δ}(h:∀n,dz P RB m (f n) (f' n)):dz P RB m (cp t >>= f) (cp t >>= f'):=by unfold cp;simp only[bind_assoc];refine eZ λB _=>?_;split;exact .dm;exact h _
def Vg(B:AR m a a')(hb:AR m b b'):(a==b)=(a'==b'):=by rw[dl];simp only[beq_iff_eq];exact B.eq_iff hb
def qD:∀(d)(m)(t){x x' y y'},m.G=P.globals.size->VR m x x'->VR m y y'->iw m\/pD P d t=t?->dz P yw m (cC d t x y) (cC d t x' y')
 |0,m,t,_,_,_,_,_,_,_,_=>.dm
 |d+1,m,t,x,x',y,y',hG,W,O,B=>by
  unfold cC
  refine dF λde hd=>?_
  cases de with
  |bool=>cases W<;>first|exact .dm|(cases O<;>first|exact .dm|exact .pure q?)
  |string=>cases W<;>first|exact .dm|(cases O<;>first|exact .dm|exact .pure q?)
  |int k=>
   cases W with
   |int k n=>
    cases O with
    |int k' n'=>exact dR (λ_=>.pure q?) (λ_=>.dm)
    |ptr ha=>
     cases n with
     |ofNat n=>cases n<;>first|exact .pure rfl|exact .dm
     |negSucc n=>exact .dm
    |_=>exact .dm
   |ptr ha=>
    cases O with
    |int k' n'=>
     cases n' with
     |ofNat n=>cases n<;>first|exact .pure rfl|exact .dm
     |negSucc n=>exact .dm
    |ptr hb=>
     refine eF ha λp p' l hp=>eF hb λq q' l' hq=>iL ?_
     have e1:(p.block==q.block)=(p'.block==q'.block):=by rw[dl];simp only[beq_iff_eq];exact hp.tu hq
     have e2:(p==q)=(p'==q'):=by rw[dl];simp only[beq_iff_eq];exact hp.eq_iff hq
     have e3:decide (p.block<P.globals.size)=decide (p'.block<P.globals.size):=by rw[<-hG];exact decide_eq_decide.2 (m.qa _ _ hp.blk)
     rw[e1,e2,e3];refine dR (λ_=>?_) (λ_=>eZ λti _=>?_);refine dJ (p8 hp) λm' x y Y h=>?_;cases h;refine dJ (p8 (hq.mono Y)) λad x' y' Y h=>?_;cases h;exact .pure rfl;split;exact dR (λ_=>.pure q?) (λ_=>.dm);exact .dm
    |_=>exact .dm
   |iE=>exact .dm|_=>cases O<;>exact .dm
  |pointer e=>
   cases W with
   |iE=>cases O<;>first|exact .dm|exact .pure rfl
   |ptr ha=>
    cases O with
    |iE=>exact .pure rfl|ptr hb=>
     obtain B|B:=B
     refine eW λn=>dR (λ_=>zO B ha hb) (λ_=>?_);rw[Vg ha hb];exact dR (λ_=>.pure q?) (λ_=>ki λn=>.pure q?);simp[pD,hd]at B
    |_=>exact .dm
   |_=>exact .dm
  |interface ms=>
   cases W with
   |nilIface=>cases O<;>first|exact .dm|exact .pure rfl
   |iface tx ab=>
    cases O with
    |nilIface=>exact .pure rfl|iface ty ac=>
     obtain B|B:=B
     refine dR (λ_=>.pure q?) (λae=>eZ λti _=>dR (λ_=>iL (iL ?_)) (λ_=>qD d m tx hG ab ac (.inl B)));dsimp only;exact dR (λ_=>.dm) (λ_=>NE λn=>fX (e:=.error _) trivial);simp[pD,hd]at B
    |_=>exact .dm
   |_=>exact .dm
  |struct fs=>
   cases W<;>first|exact .dm|(cases O<;>first|exact .dm|skip)
   rename_i h1 h2 c c' h3 h4
   have aa:∀f∈fs.toList,iw m\/pD P d f.type=t?:=by
    intro f hf;obtain B|B:=B
    exact .inl B;right;simp only[pD,hd,aB]at B;exact B f (by simpa using hf)
   refine iL ?_;dsimp only;refine dR (λ_=>.dm) (λ_=>?_);refine dJ (RA:=yw) (pZ _ _ λm' f s hf Y=>dR (λ_=>?_) (λ_=>.pure q?)) λm' a b _ U=>?_;refine dJ (nP ((eP.iP h1 h2).mono Y) _) λm1 u u' l1 hu=>dJ (nP ((eP.iP h3 h4).mono (Y.trans l1)) _) λm2 v v' l2 hv=>?_;have l3:=(Y.trans l1).trans l2;refine dJ (qD d m2 _ (by rw[l3.G,hG]) (hu.mono l2) hv ((aa f hf).imp (λx=>x.mono l3) id)) λm3 a b _ U=>?_;cases U;exact dR (λ_=>.pure q?) (λ_=>.pure q?)
   cases U;obtain⟨o,_⟩:=a;cases o<;>exact .pure rfl
  |array n e=>
   cases W<;>first|exact .dm|(cases O<;>first|exact .dm|skip)
   rename_i h1 h2 c c' h3 h4
   have aa:iw m\/pD P d e=t?:=by
    obtain B|B:=B
    exact .inl B;right;simpa only[pD,hd]using B
   refine eW λsz=>?_;refine dJ (RA:=yw) (pW _ _ λm' i s Y=>?_) λm' a b _ U=>?_;refine dJ (nP ((eP.iP h1 h2).mono Y) _) λm1 u u' l1 hu=>dJ (nP ((eP.iP h3 h4).mono (Y.trans l1)) _) λm2 v v' l2 hv=>?_;have l3:=(Y.trans l1).trans l2;refine dJ (qD d m2 _ (by rw[l3.G,hG]) (hu.mono l2) hv (aa.imp (λx=>x.mono l3) id)) λm3 a b _ U=>?_;cases U;exact dR (λ_=>.pure q?) (λ_=>.pure q?)
   cases U;obtain⟨o,_⟩:=a;cases o<;>exact .pure rfl
  |slice e=>cases W<;>first|exact .dm|(cases O<;>first|exact .dm|exact .pure q?)
  |map k e=>cases W<;>first|exact .dm|(cases O<;>first|exact .dm|exact .pure q?)
  |func a b c=>cases W<;>first|exact .dm|(cases O<;>first|exact .dm|exact .pure q?)
  |unsafePointer=>
   obtain B|B:=B
   cases W<;>first|exact .dm|(cases O<;>first|exact .dm|exact .pure rfl|exact zO B ‹_› ‹_›)
   simp[pD,hd]at B
  |chan a b=>
   cases W<;>first|exact .dm|(cases O<;>first|exact .dm|exact .pure rfl|skip)
   rename_i r r' h1 s s' h2;refine .pure ?_;show((y? r==y? s)=(y? r'==y? s'));rw[dl];simp only[beq_iff_eq,fv];constructor;intro e;subst e;rw[h1]at h2;cases h2;rfl;intro e;subst e;exact m.xu _ _ _ h1 h2
  |_=>cases W<;>exact .dm
end
variable {d:TypeDesc} {a a' b b' k k' x x':v?}
def rU(P:P?):Nat->bF->Bool
 |0,_=>t?|d+1,t=>match P.underlying t with
  |some (.interface _)=>f?|some (.struct B)=>B.all λf=>rU P d f.type|some (.array _ e)=>rU P d e|_=>t?
section
variable {P:P?} {m:Ren}
def oH(b):∀(n)(m)(t){v v'},VR m v v'->rU P n t=t?->dz P Bj m (aV b n t v) (aV b n t v')
 |0,m,t,_,_,_,_=>.dm|n+1,m,t,v,v',hv,B=>by
  refine dF λd O=>?_
  cases d with
  |interface ms=>simp[rU,O]at B|struct fs=>
   simp only[rU,O,aB]at B;cases hv<;>first|exact .dm|skip
   rename_i U W;refine(dJ (RA:=yw) (pZ _ _ λm' f s hf Y=>dR (λ_=>?_) (λ_=>.pure q?)) λ_ _ _ _ _=>.pure t!);refine dJ (nP ((eP.iP U W).mono Y) _) λm1 u u' l1 hu=>dJ (oH b n m1 _ hu (B f (u! hf))) λ_ _ _ _ _=>.pure rfl
  |array l e=>
   simp only[rU,O]at B;cases hv<;>first|exact .dm|skip
   rename_i U W;refine(dJ (RA:=yw) (pW _ _ λm' i s Y=>eW λsz=>?_) λ_ _ _ _ _=>.pure t!);refine dJ (nP ((eP.iP U W).mono Y) _) λm1 u u' l1 hu=>dJ (oH b n m1 _ hu B) λ_ _ _ _ _=>.pure rfl
  |_=>exact .pure trivial
def IX(m:Ren):Option (Nat×v?)->Option (Nat×v?)->Prop:=mW λx y=>y.1=x.1/\VR m x.2 y.2
def we(U:∀m',m.Le m'->iw m'\/pD P c6 t=t?)(W:m.G=P.globals.size)(Y:VR m k k'):∀{es es'}(i)(m'),m.Le m'->dY (uI m) es es'->dz P IX m' (aT t k es i) (aT t k' es' i)
 |_,_,_,m',_,.nil=>by unfold aT;exact .pure .none
 |_,_,i,m',B,.cons he h=>by refine dJ (qD _ m' t (by rw[B.G,W]) (Y.mono B) (he.key.mono B) (U m' B)) λm2 a b l2 O=>?_;cases O;exact dR (λ_=>.pure (.some ⟨q?,he.val.mono (B.trans l2)⟩)) (λ_=>we U W Y _ m2 (B.trans l2) h)
def Nb(B:VR m k k')(O:VR m x x')(b)(h:aO d k x=y? b):aO d k' x'=y? b:=by
 cases d with
 |bool=>
  cases B with
  |bool c=>cases O with|bool e=>exact h|_=>cases h
  |_=>cases h
 |int j=>
  cases B with
  |int c n=>cases O with|int e n'=>exact h|_=>cases h
  |_=>cases h
 |string=>
  cases B with
  |string c=>cases O with|string e=>exact h|_=>cases h
  |_=>cases h
 |_=>cases h
def Dn(W:P.underlying t=y? d)(O:VR m k k')(U:VR m x x')(h:aO d k x=x?){b}(h':aO d k' x'=y? b):eN P (c5 t k x):=by
 have key:∀{γ:Type}(f:TypeDesc->Sem γ),eN P (f d)->eN P (bH t >>= f):=by intro γ f Y;show eN P ((match P.underlying t with|some d=>pure d|none=>stuck _) >>= f);rw[W];exact Y
 cases d with
 |bool=>
  cases O with
  |bool c=>cases U with
   |bool e=>cases h
   |gN v B=>exact key _ trivial|_=>cases h'
  |gN v B=>exact key _ trivial|_=>cases h'
 |int j=>
  cases O with
  |int c n=>cases U with
   |int e n'=>rw[show aO .. = y? b from h']at h;cases h
   |gN v B=>exact key _ trivial|_=>cases h'
  |gN v B=>exact key _ (by cases x<;>trivial)|_=>cases h'
 |string=>
  cases O with
  |string c=>cases U with
   |string e=>cases h
   |gN v B=>exact key _ trivial|_=>cases h'
  |gN v B=>exact key _ trivial|_=>cases h'
 |_=>cases h'
def GD(B:P.underlying t=y? d)(h:aO d k x=y? f?)(f:Bool->Sem γ)(O:eN P (f f?)):eN P (c5 t k x >>= f):=by
 have key:∀(g:TypeDesc->Sem Bool),g d=pure f?->eN P ((bH t >>= g) >>= f):=by intro g U;show eN P (((match P.underlying t with|some d=>pure d|none=>stuck _) >>= g) >>= f);rw[B];show eN P (g d >>= f);rw[U];exact O
 match d,k,x,h with
 |.bool,.bool a,.bool b,h=>exact key _ (by simp only[aO,fv]at h;simp[h])|.string,.string a,.string b,h=>exact key _ (by simp only[aO,fv]at h;simp[h])|.int j,.int k a,.int k' b,h=>
  refine key _ ?_;simp only[aO]at h;split at h;simp only[fv]at h;rename_i e;simp[e,h]
  cases h
def Cb(B:P.underlying t=y? d)(O:VR m k k'):∀{es es'}(i),dY (uI m) es es'->
  (∀r,aR d k es i=y? r->∃r',aR d k' es' i=y? r'/\IX m r r')/\(aR d k es i=x?->aR d k' es' i=x?\/∀j,eN P (aT t k es j))
 |_,_,i,.nil=>by exact⟨λr h=>by cases h;exact⟨_,q?,.none⟩,nofun⟩
 |e::es,e'::es',i,.cons U h=>by
  obtain⟨W,Y⟩:=Cb B O _ h
  unfold aR
  cases hs:aO d k _ with
  |some b=>
   rw[Nb O U.key b hs]
   cases b with
   |true=>exact⟨λr h=>by cases h;exact⟨_,q?,.some ⟨q?,U.val⟩⟩,nofun⟩|false=>refine⟨W,λhn=>(Y hn).imp id λhD j=>?_⟩;exact GD B hs _ (hD _)
  |none=>
   refine⟨(nofun),λ_=>?_⟩
   cases aa:aO d k' _ with
   |none=>exact .inl rfl|some b=>refine .inr λj=>?_;exact(Dn B O U.key hs aa).bind
def xh(U:iw m\/pD P c6 t=t?)(W:m.G=P.globals.size)(B:VR m k k'){es es'}(h:dY (uI m) es es'):dz P IX m (aW t k es) (aW t k' es'):=by
 refine dF λd Y=>?_;obtain⟨h1,h2⟩:=Cb Y B 0 h
 cases O:aR d k es 0 with
 |some r=>obtain⟨r',e,hr⟩:=h1 r O;rw[e];exact .pure hr
 |none=>
  obtain e|hD:=h2 O
  rw[e];exact we (λm' hl=>U.imp (λx=>x.mono hl) id) W B 0 m (.refl m) h;exact .uH (hD 0)
def Ov(hP:nC P)(hG:m.G=P.globals.size)(hK:∀k e,P.underlying t=y? (.map k e)->rU P 10000 k=t?/\(iw m\/pD P c6 k=t?)){i i'}(hx:VR m x x')(Y:VR m i i')(b):dz P VR m (b0 t x i b) (b0 t x' i' b):=by
 refine dF λd hd=>?_;cases d<;>first|exact .dm|skip
 rename_i k e;obtain⟨U,W⟩:=hK k e hd
 have fin:∀{es es':Array MapEntry},dY (uI m) es.toList es'.toList->dz P VR m
   (do aV es.isEmpty 10000 k i;match <-aW k i es.toList with|some (_,v)=>(do let y <-pure (v,t?);match y with|(v,ok)=>pure (if b=t? then .tuple #[v,.bool ok]else v))|none=>(do let z <-bD e;let y <-pure (z,f?);match y with|(v,ok)=>pure (if b=t? then .tuple #[v,.bool ok]else v)))
   (do aV es'.isEmpty 10000 k i';match <-aW k i' es'.toList with|some (_,v)=>(do let y <-pure (v,t?);match y with|(v,ok)=>pure (if b=t? then .tuple #[v,.bool ok]else v))|none=>(do let z <-bD e;let y <-pure (z,f?);match y with|(v,ok)=>pure (if b=t? then .tuple #[v,.bool ok]else v))):=by
  intro es es' h
  have he:es.isEmpty=es'.isEmpty:=by have:=h.length;simp only[a5]at this;simp[aA,this]
  rw[he];refine dJ (oH _ _ m _ Y U) λm1 _ _ B _=>dJ (xh (W.imp (λx=>x.mono B) id) (by rw[B.G,hG]) (Y.mono B) (h.mono λ_ _ x=>x.mono B)) λm2 r r' l2 hr=>?_
  have pr:∀(m':Ren)(v v':v?)(o:Bool),VR m' v v'->VR m' (if b=t? then .tuple #[v,.bool o]else v) (if b=t? then .tuple #[v',.bool o]else v'):=by intro m' v v' o O;split;exact .mz (.cons O (.cons (.bool _) .nil));exact O
  cases hr with
  |none=>exact gK hP λz hz=>.pure (pr _ _ _ _ hz)|some O=>exact .pure (pr _ _ _ _ O.2)
 cases hx<;>first|exact .dm|skip
 exact fin .nil
 rename_i hb;refine gO hb λo o' ho=>?_;cases ho<;>first|exact .dm|exact fin ‹_›
 exact .gone ‹_›
def GL:∀(n)(a b),aN n a b=t?->a=b:=by
 intro n;induction n with
 |zero=>
  intro a b h;unfold aN at h;split at h;rw[eq_of_beq h];simp only[dj,beq_iff_eq]at h;rw[h.1,h.2];simp only[dj,beq_iff_eq]at h;rw[h.1,h.2];simp only[dj,beq_iff_eq]at h;rw[h.1.1,h.1.2,h.2];rw[(Go.MapKept.bytes_beq ..).1 h];rw[eq_of_beq h];rw[eq_of_beq h];rfl;rename_i e;cases e;rename_i e;cases e
  cases h
 |succ n B=>
  intro a b h;unfold aN at h;split at h;rw[eq_of_beq h];simp only[dj,beq_iff_eq]at h;rw[h.1,h.2];simp only[dj,beq_iff_eq]at h;rw[h.1,h.2];simp only[dj,beq_iff_eq]at h;rw[h.1.1,h.1.2,h.2];rw[(Go.MapKept.bytes_beq ..).1 h];rw[eq_of_beq h];rw[eq_of_beq h];rfl;rename_i e;cases e;simp only[dj,beq_iff_eq]at h;rw[h.1,B _ _ h.2];rename_i x y e;cases e;simp only[dj,beq_iff_eq,ff]at h
  have:=by apply Array.ext h.1;intro i O U;refine B _ _ (h.2 (x[i],y[i]) ?_);rw[fd];exact⟨i,by simp[fb,O,U]⟩
  rw[this]
  cases h
def tn(Y:VR m a a')(hb:VR m b b'):(∀p q,a=p? p->b=p? q->∃B O,a'=p? B/\b'=p? O/\(p==q)=(B==O))/\(∀p q,a=.chan p->b=.chan q->∃B O,a'=.chan B/\b'=.chan O/\(p==q)=(B==O)):=by
 constructor;intro p q U W;subst U W
 cases Y with
 |iE=>cases hb with
  |iE=>exact⟨_,_,q?,q?,q?⟩|ptr h=>exact⟨_,_,q?,q?,q?⟩
 |ptr h=>cases hb with
  |iE=>exact⟨_,_,q?,q?,q?⟩|ptr h'=>exact⟨_,_,q?,q?,by rw[dl];simp only[beq_iff_eq,fv];exact h.eq_iff h'⟩
 intro p q U W;subst U W
 cases Y with
 |jS=>cases hb with
  |jS=>exact⟨_,_,q?,q?,q?⟩|chan h=>exact⟨_,_,q?,q?,q?⟩
 |chan h=>cases hb with
  |jS=>exact⟨_,_,q?,q?,q?⟩|chan h'=>refine⟨_,_,q?,q?,?_⟩;rw[dl];simp only[beq_iff_eq,fv];constructor;intro e;subst e;rw[h]at h';cases h';rfl;intro e;subst e;exact m.xu _ _ _ h h'
def Gd:∀(n){a b a' b'},VR m a a'->VR m b b'->aN n a b=t?->aN n a' b'=t?:=by
 intro n;induction n with
 |zero=>
  intro a b a' b' B hb h;unfold aN at h;split at h
  cases B;cases hb;simpa[aN]using h
  cases B;cases hb;simpa[aN]using h
  cases B
  cases B
  cases B;cases hb;simpa[aN]using h;obtain⟨W,Y,rfl,rfl,e⟩:=(tn B hb).1 _ _ q? rfl;rw[e]at h;simpa[aN]using h;obtain⟨W,Y,rfl,rfl,e⟩:=(tn B hb).2 _ _ q? rfl;rw[e]at h;simpa[aN]using h
  cases B;cases hb;rfl;rename_i e;cases e;rename_i e;cases e
  cases h
 |succ n ih=>
  intro a b a' b' B hb h;unfold aN at h;split at h
  cases B;cases hb;simpa[aN]using h
  cases B;cases hb;simpa[aN]using h
  cases B
  cases B
  cases B;cases hb;simpa[aN]using h;obtain⟨W,Y,rfl,rfl,e⟩:=(tn B hb).1 _ _ q? rfl;rw[e]at h;simpa[aN]using h;obtain⟨W,Y,rfl,rfl,e⟩:=(tn B hb).2 _ _ q? rfl;rw[e]at h;simpa[aN]using h
  cases B;cases hb;rfl;rename_i e;cases e
  cases B with
  |iface t h1=>cases hb with
   |iface u h2=>simp only[dj,beq_iff_eq]at h;simp only[aN,dj,beq_iff_eq];exact⟨h.1,ih h1 h2 h.2⟩
  rename_i x y e;cases e
  cases B with
  |agg s1 h1=>cases hb with
   |agg s2 h2=>
    simp only[dj,beq_iff_eq,ff]at h;simp only[aN,dj,beq_iff_eq,ff];refine⟨by rw[<-s1,<-s2];exact h.1,λp hp=>?_⟩;rw[fd]at hp;obtain⟨i,hi⟩:=hp;simp only[fb,az]at hi;obtain⟨g1,g2⟩:=hi;obtain⟨k1,e1⟩:=ay.1 g1;obtain⟨k2,e2⟩:=ay.1 g2;have O:i<x.size:=by rw[s1];exact k1
    have U:i<y.size:=by rw[s2];exact k2
    rw[<-e1,<-e2];refine ih (h1 i O k1) (h2 i U k2) (h.2 (x[i],y[i]) ?_);rw[fd];exact⟨i,by simp[fb,O,U]⟩
  cases h
def Au{δ RB}(B:VR m a a')(hb:VR m b b'){f:v?->Sem γ}{f':v?->Sem δ}(W:∀v,gV (f v))(h:∀v v',VR m v v'->dz P RB m (f v) (f' v')) :
  lZ P RB m (aX a b >>= f) (aX a' b' >>= f'):=by
 unfold aX;by_cases O:aN 10000 a b=t?;rw[if_pos O,if_pos (Gd _ B hb O)];exact .base (h _ _ hb);rw[if_neg O];by_cases U:aN 10000 a' b'=t?;have e:=GL _ _ _ U;refine lZ.VA (λn=>?_) (λn=>?_);exact W _;show dz P RB m (f _) _;split;exact h _ _ hb;exact h _ _ (e▸B);rw[if_neg U];refine .base (dz.choose λn=>?_);show dz P RB m (f _) (f' _);split;exact h _ _ hb;exact h _ _ B
end
variable {es es':Array MapEntry} {mp mp':v?}
section
variable {P:P?} {m:Ren}
def gV.bind{s}{f:α->Sem β}(h:gV s)(O:∀a,gV (f a)):gV (s.bind f):=by
 induction s with
 |pure a=>exact O a|load m a k B=>exact λv=>B v (h v)|store m a v k B=>exact B h|new o k B=>exact λv=>B v (h v)|shape r k B=>exact λv=>B v (h v)|freeze a n k B=>exact B h|frozen a k B=>exact λv=>B v (h v)|getObj r k B=>exact λv=>B v (h v)|setObj r o k B=>exact B h|choose q k B=>exact h.elim|sys c k B=>exact λv=>B v (h v)|program k B=>exact λv=>B v (h v)|mark m k B=>exact B h|halt x=>trivial
def lZ.map{RA}{RB:Ren->γ->δ->Prop}{s s'}{g:α->γ}{g':β->δ}(h:lZ P RA m s s')(U:∀m' a b,m.Le m'->RA m' a b->RB m' (g a) (g' b)) :
  lZ P RB m (s.bind λa=>.pure (g a)) (s'.bind λb=>.pure (g' b)):=by
 induction h with
 |base h=>exact .base (h.bind λm' a b B O=>.pure (U m' a b B O))|bind h _ ih=>rw[cP,cP];exact .bind h λm' a b B O=>ih m' a b B O λW c d Y aa=>U W c d (B.trans Y) aa
 |VA hd h=>exact .VA (λn=>(hd n).bind λ_=>trivial) λn=>(h n).bind λm' a b B O=>.pure (U m' a b B O)
def pG{RC RA s s'}{f:γ->Sem α}{f':δ->Sem β}(h:dz P RC m s s')(B:∀m' a b,m.Le m'->RC m' a b->lZ P RA m' (f a) (f' b)):lZ P RA m (s >>= f) (s' >>= f'):=.bind h B
def vw{t}:dz P (λ_ a b=>a=b/\P.underlying t=y? a) m (bH t) (bH t):=by have:=dF (P:=P) (m:=m) (t:=t) (RB:=λ_ a b=>a=b/\P.underlying t=y? a) (f:=pure) (f':=pure) λd B=>.pure ⟨q?,B⟩;simpa using this
def Gv{r r'}(hb:m.blk r=y? r'):dz P OR m (getObj r) (getObj r'):=.getObj hb λ_ _ h=>.pure h
def Bc(h:dY (uI m) es.toList es'.toList)(i){f f':MapEntry->MapEntry}(hf:∀e W,uI m e W->uI m (f e) (f' W)):dY (uI m) (es.modify i f).toList (es'.modify i f').toList:=by refine dY.JS (u! h.length) λj a b B hb=>?_;simp only[az,a2]at B hb;by_cases e:i=j;simp only[e,if_true,Option.map_eq_some_iff]at B hb;obtain⟨x,hx,rfl⟩:=B;obtain⟨y,Y,rfl⟩:=hb;obtain⟨z,O,U⟩:=h.get (i:=j) (a:=x) (u! hx);simp only[az]at O;rw[O]at Y;cases Y;exact hf _ _ U;simp only[e,if_false]at B hb;obtain⟨z,O,U⟩:=h.get (i:=j) (a:=a) (u! B);simp only[az]at O;rw[O]at hb;cases hb;exact U
def uU(h:dY (uI m) es.toList es'.toList){e e'}(B:uI m e e'):dY (uI m) (es.push e).toList (es'.push e').toList:=by simp only[aI];exact h.append (.cons B .nil)
def C6(h:dY (uI m) es.toList es'.toList)(i:Nat):mW (uI m) es[i]? es'[i]?:=by
 cases B:es[i]? with
 |none=>have:=h.get_none (i:=i) (u! B);simp only[az]at this;rw[this];exact .none
 |some x=>obtain⟨y,O,U⟩:=h.get (i:=i) (a:=x) (u! B);simp only[az]at O;rw[O];exact .some U
def oy{c}:∀x y z,Obj.map es c≠c? x y z:=nofun
def FD(hG:m.G=P.globals.size){t}(hK:∀k e,P.underlying t=y? (.map k e)->rU P 10000 k=t?/\(iw m\/pD P c6 k=t?))(hm:VR m mp mp')(W:VR m k k')(hv:VR m v v') :
  lZ P Bj m (bo t mp k v) (bo t mp' k' v'):=by
 refine pG vw λm1 d d' l1 hd=>?_;obtain⟨rfl,hd⟩:=hd;cases d<;>first|exact .base (.dm)|skip
 rename_i kt et;obtain⟨ac,ad⟩:=hK kt et hd;have hm:=hm.mono l1;cases hm<;>first|exact .base (.dm)|exact .base (fX (e:=.plain _) t!)|skip
 case map.gone=>exact .base (.gone ‹_›)
 rename_i r r' hb;refine pG (Gv hb) λm2 o o' l2 ho=>?_;have ae:=l2.blk _ _ hb;cases ho<;>first|exact .base (.dm)|skip
 rename_i es es' clock Y;have aa:=l1.trans l2;refine pG (oH _ _ m2 _ (W.mono aa) ac) λm3 _ _ l3 _=>?_;have U:=aa.trans l3;refine pG (xh (ad.imp (λx=>x.mono U) id) (by rw[U.G,hG]) (W.mono U) (Y.mono λ_ _ x=>x.mono l3)) λm4 a b l4 af=>?_;have B:=U.trans l4;have O:=Y.mono λ_ _ x=>x.mono (l3.trans l4);have ab:=(l3.trans l4).blk _ _ ae
 cases af with
 |none=>exact .base (rL ab (.map _ (uU O ⟨W.mono B,hv.mono B,q?⟩)) oy)|some hx=>
  rename_i x y;obtain⟨i,u⟩:=x;obtain⟨i',u'⟩:=y;obtain⟨hi,_⟩:=hx;subst hi;refine Au ?_ (W.mono B) (λ_=>trivial) λq q' hq=>rL ab (.map _ (Bc O _ λe e' he=>⟨hq,hv.mono B,he.born⟩)) oy;have:=C6 O i';revert this;generalize es[i']?=p;generalize es'[i']?=p';intro hp
  cases hp with
  |none=>exact W.mono B|some he=>exact he.key
def I4(hP:nC P)(hG:m.G=P.globals.size){t}(hK:∀k e,P.underlying t=y? (.map k e)->rU P 10000 k=t?/\(iw m\/pD P c6 k=t?))(hm:VR m mp mp')(Y:VR m k k') :
  lZ P VR m (bs t mp k) (bs t mp' k'):=by
 refine pG vw λm1 d d' l1 hd=>?_;obtain⟨rfl,hd⟩:=hd;cases d<;>first|exact .base (.dm)|skip
 rename_i kt et;obtain⟨ad,ae⟩:=hK kt et hd;have hm:=hm.mono l1;cases hm<;>first|exact .base (.dm)|exact .base (fX (e:=.plain _) t!)|skip
 case map.gone=>exact .base (.gone ‹_›)
 rename_i r r' hb;refine pG (Gv hb) λm2 o o' l2 ho=>?_;have af:=l2.blk _ _ hb;cases ho<;>first|exact .base (.dm)|skip
 rename_i es es' clock aa;have ab:=l1.trans l2;refine pG (oH _ _ m2 _ (Y.mono ab) ad) λm3 _ _ l3 _=>?_;have O:=ab.trans l3;refine pG (xh (ae.imp (λx=>x.mono O) id) (by rw[O.G,hG]) (Y.mono O) (aa.mono λ_ _ x=>x.mono l3)) λm4 a b l4 ag=>?_;have U:=O.trans l4;have B:=aa.mono λ_ _ x=>x.mono (l3.trans l4);have ac:=(l3.trans l4).blk _ _ af
 cases ag with
 |none=>exact .base (gK hP λz hz=>li ac (.map _ (uU B ⟨Y.mono U,hz,q?⟩)) oy (.pure (.mz (.cons hz (.cons (.int ..) .nil)))))|some hx=>
  rename_i x y;obtain⟨i,u⟩:=x;obtain⟨i',u'⟩:=y;obtain⟨hi,hu⟩:=hx;subst hi;have hg:=C6 B i';refine Au ?_ (Y.mono U) (λ_=>trivial) λq q' hq=>li ac (.map _ (Bc B _ λe e' W=>⟨hq,W.val,W.born⟩)) oy (.pure (.mz (.cons hu (.cons ?_ .nil))));revert hg;generalize es[i']?=p;generalize es'[i']?=p';intro hp
  cases hp with
  |none=>exact Y.mono U|some W=>exact W.key
  revert hg;generalize es[i']?=p;generalize es'[i']?=p';intro hp
  cases hp with
  |none=>exact .int ..|some W=>rw[gc,gc,W.born];exact .int ..
def N8{es es'}(h:dY (uI m) es es')(p:Nat->Bool):es.findIdx? (λe=>p e.born)=es'.findIdx? (λe=>p e.born):=by
 induction h with
 |nil=>rfl|cons B _ O=>simp only[List.findIdx?_cons,B.born,O]
def DC{t s s'}(hm:VR m mp mp')(U:VR m s s')(W:VR m v v'):dz P Bj m (bm t mp s v) (bm t mp' s' v'):=by
 cases hm<;>first|exact .dm|skip
 case gone=>exact .gone ‹_›
 rename_i r r' hb;refine gO hb λo o' Y=>?_;cases Y<;>first|exact .dm|skip
 rename_i es es' clock B;refine l9 U λn=>?_
 have e:es.findIdx? (λe=>e.born==n)=es'.findIdx? (λe=>e.born==n):=by have:=N8 B (λb=>b==n);obtain⟨a⟩:=es;obtain⟨a'⟩:=es';simpa using this
 rw[e];split;exact rL hb (.map _ (Bc B _ λe e' O=>⟨O.key,W,O.born⟩)) oy;exact .dm
def Ux{es es'}(h:dY (uI m) es es')(p:Nat->Bool):mW (uI m) (es.find? λe=>p e.born) (es'.find? λe=>p e.born):=by
 induction h with
 |nil=>exact .none|cons B _ O=>simp only[List.find?_cons,B.born];split;exact .some B;exact O
def S4{i}(h:VR m i i'):dz P VR m (b7 i) (b7 i'):=by
 cases h<;>first|exact .dm|skip
 rename_i Y
 cases Y with
 |@mk b b' o s hb=>
 cases o<;>first|exact .dm|skip
 refine gO hb λo o' O=>?_;cases O<;>first|exact .dm|skip
 rename_i r r' x y z hm;dsimp only
 cases y.back? with
 |none=>exact .dm|some B=>
  refine gO hm λo o' O=>?_;cases O<;>first|exact .dm|skip
  rename_i es es' clock U;dsimp only;split;exact .dm;have:=Ux U (λb=>b==B);simp only[Array.find?_toList]at this;revert this;generalize es.find? _=p;generalize es'.find? _=p';intro hp
  cases hp with
  |none=>exact .dm|some W=>exact .pure (.mz (.cons W.key (.cons W.val .nil)))
def Av{es es'}(h:dY (uI m) es es')(p:Nat->Bool):dY (uI m) (es.filter λe=>p e.born) (es'.filter λe=>p e.born):=by
 induction h with
 |nil=>exact .nil|cons B _ O=>simp only[List.filter_cons,B.born];split;exact .cons B O;exact O
def UR{es es'}(h:dY (uI m) es es')(p:Nat->Bool):es.all (λe=>p e.born)=es'.all (λe=>p e.born):=by
 induction h with
 |nil=>rfl|cons B _ O=>simp only[List.all_cons,B.born,O]
def Iy(bE:Array Nat)(B:Nat)(es:Array MapEntry):Array (Option MapEntry):=
 (if(a1 (λx=>decide (x.born<B)) (a1 (λe=>!bE.contains e.born) es)).isEmpty=t? then #[x?]else #[]) ++
  aC y? (a1 (λx=>decide (x.born<B)) (a1 (λe=>!bE.contains e.born) es)++a1 (λx=>decide (x.born ≥ B)) (a1 (λe=>!bE.contains e.born) es))
def Uo(bE)(since)(h:dY (uI m) es.toList es'.toList):dY (mW (uI m)) (Iy bE since es).toList (Iy bE since es').toList:=by
 have B:=Av h (λb=>!bE.contains b);have O:=Av B (λb=>decide (b<since));have U:=Av B (λb=>decide (b ≥ since));unfold Iy
 have e:(a1 (λx=>decide (x.born<since)) (a1 (λe=>!bE.contains e.born) es)).isEmpty=(a1 (λx=>decide (x.born<since)) (a1 (λe=>!bE.contains e.born) es')).isEmpty:=by have:=O.length;simp only[<-aF,a5]at this;simp only[aA,this]
 rw[e];simp only[aG,a4,aF];refine dY.append ?_ (dY.map (λa b h=>.some h) (dY.append O U));split;exact .cons .none .nil;exact .nil
def T'{i}(h:VR m i i')(b)(t):dz P VR m (bj i b t) (bj i' b t):=by
 unfold bj;cases h<;>first|exact .dm|skip
 rename_i ha
 cases ha with
 |@mk c c' o s hb=>
 cases o<;>first|exact .dm|skip
 dsimp only;refine gO hb λo o' U=>?_;cases U<;>cases b<;>first|exact .dm|skip
 dsimp only;refine dR (λ_=>li hb (.stringIter _ _) (λ_ _ _ h=>by cases h) (.pure (.mz (.cons (.bool _) (.cons (.int ..) (.cons (.int ..) .nil)))))) (λ_=>.pure (.mz (.one (.bool _))));exact .pure (.mz (.one (.bool _)))
 rename_i r r' B bE last hm;refine gO hm λo o' U=>?_;cases U<;>first|exact .dm|skip
 rename_i es es' clock O;have Y:=O.length;simp only[a5]at Y;have e1:es.isEmpty=es'.isEmpty:=by simp only[aA,Y]
 have e2:es.all (λx=>decide (x.born ≥ last))=es'.all (λx=>decide (x.born ≥ last)):=by have:=UR O (λb=>decide (b ≥ last));rw[<-aL,<-aL];exact this
 dsimp only;rw[e1,e2];refine dR (λ_=>.dm) (λ_=>?_)
 change dz P VR m (choose (.mapNext (Iy bE B es).size) >>= λn=>match (Iy bE B es)[n]? with
   |some (y? e)=>(do setObj c _;pure _)
   |some x?=>pure _|none=>stuck _)
  (choose _ >>= λn=>match (Iy bE B es')[n]? with
    |some (y? e)=>(do setObj c' _;pure _)
    |some x?=>pure _|none=>stuck _)
 have hc:=Uo bE B O;have e3:=by simpa using hc.length
 rw[e3];refine ki λn=>?_
 cases hn:(Iy bE B es)[n]? with
 |none=>exact .dm|some x=>
  obtain⟨y,hy,hr⟩:=hc.get (i:=n) (a:=x) (u! hn);simp only[az]at hy;rw[hy]
  cases hr with
  |none=>exact .pure (.mz (.one (.bool _)))|some W=>dsimp only;rw[W.born];exact li hb (.mapIter _ _ _ hm) (nofun) (.pure (.mz (.cons (.bool _) (.cons W.key (.cons W.val .nil)))))
end
variable {a':Addr} {r r':Nat} {y y':v?}
section
variable {P:P?} {m:Ren}
def DH(U:nC P)(W:VR m x x')(t u):dz P VR m (bk x t u t?) (bk x' t u t?):=by
 have B:dz P VR m (do pure (.tuple #[<-bD u,.bool f?])) _:=
  gK U λz Y=>.pure (.mz (.cons Y (.cons (.bool _) .nil)))
 refine dF λd hd=>?_
 cases W with
 |nilIface=>cases d<;>exact B
 |iface s O=>
  cases d
  case interface ms=>
   refine eZ λti _=>?_
   cases Instr.missingMethod ms _ with
   |none=>exact .pure (.mz (.cons (.iface _ O) (.cons (.bool _) .nil)))|some _=>exact B
  all_goals exact dR (λ_=>.pure (.mz (.cons O (.cons (.bool _) .nil)))) (λ_=>B)
 |_=>cases d<;>exact .dm
def Ag(op)(k)(a b):dz P VR m (cA op k a b) (cA op k a b):=by cases op<;>first|exact .dm|exact .pure (.int ..)
def CF(op)(k)(a b):dz P VR m (cB op k a b) (cB op k a b):=by cases op<;>first|exact .dm|exact .pure (.int ..)
def Ox(op)(a b):dz P VR m (cF op a b) (cF op a b):=by cases op<;>first|exact .dm|exact .pure (.bool _)
def PX(op)(k)(a b):dz P VR m (cE op k a b) (cE op k a b):=by refine dR (λ_=>fX (e:=.error _) t!) (λ_=>?_);cases op<;>first|exact .dm|exact .pure (.int ..)
def KN(op)(k j)(a b):dz P VR m (cH op k a j b) (cH op k a j b):=by refine dR (λ_=>fX (e:=.error _) t!) (λ_=>?_);cases op<;>first|exact .dm|exact .pure (.int ..)
def Jr(op)(a b):dz P VR m (c9 op a b) (c9 op a b):=by cases op<;>first|exact .dm|exact .pure (.bool _)|exact dR (λ_=>.dm) (λ_=>.pure (.string _))
def Rp(op)(h:VR m x x'):dz P VR m (cG op x) (cG op x'):=by
 cases h<;>cases op<;>first|exact .dm|exact .pure (.bool _)|skip
 rename_i k n;show dz P VR m (cA .sub k 0 n) _;exact Ag ..;rename_i k n;show dz P VR m (cB .xor k _ n) _;exact CF ..
def O'{γ δ RB}(hb:m.blk r=y? r'){f:Option (Addr×bF)->Sem γ}{f':Option (Addr×bF)->Sem δ}(h:dz P RB m (f x?) (f' x?)):dz P RB m (viewAt r >>= f) (viewAt r' >>= f'):=by
 refine kW hb λx=>?_
 cases x with
 |some y=>exact h|none=>refine gO hb λo o' B=>?_;cases B<;>exact h
def Wl(m:Ren)(v v':v?):Prop:=∃a a',v=p? (y? a)/\v'=p? (y? a')/\AR m a a'
def sA{a t}(U:VR m x x')(O:VR m y y'):dz P Wl m (cR a t #[x,y]) (cR a t #[x',y']):=by
 cases U<;>first|exact .dm|skip
 refine l9 O λn=>?_;dsimp only;split;exact .dm;split<;>exact .dm
 rename_i B;refine l9 O λn=>?_;dsimp only;split;refine O' B.blk ?_;exact .pure ⟨_,_,q?,q?,B⟩;split;exact .dm;refine kW B.blk λz=>?_
 cases z with
 |none=>exact .dm|some z=>
  refine iL ?_
  cases B with
  |mk hb=>
  dsimp only;split;exact .pure ⟨_,_,q?,q?,.mk hb⟩;exact .dm
def JL(hb:m.blk r=y? r'):dz P (λm=>mW λx y=>AR m x.1 y.1/\y.2=x.2) m (numberAt r) (numberAt r'):=by
 refine kW hb λx=>?_
 cases x with
 |some y=>exact .pure .none|none=>
  refine gO hb λo o' B=>?_
  cases B with
  |number l O=>exact .pure (.some ⟨O,q?⟩)|_=>exact .pure .none
def Jh{a}(B:AR m a a')(l):dz P VR m (asNumber a l) (asNumber a' l):=
 dz.new (.number l B) (nofun) λm' r r' _ hb _=>.pure (.ptr (.mk hb))
def ku{t}(O:VR m x x')(B:VR m y y'):dz P VR m (cx t x y) (cx t x' y'):=by
 refine dF λd hd=>?_;dsimp only;split;exact .dm
 cases O with
 |ptr U=>refine eF U λp p' l W=>?_;refine dJ (sA (.ptr W) B) λm' v v' hl Y=>?_;obtain⟨b,b',rfl,rfl,hb⟩:=Y;exact Jh hb l
 |iE=>exact(sA (a:=#[]) (t:=t) .iE B).mono λm' v v' _ h=>by obtain⟨b,b',rfl,rfl,hb⟩:=h;exact .ptr hb
 |_=>exact .dm
def sM{t}(O:VR m x x')(U:VR m y y'):dz P VR m (cr t x y) (cr t x' y'):=by
 have fin:∀m',m.Le m'->dz P VR m' (cR #[] t _) _:=λm' B=>(sA (O.mono B) (U.mono B)).mono λm' v v' _ h=>by obtain⟨b,b',rfl,rfl,hb⟩:=h;exact .ptr hb
 cases O with
 |ptr W=>
  refine dJ (JL W.blk) λm' o o' B Y=>?_
  cases Y with
  |none=>exact fin m' B|some _=>exact .dm
 |gN v hv=>exact .dm|_=>exact fin m (.refl m)
def xV{t}(y):eN P (c5 t (.tuple #[]) y):=by
 show eN P ((match P.underlying t with|some d=>pure d|none=>stuck _) >>= _)
 cases P.underlying t with
 |none=>trivial|some d=>cases d<;>first|trivial|(cases y<;>trivial)
def xQ{t}(x):eN P (c5 t x (.tuple #[])):=by
 show eN P ((match P.underlying t with|some d=>pure d|none=>stuck _) >>= _)
 cases P.underlying t with
 |none=>trivial|some d=>cases d<;>first|trivial|(cases x<;>first|trivial|(rename_i a;cases a<;>trivial)|(cases b<;>first|trivial|(cases c<;>trivial))|(rename_i a b c;cases a<;>trivial))
def Gb(U:m.G=P.globals.size){a b b'}(B:AR m a a')(hb:AR m b b'):dz P yw m (c7 a b) (c7 a' b'):=by
 refine iL ?_
 have W:(a.block != b.block)=(a'.block != b'.block):=by
  have:(a.block==b.block)=(a'.block==b'.block):=by rw[dl];simp only[beq_iff_eq];exact B.tu hb
  simp only[bne,this]
 have Y:decide (a.block ≥ P.globals.size)=decide (a'.block ≥ P.globals.size):=by have:=m.qa _ _ B.blk;rw[U]at this;exact decide_eq_decide.2 ⟨λh=>ei λx=>absurd (this.2 x) o!,λh=>ei λx=>absurd (this.1 x) o!⟩
 rw[W,Y];refine dR (λ_=>.dm) (λ_=>?_);refine dJ (p8 B) λm' x y O h=>?_;cases h;refine dJ (p8 (hb.mono O)) λaa x' y' O h=>?_;cases h;exact .pure rfl
def wR{k a}(B:AR m a a')(n):dz P VR m (cD k a n) (cD k a' n):=by
 refine kW B.blk λx=>?_
 cases x with
 |none=>exact .dm|some y=>refine eZ λO _=>?_;refine dR (λ_=>.dm) (λ_=>?_);refine dJ (p8 B) λm' x y U h=>?_;cases h;exact .pure (.int ..)
def La(O:m.G=P.globals.size){t}(U:iw m\/pD P c6 t=t?)(W:VR m x x')(Y:VR m y y'):dz P VR m (do pure (.bool (<-c5 t x y))) (do pure (.bool (<-c5 t x' y')))/\dz P VR m (do pure (.bool (!(<-c5 t x y)))) (do pure (.bool (!(<-c5 t x' y')))):=by
 have h:=qD (P:=P) _ m t O W Y U;constructor;exact dJ h λm' a b _ B=>by cases B;exact .pure (.bool _)
 exact dJ h λm' a b _ B=>by cases B;exact .pure (.bool _)
def ME(op)(t)(k k')(a b):dz P VR m (binOp op t (n? k a) (n? k' b)) (binOp op t (n? k a) (n? k' b)):=by
 cases op
 case shl=>exact KN .shl k k' a b
 case shr=>exact KN .shr k k' a b
 all_goals
  refine dR (λ_=>.dm) (λ_=>?_)
  first|exact Ag ..|exact PX ..|exact CF ..|exact Ox ..
def Dq(op)(W:m.G=P.globals.size){t}(hE:op=.eql\/op=.neq->iw m\/pD P c6 t=t?)(Y:VR m x x')(O:VR m y y'):dz P VR m (binOp op t x y) (binOp op t x' y'):=by
 have heq:op=.eql->dz P VR m (do pure (.bool (<-c5 t x y))) (do pure (.bool (<-c5 t x' y'))):=λe=>(La W (hE (.inl e)) Y O).1;have hne:op=.neq->dz P VR m (do pure (.bool (!(<-c5 t x y)))) (do pure (.bool (!(<-c5 t x' y')))):=λe=>(La W (hE (.inr e)) Y O).2
 have B:∀(z:v?),y=.tuple #[]->op=.eql\/op=.neq->x=z->dz P VR m (binOp op t x y) (binOp op t x' y'):=by
  intro z e1 e2 e3;subst e1;refine .uH ?_;obtain rfl|rfl:=e2
  cases x<;>exact(xQ _).bind
  cases x<;>exact(xQ _).bind
 cases Y with
 |gN v U=>
  refine .uH ?_;cases op
  case eql=>exact(xV _).bind
  case neq=>exact(xV _).bind
  all_goals(cases y<;>trivial)
 |int k a=>
  cases O with
  |int k' b=>exact ME op t k k' a b|gN v U=>cases op<;>first|exact .dm|exact B _ q? (.inl q?) rfl|exact B _ q? (.inr q?) rfl
  |iE=>cases op<;>first|exact .dm|exact heq rfl|exact hne rfl|exact ku .iE (.int _ _)
  |ptr hb=>
   cases op
   case add=>exact ku (.ptr hb) (.int _ _)
   case and=>exact eF hb λp p' l hp=>wR hp _
   all_goals first|exact .dm|exact heq rfl|exact hne rfl
  |_=>cases op<;>first|exact .dm|exact heq rfl|exact hne rfl
 |string a=>
  cases O with
  |string b=>
   have e:∀op,binOp op t (s? a) (s? b)=c9 op a b:=λop=>by cases op<;>rfl
   rw[e];exact Jr _ a b
  |gN v U=>cases op<;>first|exact .dm|exact B _ q? (.inl q?) rfl|exact B _ q? (.inr q?) rfl
  |_=>cases op<;>first|exact .dm|exact heq rfl|exact hne rfl
 |iE=>
  cases O with
  |gN v U=>cases op<;>first|exact .dm|exact B _ q? (.inl q?) rfl|exact B _ q? (.inr q?) rfl
  |int k n=>
   cases op
   case add=>refine dF λd hd=>?_;exact dR (λ_=>sM .iE (.int _ _)) (λ_=>ku .iE (.int _ _))
   case sub=>exact ku .iE (.int _ _)
   all_goals first|exact .dm|exact heq rfl|exact hne rfl
  |_=>cases op<;>first|exact .dm|exact heq rfl|exact hne rfl
 |ptr ha=>
  cases O with
  |gN v U=>cases op<;>first|exact .dm|exact B _ q? (.inl q?) rfl|exact B _ q? (.inr q?) rfl
  |int k n=>
   cases op
   case add=>refine dF λd hd=>?_;exact dR (λ_=>sM (.ptr ha) (.int _ _)) (λ_=>ku (.ptr ha) (.int _ _))
   case sub=>exact ku (.ptr ha) (.int _ _)
   case rem=>exact eF ha λp p' l hp=>wR hp _
   case and=>exact eF ha λp p' l hp=>wR hp _
   all_goals first|exact .dm|exact heq rfl|exact hne rfl
  |ptr hb=>
   have two:∀(f:Nat×Nat->Sem v?),(∀m' p,dz P VR m' (f p) (f p))->∀{a a' b b':Addr},AR m a a'->AR m b b'->dz P VR m (c7 a b >>= f) (c7 a' b' >>= f):=
    λf hf a a' b b' h1 h2=>dJ (Gb W h1 h2) λm' p q _ aa=>by cases aa;exact hf m' p
   cases op
   case eql=>exact heq rfl
   case neq=>exact hne rfl
   case sub=>exact eF ha λp p' l hp=>eF hb λq q' l' hq=>two _ (λm' p=>.pure (.int _ _)) hp hq
   case lss=>exact eF ha λp p' l hp=>eF hb λq q' l' hq=>two _ (λm' p=>.pure (.bool _)) hp hq
   case leq=>exact eF ha λp p' l hp=>eF hb λq q' l' hq=>two _ (λm' p=>.pure (.bool _)) hp hq
   case gtr=>exact eF ha λp p' l hp=>eF hb λq q' l' hq=>two _ (λm' p=>.pure (.bool _)) hp hq
   case geq=>exact eF ha λp p' l hp=>eF hb λq q' l' hq=>two _ (λm' p=>.pure (.bool _)) hp hq
   all_goals exact .dm
  |_=>cases op<;>first|exact .dm|exact heq rfl|exact hne rfl
 |_=>
  cases op
  case eql=>exact heq rfl
  case neq=>exact hne rfl
  all_goals(cases O<;>exact .dm)
end
variable {a:Addr}
section
variable {P:P?} {m:Ren}
def yn{RB}(B:AR m a a')(O:¬m.loose a.block){f:Unit->Sem γ}{f':Unit->Sem δ}(h:dz P RB m (f ()) (f' ())):dz P RB m (cm a >>= f) (cm a' >>= f'):=by
 refine kW B.blk λx=>?_
 cases x with
 |none=>exact h|some y=>exact dz.freeze (.mk B.blk) O h
def wG(s:ByteArray):eP m (s.data.map λb=>Value.int .u8 b.toNat) (s.data.map λb=>Value.int .u8 b.toNat):=by refine .refl λv B=>?_;simp only[a4,ft]at B;obtain⟨i,_,rfl⟩:=B;exact .int ..
def yA{e s}:dz P VR m (gs e s) (gs e s):=by refine ki λcap=>?_;refine dJ (RA:=Jc) (qQ ((wG s).append (.replicate _ (.int ..)))) λm' a a' _ B=>?_;exact yn B.1 B.2 (.pure (.slice _ _ B.1))
def F6{c c':List v?}(h:dY (VR m) c c'):∀(s:ByteArray),dz P yw m
  (forIn c s λc s=>match c with|n? .u8 n=>pure (ForInStep.yield (s.push (UInt8.ofNat n.toNat)))|_=>(do stuck "bytesToString: byte expected";pure (ForInStep.yield s)))
  (forIn c' s λc s=>match c with|n? .u8 n=>pure (ForInStep.yield (s.push (UInt8.ofNat n.toNat)))|_=>(do stuck "bytesToString: byte expected";pure (ForInStep.yield s))):=by
 induction h with
 |nil=>intro s;exact .pure rfl|cons B _ O=>
  intro s;simp only[fi]
  cases B with
  |int k n=>cases k<;>first|exact .dm|exact O _
  |_=>exact .dm
def yr(O:VR m x x'):dz P VR m (gn x) (gn x'):=by
 cases O<;>first|exact .dm|exact .pure (.string _)|skip
 rename_i l c U;refine dJ (xy U l) λm' c c' _ W=>?_;rw[<-a6,<-a6];exact dJ (F6 W _) λm' a b _ B=>by cases B;exact .pure (.string _)
def Ev{RB}(U:AR m a a'){f:Array v?->Sem γ}{f':Array v?->Sem δ}(h:∀c c',eP m c c'->dz P RB m (f c) (f' c')):dz P RB m (bU a n >>= f) (bU a' n >>= f'):=by
 have key:∀(n i:Nat)(acc B:Array v?),eP m acc B->dz P RB m (bP a i n acc >>= f) (bP a' i n B >>= f'):=by
  intro n;induction n with
  |zero=>intro i acc B O;exact h _ _ O|succ n W=>intro i acc B O;exact dz.load (U.add i) λv v' Y=>W _ _ _ (O.push Y)
 exact key n 0 _ _ (.nil m)
def gJ{RB size}(B:VR m x x')(O:∀a,x=.slice (y? a) 0 0->n=0){f:Array v?->Sem γ}{f':Array v?->Sem δ}(h:∀c c',eP m c c'->(n=0->c=#[]/\c'=#[])->dz P RB m (f c) (f' c')):dz P RB m (cS size n x >>= f) (cS size n x' >>= f'):=by
 obtain rfl|W:=Nat.eq_zero_or_pos n
 cases B<;>first|exact .dm|(simp only[cS,ej];exact h _ _ (.nil m) λ_=>⟨q?,q?⟩)|exact h _ _ (wG _) λ_=>(by simp[ByteArray.extract,ByteArray.copySlice])
 have h:=λc c' U=>h c c' U λe=>absurd e o!;cases B<;>first|exact .dm|exact Ev ‹_› h|exact h _ _ (wG _)|exact h _ _ (.nil m)|exact absurd (O _ q?) o!
def sP{RB}(B:VR m x x'){f:Nat->Sem γ}{f':Nat->Sem δ}(h:∀n,(∀a,x=.slice (y? a) 0 0->n=0)->dz P RB m (f n) (f' n)):dz P RB m (dg x >>= f) (dg x' >>= f'):=by cases B<;>first|exact .dm|exact h _ λ_ e=>(by cases e<;>rfl)
def sL{z}(h:eP m z z)(n):eP m (cQ z n) (cQ z n):=yV h _
def tZ{α size sLen base}{f:Bool->Sem α}(h:∀b,eN P (f b)):eN P (dd size sLen n base x >>= f):=by
 have hold:∀(a:Addr)(k:Nat)(g:Bool->Sem α),(∀b,eN P (g b))->eN P (dc a k >>= g):=by
  intro a k g B;intro r
  cases r with
  |none=>exact B _|some y=>exact B _
 have tail:∀b:Bool,eN P ((match x with|.slice (y? b) .. =>(do pure (!(<-dc b (n*size)) || base.any (·.block==b.block)))|_=>pure f?) >>= f):=by
  intro _
  cases x with
  |slice a l c=>
   cases a with
   |none=>exact h _|some a=>simp only[bind_assoc];exact hold a _ _ λb=>h _
  |_=>exact h _
 unfold dd
 cases base with
 |none=>exact tail t?|some a=>simp only[bind_assoc];refine hold a _ _ λb=>?_;intro r;show eN P ((if(!(b && !r))=t? then pure t? else _) >>= f);split;exact h _;exact tail t?
def Tv(B:nC P){RB:Ren->γ->δ->Prop}{elem size}{f:Array v?->Sem γ}{f':Array v?->Sem δ}(h:∀c c',eP m c c'->(n=0->c=#[]/\c'=#[])->dz P RB m (f c) (f' c')) :
  dz P RB m ((if n*size=0 then pure #[]else do pure (cQ (<-bD elem).cells n)) >>= f) ((if n*size=0 then pure #[]else do pure (cQ (<-bD elem).cells n)) >>= f'):=by
 split;exact h _ _ (.nil m) λ_=>⟨q?,q?⟩;simp only[bind_assoc];exact gK B λz O=>h _ _ (sL O.cells _) λe=>absurd (show n*size=0 by rw[e,ej]) ‹_›
def Ob(hP:nC P){ats t args args'}(h:eP m args args'):dz P VR m (cT ats t args) (cT ats t args'):=by
 unfold cT
 cases ats[0]? with
 |none=>exact .dm|some st=>
 cases h0:args[0]? with
 |none=>exact .dm|some s=>
 cases h1:args[1]? with
 |none=>exact .dm|some x=>
 obtain⟨s',ae,hs⟩:=h.get h0;obtain⟨x',af,hx⟩:=h.get h1;rw[ae,af];refine dF λd hd=>?_;cases d<;>first|exact .dm|skip
 rename_i elem
 have ab:∀{base U:Option Addr}{B O size n:Nat}{c c':Array v?},VR m (.slice base B O) (.slice U B O)->B+n<=O->(n=0->c=#[]/\c'=#[])->eP m c c'->dz P VR m
   (match base with|some a=>(do let r <-bQ (a.add (B*size)) c.toList;pure (Value.slice base (B+n) O))|_=>pure (Value.slice base (B+n) O))
   (match U with|some a=>(do let r <-bQ (a.add (B*size)) c'.toList;pure (Value.slice U (B+n) O))|_=>pure (Value.slice U (B+n) O)):=by
  intro base U B O size n c c' hb Y h0 hc
  cases hb with
  |gq=>exact .pure (.gq _ _)|zero a hd=>obtain rfl:n=0:=o!;obtain⟨rfl,rfl⟩:=h0 rfl;exact .pure (.zero a hd)
  |slice _ _ ha=>exact dJ (mg (ha.add _) 0 hc) λm' _ _ hl _=>.pure (.slice _ _ (ha.mono hl))
 have W:∀{old ac new ad:Array v?}{k cap q:Nat},eP m old ac->eP m new ad->dz P VR m
   (do let z <-bD elem;let a <-bN elem (old++new++cQ z.cells q);pure (Value.slice (y? a) k cap))
   (do let z <-bD elem;let a <-bN elem (ac++ad++cQ z.cells q);pure (Value.slice (y? a) k cap)):=by
  intro old ac new ad k cap q ho hn;exact gK hP λz hz=>dJ (RA:=Jc) (qQ ((ho.append hn).append (sL hz.cells _))) λm' a a' _ ha=>.pure (.slice _ _ ha.1)
 have aa:=hs;cases hs<;>first|exact .dm|skip
 all_goals
  refine eW λsize=>?_;dsimp only
  cases ats[1]? with
  |none=>refine sP hx λn hn=>?_;refine dR (λY=>?_) (λ_=>?_);exact gJ hx hn λc c' hc h0=>ab (size:=size) aa Y h0 hc;refine eZ λti _=>dR (λ_=>eX (e:=.error _) t!) (λ_=>?_);refine eZ λti _=>dR (λ_=>?_) (λ_=>?_);exact .uH (eN.bind (tZ λb=>by cases b<;>trivial));refine ki λq=>eZ λti _=>qT ?_;exact gJ aa (λ_ e=>by cases e<;>rfl) λo o' ho _=>gJ hx hn λc c' hc _=>W ho hc
  |some xt=>
   refine dF λd2 _=>?_
   cases d2 with
   |int kk=>refine l9 hx λnn=>?_;refine dR (λ_=>eX (e:=.error _) t!) (λ_=>?_);refine eZ λti _=>dR (λ_=>ki λ_=>eX (e:=.error _) t!) (λ_=>?_);refine dR (λY=>?_) (λ_=>?_);exact Tv hP λc c' hc h0=>ab (size:=size) aa Y h0 hc;refine eZ λti _=>dR (λ_=>eX (e:=.error _) t!) (λ_=>?_);refine eZ λti _=>dR (λ_=>?_) (λ_=>?_);exact eX (e:=.error _) trivial;refine ki λq=>eZ λti _=>qT ?_;exact gJ aa (λ_ e=>by cases e<;>rfl) λo o' ho _=>Tv hP λc c' hc _=>W ho hc
   |_=>refine sP hx λn hn=>?_;refine dR (λY=>?_) (λ_=>?_);exact gJ hx hn λc c' hc h0=>ab (size:=size) aa Y h0 hc;refine eZ λti _=>dR (λ_=>eX (e:=.error _) t!) (λ_=>?_);refine eZ λti _=>dR (λ_=>?_) (λ_=>?_);exact .uH (eN.bind (tZ λb=>by cases b<;>trivial));refine ki λq=>eZ λti _=>qT ?_;exact gJ aa (λ_ e=>by cases e<;>rfl) λo o' ho _=>gJ hx hn λc c' hc _=>W ho hc
end
variable {ats:Array bF} {args args':Array v?}
section
variable {P:P?} {m:Ren}
def TV(h:eP m args args'):dz P VR m (cV ats t args) (cV ats t args'):=by
 unfold cV
 cases ats[0]? with
 |none=>exact .dm|some st=>
 cases U:args[0]? with
 |none=>exact .dm|some s=>
 cases h1:args[1]? with
 |none=>exact .dm|some x=>
 obtain⟨s',W,hs⟩:=h.get U;obtain⟨x',Y,B⟩:=h.get h1;rw[W,Y];refine dF λd hd=>?_;cases d<;>first|exact .dm|skip
 cases hs<;>first|exact .dm|skip
 exact sP B λn O=>eW λsz=>gJ B (λa e=>by rw[O a e];simp) λc c' hc _=>.pure (.int _ _)
 exact sP B λn O=>eW λsz=>gJ B (λa e=>by rw[O a e];simp) λc c' hc U=>by obtain⟨rfl,rfl⟩:=U i!;exact .pure (.int _ _)
 rename_i ha;exact sP B λn O=>eW λsz=>gJ B (λa e=>by rw[O a e];simp) λc c' hc _=>dJ (mg ha 0 hc) λm' _ _ _ _=>.pure (.int _ _)
def sX(P:P?)(t:bF):Bool:=match P.underlying t with|some (.chan ..)=>f?|_=>t?
def Vx(B:∀t,ats[0]?=y? t->sX P t=t?)(h:eP m args args'):dz P VR m (cZ ats t args) (cZ ats t args'):=by
 unfold cZ
 cases U:ats[0]? with
 |none=>exact .dm|some st=>
 cases W:args[0]? with
 |none=>exact .dm|some s=>
 obtain⟨s',O,Y⟩:=h.get W;rw[O];have B:=B st U;refine dF λd hd=>?_;cases d<;>first|exact .dm|exact .pure (.int ..)|skip
 refine dF λd2 _=>?_;cases d2<;>first|exact .dm|exact .pure (.int ..)
 cases Y<;>first|exact .dm|exact .pure (.int ..)
 simp[sX,hd]at B
def UP(B:∀t,ats[0]?=y? t->sX P t=t?)(h:eP m args args'):dz P VR m (cY ats t args) (cY ats t args'):=by
 unfold cY
 cases ht:ats[0]? with
 |none=>exact .dm|some st=>
 cases h0:args[0]? with
 |none=>exact .dm|some s=>
 obtain⟨s',O,U⟩:=h.get h0;rw[O];have B:=B st ht;refine dF λd hd=>?_
 cases d with
 |array n e=>exact .pure (.int ..)|pointer e=>refine dF λd2 _=>?_;cases d2<;>first|exact .dm|exact .pure (.int ..)
 |string=>cases U<;>first|exact .dm|exact .pure (.int ..)
 |slice e=>cases U<;>first|exact .dm|exact .pure (.int ..)
 |map k e=>
  cases U<;>first|exact .dm|exact .pure (.int ..)|skip
  case gone=>exact .gone ‹_›
  rename_i hb;refine gO hb λo o' ho=>?_;cases ho<;>first|exact .dm|skip
  rename_i W;have Y:=W.length;simp only[a5]at Y;dsimp only;rw[Y];exact .pure (.int ..)
 |chan a b=>simp[sX,hd]at B|_=>exact .dm
def R2(U:nC P)(h:eP m args args'):dz P VR m (cU ats t args) (cU ats t args'):=by
 have fin:∀m',dz P VR m' (pure (.tuple #[])) (pure (.tuple #[])):=λm'=>.pure (.undef m');unfold cU
 cases ht:ats[0]? with
 |none=>exact .dm|some st=>
 cases W:args[0]? with
 |none=>exact .dm|some s=>
 obtain⟨s',B,Y⟩:=h.get W;rw[B];refine dF λd O=>?_
 cases Y with
 |nH=>exact fin m|gq l c=>exact fin m|zero a _=>exact fin m|map hb=>refine gO hb λo o' ho=>?_;cases ho<;>first|exact .dm|exact li hb (.map _ .nil) oy (fin m)
 |gone O=>exact .gone O|slice l c ha=>
  cases l with
  |zero=>exact fin m|succ l=>
   cases d<;>first|exact .dm|skip
   exact gK U λz hz=>dJ (mg ha 0 (sL hz.cells _)) λm' _ _ _ _=>fin m'
 |_=>exact .dm
def Uc(O:VR m x x')(B:VR m y y'):dz P VR m (di x y) (di x' y'):=by
 cases O with
 |int k n=>cases B<;>first|exact .dm|exact .pure (.int ..)
 |string s=>
  cases B with
  |string t=>exact .pure (.string _)|_=>exact .dm
 |ptr U=>exact .dm|_=>cases B<;>exact .dm
def TA(O:VR m x x')(B:VR m y y'):dz P VR m (dh x y) (dh x' y'):=by
 cases O with
 |int k n=>cases B<;>first|exact .dm|exact .pure (.int ..)
 |string s=>
  cases B with
  |string t=>exact .pure (.string _)|_=>exact .dm
 |ptr U=>exact .dm|_=>cases B<;>exact .dm
def Aa{g:v?->v?->Sem v?}(U:∀m x x' y y',VR m x x'->VR m y y'->dz P VR m (g x y) (g x' y')):∀{l l' m x x'},dY (VR m) l l'->VR m x x'->dz P VR m (l.foldlM g x) (l'.foldlM g x')
 |_,_,m,_,_,.nil,B=>.pure B|_,_,m,_,_,.cons W h,B=>by exact dJ (U m _ _ _ _ B W) λm' a b Y O=>Aa U (h.mono λ_ _ z=>z.mono Y) O
def Vi(h:eP m args args'):dz P VR m (cX ats t args) (cX ats t args'):=by
 unfold cX;unfold eP at h;revert h;generalize args.toList=l;generalize args'.toList=l';intro h
 cases h with
 |nil=>exact .dm|cons B h=>exact Aa (λm x x' y y'=>Uc) h B
def Vd(h:eP m args args'):dz P VR m (cW ats t args) (cW ats t args'):=by
 unfold cW;unfold eP at h;revert h;generalize args.toList=l;generalize args'.toList=l';intro h
 cases h with
 |nil=>exact .dm|cons B h=>exact Aa (λm x x' y y'=>TA) h B
def xx:∀(n){a a'}(acc),AR m a a'->dz P yw m (bT a acc n) (bT a' acc n)
 |0,_,_,_,_=>.pure rfl|n+1,a,a',acc,B=>by
  unfold bT;refine CZ B λv v' O=>?_
  cases O with
  |int k x=>cases k<;>first|exact .dm|exact xx n _ (B.add 1)
  |_=>exact .dm
def Bn{γ δ RB a a'}(B:AR m a a'){u n}{f:Bool->Sem γ}{f':Bool->Sem δ}(h:∀b,dz P RB m (f b) (f' b)):dz P RB m (cw a u n >>= f) (cw a' u n >>= f'):=by refine iL (kW B.blk λx=>?_);rw[B.off];cases x<;>exact h _
def A0(Y:iw m)(hx:VR m x x')(U:VR m y y'):dz P VR m (db ats t #[x,y]) (db ats t #[x',y']):=by
 cases hx<;>first|exact .dm|skip
 refine l9 U λn=>?_
 cases ats[0]? with
 |none=>exact .dm|some pt=>refine dR (λ_=>eX (e:=.error _) t!) (λ_=>dR (λ_=>.dm) (λ_=>dR (λ_=>.pure (.string _)) (λ_=>fX (e:=.error _) t!)))
 rename_i B;refine l9 U λn=>?_
 cases ats[0]? with
 |none=>exact .dm|some pt=>refine dR (λ_=>eX (e:=.error _) t!) (λ_=>dR (λ_=>.dm) (λ_=>dR (λ_=>.pure (.string _)) (λ_=>?_)));refine G6 λet=>Bn B λb=>dR (λ_=>?_) (λ_=>.dm);refine dJ (xx _ _ B) λm' s s' W O=>?_;cases O;exact dz.freeze (B.mono W) (Y.mono W _) (.pure (.string _))
def Du(P:P?)(s d:bF):Bool:=match P.underlying s,P.underlying d with
 |some (.int _),y? (.int _)=>t?|some .string,y? (.slice e)=>(match P.underlying e with|some (.int .u8)=>t?|_=>f?)
 |some (.slice e),y? .string=>(match P.underlying e with|some (.int .u8)=>t?|_=>f?)
 |_,_=>f?
def M4{s d}(ho:Du P s d=t?)(O:VR m x x'):dz P VR m (convert s d x) (convert s d x'):=by
 unfold Du at ho;unfold convert;refine dF λd1 Y=>dF λd2 h2=>?_;rw[Y,h2]at ho;cases d1<;>cases d2<;>first|(simp at ho;done)|skip
 cases O<;>first|exact .dm|exact .pure (.int _ _)
 .rename_i e;cases O<;>first|exact .dm|skip
  refine dF λd3 B=>?_;simp only[B]at ho;cases d3<;>first|exact .dm|skip
  rename_i k;cases k<;>first|exact .dm|exact yA|(simp at ho;done)
 rename_i e
 have W:P.underlying e=y? (.int .u8):=by
  simp only at ho;revert ho
  cases P.underlying e with
  |none=>intro ho;cases ho
  |some d3=>
   cases d3<;>intro ho<;>first|(cases ho;done)|skip
   rename_i k;cases k<;>first|(cases ho;done)|rfl
 have fin:∀{y y':v?},VR m y y'->dz P VR m (bH e >>= λd=>match d with|.int .u8=>gn y|.int .i32=>gt y|_=>stuck "Convert: a slice of what to string?") (bH e >>= λd=>match d with|.int .u8=>gn y'|.int .i32=>gt y'|_=>stuck "Convert: a slice of what to string?"):=by intro y y' hy;refine dF λd3 B=>?_;rw[W]at B;cases B;exact yr hy
 cases O with
 |int k n=>exact .pure (.string _)|string s=>exact .pure (.string _)|gN v hv=>refine .uH ?_;show eN P ((match P.underlying e with|some d=>pure d|none=>stuck _) >>= _);rw[W];trivial
 |gq l c=>exact fin (.gq l c)|zero a hd=>exact fin (.zero a hd)|slice l c U=>exact fin (.slice l c U)|bool b=>exact fin (.bool b)|iE=>exact fin .iE|ptr U=>exact fin (.ptr U)|nH=>exact fin .nH|map hb=>exact fin (.map hb)|gone hb=>exact fin (.gone hb)|jS=>exact fin .jS|chan hb=>exact fin (.chan hb)|func a b c d e=>exact fin (.func a b c d e)|rY a b c=>exact fin (.rY a b c)|nilFunc=>exact fin .nilFunc|iface t h=>exact fin (.iface t h)|nilIface=>exact fin .nilIface|agg a b=>exact fin (.agg a b)|tuple a b=>exact fin (.tuple a b)
end
end
section
variable {args args':Array v?} {m':Ren} {α:Type}
structure CH(m:Ren)(c c':CommCase):Prop where
 chan:VR m c.chan c'.chan
 send:mW (VR m) c.send c'.send
 zero:VR m c.zero c'.zero
def KJ(c:Array CommCase)(b:Bool)(s:CommShape):Prop:=b=t?/\s=.send/\∃ch v z,c=#[{chan:=ch,send:=y? v,zero:=z}]
inductive iI(P:P?)(m:Ren):Go.Next->Go.Next->Prop
 |value {v v'}:VR m v v'->iI P m (.value v) (.value v')|skip:iI P m .skip .skip|enter {f a a'}:m.gE f->(∃fn c,P.funcs[f]?=some fn/\fn.body=some c)->eP m a a'->iI P m (.enter f a) (.enter f a')|round {l l' f t t' a b}:m.blk l=some l'->eP m t t'->gG m.ok a->gG m.ok b->iI P m (.round l f t a b) (.round l' f t' a b)|defer {d d'}:DR m d d'->iI P m (.defer d) (.defer d')|recover:iI P m .recover .recover|spawn {d d'}:m.jf->DR m d d'->iI P m (.spawn d) (.spawn d')|comm {c c'} (b s):m.jf\/KJ c b s->dY (CH m) c.toList c'.toList->iI P m (.comm c b s) (.comm c' b s)
section
variable {P:P?} {m:Ren}
def IJ(O:iw m){ps rs}(h:eP m args args'):dz P VR m (gv ps rs args) (gv ps rs args'):=by
 obtain⟨l⟩:=args;obtain⟨l'⟩:=args';unfold eP at h;simp only at h
 cases h with
 |nil=>exact .dm|cons U h=>
 cases h with
 |nil=>cases U<;>exact .dm
 |cons W h=>
 cases h with
 |cons hz h=>cases U<;>first|exact .dm|(cases W<;>exact .dm)
 |nil=>
 cases U<;>first|exact .dm|(cases W<;>first|exact .dm|skip)
 all_goals
  unfold gv;dsimp only;cases ps[0]?<;>first|exact .dm|skip
  refine dF λd hd=>?_;cases d<;>first|exact .dm|skip
  refine eW λsz=>?_
  first|exact .pure (.bool _)|(dsimp only;rw[if_pos i!,if_pos i!];exact .pure (.bool _))|skip
 rename_i a a' la ca B b b' lb cb hb st e;have Y:(a.block==b.block)=(a'.block==b'.block):=by rw[dl];simp only[beq_iff_eq];exact B.tu hb
 have e0:(a.block != b.block)=(a'.block != b'.block):=by simp only[bne,Y]
 dsimp only;rw[Y,e0,B.off,hb.off];refine dR (λ_=>.pure (.bool _)) (λ_=>?_);refine oB B (O _) λx=>oB hb (O _) λy=>dR (λ_=>.dm) (λ_=>dR (λ_=>?_) (λ_=>.pure (.bool _)));exact s9 B (s9 hb (Ax O B hb λx=>dR (λ_=>ki λn=>.pure (.bool _)) (λ_=>.pure (.bool _))))
def uV:∀(n){a a'}(acc),AR m a a'->dz P yw m (gx a n acc) (gx a' n acc)
 |0,_,_,_,_=>.pure rfl|n+1,a,a',acc,B=>by
  unfold gx;refine CZ B λv v' O=>?_
  cases O with
  |int k x=>cases k<;>first|exact .dm|exact uV n _ (B.add 1)
  |_=>exact .dm
def BO{x x'}(B:VR m x x'):dz P yw m (gy x) (gy x'):=by cases B<;>first|exact .dm|exact .pure rfl|exact uV _ _ ‹_›
def My(h:eP m args args'):dz P VR m (Extern.BytealgCompare.compare args) (Extern.BytealgCompare.compare args'):=by
 obtain⟨l⟩:=args;obtain⟨l'⟩:=args'
 cases h with
 |nil=>exact .dm|cons U h=>
 cases h with
 |nil=>exact .dm|cons W h=>
 cases h with
 |cons hz h=>exact .dm|nil=>
 refine dJ (BO U) λm' a b O B=>?_;cases B;refine dJ (BO (W.mono O)) λY a b O B=>?_;cases B;exact .pure (.int ..)
def oL(P:P?)(m:Ren)(f:ce):Prop:=
 ∃fn,P.funcs[f]?=y? fn/\fn.name≠ "runtime.NumGoroutine"/\
  ((∃c,fn.body=y? c/\gG m.ok c)\/(fn.body=x?/\Extern.findNext fn=x?/\∃e,Extern.find fn=y? e/\∀m' args args',m.Le m'->eP m' args args'->dz P VR m' (e args) (e args')))
def oL.mono(h:m.Le m'){f}(x:oL P m f):oL P m' f:=by
 obtain⟨fn,W,Y,h3⟩:=x;refine⟨fn,W,Y,?_⟩;obtain⟨c,B,O⟩|⟨B,O,e,h6,h7⟩:=h3
 exact .inl ⟨c,B,h.ok▸O⟩;exact .inr ⟨B,O,e,h6,λU a a' hl=>h7 U a a' (h.trans hl)⟩
def Je{f}(W:m.gE f)(Y:oL P m f)(h:eP m args args'):dz P (iI P) m (callFunc f args) (callFunc f args'):=by
 obtain⟨fn,O,h2,h3⟩:=Y;refine iL ?_;rw[O];dsimp only;have e2:(fn.name == "runtime.NumGoroutine")=f?:=by simpa using h2
 rw[e2];obtain⟨c,B,U⟩|⟨B,U,e,h6,h7⟩:=h3
 rw[B];exact .pure (.enter W ⟨fn,c,O,B⟩ h);rw[B,U,h6];refine dz.mark trivial ?_;show dz P _ m (e args >>= λv=>pure _) (e args' >>= λv=>pure _);exact dJ (h7 m args args' (.refl m) h) λm' v v' _ hv=>dz.pure (iI.value hv)
structure vj(P:P?)(m:Ren):Prop where
 prog:nC P
 G:m.G=P.globals.size
 calls:∀f,m.gE f->oL P m f
 TM:P.follows .rangeFuncRecover=true
def vj.mono(h:m.Le m')(x:vj P m):vj P m':=⟨x.prog,h.G.trans x.G,λf B=>(x.calls f (h.gE▸B)).mono h,x.TM⟩
def Sl{l l'}(O:m.blk l=y? l')(h:eP m args args'):dz P (iI P) m (bg l args) (bg l' args'):=by
 unfold bg be;simp only[bind_assoc];refine gO O λo o' W=>?_;cases W<;>first|exact .dm|skip
 rename_i p p' B;have e:∀(q:Loop)(k:Loop->Sem Go.Next),(pure q >>= k)=k q:=λq k=>rfl;simp only[e];rw[<-B.params,<-h.size,<-B.fn,<-B.assign,<-B.body];refine dR (λ_=>.dm) (λ_=>.pure (.round O ?_ B.UE B.yz))
 have key:∀(ps:List Tmp){l l':List v?}{t t':Array v?},dY (VR m) l l'->eP m t t'->eP m ((ps.zip l).foldl (λtmps x=>tmps.setIfInBounds x.1 x.2) t) ((ps.zip l').foldl (λtmps x=>tmps.setIfInBounds x.1 x.2) t'):=by
  intro ps;induction ps with
  |nil=>simpa using U|cons p ps Y=>
   intro l l' t t' O U
   cases O with
   |nil=>simpa using U|cons hv O=>simpa using Y O (U.set p hv)
 have:=key p.params.toList h B.tmps;rw[<-a7,<-a7,aK,aK];exact this
def Qu(U:nC P)(t)(x)(k:ce×v?->Sem α):eN P (program >>= λp=>cv (p.types.size+Made.depth) t x "" >>= k):=by
 unfold cv cf
 cases B:P.info? t with
 |none=>show eN P ((((match P.info? t with|some i=>pure i|none=>stuck _) >>= _) >>= _));rw[B];trivial
 |some i=>have W:=U.W6 t i B;show eN P ((((match P.info? t with|some i=>pure i|none=>stuck _) >>= _) >>= _));rw[B];have Y:∀{β:Type}(O:TypeInfo->Sem β),((match y? i with|some i=>pure i|none=>stuck "no such type") >>= O)=O i:=λ_=>rfl;rw[Y];simp only[W];trivial
def Rr(U:nC P)(t)(x)(k:Option Bool->Sem α):eN P (program >>= λp=>cl (p.types.size+Made.depth) t x "" >>= k):=by
 unfold cl cf
 cases B:P.info? t with
 |none=>show eN P ((((match P.info? t with|some i=>pure i|none=>stuck _) >>= _) >>= _));rw[B];trivial
 |some i=>have W:=U.W6 t i B;show eN P ((((match P.info? t with|some i=>pure i|none=>stuck _) >>= _) >>= _));rw[B];have Y:∀{β:Type}(O:TypeInfo->Sem β),((match y? i with|some i=>pure i|none=>stuck "no such type") >>= O)=O i:=λ_=>rfl;rw[Y];simp only[W];trivial
def s8(U:vj P m){t t'}(W:TR m t t')(Y:∀b x y z,t≠.builtin b x y z)(h:eP m args args'):dz P (iI P) m (invoke t args) (invoke t' args'):=by
 cases W with
 |nil=>exact fX (e:=.nilDeref) trivial|collected _=>exact .dm|mark _ _ _ _=>exact .dm|builtin x y z hm=>exact absurd q? (Y _ x y z)|fn B=>
  obtain⟨B,hc⟩|⟨rfl,n,rfl⟩:=B
  cases B with
  |func f B=>exact Je B (U.calls f B) (h.append hc)|yield hl=>exact Sl hl h
  unfold invoke
  cases ha:args[0]? with
  |none=>exact .dm|some x=>
   obtain⟨x',O,hx⟩:=h.get ha;rw[O]
   cases hx with
   |nilIface=>exact fX (e:=.nilDeref) trivial|iface t hv=>exact .uH (Qu U.prog t ..)|_=>exact .dm
def e9(gE:ce->Prop)(gl:Nat->Prop):Operand->Prop
 |.tmp _=>True|.const v=>Plain v|.global g=>gl g|.func f=>gE f
def xf(P:P?)(st:Bool)(ats:Array bF)(n:Nat):Builtin->Prop
 |.append|.clear|.copy|.max|.min|.recover=>True|.cap|.len=>∀t,ats[0]?=y? t->sX P t=t?|.unsafeString=>st=t?/\n=2|.close=>True|_=>False
def PU(P:P?)(st:Bool)(t:bF):Prop:=∀k e,P.underlying t=y? (.map k e)->rU P 10000 k=t?/\(st=t?\/pD P c6 k=t?)
def isNil:Operand->Bool
 |.const (p? x?)|.const .nilIface=>t?|_=>f?
def V0(P:P?)(st:Bool)(t:bF)(y:Operand):Prop:=st=t?\/pD P c6 t=t?\/(isNil y=t?/\∀d,P.underlying t=y? d->(∃e,d=.pointer e)\/(∃e,d=.interface e))
def OkOp(P:P?)(gE:ce->Prop)(gl:Nat->Prop)(st:Bool)(op:Op):Prop:=
 (∀x∈op.operands.toList,e9 gE gl x)/\match op with
 |.move _|.assign _|.pick ..|.alloc _|.box ..|.build ..|.buildSlice ..|.load ..|.store ..|.nilCheck _|.unOp ..|.makeInterface ..|.makeMap ..|.makeSlice ..|.slice ..|.fieldAddr ..|.field ..|.indexAddr ..|.index ..|.entryStore ..|.range ..|.next ..|.entry _|.extract ..|.panic _|.send .. => True|.select .. => False|.makeChan .. => False|.binOp o t _ y _=>o=.eql\/o=.neq->V0 P st t y|.convert s d _=>Du P s d=t?|.makeFunc (.func f) _ _=>gE f|.lookup t ..|.mapUpdate t ..|.mapEntry t .. => PU P st t|.typeAssert _ _ _ ok=>ok=t?|.call c=>match c.callee with
  |.value _=>True|.builtin b=>xf P st c.argTypes c.args.size b/\b≠.close|.invoke .. => False
 |.go c=>False/\match c.callee with
  |.value _=>True|_=>False
 |.defer c=>match c.callee with
  |.value _=>True|.builtin b=>b=.close/\False|_=>False
 |_=>False
end
variable {gE:ce->Prop} {gl:Nat->Prop} {ρ ρ':Operand->v?} {t:bF} {x x' y:v?}
section
variable {P:P?} {m:Ren}
def pF:∀(d)(m)(t){x x' y y'},VR m x x'->VR m y y'->dz P yw m (c8 d t x y) (c8 d t x' y')
 |0,m,t,_,_,_,_,_,_=>.dm
 |d+1,m,t,x,x',y,y',W,Y=>by
  unfold c8
  refine dF λde hd=>?_
  cases de with
  |interface ms=>
   cases W with
   |nilIface=>cases Y with
    |gN v B=>cases y'<;>first|exact .pure rfl|exact B.elim
    |_=>exact .pure rfl
   |gN v B=>cases x'<;>first|exact .pure rfl|exact B.elim
   |_=>exact .pure rfl
  |struct fs=>
   cases W with
   |agg h1 h2=>
    cases Y with
    |agg h3 h4=>
     refine dJ (RA:=yw) (pZ _ _ λm' f s hf U=>dR (λ_=>?_) (λ_=>.pure q?)) λm' a b _ O=>?_
     .refine dJ (nP ((eP.iP h1 h2).mono U) _) λm1 u u' l1 hu=>dJ (nP ((eP.iP h3 h4).mono (U.trans l1)) _) λm2 v v' l2 B=>?_
      refine dJ (pF d m2 _ (hu.mono l2) B) λm3 a b _ O=>?_
      cases O
      exact dR (λ_=>.pure q?) (λ_=>.pure q?)
     .cases O
      obtain⟨o,_⟩:=a
      cases o<;>exact .pure rfl
    |gN v B=>cases y'<;>first|exact .pure rfl|exact B.elim
    |_=>exact .pure rfl
   |gN v B=>cases x'<;>first|exact .pure rfl|exact B.elim
   |_=>exact .pure rfl
  |array n e=>
   cases W with
   |agg h1 h2=>
    cases Y with
    |agg h3 h4=>
     refine eW λsz=>?_;refine dJ (RA:=yw) (pW _ _ λm' i s U=>?_) λm' a b _ O=>?_;refine dJ (nP ((eP.iP h1 h2).mono U) _) λm1 u u' l1 hu=>dJ (nP ((eP.iP h3 h4).mono (U.trans l1)) _) λm2 v v' l2 B=>?_;refine dJ (pF d m2 _ (hu.mono l2) B) λm3 a b _ O=>?_;cases O;exact dR (λ_=>.pure q?) (λ_=>.pure q?)
     cases O;obtain⟨o,_⟩:=a;cases o<;>exact .pure rfl
    |gN v B=>cases y'<;>first|exact .pure rfl|exact B.elim
    |_=>exact .pure rfl
   |gN v B=>cases x'<;>first|exact .pure rfl|exact B.elim
   |_=>exact .pure rfl
  |_=>exact .pure rfl
def N5(op)(t)(p q){y'}(W:VR m x x')(U:VR m y y'):dz P Bj m (eqGuard op t p q x y) (eqGuard op t p q x' y'):=by
 refine dR (λ_=>.pure t!) (λ_=>?_)
 cases W with
 |nilIface=>
  cases U with
  |nilIface=>refine dR (λ_=>.pure t!) (λ_=>?_);refine dJ (pF _ m t .nilIface .nilIface) λm' a b _ B=>?_;cases B;exact dR (λ_=>.dm) (λ_=>.pure t!)
  |gN v O=>cases y'<;>first|exact .pure trivial|exact O.elim
  |_=>exact .pure trivial
 |agg Y h2=>
  cases U with
  |agg h3 h4=>refine iL (iL (dR (λ_=>.pure t!) (λ_=>?_)));refine dJ (pF _ m t (.agg Y h2) (.agg h3 h4)) λm' a b _ B=>?_;cases B;exact dR (λ_=>.dm) (λ_=>.pure t!)
  |gN v O=>cases y'<;>first|exact .pure trivial|exact O.elim
  |_=>exact .pure trivial
 |gN v O=>cases x'<;>first|exact .pure trivial|exact O.elim
 |_=>exact .pure trivial
def FC(B:∀d,P.underlying t=y? d->(∃e,d=.pointer e)\/(∃e,d=.interface e))(O:VR m x x')(U:y=.pointer x?\/y=.nilIface):dz P yw m (c5 t x y) (c5 t x' y):=by refine dF λd h=>?_;obtain⟨e,rfl⟩|⟨e,rfl⟩:=B d h<;>obtain rfl|rfl:=U<;>cases O<;>first|exact .dm|exact .pure rfl
def F8(op)(Y:op=.eql\/op=.neq)(hd:∀d,P.underlying t=y? d->(∃e,d=.pointer e)\/(∃e,d=.interface e))(hx:VR m x x')(O:y=.pointer x?\/y=.nilIface):dz P VR m (binOp op t x y) (binOp op t x' y):=by
 have h:=FC hd hx O
 have U:∀z,binOp .eql t z y=(do pure (.bool (<-c5 t z y))):=by intro z;obtain rfl|rfl:=O<;>cases z<;>rfl
 have W:∀z,binOp .neq t z y=(do pure (.bool (!(<-c5 t z y)))):=by intro z;obtain rfl|rfl:=O<;>cases z<;>rfl
 obtain rfl|rfl:=Y
 rw[U,U];exact dJ h λm' a b _ B=>by cases B;exact .pure (.bool _)
 rw[W,W];exact dJ h λm' a b _ B=>by cases B;exact .pure (.bool _)
def lC(B:∀x,e9 gE gl x->VR m (ρ x) (ρ' x)){a:Array Operand}(h:∀x∈a.toList,e9 gE gl x):eP m (a.map ρ) (a.map ρ'):=by
 unfold eP;simp only[a4];generalize a.toList=l at h;induction l with
 |nil=>exact .nil|cons x l O=>exact .cons (B x (h x i!)) (O λy U=>h y (by simp[U]))
def Ac(B:∀x,e9 gE gl x->VR m (ρ x) (ρ' x)){o}(h:∀x,o=y? x->e9 gE gl x):mW (VR m) (o.map ρ) (o.map ρ'):=by
 cases o with
 |none=>exact .none|some x=>exact .some (B x (h x q?))
def Gr(B:∀x,e9 gE gl x->VR m (ρ x) (ρ' x)){a:Array (Nat×Operand)}(h:∀x∈a.toList.map (·.2),e9 gE gl x) :
  dY (Ku m) (a.map λ(i,x)=>(i,ρ x)).toList (a.map λ(i,x)=>(i,ρ' x)).toList:=by
 simp only[a4];generalize a.toList=l at h;induction l with
 |nil=>exact .nil|cons x l O=>exact .cons ⟨q?,B _ (h _ i!)⟩ (O λy U=>h y (by simp only[List.map_cons,fm];exact .inr U))
def Ir(hP:nC P)(hx:VR m x x'){a}(e:ρ a=x)(e':ρ' a=x'){d p af g} :
  dz P (iI P) m (bZ ρ ⟨d,.nilCheck a,t,p,af,g⟩) (bZ ρ' ⟨d,.nilCheck a,t,p,af,g⟩):=by
 unfold bZ;dsimp only;rw[e,e']
 cases hx with
 |iE=>exact fX (e:=.nilDeref) trivial|nilIface=>exact fX (e:=.nilDeref) trivial|nilFunc=>exact fX (e:=.nilDeref) trivial|@rY lf n f c U W Y=>
  dsimp only;have hA:eP m lf f:=eP.iP U W
  cases O:lf[0]? with
  |none=>rw[hA.get_none O];exact .pure (.value (.rY U W Y))
  |some y=>
   obtain⟨y',aa,hy⟩:=hA.get O;rw[aa]
   have ab:∀t u,y'=.iface t u->∃z,y=.iface t z:=λt u e=>by obtain⟨z,hz⟩:=Y t u (by rw[aa,e]);rw[O]at hz;exact⟨z,fB hz⟩
   cases hy with
   |nilIface=>exact fX (e:=.nilDeref) trivial|iface t B=>exact .uH (Rr hP t _ _)|gN v B=>
    have:∀t u,y'≠.iface t u:=λt u e=>by obtain⟨z,hz⟩:=ab t u e;cases hz
    cases y'<;>first|exact B.elim|exact absurd q? (this _ _)|exact .pure (.value (.rY U W Y))
   |_=>exact .pure (.value (.rY U W Y))
 |func hf U W Y h4=>cases hf<;>exact .pure (.value (.func (by first|exact .func _ ‹_›|exact .yield ‹_›) U W Y h4))
 |gN v B=>cases x'<;>first|exact .pure (.value (.gN _ B))|exact B.elim|(rename_i q;cases q<;>first|exact .pure (.value (.gN _ B))|exact B.elim)|(rename_i q _ _;cases q<;>first|exact .pure (.value (.gN _ B))|exact B.elim|exact .dm)
 |bool b=>exact .pure (.value (.bool b))|int k n=>exact .pure (.value (.int k n))|string s=>exact .pure (.value (.string s))|ptr O=>exact .pure (.value (.ptr O))|gq l c=>exact .pure (.value (.gq l c))|zero a hd=>exact .pure (.value (.zero a hd))|slice l c O=>exact .pure (.value (.slice l c O))|nH=>exact .pure (.value .nH)|map h=>exact .pure (.value (.map h))|gone h=>exact .pure (.value (.gone h))|jS=>exact .pure (.value .jS)|chan h=>exact .pure (.value (.chan h))|iface t h=>exact .pure (.value (.iface t h))|agg a b=>exact .pure (.value (.agg a b))|tuple a b=>exact .pure (.value (.tuple a b))
def qG{f f'}(hf:VR m f f'){a a'}(B:eP m a a'):dz P (λm d d'=>DR m d d'/\∀b x y z,d.target≠.builtin b x y z) m (Deferred.ofValue f a) (Deferred.ofValue f' a'):=by
 cases hf<;>first|exact .dm|skip
 rename_i O U Y W h4;exact .pure ⟨⟨.fn (.inl ⟨O,.iP W h4⟩),(eP.iP U Y).append B⟩,nofun⟩;exact .pure ⟨⟨.nil,B⟩,nofun⟩;rename_i W U Y;exact .pure ⟨⟨.fn (.inr ⟨q?,_,q?⟩),(eP.iP W U).append B⟩,nofun⟩
def uP{α β:Type}{Q}(hm:∀m m' a b,m.Le m'->Q m a b->Q m' a b){g g':α->Sem β}:∀(l:List α)(m),(∀x∈l,∀m',m.Le m'->dz P Q m' (g x) (g' x))->dz P (λm=>dY (Q m)) m (l.mapM g) (l.mapM g')
 |[],m,_=>.pure .nil|x::l,m,O=>by simp only[fk];exact dJ (O x i! m (.refl m)) λm' a b B h=>dJ (uP hm l m' λy U m1 W=>O y (by simp[U]) m1 (B.trans W)) λY c d B hc=>.pure (.cons (hm _ _ _ _ B h) hc)
def CH.mono{m m'}(h:m.Le m'){a b}(x:CH m a b):CH m' a b:=⟨x.chan.mono h,x.send.mono λ_ _ y=>y.mono h,x.zero.mono h⟩
end
section
variable {P:P?} {m:Ren}
def tP{s s':Sem v?}(h:dz P VR m s s'):lZ P (iI P) m (do pure (.value (<-s))) (do pure (.value (<-s'))):=.base (dJ h λ_ _ _ _ B=>.pure (.value B))
def Wf{s s':Sem Unit}(h:dz P Bj m s s'):lZ P (iI P) m (do s;pure .skip) (do s';pure .skip):=.base (dJ h λ_ _ _ _ _=>.pure .skip)
def Lx(W:vj P m){st}(O:st=t?->iw m){b ats t cs args args'}(h:eP m args args')(B:xf P st ats args.size b)(hc:b≠.close):lZ P (iI P) m (builtin b ats t cs args) (builtin b ats t cs args'):=by
 cases b<;>simp only[xf]at B<;>first|exact B.elim|exact absurd q? hc|skip
 exact tP (Ob W.prog h);exact tP (Vx B h);exact tP (R2 W.prog h);exact tP (TV h);exact tP (UP B h);exact tP (Vi h);exact tP (Vd h);exact .base (.pure .recover);obtain⟨h1,Y⟩:=B;have U:args'.size=2:=by rw[<-h.size];exact Y
 obtain⟨x,y,rfl⟩:∃x y,args=#[x,y]:=by
  obtain⟨l⟩:=args;match l,Y with
  |[x,y],_=>exact⟨x,y,q?⟩
 obtain⟨x',y',rfl⟩:∃x y,args'=#[x,y]:=by
  obtain⟨l⟩:=args';match l,U with
  |[x,y],_=>exact⟨x,y,q?⟩
 cases h with
 |cons hx h=>cases h with
  |cons hy h=>exact tP (A0 (O h1) hx hy)
def Fj(hE:vj P m){st}(ac:st=t?->iw m)(ab:False->m.jf){gl}{ρ ρ':Operand->v?}(W:∀x,e9 m.gE gl x->VR m (ρ x) (ρ' x))(ad:∀c,ρ (.const c)=c/\ρ' (.const c)=c)(o)(ho:OkOp P m.gE gl st o.op):lZ P (iI P) m (bZ ρ o) (bZ ρ' o):=by
 obtain⟨ah,op,ag,pos,after,guard⟩:=o;obtain⟨O,U⟩:=ho;have B:∀x,x∈op.operands.toList->VR m (ρ x) (ρ' x):=λx Y=>W x (O x Y);have aa:∀t,PU P st t->∀k e,P.underlying t=y? (.map k e)->rU P 10000 k=t?/\(iw m\/pD P c6 k=t?):=λt h k e hd=>⟨(h k e hd).1,(h k e hd).2.imp ac id⟩
 cases op with
 |move x=>exact .base (.pure (.value (B x (by simp[c4]))))|assign x=>exact .base (.pure (.value (B x (by simp[c4]))))|pick c a b=>refine .base (NH (B c (by simp[c4])) λt=>.pure (.value ?_));cases t;exact B b (by simp[c4]);exact B a (by simp[c4])
 |alloc e=>exact tP (Sv hE.prog)|box e x=>exact tP (Vn (B x (by simp[c4])))|build t ps=>exact tP (Sb hE.prog (Gr W (by simpa[c4]using O)))|buildSlice t n ps=>exact tP (Es hE.prog (Gr W (by simpa[c4]using O)))|load t x=>exact tP (Q0 (B x (by simp[c4])))|store t x y=>exact Wf (Ng (B x (by simp[c4])) (B y (by simp[c4])))|nilCheck x=>exact .base (Ir hE.prog (B x (by simp[c4])) q? q?)|binOp o t x y yt=>
  refine tP (dJ (N5 o t x y (B x (by simp[c4])) (B y (by simp[c4]))) λm' _ _ hl _=>?_);have Y:=(B x (by simp[c4])).mono hl;have hy:=(B y (by simp[c4])).mono hl;by_cases hq:o=.eql\/o=.neq
  .obtain h|h|⟨h,hd⟩:=U hq
   exact Dq o (hl.G.trans hE.G) (λ_=>.inl ((ac h).mono hl)) Y hy;exact Dq o (hl.G.trans hE.G) (λ_=>.inr h) Y hy
   cases y with
   |const c=>
    obtain⟨e1,e2⟩:=ad c;rw[e1,e2]
    have hc:c=p? x?\/c=.nilIface:=by
     cases c<;>first|cases h;done|exact .inr rfl|skip
     rename_i p;cases p;exact .inl rfl
     cases h
    exact F8 o hq hd Y hc
   |_=>cases h
  exact Dq o (hl.G.trans hE.G) (λh=>absurd h hq) Y hy
 |unOp o t x=>exact tP (Rp o (B x (by simp[c4])))|convert s d x=>exact tP (M4 U (B x (by simp[c4])))|makeInterface t x=>exact tP (yk (B x (by simp[c4])))|makeFunc f a b=>
  cases f<;>simp only at U<;>first|exact U.elim|skip
  exact tP (JN U (lC W λx Y=>O x (by simp[c4];exact .inl (u! Y))) (lC W λx Y=>O x (by simp[c4];exact .inr (u! Y))))
 |makeMap t r=>exact tP (Ma (Ac W λx Y=>O x (by simp[c4,Y])))|makeChan t s=>exact tP (Js (ab U) (B s (by simp[c4])))|makeSlice t l c=>exact tP (GY hE.prog (B l (by simp[c4])) (B c (by simp[c4])))|slice t x l h mx=>exact tP (Lq (B x (by simp[c4])) (Ac W λy hy=>O y (by simp[c4,hy])) (Ac W λy hy=>O y (by simp[c4,hy])) (Ac W λy hy=>O y (by simp[c4,hy])))|fieldAddr t x f=>exact tP (LY (B x (by simp[c4])) f)|field t x f=>exact tP (Sx (B x (by simp[c4])) f)|indexAddr t x i=>exact tP (Mg (B x (by simp[c4])) (B i (by simp[c4])))|index t x i=>exact tP (RF (B x (by simp[c4])) (B i (by simp[c4])))|lookup t x i b=>exact tP (Ov hE.prog hE.G (aa t U) (B x (by simp[c4])) (B i (by simp[c4])) b)|mapUpdate t a b c=>exact(FD hE.G (aa t U) (B a (by simp[c4])) (B b (by simp[c4])) (B c (by simp[c4]))).map λ_ _ _ _ _=>.skip|mapEntry t a b=>exact(I4 hE.prog hE.G (aa t U) (B a (by simp[c4])) (B b (by simp[c4]))).map λ_ _ _ _ h=>.value h|entryStore t a b c=>exact Wf (DC (B a (by simp[c4])) (B b (by simp[c4])) (B c (by simp[c4])))|range t x=>exact tP (Ra (B x (by simp[c4])))|next x b=>exact tP (T' (B x (by simp[c4])) b _)|entry x=>exact tP (S4 (B x (by simp[c4])))|typeAssert x a b c=>simp only at U;subst U;exact tP (DH hE.prog (B x (by simp[c4])) _ _)
 |extract x i=>exact tP (Nj (B x (by simp[c4])) i)|panic x=>exact tP (Rj (B x (by simp[c4])))|send c x=>exact .base (.pure (.comm _ _ (.inr ⟨q?,q?,_,_,_,q?⟩) (.cons ⟨B c (by simp[c4]),.some (B x (by simp[c4])),.undef m⟩ .nil)))|select cs b=>refine .base ?_;show dz P (iI P) m (cs.mapM (λs=>do pure {chan:=ρ s.chan,send:=s.send.map ρ,zero:=<-bD s.elem:CommCase}) >>= λc=>pure (.comm c b .select)) (cs.mapM (λs=>do pure {chan:=ρ' s.chan,send:=s.send.map ρ',zero:=<-bD s.elem:CommCase}) >>= λc=>pure (.comm c b .select));rw[a0,a0];simp only[map_eq_pure_bind,bind_assoc,pure_bind];refine dJ (uP (Q:=CH) (λ_ _ _ _ h x=>x.mono h) cs.toList m λs hs m' hl=>?_) λm' a b' ae af=>.pure (.comm _ _ (.inl (by rw[ae.jf];exact ab U)) af);refine gK hE.prog λz hz=>.pure ⟨(B s.chan ?_).mono hl,(Ac W λy hy=>O y ?_).mono λ_ _ x=>x.mono hl,hz⟩;simp only[c4,aD,aJ];exact⟨s,u! hs,i!⟩;simp only[c4,aD,aJ];exact⟨s,u! hs,by simp[hy]⟩
 |call c=>
  obtain⟨callee,args,ats⟩:=c
  cases callee with
  |invoke r n=>exact U.elim|builtin b=>have ha:eP m (args.map ρ) (args.map ρ'):=lC W λx Y=>O x (by simp[c4,ge];simpa using Y);exact Lx hE ac ha (u! U.1) U.2
  |value f=>have ha:eP m (args.map ρ) (args.map ρ'):=lC W λx Y=>O x (by simp[c4,ge];exact .inr (u! Y));refine .base (dJ (qG (B f (by simp[c4,ge])) ha) λm' d d' hl hd=>?_);exact s8 (hE.mono hl) hd.1.target hd.2 hd.1.args
 |go c=>
  obtain⟨callee,args,ats⟩:=c
  cases callee with
  |invoke r n=>exact U.2.elim|builtin b=>exact U.2.elim|value f=>have ha:eP m (args.map ρ) (args.map ρ'):=lC W λx Y=>O x (by simp[c4,ge];exact .inr (u! Y));exact .base (dJ (qG (B f (by simp[c4,ge])) ha) λm' d d' hl hd=>.pure (.spawn (by rw[hl.jf];exact ab U.1) hd.1))
 |defer c=>
  obtain⟨callee,args,ats⟩:=c
  cases callee with
  |invoke r n=>exact U.elim|builtin b=>have ha:eP m (args.map ρ) (args.map ρ'):=lC W λx Y=>O x (by simp[c4,ge];simpa using Y);obtain⟨U,hs⟩:=U;subst U;exact .base (.pure (.defer ⟨.builtin _ _ _ (ab hs),ha⟩))
  |value f=>have ha:eP m _ _:=lC W λx Y=>O x (by simp[c4,ge];exact .inr (u! Y));exact .base (dJ (qG (B f (by simp[c4,ge])) ha) λm' d d' hl hd=>.pure (.defer hd.1))
 |_=>exact U.elim
end
end
section
open Go.Conc
def BZ(y:Code):Code:=.cond (.global 0) y .skip
inductive kU(m:Ren):Item->Item->Prop
 |FP (y):kU m (.code (BZ y)) (.code y)|ni (y):kU m (.inLoop (BZ y)) (.inLoop y)|code (c):gG m.ok c->kU m (.code c) (.code c)|inBlock (i):kU m (.inBlock i) (.inBlock i)|inLoop (c):gG m.ok c->kU m (.inLoop c) (.inLoop c)|inScope (c):gG m.ok c->kU m (.inScope c) (.inScope c)|inRegion (ops t):(∀o∈ops.toList,m.ok o)->kU m (.inRegion ops t) (.inRegion ops t)|inRangeFunc {l l'}:m.blk l=some l'->kU m (.inRangeFunc l) (.inRangeFunc l')|endRangeFunc {l l'}:m.blk l=some l'->kU m (.endRangeFunc l) (.endRangeFunc l')|beginRound:kU m .beginRound .beginRound
structure Ta(m:Ren)(p p':PanicEntry):Prop where
 v:VR m p.v p'.v
 rv:p'.recovered=p.recovered
 ex:p'.goexit=p.goexit
inductive ud(m:Ren):FrameMode->FrameMode->Prop
 |run:ud m .run .run|returning:ud m .returning .returning|panicking {c c'}:dY (Ta m) c c'->ud m (.panicking c) (.panicking c')
structure gT(m:Ren)(fr fr':Frame):Prop where
 fn:fr'.fn=fr.fn
 tmps:eP m fr.tmps fr'.tmps
 todo:dY (kU m) fr.todo fr'.todo
 defers:dY (DR m) fr.defers fr'.defers
 mode:ud m fr.mode fr'.mode
 round:mW (λr r'=>m.blk r=some r') fr.roundOf fr'.roundOf
section
variable {m m':Ren}
def kU.mono(h:m.Le m'){a b}(x:kU m a b):kU m' a b:=by
 cases x with
 |FP y=>exact .FP y|ni y=>exact .ni y|code c B=>exact .code c (h.ok▸B)|inBlock i=>exact .inBlock i|inLoop c B=>exact .inLoop c (h.ok▸B)|inScope c B=>exact .inScope c (h.ok▸B)|inRegion o t U=>exact .inRegion o t (h.ok▸U)|inRangeFunc O=>exact .inRangeFunc (h.blk _ _ O)|endRangeFunc O=>exact .endRangeFunc (h.blk _ _ O)|beginRound=>exact .beginRound
def Ta.mono(h:m.Le m'){a b}(x:Ta m a b):Ta m' a b:=⟨x.v.mono h,x.rv,x.ex⟩
def ud.mono(h:m.Le m'){a b}(x:ud m a b):ud m' a b:=by
 cases x with
 |run=>exact .run|returning=>exact .returning|panicking B=>exact .panicking (B.mono λ_ _ y=>y.mono h)
def gT.mono(h:m.Le m'){a b}(x:gT m a b):gT m' a b:=
 ⟨x.fn,x.tmps.mono h,x.todo.mono λ_ _ y=>y.mono h,x.defers.mono λ_ _ y=>y.mono h,x.mode.mono h,x.round.mono λ_ _ y=>h.blk _ _ y⟩
def gT.eval{fr fr'}(h:gT m fr fr'){gl:Nat->Prop}(B:∀g,gl g->m.blk g=y? g)(x)(O:e9 m.gE gl x):VR m (fr.eval x) (fr'.eval x):=by
 cases x with
 |tmp t=>exact h.tmps.getD t|const v=>exact VR.plain O|global g=>exact .ptr (.mk (B g O))|func f=>exact .K6 (.func f O) (.nil m) (.nil m)
def gT.finish{fr fr'}(h:gT m fr fr'){v v'}(hv:VR m v v'):gT m (fr.finish v) (fr'.finish v')/\(fr.finish v).kind=fr.kind/\(fr'.finish v').kind=fr'.kind:=by
 obtain⟨fn,tmps,todo,defers,mode,ag,round⟩:=fr;obtain⟨ah,aa,ad,ab,ae,af,ac⟩:=fr';obtain⟨O,B,h3,U,W,Y⟩:=h
 cases h3 with
 |nil=>exact⟨⟨O,B,.nil,U,W,Y⟩,q?,q?⟩|cons hi ht=>
  cases hi with
  |inRegion ops t ho=>
   cases t with
   |nil=>exact⟨⟨O,B,.cons (.inRegion _ _ ho) ht,U,W,Y⟩,q?,q?⟩|cons i t=>
    refine⟨⟨O,?_,.cons (.inRegion _ _ ho) ht,U,W,Y⟩,q?,q?⟩;show eP m (match (ops[i]?).bind _ with|some d=>tmps.setIfInBounds d v|none=>tmps) (match (ops[i]?).bind _ with|some d=>aa.setIfInBounds d v'|none=>aa)
    cases(ops[i]?).bind _ with
    |none=>exact B|some d=>exact B.set d hv
  |inRangeFunc hl=>exact⟨⟨O,B,.cons (.endRangeFunc hl) ht,U,W,Y⟩,q?,q?⟩|beginRound=>exact⟨⟨O,B,ht,U,W,Y⟩,q?,q?⟩|FP y=>exact⟨⟨O,B,.cons (.FP y) ht,U,W,Y⟩,q?,q?⟩|ni y=>exact⟨⟨O,B,.cons (.ni y) ht,U,W,Y⟩,q?,q?⟩|code c hc=>exact⟨⟨O,B,.cons (.code c hc) ht,U,W,Y⟩,q?,q?⟩|inBlock i=>exact⟨⟨O,B,.cons (.inBlock i) ht,U,W,Y⟩,q?,q?⟩|inLoop c hc=>exact⟨⟨O,B,.cons (.inLoop c hc) ht,U,W,Y⟩,q?,q?⟩|inScope c hc=>exact⟨⟨O,B,.cons (.inScope c hc) ht,U,W,Y⟩,q?,q?⟩|endRangeFunc hl=>exact⟨⟨O,B,.cons (.endRangeFunc hl) ht,U,W,Y⟩,q?,q?⟩
def gT.raise{fr fr'}(h:gT m fr fr'){vs vs'}(U:dY (Ta m) vs vs'):gT m (fr.raise vs) (fr'.raise vs')/\(fr.raise vs).kind=fr.kind/\(fr'.raise vs').kind=fr'.kind:=by
 obtain⟨fn,tmps,todo,defers,mode,ac,round⟩:=fr;obtain⟨ad,W,Y,B,aa,ab,O⟩:=fr';obtain⟨h1,h2,h3,h4,h5,h6⟩:=h
 cases h5 with
 |run=>exact⟨⟨h1,h2,h3,h4,.panicking U,h6⟩,q?,q?⟩|returning=>exact⟨⟨h1,h2,h3,h4,.panicking U,h6⟩,q?,q?⟩|panicking hc=>exact⟨⟨h1,h2,h3,h4,.panicking (U.append hc),h6⟩,q?,q?⟩
def D5{P f}(Y:oL P m f)(hb:∃fn c,P.funcs[f]?=y? fn/\fn.body=y? c){a a'}(h:eP m a a')(k k'):gT m (ez P f a k) (ez P f a' k'):=by
 obtain⟨fn,c,U,W⟩:=hb;obtain⟨aa,B,_,h3⟩:=Y;rw[U]at B;cases B
 have hc:gG m.ok c:=by
  obtain⟨c',O,h5⟩|⟨O,_⟩:=h3
  rw[W]at O;cases O;exact h5;rw[W]at O;cases O
 refine⟨q?,?_,?_,.nil,.run,.none⟩;simp only[ez,U,gc,ga,h.size];exact h.append (.replicate _ (.undef m));simp only[ez,U,gd,W,ga];exact .cons (.code c hc) .nil
end
def Jf(k:CallKind):Prop:=k=.normal\/k=.deferred
def door(P:P?):Frame:={fn:=P.funcs.size,tmps:=#[],todo:=[.call {target:=.nil,args:=#[]} f? "fmt's door" #[]],defers:=[],mode:=.run,kind:=.normal}
def Em(k:CallKind)(T:List Frame):Prop:=(k=.normal/\∀ps,T=[ps]->ps.mode≠.panicking [cg])\/(k=.deferred/\∃ps,T=[ps]/\ps.mode=.panicking [cg])
inductive ed(P:P?)(m:Ren)(T:List Frame):List Frame->List Frame->Prop
 |one {fr fr'}:gT m fr fr'->fr.kind=.normal->Em fr'.kind T->fr.roundOf=none->ed P m T (fr::[door P]) (fr'::T)|cons {fr fr' c c' cs cs'}:gT m fr fr'->fr'.kind=fr.kind->Jf fr.kind->ed P m T (c::cs) (c'::cs')->ed P m T (fr::c::cs) (fr'::c'::cs')
section
variable {P:P?} {m m':Ren} {T:List Frame}
def ed.mono(h:m.Le m'){l l'}(x:ed P m T l l'):ed P m' T l l':=by
 induction x with
 |one B O U W=>exact .one (B.mono h) O U W|cons B O U _ Y=>exact .cons (B.mono h) O U Y
def ed.rM{fr fr' cs cs'}(x:ed P m T (fr::cs) (fr'::cs')):gT m fr fr':=by cases x<;>assumption
def ed.set(h:m.Le m'){fr fr' g g' cs cs'}(x:ed P m T (fr::cs) (fr'::cs'))(W:gT m' g g')(k:g.kind=fr.kind)(k':g'.kind=fr'.kind)(Y:g.roundOf=fr.roundOf)(_hn:g.fn=fr.fn):ed P m' T (g::cs) (g'::cs'):=by
 cases x with
 |one hf B O U=>exact .one W (k.trans B) (k'▸O) (Y.trans U)|cons hf B O U=>exact .cons W (by rw[k,k',B]) (k▸O) (U.mono h)
def ed.push{fr fr' g g' cs cs'}(x:ed P m T (fr::cs) (fr'::cs'))(B:gT m g g')(k:g'.kind=g.kind)(O:Jf g.kind):ed P m T (g::fr::cs) (g'::fr'::cs'):=.cons B k O x
end
variable {fr fr':Frame} {cs cs':List Frame}
def oT(P:P?)(m:Ren)(T:List Frame)(s':GStep)(w':w?)(fr:Frame)(cs:List Frame)(w₁:w?):Prop:=
 ∃dA fr' cs' B es,s'=.go (G fr' cs') B es/\m.Le dA/\ed P dA T (fr::cs) (fr'::cs')/\WR dA w₁ B/\gw m dA w' B/\∀e∈es,qd dA e
section
variable {P:P?} {m:Ren} {T:List Frame}
def TE(h:gT m fr fr'):(match fr.todo with|.call _ t? _ _::_=>CallKind.wrapped|_=>.normal)=.normal/\(match fr'.todo with|.call _ t? _ _::_=>CallKind.wrapped|_=>.normal)=.normal:=by
 have:=h.todo;revert this;generalize fr.todo=l;generalize fr'.todo=l';intro h
 cases h with
 |nil=>exact⟨q?,q?⟩|cons B _=>cases B<;>exact⟨q?,q?⟩
def vX{P m T}(h:ed P m T (fr::cs) (fr'::cs')) :
  mW (λx y=>VR m x.1 y.1/\ed P m T (fr::x.2) (fr'::y.2)) (bB fr cs) (bB fr' cs'):=by
 have e1:∀(f:Frame)(c:List Frame),f.kind=.normal->bB f c=x?:=by intro f c hk;unfold bB;rw[hk]
 cases h with
 |one hf h1 B h3=>
  rw[e1 fr _ h1];obtain⟨B,_⟩|⟨B,ps,rfl,h4⟩:=B
  rw[e1 fr' _ B];exact .none
  have e2:bB fr' [ps]=x?:=by unfold bB;simp only[B];rw[h4];rfl
  rw[e2];exact .none
 |cons hf h1 B h3=>
  rename_i c c' cs cs';obtain B|B:=B
  rw[e1 fr _ B,e1 fr' _ (h1.trans B)];exact .none;have ac:=h1.trans B
  cases h3 with
  |one O g1 g2 g3=>
   have hm:=O.mode;obtain⟨ak,am,an,ao,ap,aq,ar⟩:=c;obtain⟨ad,ae,af,ag,ah,ai,aj⟩:=c';unfold bB;rw[B,ac]
   cases hm with
   |run=>exact .none|returning=>exact .none|panicking hc=>
    cases hc with
    |nil=>exact .none|cons hp ht=>
     rename_i p p' Y W;obtain⟨v,r,x⟩:=p;obtain⟨v',r',x'⟩:=p';obtain⟨U,aa,ab⟩:=hp;subst aa ab;cases r'<;>cases x'<;>first|exact .none|skip
     exact .some ⟨U,.cons hf h1 (.inr B) (.one ⟨O.fn,O.tmps,O.todo,O.defers,.panicking (.cons ⟨U,q?,q?⟩ ht),O.round⟩ g1 g2 g3)⟩
  |cons O g1 g2 g3=>
   have hm:=O.mode;obtain⟨ak,am,an,ao,ap,aq,ar⟩:=c;obtain⟨ad,ae,af,ag,ah,ai,aj⟩:=c';unfold bB;rw[B,ac]
   cases hm with
   |run=>exact .none|returning=>exact .none|panicking hc=>
    cases hc with
    |nil=>exact .none|cons hp ht=>
     rename_i p p' Y W;obtain⟨v,r,x⟩:=p;obtain⟨v',r',x'⟩:=p';obtain⟨U,aa,ab⟩:=hp;subst aa ab;cases r'<;>cases x'<;>first|exact .none|skip
     exact .some ⟨U,.cons hf h1 (.inr B) (.cons ⟨O.fn,O.tmps,O.todo,O.defers,.panicking (.cons ⟨U,q?,q?⟩ ht),O.round⟩ g1 g2 g3)⟩
def fS(fr:Frame)(v):(fr.finish v).roundOf=fr.roundOf:=by unfold eC;split<;>rfl
def pK(fr:Frame)(v):(fr.raise v).roundOf=fr.roundOf:=by unfold ey;split<;>rfl
def iK(fr:Frame)(v):(fr.finish v).fn=fr.fn:=by unfold eC;split<;>rfl
def vJ(fr:Frame)(v):(fr.raise v).fn=fr.fn:=by unfold ey;split<;>rfl
def vu{dA f c}[Decidable c]{es₁}(h:∀e∈es₁,qd dA e):∀e∈bE P f (if c then #[]else es₁)++#[],qd dA e:=by intro e B;have:=mem_seen B;split at this;simp at this;exact h e this
def Mq(hE:vj P m)(U:ed P m T (fr::cs) (fr'::cs')){s s'}(hs:lZ P (iI P) m s s'){w w'}(hw:WR m w w')(ae:Al w w'){fM fN w₁ es}
  (h:cI P t? fr cs x? s w=.go (G fM fN) w₁ es):oT P m T (cI P t? fr' cs' x? s' w') w' fM fN w₁:=by
 have hr:=hs.run w w' #[] hw ae;unfold cI at h⊢;simp only[if_true]at h⊢;rcases hrt:s.runT P w #[]with⟨r,ar⟩;have af:s.run P w=r:=by rw[<-cM P s w #[],hrt]
 rw[af]at hr;rw[hrt]at h;have au:=TE U.rM
 cases r with
 |ok n wn=>
  obtain⟨dA,n',aa,es₁,e1,W,e3,e4,_,e6,e7⟩:=hr;rw[e1];simp only[a8]at h⊢
  have out:∀{X:Array Event}{g g':Frame}{c c':List Frame},ed P dA T (g::c) (g'::c')->cK X (.go {frame:=g,callers:=c,status:=.running,dying:=x?} wn)=.go (G fM fN) w₁ es->
    oT P m T (cK (bE P fr'.fn (if(fr'.kind==CallKind.early)=t? then #[]else es₁)) (.go {frame:=g',callers:=c',status:=.running,dying:=x?} aa)) w' fM fN w₁:=by
   intro X g g' c c' ab hh;simp only[cK,G,g8,Goroutine.mk.injEq]at hh;obtain⟨⟨rfl,rfl,_⟩,rfl,_⟩:=hh;exact⟨dA,g',c',aa,_,q?,W,ab,e4,e6,vu e7⟩
  cases e3 with
  |value hv=>have O:=(U.rM.mono W).finish hv;exact out (U.set W O.1 O.2.1 O.2.2 (fS _ _) (iK _ _)) h
  |skip=>have O:=(U.rM.mono W).finish (.undef dA);exact out (U.set W O.1 O.2.1 O.2.2 (fS _ _) (iK _ _)) h
  |enter O ac ha=>
   have ab:=(U.mono W).push (D5 ((hE.mono W).calls _ O) ac ha .normal .normal) q? (.inl q?);have Y:=U.rM.todo;obtain⟨fn,tm,td,df,md,kd,rd⟩:=fr;obtain⟨ag,ah,ai,aj,ak,am,an⟩:=fr';simp only at Y
   cases Y with
   |nil=>exact out ab h|cons hi _=>cases hi<;>exact out ab h
  |round hl Y ha ac=>rename_i l l' f t t' a c;have ao:gT dA (ev l f t a c .normal) (ev l' f t' a c .normal):=⟨q?,Y,.cons (.code _ ha) (.cons .beginRound (.cons (.code _ ac) .nil)),.nil,.run,.some hl⟩;exact out ((U.mono W).push ao q? (.inl q?)) h
  |defer hd=>have ap:gT dA {fr with defers:=_::fr.defers} {fr' with defers:=_::fr'.defers}:=⟨U.rM.fn,U.rM.tmps.mono W,(U.rM.mono W).todo,.cons hd (U.rM.mono W).defers,(U.rM.mono W).mode,(U.rM.mono W).round⟩;have O:=ap.finish (.undef dA);exact out (U.set W O.1 O.2.1 O.2.2 (fS _ _) (iK _ _)) h
  |recover=>
   have aq:=U.mono W;have Y:=vX aq;have ad:=U.rM.round;obtain⟨fn,tm,td,df,md,kd,rd⟩:=fr;obtain⟨ag,ah,ai,aj,ak,am,an⟩:=fr';simp only at ad
   cases ad with
   |none=>
    dsimp only at h⊢;revert Y h;generalize bB _ _=p;generalize bB _ _=p';intro h Y
    cases Y with
    |none=>have O:=(U.rM.mono W).finish (.nilIface (m:=dA));exact out (U.set W O.1 O.2.1 O.2.2 (fS _ _) (iK _ _)) h
    |some hx=>rename_i x y;obtain⟨v,c⟩:=x;obtain⟨v',c'⟩:=y;have O:=(U.rM.mono W).finish hx.1;exact out (hx.2.set (.refl dA) O.1 O.2.1 O.2.2 (fS _ _) (iK _ _)) h
   |some av=>
    dsimp only at h⊢;rw[if_pos hE.TM]at h⊢;revert Y h;generalize bB _ _=p;generalize bB _ _=p';intro h Y
    cases Y with
    |none=>have O:=(U.rM.mono W).finish (.nilIface (m:=dA));exact out (U.set W O.1 O.2.1 O.2.2 (fS _ _) (iK _ _)) h
    |some hx=>rename_i x y;obtain⟨v,c⟩:=x;obtain⟨v',c'⟩:=y;have O:=(U.rM.mono W).finish hx.1;exact out (hx.2.set (.refl dA) O.1 O.2.1 O.2.2 (fS _ _) (iK _ _)) h
  |spawn aw hd=>
   exfalso;dsimp only at h;generalize bE P fr.fn _=X at h;rw[apply_ite (cK X)]at h
   have key:∀(c:Prop)[Decidable c] (A B C:GStep),(if c then A else B)=C->A=C\/B=C:=by intro c _ A B C hh;split at hh;exact .inl hh;exact .inr hh
   obtain h|h:=key _ _ _ _ h
   simp[bI,bV,cK,G]at h;simp[cK]at h
  |comm bl sh hq hc=>cases h
 |halt x wn=>
  cases x with
  |panic v=>obtain⟨dA,v',aa,es₁,e1,W,e3,e4,_,e6,e7⟩:=hr;rw[e1];simp only[a8]at h⊢;have O:=(U.rM.mono W).raise (vs:=[{v,recovered:=f?}]) (vs':=[{v:=v',recovered:=f?}]) (.cons ⟨e3,q?,q?⟩ .nil);obtain⟨⟨rfl,rfl,_⟩,rfl,_⟩:=h;exact⟨dA,_,cs',aa,_,q?,W,U.set W O.1 O.2.1 O.2.2 (pK ..) (vJ ..),e4,e6,vu e7⟩
  |unsupported u=>cases u<;>first|exact hr.elim|cases h
  |stuck y=>cases h
  |throw y=>simp[bI,bV,cK,G]at h|_=>exact hr.elim
end
variable {t t':Array v?} {l l':Nat}
section
variable {P:P?} {m:Ren} {T:List Frame}
def A2(id):∀{k k'},dY (kU m) k k'->mW (dY (kU m)) (bY id k) (bY id k')
 |_,_,.nil=>.none|_,_,.cons B h=>by
  cases B with
  |inBlock i=>unfold bY;split;exact .some h;exact A2 id h
  |_=>unfold bY;exact A2 id h
def rJ{ok}(l):∀(c c'),gG ok c->bS c l=y? c'->gG ok c'
 |.seq a b,c',h,e=>by
  unfold bS at e
  cases B:bS a l with
  |some r=>rw[B]at e;simp only[fv]at e;subst e;exact⟨rJ l a r h.1 B,h.2⟩
  |none=>rw[B]at e;exact rJ l b c' h.2 e
 |.label l',c',h,e=>by
  unfold bS at e;split at e
  cases e;trivial
  cases e
 |.skip,_,_,e|.region ..,_,_,e|.cond ..,_,_,e|.block ..,_,_,e|.loop ..,_,_,e|.rangeFunc ..,_,_,e|.exit ..,_,_,e|.scope ..,_,_,e|.goto ..,_,_,e|.ret,_,_,e|.refuse ..,_,_,e=>by cases e
def AX(l):∀{k k'},dY (kU m) k k'->mW (dY (kU m)) (bX l k) (bX l k')
 |_,_,.nil=>.none|_,_,.cons O h=>by
  cases O with
  |inScope c B=>
   unfold bX
   cases U:bS c l with
   |none=>exact AX l h|some r=>exact .some (.cons (.code r (rJ l c r B U)) (.cons (.inScope c B) h))
  |_=>unfold bX;exact AX l h
def mQ(ops)(h:eP m t t')(j):bO ops t' j=bO ops t j:=by
 unfold bO
 cases(ops[j]?).bind _ with
 |none=>rfl|some d=>
  simp only[gd]
  cases O:t[d]? with
  |none=>rw[h.get_none O]|some v=>
   obtain⟨v',B,U⟩:=h.get O;rw[B];cases U<;>first|rfl|skip
   rename_i W;cases v'<;>first|rfl|exact W.elim
def mX{fn}(h:eP m t t'):dz P VR m (cq fn t) (cq fn t'):=by
 unfold cq;rw[a0,a0];simp only[map_eq_pure_bind,bind_assoc,pure_bind];refine dJ (uP (Q:=VR) (λ_ _ _ _ h x=>x.mono h) _ m λr _ m' Y=>?_) λm' a c _ U=>?_
 cases r with
 |tmp t=>exact .pure ((h.mono Y).getD t)|cell a t=>exact CQ ((h.mono Y).getD a) λp p' hp=>CO hp
 refine .pure ?_;have B:eP m' .. := U;by_cases O:a.toArray.size=1;have W:c.toArray.size=1:=by rw[<-B.size];exact O
 rw[dif_pos O,dif_pos W];exact B.idx 0 ..;have W:¬c.toArray.size=1:=by rw[<-B.size];exact O
 rw[dif_neg O,dif_neg W];exact .mz B
def G5{o o':List PanicEntry}(h:dY (Ta m) o o'):dY (Ta m) (o.dropWhile (!·.goexit)) (o'.dropWhile (!·.goexit)):=by
 induction h with
 |nil=>exact .nil|cons B _ O=>simp only[List.dropWhile_cons,B.ex];split;exact O;exact .cons B ‹_›
def Jm{fr fr' c c' cs cs'}(hS:ed P m T (fr::c::cs) (fr'::c'::cs'))(hk:fr'.kind=fr.kind)(ho:Jf fr.kind)(U:ed P m T (c::cs) (c'::cs')){v v'}(hv:VR m v v'){main main' w w'}(hw:WR m w w'){fM fN w₁ es}
  (h:bC P main fr (c::cs) x? v w=.go (G fM fN) w₁ es):∃B,bC P main' fr' (c'::cs') x? v' w'=.go (G B cs') w'/\ed P m T (fM::fN) (B::cs')/\w₁=w:=by
 unfold bC at h⊢;rw[hk];obtain ho|ho:=ho
 rw[ho]at h⊢;obtain⟨⟨rfl,rfl,_⟩,rfl,_⟩:=h;have hf:=U.rM.finish hv;exact⟨_,q?,U.set (.refl m) hf.1 hf.2.1 hf.2.2 (fS ..) (iK ..),q?⟩;rw[ho]at h⊢;have hm:=U.rM.mode;obtain⟨ah,ai,aj,ak,ar,am,an⟩:=c;obtain⟨Y,aa,ab,ac,aq,ad,ae⟩:=c'
 have nF:∀{md O},ud m md O->ed P m T (⟨ah,ai,aj,ak,md,am,an⟩::cs) (⟨Y,aa,ab,ac,O,ad,ae⟩::cs'):=λaf=>U.set (.refl m) ⟨U.rM.fn,U.rM.tmps,U.rM.todo,U.rM.defers,af,U.rM.round⟩ q? q? q? rfl
 have fin:∀{md O},ud m md O->GStep.go (G ⟨ah,ai,aj,ak,md,am,an⟩ cs) w=.go (G fM fN) w₁ es->∃B,GStep.go (G ⟨Y,aa,ab,ac,O,ad,ae⟩ cs') w'=.go (G B cs') w'/\ed P m T (fM::fN) (B::cs')/\w₁=w:=by intro md O af hh;obtain⟨⟨rfl,rfl,_⟩,rfl,_⟩:=hh;exact⟨_,q?,nF af,q?⟩
 cases hm with
 |run=>exact fin .run h|returning=>exact fin .returning h|panicking ao=>
  cases ao with
  |nil=>exact fin (.panicking .nil) h|cons hp ht=>
   rename_i p p' ag W;obtain⟨pv,pr,px⟩:=p;obtain⟨au,ap,av⟩:=p';obtain⟨h1,h2,h3⟩:=hp;subst h2 h3
   cases ap with
   |false=>have hp:Ta m .. := ⟨h1,q?,q?⟩;exact fin (.panicking (.cons hp ht)) h
   |true=>
    have hd:=G5 ht;simp only at h⊢;revert hd h;generalize ag.dropWhile _=o;generalize W.dropWhile _=o';intro h hd
    cases hd with
    |nil=>exact fin .returning h|cons hq hr=>exact fin (.panicking (.cons hq hr)) h
def qC{γ δ RB}(O:m.blk l=y? l'){f:Loop->Sem γ}{f':Loop->Sem δ}(h:∀p B,xK m p B->dz P RB m (f p) (f' B)):dz P RB m (be l >>= f) (be l' >>= f'):=by refine gO O λo o' U=>?_;cases U<;>first|exact .dm|exact h _ _ ‹_›
def py{l}:∀x y z,Obj.loop l≠c? x y z:=nofun
def I9(O:m.blk l=y? l'){j}(U:∀c,j=y? c->gG m.ok c):dz P VR m (aQ l j) (aQ l' j):=by refine qC O λp W B=>li O (.loop ⟨q?,q?,U,B.fn,B.tmps,B.params,B.assign,B.body,B.UE,B.yz,B.defers⟩) py (.pure (.bool _))
def Dk(O:m.blk l=y? l'):dz P Bj m (aU l) (aU l'):=by refine qC O λp U B=>li O (.loop ⟨q?,B.pending,B.UK,B.fn,B.tmps,B.params,B.assign,B.body,B.UE,B.yz,B.defers⟩) py ?_;rw[<-B.state];cases p.state<;>first|exact .pure trivial|exact fX (e:=.error _) trivial
def Np(O:m.blk l=y? l'):dz P (λm a b=>a=b/\∀c,a=y? c->gG m.ok c) m (bz l) (bz l'):=by
 refine qC O λp U B=>?_
 have fin:dz P (λm a b=>a=b/\∀c,a=y? c->gG m.ok c) m (do setObj l (.loop {p with state:=.exhausted});pure _) (do setObj l' (.loop {U with state:=.exhausted});pure _):=
  li O (.loop ⟨q?,B.pending,B.UK,B.fn,B.tmps,B.params,B.assign,B.body,B.UE,B.yz,B.defers⟩) py (.pure ⟨B.pending,B.UK⟩)
 rw[<-B.state];exact dR (λ_=>eX (e:=.error _) t!) (λ_=>fin)
def AA(U:m.blk l=y? l'){d d'}(W:DR m d d'):dz P Bj m (aY l d) (aY l' d'):=by
 refine qC U λp p' O=>gO O.defers λo o' Y=>?_
 cases Y with
 |deferred B=>exact rL O.defers (.deferred (.cons W B)) (nofun)|fF=>exact .dm|_=>exact .dm
def zV(O:m.blk l=y? l'):dz P (λm=>dY (DR m)) m (aS l) (aS l'):=by
 refine gO O λo o' U=>?_
 cases U with
 |deferred B=>exact li O .fF (nofun) (.pure B)|_=>exact .dm
def Ha{fn}(W:eP m t t'){ps a c}(Y:gG m.ok a)(hc:gG m.ok c){r r'}(hr:mW (λx y=>m.blk x=y? y) r r'):dz P (λm x y=>m.blk x.1=y? y.1/\dY (DR m) x.2 y.2) m (bq fn t ps a c r) (bq fn t' ps a c r'):=by
 have fin:∀{m':Ren}{q O:Nat}{d d':List Deferred},m.Le m'->m'.blk q=y? O->dY (DR m') d d'->dz P (λm x y=>m.blk x.1=y? y.1/\dY (DR m) x.2 y.2) m' (do pure (<-cj (.loop {state:=.ready,pending:=x?,fn,tmps:=t,params:=ps,assign:=a,body:=c,defers:=q}),d)) (do pure (<-cj (.loop {state:=.ready,pending:=x?,fn,tmps:=t',params:=ps,assign:=a,body:=c,defers:=O}),d')):=by intro m' q O d d' B hq hd;exact dz.new (.loop ⟨q?,q?,(nofun),q?,W.mono B,q?,q?,q?,B.ok▸Y,B.ok▸hc,hq⟩) (nofun) λaa i i' U hb _=>.pure ⟨hb,hd.mono λ_ _ x=>x.mono U⟩
 cases hr with
 |some hx=>exact qC hx λp p' hp=>fin (.refl m) hp.defers .nil|none=>exact dz.new (.deferred .nil) (nofun) λm' i i' B hb _=>fin B hb (.cons ⟨.collected hb,.nil m'⟩ .nil)
end
variable {X es:Array Event} {fM:Frame} {fN:List Frame} {dA:Ren} {w w' w₁:w?}
structure mF(P:P?)(m:Ren)(gl:Nat->Prop)(st:Bool):Prop where
 env:vj P m
 strict:st=true->iw m
 jf:False->m.jf
 qa:∀g,gl g->m.blk g=some g
 ops:∀o,m.ok o->OkOp P m.gE gl st o.op
def mF.mono{P m m' gl st}(h:m.Le m')(x:mF P m gl st):mF P m' gl st:=
 ⟨x.env.mono h,λs=>(x.strict s).mono h,nofun,λg B=>h.blk _ _ (x.qa g B),λo O=>h.gE▸x.ops o (h.ok▸O)⟩
def AtClose(fr:Frame):Prop:=fr.mode≠.run/\∃a t c args ds,fr.defers={target:=.builtin .close a t c,args}::ds
section
variable {P:P?} {m:Ren} {T:List Frame} {gl:Nat->Prop} {st:Bool}
def wz{s g}(h:cK X s=.go g w es):∃B,s=.go g w B:=by cases s<;>simp[cK]at h;obtain⟨rfl,rfl,_⟩:=h;exact⟨_,q?⟩
def Si(hl:m.Le dA)(hS:ed P dA T (fr::cs) (fr'::cs'))(hn:cs=[door P]->fr.roundOf=x?->False){v v'}(hv:VR dA v v'){main' wn'}(hw:WR dA w wn')(hk:gw m dA w' wn'){X'}(U:∀e∈X',qd dA e)
  (h:cK X (bC P t? fr cs x? v w)=.go (G fM fN) w₁ es):oT P m T (cK X' (bC P main' fr' cs' x? v' wn')) w' fM fN w₁:=by
 obtain⟨aa,h⟩:=wz h
 cases hS with
 |one hf W Y O=>exact(hn q? O).elim|cons hf W Y O=>obtain⟨B,e1,e2,e3⟩:=Jm (.cons hf W Y O) W Y O hv (main:=t?) (main':=main') hw h;subst e3;rw[e1];exact⟨dA,B,_,wn',_,q?,hl,e2,hw,hk,u! U⟩
def o9{f es₁}(h:∀e∈es₁,qd dA e):∀e∈bE P f es₁,qd dA e:=λe B=>h e (mem_seen B)
def still{g g'}(B:WR m w w')(O:ed P m T (g::cs) (g'::cs'))
  (h:GStep.go {frame:=g,callers:=cs,status:=.running,dying:=x?} w=.go (G fM fN) w₁ es):oT P m T (GStep.go {frame:=g',callers:=cs',status:=.running,dying:=x?} w') w' fM fN w₁:=by
 obtain⟨⟨rfl,rfl,_⟩,rfl,_⟩:=h;exact⟨m,g',cs',w',#[],q?,.refl m,O,B,.refl m w',i!⟩
def JI(h:gT m fr fr'){k k'}(B:dY (kU m) k k'):gT m {fr with todo:=k} {fr' with todo:=k'}:=⟨h.fn,h.tmps,B,h.defers,h.mode,h.round⟩
def Ub(h:gT m fr fr'){k k'}(B:ud m k k'):gT m {fr with mode:=k} {fr' with mode:=k'}:=⟨h.fn,h.tmps,h.todo,h.defers,B,h.round⟩
def oT.after{s' Hr}(U:m.Le dA)(W:gw m dA w' Hr)(Y:∀e∈X,qd dA e)(h:oT P dA T s' Hr fM fN w₁):oT P m T (cK X s') w' fM fN w₁:=by
 obtain⟨m₂,f,c,B,es,rfl,O,h3,h4,h5,h6⟩:=h;refine⟨m₂,f,c,B,X++es,q?,U.trans O,h3,h4,W.trans U O h5,λe he=>?_⟩;obtain x|x:=a9.1 he
 exact(Y e x).mono O;exact h6 e x
def N7{ρ ρ':Operand->v?}(U:∀x,e9 m.gE gl x->VR m (ρ x) (ρ' x)){c:Call}(hc:(∀x∈c.operands.toList,e9 m.gE gl x)/\match c.callee with|.value _=>True|.builtin b=>b=.close/\m.jf|_=>False)(t):dz P DR m (bW ρ c t) (bW ρ' c t):=by
 obtain⟨B,O⟩:=hc;obtain⟨callee,args,ats⟩:=c
 cases callee with
 |invoke r n=>exact O.elim|builtin bb=>have W:=lC U λx Y=>B x (by simp[ge];simpa using Y);obtain⟨O,aa⟩:=O;subst O;exact .pure ⟨.builtin _ _ _ aa,W⟩
 |value f=>have W:=lC U λx Y=>B x (by simp[ge];exact .inr (u! Y));exact(qG (U f (B f (by simp[ge]))) W).mono λ_ _ _ _ h=>h.1
def N9{r}(B:m.dead r)(O:WR m w w'):∃x w₁,(aS r).run P w=.halt x w₁:=by obtain⟨_,c,f,U⟩:=O.dead r B;unfold aS;exact⟨_,_,by simp only[getObj,bind,Sem.bind,cL,U];rfl⟩
def oz(s):cK #[] s=s:=by cases s<;>simp[cK]
end
variable {P:P?} {m:Ren} {s:Sem Go.Next} {α β:Type}
def tp(w:w?)(τ:Nat->Question->Nat):w?:={w with tape:=τ}
def DS{α}:Result α->w?
 |.ok _ w=>w|.halt _ w=>w
def zH{α}(P:P?)(s:Sem α)(w:w?)(τ:Nat->Question->Nat):Result α->Prop
 |.ok a w₁=>s.run P (tp w τ)=.ok a (tp w₁ τ)|.halt (.panic v) w₁=>s.run P (tp w τ)=.halt (.panic v) (tp w₁ τ)|_=>True
def xo(τ:Nat->Question->Nat)(w w₁:w?):Prop:=∀i,w.drawn<=i->i<w₁.drawn->τ i=w.tape i
def Tx{α}(P:P?)(s:Sem α)(w:w?):Prop:=
 w.drawn<=(DS (s.run P w)).drawn/\(DS (s.run P w)).tape=w.tape/\∀τ,xo τ w (DS (s.run P w))->zH P s w τ (s.run P w)
def Loc{α}(P:P?)(s:Sem α)(w:w?):Prop:=(∃x w₁,s.run P w=.halt x w₁/\l7 x)\/Tx P s w
def Loc.step{s:Sem α}{k}(h:Loc P k w₁)(e:s.run P w=k.run P w₁)(hd:w₁.drawn=w.drawn)(ht:w₁.tape=w.tape)(O:∀τ,s.run P (tp w τ)=k.run P (tp w₁ τ)):Loc P s w:=by
 obtain⟨x,U,W,Y⟩|⟨W,Y,h3⟩:=h
 exact .inl ⟨x,U,e.trans W,Y⟩;refine .inr ⟨by rw[e,<-hd];exact W,by rw[e,Y,ht],λτ B=>?_⟩;rw[e]at B⊢;have:=h3 τ λi a b=>by rw[ht];exact B i (hd▸a) b
 revert this
 cases k.run P w₁ with
 |ok a w2=>intro h;show s.run P _=_;rw[O];exact h|halt x w2=>cases x<;>intro h<;>first|trivial|(show s.run P _=_;rw[O];exact h)
def dz.loc{RA}{s:Sem α}{s':Sem β}(h:dz P RA m s s'):∀(w w'),WR m w w'->Loc P s w:=by
 induction h with
 |uH hd=>exact λw w' _=>.inl (hd.run w)|pure hr=>exact λw w' _=>.inr ⟨dB _,q?,λτ _=>rfl⟩|@load m a a' k k' ha _ O=>
  intro w w' B
  cases Y:w.cell? a with
  |some v=>obtain⟨v',aj,hv⟩:=B.cell ha Y;refine(O v v' hv w w' B).step (by simp only[cL,Y]) q? q? λτ=>?_;have aa:(tp w τ).cell? a=y? v:=Y;simp only[cL,aa]
  |none=>obtain⟨y,hy⟩:=B.Qb ha Y P (Mode.plain==.atomic);exact .inl ⟨.stuck y,w,by simp only[cL,Y,hy],t!⟩
 |@store m a a' v v' k k' ha hv _ O=>
  intro w w' B;by_cases U:∃c,v=.agg c
  .obtain⟨c,rfl⟩:=U;exact .inl ⟨.stuck "store: not the value of one cell",w,by simp only[cL],t!⟩
  by_cases h2:∃c,v=.tuple c
  .obtain⟨c,rfl⟩:=h2;exact .inl ⟨.stuck "store: not the value of one cell",w,by simp only[cL],t!⟩
  have e1:∀w:w?,(Sem.store Mode.plain a v k).run P w=match w.cell? a with
    |some _=>if w.frozen? a then .halt (.unsupported (.unsafePointer "a write to bytes that a string shares")) w else k.run P (w.setCell a v)|none=>match w.farStore P a v (Mode.plain==.atomic)with
     |.ok (w,_)=>k.run P w|.error h=>.halt h w:=by
   intro w;rw[cL];rfl;exact λc e=>U ⟨c,e⟩;exact λc e=>h2 ⟨c,e⟩
  cases Y:w.cell? a with
  |none=>obtain⟨y,hy⟩:=B.KE ha Y P v (Mode.plain==.atomic);exact .inl ⟨.stuck y,w,by rw[e1,Y];simp only[hy],t!⟩
  |some u=>by_cases hf:w.frozen? a=t?;exact .inl ⟨.unsupported (.unsafePointer "a write to bytes that a string shares"),w,by rw[e1,Y];simp only[hf,if_true],t!⟩;refine(O (w.setCell a v) _ (B.setCell ha hv λah=>by cases v<;>first|exact ah.elim|exact U ⟨_,rfl⟩|exact h2 ⟨_,rfl⟩)).step (by rw[e1,Y];simp only[hf,if_false,dr]) rfl rfl λτ=>?_;have aa:(tp w τ).cell? a=y? u:=Y;have ai:¬(tp w τ).frozen? a=t?:=hf;rw[e1,aa];simp only[ai,if_false,dr];rfl
 |@new m o o' k k' ho Y _ O=>
  intro w w' B;have ab:=Ren.xq B.ii B.mN B.Uf;have ac:(m.ext w.1.size w'.1.size B.ii B.mN B.Uf).blk w.1.size=y? w'.1.size:=by simp[Ren.ext]
  exact(O _ _ _ ab ac (by simp[Ren.ext]) {w with heap:=w.1.push o} _ (B.push ho Y)).step rfl rfl rfl λτ=>rfl
 |@r9 m c b x s r t c' b' x' s' r' t' k k' ak _ O=>
  intro w w' B;have ab:=Ren.yY B.rp B.oW;have ac:(m.uJ w.1.size w'.1.size B.rp B.oW).ch w.1.size=y? w'.1.size:=by simp[Ren.uJ]
  exact(O _ _ _ ab ac {w with heap:=w.1.push (.chan c b x s r t)} _ (B.PN (.chan c b x s r t) (.chan c' b' x' s' r' t'))).step rfl rfl rfl λτ=>rfl
 |shape hb _ O=>exact λw w' B=>(O _ w w' B).step q? q? q? λτ=>rfl|@freeze m a a' n k k' ha hn _ O=>
  intro w w' B;refine(O (w.freeze a n) _ (B.freeze ha hn n)).step q? (by unfold gg;split<;>rfl) (by unfold gg;split<;>rfl) λτ=>?_;have:(tp w τ).freeze a n=tp (w.freeze a n) τ:=by unfold gg;split<;>rfl
  simp only[cL,this]
 |frozen ha hn _ O=>exact λw w' B=>(O _ w w' B).step q? q? q? λτ=>rfl|getObj hb _ O=>
  intro w w' B;obtain⟨x,x',U,h2,ho⟩:=B.obj _ _ hb;have W:∀τ,(tp w τ).1[_]?=y? x:=λ_=>U
  cases ho with
  |cells=>exact .inl ⟨.stuck "getObj: a row of cells",w,by simp only[cL,U],t!⟩|map clock he=>exact(O _ _ (.map clock he) w w' B).step (by simp only[cL,U]) q? q? λτ=>by simp only[cL,W]
  |number l hx=>exact(O _ _ (.number l hx) w w' B).step (by simp only[cL,U]) q? q? λτ=>by simp only[cL,W]
  |stringIter s p=>exact(O _ _ (.stringIter s p) w w' B).step (by simp only[cL,U]) q? q? λτ=>by simp only[cL,W]
  |gW a b c=>exact(O _ _ (.gW a b c) w w' B).step (by simp only[cL,U]) q? q? λτ=>by simp only[cL,W]
  |mapIter a b c hm=>exact(O _ _ (.mapIter a b c hm) w w' B).step (by simp only[cL,U]) q? q? λτ=>by simp only[cL,W]
  |loop hl=>exact(O _ _ (.loop hl) w w' B).step (by simp only[cL,U]) q? q? λτ=>by simp only[cL,W]
  |fF=>exact(O _ _ .fF w w' B).step (by simp only[cL,U]) q? q? λτ=>by simp only[cL,W]
  |deferred hd=>exact(O _ _ (.deferred hd) w w' B).step (by simp only[cL,U]) q? q? λτ=>by simp only[cL,W]
 |@setObj m r r' o o' k k' hb ho Y _ O=>
  intro w w' B;obtain⟨x,x',U,h2,hx⟩:=B.obj _ _ hb;have W:∀τ,(tp w τ).1[r]?=y? x:=λ_=>U;obtain ad|ad:=Classical.em (m.loose r)
  .obtain⟨c,e,f,hy⟩:=B.lk _ _ hb ad;exact .inl ⟨.stuck "setObj: a row of cells",w,by simp only[cL,hy],t!⟩
  have ae:=B.turn hb ho (λc e f c' e' f' e1 _=>absurd e1 (Y c e f)) (λh=>absurd h ad) (λc e f c' e' f' e1 _=>absurd e1 (Y c e f));have fin:=O {w with heap:=w.1.setIfInBounds r o} _ ae
  cases hx with
  |cells=>exact .inl ⟨.stuck "setObj: a row of cells",w,by simp only[cL,U],t!⟩|_=>refine fin.step ?_ q? q? λτ=>?_;simp only[cL,U];simp only[cL,W];rfl
 |@choose m q k k' _ O=>
  intro w w' B;by_cases hf:q.forced=t?;exact(O 0 w w' B).step (by simp only[cL,hf,if_true]) q? q? λτ=>by simp only[cL,hf,if_true]
  have e:(Sem.choose q k).run P w=(k (q.cut (w.tape w.drawn q))).run P {w with drawn:=w.drawn+1}:=by simp only[cL,hf,if_false,dr]
  obtain⟨x,ag,U,h2⟩|⟨U,h2,h3⟩:=O (q.cut (w.tape w.drawn q)) {w with drawn:=w.drawn+1} w' (B.draw _ w'.drawn)
  exact .inl ⟨x,ag,e.trans U,h2⟩;refine .inr ⟨by rw[e];exact dw (ek _) U,by rw[e,h2],λτ af=>?_⟩;rw[e]at af⊢;have e0:τ w.drawn=w.tape w.drawn:=af _ (dB _) (ee U)
  have e2:(Sem.choose q k).run P (tp w τ)=(k (q.cut (w.tape w.drawn q))).run P (tp {w with drawn:=w.drawn+1} τ):=by simp only[cL,hf,if_false,dr];show(k (q.cut (τ w.drawn q))).run P _=_;rw[e0];rfl
  have:=h3 τ λi a b=>af i (eg a) b;revert this
  cases(k (q.cut (w.tape w.drawn q))).run P {w with drawn:=w.drawn+1}with
  |ok a w2=>intro h;show(Sem.choose q k).run P (tp w τ)=_;rw[e2];exact h|halt x w2=>cases x<;>intro h<;>first|trivial|(show(Sem.choose q k).run P (tp w τ)=_;rw[e2];exact h)
 |gone hd=>intro w w' B;obtain⟨_,c,f,hx⟩:=B.dead _ hd;exact .inl ⟨.stuck "getObj: a row of cells",w,by simp only[cL,hx],t!⟩
 |env _ O=>exact λw w' B=>(O (.strings w.os.env) w w' B).step q? q? q? λτ=>rfl|program _ O=>exact λw w' B=>(O w w' B).step q? q? q? λτ=>rfl|mark hm _ O=>exact λw w' B=>(O w w' B).step q? q? q? λτ=>rfl|panic hv=>exact λw w' _=>.inr ⟨dB _,q?,λτ _=>rfl⟩
def align(h:WR m w w'):∃B,WR m w B/\Al w B/\B.1=w'.1:=by refine⟨{w' with tape:=λi q=>w.tape (i-w'.drawn+w.drawn) q},⟨h.obj,h.fz,h.all,h.NO,h.NJ,h.KV,h.os,h.lS,h.lk,h.dead,h.tK⟩,λi q=>?_,rfl⟩;show w.tape _ q=w.tape _ q;have:w'.drawn+i-w'.drawn+w.drawn=w.drawn+i:=o!;rw[this]
def lZ.loc{RA}{s:Sem α}{s':Sem β}(h:lZ P RA m s s'):∀(w w'),WR m w w'->Loc P s w:=by
 induction h with
 |base h=>exact h.loc|@bind γ δ RC m s s' f f' h _ ih=>
  intro w w' hw;obtain⟨ab,ac,ad,_⟩:=align hw;have O:=h.run w ab #[] ac (.inl ad);obtain⟨x,U,W,Y⟩|⟨W,Y,h3⟩:=h.loc w w' hw
  exact .inl ⟨x,U,by rw[cO,W];rfl,Y⟩
  cases hr:s.run P w with
  |halt x wn=>
   have eb:(s.bind f).run P w=.halt x wn:=by rw[cO,hr];rfl
   rw[hr]at W Y h3 O
   cases x with
   |panic v=>refine .inr ⟨by rw[eb];exact W,by rw[eb];exact Y,λτ B=>?_⟩;rw[eb]at B⊢;have:=h3 τ B;show(s.bind f).run P (tp w τ)=_;rw[cO,show s.run P (tp w τ)=.halt (.panic v) (tp wn τ)from this];rfl
   |unsupported u=>cases u<;>first|exact O.elim|exact .inl ⟨_,wn,eb,t!⟩
   |stuck y=>exact .inl ⟨_,wn,eb,t!⟩|throw y=>exact .inl ⟨_,wn,eb,t!⟩|_=>exact O.elim
  |ok a wn=>
   rw[hr]at W Y h3 O;obtain⟨dA,b,ae,es₁,e1,e2,e3,e4,_⟩:=O;have eb:(s.bind f).run P w=(f a).run P wn:=by rw[cO,hr];rfl
   obtain⟨x,U,g1,g2⟩|⟨g1,g2,g3⟩:=ih dA a b e2 e3 wn ae e4
   exact .inl ⟨x,U,eb.trans g1,g2⟩;refine .inr ⟨by rw[eb];exact dw W g1,by rw[eb,g2];exact Y,λτ B=>?_⟩;rw[eb]at B⊢;have ha:=h3 τ λi x y=>B i x (dS y g1);have hb:=g3 τ λi x y=>by rw[show wn.tape=w.tape from Y];exact B i (dw W x) y
   have aa:(s.bind f).run P (tp w τ)=(f a).run P (tp wn τ):=by rw[cO,ha];rfl
   revert hb
   cases(f a).run P wn with
   |ok c w2=>intro h;show(s.bind f).run P _=_;rw[aa];exact h|halt x w2=>cases x<;>intro h<;>first|trivial|(show(s.bind f).run P _=_;rw[aa];exact h)
 |@VA m q k s' hd h=>
  intro w w' hw;by_cases hf:q.forced=t?;exact((h 0).loc w w' hw).step (by simp only[cL,hf,if_true]) q? q? λτ=>by simp only[cL,hf,if_true]
  have e:(Sem.choose q k).run P w=(k (q.cut (w.tape w.drawn q))).run P {w with drawn:=w.drawn+1}:=by simp only[cL,hf,if_false,dr]
  rcases(h _).loc _ w' (hw.draw _ _)with⟨x,U,W,Y⟩|⟨W,Y,h3⟩
  exact .inl ⟨x,U,e.trans W,Y⟩;refine .inr ⟨by rw[e];exact dw (ek _) W,by rw[e,Y],λτ B=>?_⟩;rw[e]at B⊢;have e0:=B _ (dB _) (ee W)
  have e2:(Sem.choose q k).run P (tp w τ)=(k (q.cut (w.tape w.drawn q))).run P (tp {w with drawn:=w.drawn+1} τ):=by simp only[cL,hf,if_false,dr];show(k (q.cut (τ w.drawn q))).run P _=_;rw[e0];rfl
  have:=h3 τ λi a b=>B i (eg a) b;revert this
  cases(k _).run P _ with
  |ok a w2=>intro h;show(Sem.choose q k).run P _=_;rw[e2];exact h|halt x w2=>cases x<;>intro h<;>first|trivial|(show(Sem.choose q k).run P _=_;rw[e2];exact h)
def yZ(P:P?)(s:w?->GStep)(w:w?)(fM:Frame)(fN:List Frame)(w₁:w?):Prop:=
 w.drawn<=w₁.drawn/\w₁.tape=w.tape/\∀τ,xo τ w w₁->∃es,s (tp w τ)=.go (G fM fN) (tp w₁ τ) es
def ij{s:Sem α}{r}(h:s.run P w=r):∃es,s.runT P w #[]=(r,es):=by refine⟨(s.runT P w #[]).2,?_⟩;rw[<-h,<-cM P s w _]
def MA(Y:P.follows .rangeFuncRecover=t?){fr cs}(U:Loc P s w)(ac:∀n O,s.run P w=.ok n O->∃m n',iI P m n n')(ab:∀x O,s.run P w=.halt x O->(∃v,x=.panic v)\/l7 x){es}
  (h:cI P t? fr cs x? s w=.go (G fM fN) w₁ es):yZ P (cI P t? fr cs x? s) w fM fN w₁:=by
 rcases hrt:s.runT P w #[]with⟨r,ag⟩;have W:s.run P w=r:=by rw[<-cM P s w #[],hrt]
 unfold cI at h;simp only[if_true]at h;rw[hrt]at h;obtain⟨x,af,h1,h2⟩|⟨h1,h2,h3⟩:=U
 rw[W]at h1;subst h1;exfalso
 cases x with
 |unsupported u=>cases u<;>first|exact h2.elim|cases h
 |stuck y=>cases h
 |throw y=>simp[bI,bV,cK,G]at h|_=>exact h2.elim
 rw[W]at h1 h2 h3
 have fin:∀{X:Array Event}{g:Goroutine}{O:w?},DS r=O->cK X (.go g O)=.go (G fM fN) w₁ es->(∀τ,zH P s w τ r->∃X',cI P t? fr cs x? s (tp w τ)=cK X' (.go g (tp O τ)))->yZ P (cI P t? fr cs x? s) w fM fN w₁:=by intro X g O e hh hk;simp only[cK,g8]at hh;obtain⟨rfl,rfl,_⟩:=hh;subst e;refine⟨h1,h2,λτ ad=>?_⟩;obtain⟨X',e⟩:=hk τ (h3 τ ad);exact⟨_,e⟩
 have plain:∀{X:Array Event}{g:Goroutine}{O:w?},DS r=O->cK X (.go g O)=.go (G fM fN) w₁ es->(∀τ es',s.runT P (tp w τ) #[]=(match r with|.ok n w=>.ok n (tp w τ)|.halt x w=>.halt x (tp w τ),es')->∃X',cI P t? fr cs x? s (tp w τ)=cK X' (.go g (tp O τ)))->(∃n O,r=.ok n O)\/(∃v O,r=.halt (.panic v) O)->yZ P (cI P t? fr cs x? s) w fM fN w₁:=by
  intro X g O e hh hk hr;refine fin e hh λτ U=>?_;obtain⟨n,O,rfl⟩|⟨v,O,rfl⟩:=hr
  obtain⟨e',e⟩:=ij U;exact hk τ e' e;obtain⟨e',e⟩:=ij U;exact hk τ e' e
 cases r with
 |ok n O=>
  obtain⟨m,n',hn⟩:=ac n O W
  cases hn with
  |value hv=>exact plain q? h (λτ es' e=>by unfold cI;simp only[if_true,e];exact⟨_,q?⟩) (.inl ⟨_,_,q?⟩)|skip=>exact plain q? h (λτ es' e=>by unfold cI;simp only[if_true,e];exact⟨_,q?⟩) (.inl ⟨_,_,q?⟩)|enter hf ae ha=>exact plain q? h (λτ es' e=>by unfold cI;simp only[if_true,e];exact⟨_,q?⟩) (.inl ⟨_,_,q?⟩)|round U ht ha ae=>exact plain q? h (λτ es' e=>by unfold cI;simp only[if_true,e];exact⟨_,q?⟩) (.inl ⟨_,_,q?⟩)|defer hd=>exact plain q? h (λτ es' e=>by unfold cI;simp only[if_true,e];exact⟨_,q?⟩) (.inl ⟨_,_,q?⟩)|comm bl sh hq hc=>cases h
  |spawn ah hd=>
   exfalso;clear plain fin h1 h2 h3 hrt W;dsimp only at h;generalize bE P fr.fn _=X at h;rw[apply_ite (cK X)]at h
   have key:∀(c:Prop)[Decidable c] (A B C:GStep),(if c then A else B)=C->A=C\/B=C:=by intro c _ A B C hh;split at hh;exact .inl hh;exact .inr hh
   obtain h|h:=key _ _ _ _ h
   simp[bI,bV,cK,G]at h;simp[cK]at h
  |recover=>
   clear plain;obtain⟨fn,tm,td,df,md,kd,rd⟩:=fr
   cases rd with
   |none=>
    dsimp only at h;revert h;generalize aa:bB _ cs=p;intro h
    cases p with
    |none=>refine fin q? h λτ U=>?_;obtain⟨e',e⟩:=ij U;unfold cI;simp only[if_true,e];rw[aa];exact⟨_,q?⟩
    |some x=>obtain⟨v,c⟩:=x;refine fin q? h λτ U=>?_;obtain⟨e',e⟩:=ij U;unfold cI;simp only[if_true,e];rw[aa];exact⟨_,q?⟩
   |some l=>
    dsimp only at h;rw[if_pos Y]at h;revert h;generalize aa:bB _ cs=p;intro h
    cases p with
    |none=>refine fin q? h λτ U=>?_;obtain⟨e',e⟩:=ij U;unfold cI;simp only[if_true,e,Y];rw[aa];exact⟨_,q?⟩
    |some x=>refine fin q? h λτ U=>?_;obtain⟨e',e⟩:=ij U;unfold cI;simp only[if_true,e,Y];rw[aa];exact⟨_,q?⟩
 |halt x O=>
  cases x with
  |panic v=>exact plain q? h (λτ es' e=>by unfold cI;simp only[if_true,e];exact⟨_,q?⟩) (.inr ⟨_,_,q?⟩)|stuck y=>cases h
  |throw y=>simp[bI,bV,cK,G]at h|unsupported u=>
   obtain⟨v,hv⟩|hv:=ab _ _ W
   cases hv
   cases u<;>first|exact hv.elim|cases h
  |_=>
   obtain⟨v,hv⟩|hv:=ab _ _ W
   cases hv;exact hv.elim
def lZ.outs{s'}(h:lZ P (iI P) m s s')(hw:WR m w w'):(∀n B,s.run P w=.ok n B->∃m n',iI P m n n')/\(∀x B,s.run P w=.halt x B->(∃v,x=.panic v)\/l7 x):=by obtain⟨U,W,Y,_⟩:=align hw;have O:=h.run w U #[] W Y;constructor;intro n B e;rw[e]at O;obtain⟨dA,b,_,_,_,_,e3,_⟩:=O;exact⟨dA,b,e3⟩;intro x B e;rw[e]at O;cases x<;>first|exact .inl ⟨_,q?⟩|exact .inr O
end
section
open Go.Conc
variable {d':Deferred} {fr fr':Frame} {cs cs':List Frame} {s':Sem Go.Next} {w' w₁:w?}
def lX(P:P?)(d:Deferred):Goroutine:={frame:={(default:Frame)with fn:=P.funcs.size,defers:=[d],mode:=.panicking [cg]},callers:=[],status:=.running,dying:=x?}
inductive qB(P:P?):GStep->Prop
 |go (g c w es):qB P (.go (G g c) w es)|ended (o w es):qB P (.ended o w es)|dies (g w es):Goroutine.dyingOn P g->qB P (.go g w es)|comm (g c k b s w es):qB P (.comm (G g c) k b s w es)|spawn (g c d w es):qB P (.spawn (G g c) (lX P d) w es)
def qB.after{P s}(h:qB P s)(X):qB P (cK X s):=by
 cases h with
 |go g c w es=>exact .go ..|ended o w es=>exact .ended ..|dies g w es h=>exact .dies _ _ _ h|comm g c k b s w es=>exact .comm ..|spawn g c d w es=>exact .spawn ..
def uR{P}(fr)(y)(w):qB P (bI fr y w):=.dies _ _ _ (dieOf_okD (P:=P) fr [] y f? w)
section
variable {P:P?} {m:Ren} {T:List Frame} {gl:Nat->Prop} {st:Bool}
def KX(P:P?)(m:Ren)(T:List Frame)(s':GStep)(w':w?)(g:Goroutine)(k:Array CommCase)(b:Bool)(sh:CommShape)(w₁:w?):Prop:=
 ∃fr cs dA fr' cs' k' B es,g=G fr cs/\s'=.comm (G fr' cs') k' b sh B es/\(m.jf\/KJ k b sh)/\m.Le dA/\ed P dA T (fr::cs) (fr'::cs')/\dY (CH dA) k.toList k'.toList/\WR dA w₁ B/\gw m dA w' B/\∀e∈es,qd dA e
def K9(P:P?)(m:Ren)(T:List Frame)(s':GStep)(w':w?)(g ch:Goroutine)(w₁:w?):Prop:=
 ∃fr cs d dA fr' cs' d' B es,g=G fr cs/\ch=lX P d/\s'=.spawn (G fr' cs') (lX P d') B es/\m.jf/\m.Le dA/\ed P dA T (fr::cs) (fr'::cs')/\DR dA d d'/\WR dA w₁ B/\gw m dA w' B/\∀e∈es,qd dA e
def IM(h:gT m fr fr'):fr'.noResult P=fr.noResult P:=by
 have B:=h.todo;unfold Frame.noResult
 have:fr'.oper?=fr.oper?:=by
  unfold fa;revert B;generalize fr.todo=l;generalize fr'.todo=l';intro B
  cases B with
  |nil=>rfl|cons O _=>
   cases O with
   |inRegion ops t U=>cases t<;>rfl
   |_=>rfl
 rw[this]
def Be{d}(h:DR m d d'):((d'.target matches .nil):Bool)=(d.target matches .nil):=by have:=h.target;revert this;generalize d.target=a;generalize d'.target=b;intro x;cases x<;>rfl
def JV{d}(h:DR m d d'):d'.args.isEmpty=d.args.isEmpty:=by have:=h.args.size;simp[aA,this]
def Il(ac:P.follows .rangeFuncRecover=t?){s:Sem Go.Next}{w}(aa:∀n W,s.run P w=.ok n W->∃m n',iI P m n n')(Y:∀x W,s.run P w=.halt x W->(∃v,x=.panic v)\/l7 x):qB P (cI P t? fr cs x? s w):=by
 rcases hrt:s.runT P w _ with⟨r,ad⟩;have U:s.run P w=r:=by rw[<-cM P s w _,hrt]
 unfold cI;rw[hrt];refine qB.after ?_ _
 cases r with
 |ok n W=>
  obtain⟨m,n',hn⟩:=aa n W U
  cases hn with
  |value O=>exact .go ..|skip=>exact .go ..|enter hf ab ha=>exact .go ..|round hl ht ha ab=>exact .go ..|defer hd=>exact .go ..|comm bl sh hq hc=>exact .comm ..|spawn ae hd=>
   have key:∀(c:Prop)[Decidable c] (A B:GStep),qB P A->qB P B->qB P (if c then A else B):=by intro c _ A B h1 h2;split;exact h1;exact h2
   exact key _ _ _ (uR ..) (.spawn ..)
  |recover=>
   obtain⟨fn,tm,td,df,md,kd,rd⟩:=fr
   cases rd with
   |none=>dsimp only;split<;>exact .go ..
   |some l=>dsimp only;split<;>exact .go ..
 |halt x W=>
  cases x with
  |panic v=>exact .go ..|stuck y=>exact .ended ..|throw y=>exact uR ..|unsupported u=>
   obtain⟨v,O⟩|O:=Y _ _ U
   cases O
   cases u<;>first|exact O.elim|exact .ended ..
  |_=>
   obtain⟨v,O⟩|O:=Y _ _ U
   cases O;exact O.elim
def Ig(hE:vj P m)(hS:ed P m T (fr::cs) (fr'::cs')){s}(hs:lZ P (iI P) m s s'){w}(hw:WR m w w')(Y:Al w w'){g k b sh es}
  (h:cI P t? fr cs x? s w=.comm g k b sh w₁ es):KX P m T (cI P t? fr' cs' x? s' w') w' g k b sh w₁:=by
 have hr:=hs.run w w' #[] hw Y;have W:=(hs.outs hw).2;unfold cI at h⊢;simp only[if_true]at h⊢;rcases hrt:s.runT P w #[]with⟨r,ab⟩;have O:s.run P w=r:=by rw[<-cM P s w #[],hrt]
 rw[O]at hr;rw[hrt]at h
 cases r with
 |ok n wn=>
  obtain⟨dA,n',aa,es₁,e1,e2,e3,e4,_,e6,e7⟩:=hr;rw[e1];simp only[a8]at h⊢
  cases e3 with
  |comm bl sh hq hc=>simp only[cK,GStep.comm.injEq]at h;obtain⟨rfl,rfl,rfl,rfl,rfl,_⟩:=h;exact⟨fr,cs,dA,fr',cs',_,aa,_,q?,q?,hq.imp (λx=>e2.jf▸x) id,e2,hS.mono e2,hc,e4,e6,vu e7⟩
  |spawn ac hd=>
   have key:∀(X:Array Event)(c:Prop)[Decidable c] (A B C:GStep),cK X (if c then A else B)=C->(c/\cK X A=C)\/(¬c/\cK X B=C):=by intro X c _ A B C hh;split at hh;exact .inl ⟨‹_›,hh⟩;exact .inr ⟨‹_›,hh⟩
   obtain⟨_,h⟩|⟨hc,h⟩:=key _ _ _ _ _ h
   simp[bI,bV,cK]at h;simp[cK]at h
  |recover=>
   obtain⟨fn,tm,td,df,md,kd,rd⟩:=fr
   cases rd with
   |none=>revert h;generalize bB _ cs=p;intro h;cases p<;>cases h
   |some l=>dsimp only at h;rw[if_pos hE.TM]at h;revert h;generalize bB _ cs=p;intro h;cases p<;>cases h
  |_=>cases h
 |halt x wn=>
  cases x with
  |panic v=>cases h
  |stuck y=>cases h
  |throw y=>cases h
  |unsupported u=>
   obtain⟨v,U⟩|U:=W _ _ O
   cases U
   cases u<;>first|exact U.elim|cases h
  |_=>
   obtain⟨v,U⟩|U:=W _ _ O
   cases U;exact U.elim
def Ff(hE:vj P m)(hS:ed P m T (fr::cs) (fr'::cs')){s}(hs:lZ P (iI P) m s s'){w}(hw:WR m w w')(aa:Al w w'){g ch es}
  (h:cI P t? fr cs x? s w=.spawn g ch w₁ es):K9 P m T (cI P t? fr' cs' x? s' w') w' g ch w₁:=by
 have hr:=hs.run w w' #[] hw aa;have W:=(hs.outs hw).2;unfold cI at h⊢;simp only[if_true]at h⊢;rcases hrt:s.runT P w #[]with⟨r,af⟩;have O:s.run P w=r:=by rw[<-cM P s w #[],hrt]
 rw[O]at hr;rw[hrt]at h
 cases r with
 |ok n wn=>
  obtain⟨dA,n',ab,es₁,e1,Y,e3,e4,_,e6,e7⟩:=hr;rw[e1];simp only[a8]at h⊢
  cases e3 with
  |comm bl sh hq hc=>cases h
  |spawn ac hd=>
   rename_i d d';dsimp only at h⊢
   have key:∀(X:Array Event)(c:Prop)[Decidable c] (A B C:GStep),cK X (if c then A else B)=C->(c/\cK X A=C)\/(¬c/\cK X B=C):=by intro X c _ A B C hh;split at hh;exact .inl ⟨‹_›,hh⟩;exact .inr ⟨‹_›,hh⟩
   obtain⟨_,h⟩|⟨hc,h⟩:=key _ _ _ _ _ h
   simp[bI,bV,cK]at h
   have ad:¬((P.follows .goNilFatal&&(d'.target matches .nil)&&d'.args.isEmpty&&fr'.noResult P)=t?):=by rw[Be hd,JV hd,IM hS.rM];exact hc
   have hf:=(hS.rM.mono Y).finish (.undef dA);have ae:=hS.set Y hf.1 hf.2.1 hf.2.2 (fS ..) (iK ..);obtain⟨rfl,rfl,rfl,_⟩:=h;exact⟨_,_,d,dA,_,_,d',ab,_,q?,q?,(congrArg _ (if_neg ad)).trans q?,Y.jf▸ac,Y,ae,hd,e4,e6,vu e7⟩
  |recover=>
   obtain⟨fn,tm,td,df,md,kd,rd⟩:=fr
   cases rd with
   |none=>revert h;generalize bB _ cs=p;intro h;cases p<;>cases h
   |some l=>dsimp only at h;rw[if_pos hE.TM]at h;revert h;generalize bB _ cs=p;intro h;cases p<;>cases h
  |_=>cases h
 |halt x wn=>
  cases x with
  |panic v=>cases h
  |stuck y=>cases h
  |throw y=>cases h
  |unsupported u=>
   obtain⟨v,U⟩|U:=W _ _ O
   cases U
   cases u<;>first|exact U.elim|cases h
  |_=>
   obtain⟨v,U⟩|U:=W _ _ O
   cases U;exact U.elim
end
inductive kz:GStep->Prop
 |go (g w es):kz (.go g w es)|ended (o w es):kz (.ended o w es)
def kz.after{s}(h:kz s)(X):kz (cK X s):=by
 cases h with
 |go g w es=>exact .go ..|ended o w es=>exact .ended ..
section
variable {P:P?} {m:Ren} {T:List Frame} {gl:Nat->Prop} {st:Bool}
def QJ(P:P?)(m:Ren)(T:List Frame)(r r':GStep)(w':w?):Prop:=
 (∃dA X X' fr cs fr' cs' s s' w₁ B,r=cK X (cI P t? fr cs x? s w₁)/\r'=cK X' (cI P t? fr' cs' x? s' B)/\m.Le dA/\vj P dA/\ed P dA T (fr::cs) (fr'::cs')/\lZ P (iI P) dA s s'/\WR dA w₁ B/\Al w₁ B/\gw m dA w' B/\∀e∈X',qd dA e)\/kz r
def TT{u d x g c VF e}(h:GStep.go {frame:=u,callers:=d,status:=.running,dying:=x?} x=.go (G g c) VF e):VF=x/\∀y,∃B,GStep.go {frame:=u,callers:=d,status:=.running,dying:=x?} y=.go (G g c) y B:=by simp only[g8]at h;obtain⟨O,rfl,_⟩:=h;exact⟨q?,λy=>⟨#[],by rw[O]⟩⟩
def Ee(fr)(c)(cs)(v):∀x g d B e,bC P t? fr (c::cs) x? v x=.go (G g d) B e->B=x/\∀y,∃O,bC P t? fr (c::cs) x? v y=.go (G g d) y O:=by intro x g d B e h;unfold bC at h⊢;cases U:fr.kind<;>rw[U]at h<;>dsimp only at h⊢ <;> simp only[g8]at h<;>obtain⟨W,rfl,_⟩:=h<;>exact⟨q?,λy=>⟨#[],by rw[W]⟩⟩
def Eo(O:ed P m T (fr::cs) (fr'::cs')):∃c B,cs=c::B:=by cases O<;>exact⟨_,_,q?⟩
def R8(g)(c)(w):qB P (.go {frame:=g,callers:=c,status:=.running,dying:=x?} w):=.go g c w _
def BE(fr c)(cs)(v)(w):qB P (bC P t? fr (c::cs) x? v w):=by unfold bC;cases fr.kind<;>exact R8 ..
def QJ.direct(O:vj P m)(U:ed P m T (fr::cs) (fr'::cs')){s s'}(W:lZ P (iI P) m s s'){w w'}(Y:WR m w w')(B:Al w w'):QJ P m T (cI P t? fr cs x? s w) (cI P t? fr' cs' x? s' w') w':=
 .inl ⟨m,#[],#[],fr,cs,fr',cs',s,s',w,w',(oz _).symm,(oz _).symm,.refl m,O,U,W,Y,B,.refl m w',i!⟩
def sJ(fr c)(cs)(v)(w):kz (bC P t? fr (c::cs) x? v w):=by unfold bC;cases fr.kind<;>exact .go ..
def ul{dA m₂}(B:dA.Le m₂){X Y:Array Event}(O:∀e∈X,qd dA e)(U:∀e∈Y,qd m₂ e):∀e∈X++Y,qd m₂ e:=λe W=>(a9.1 W).elim (λx=>(O e x).mono B) (U e)
end
variable {k:Array CommCase} {es:Array Event} {b:Bool} {sh:CommShape} {g:Goroutine} {s:Sem Go.Next} {w:w?}
def F3(P:P?)(s:w?->GStep)(w:w?)(g:Goroutine)(k:Array CommCase)(b:Bool)(sh:CommShape)(w₁:w?):Prop:=
 w.drawn<=w₁.drawn/\w₁.tape=w.tape/\∀τ,xo τ w w₁->∃es,s (tp w τ)=.comm g k b sh (tp w₁ τ) es
section
variable {P:P?} {m:Ren} {T:List Frame} {gl:Nat->Prop} {st:Bool}
def W7{r}(B:kz r)(h:r=.comm g k b sh w es){X:Prop}:X:=by rw[h]at B;cases B
def IY{X s}(h:cK X s=.comm g k b sh w es):∃B,s=.comm g k b sh w B:=by cases s<;>simp[cK]at h;obtain⟨rfl,rfl,rfl,rfl,rfl,_⟩:=h;exact⟨_,q?⟩
def AO(Y:P.follows .rangeFuncRecover=t?)(ab:∀n W,s.run P w=.ok n W->∃m n',iI P m n n')(aa:∀x W,s.run P w=.halt x W->(∃v,x=.panic v)\/l7 x)
  (h:cI P t? fr cs x? s w=.comm g k b sh w₁ es):g=G fr cs/\s.run P w=.ok (.comm k b sh) w₁:=by
 rcases hrt:s.runT P w _ with⟨r,ac⟩;have O:s.run P w=r:=by rw[<-cM P s w _,hrt]
 unfold cI at h;rw[hrt]at h;rw[O]
 cases r with
 |ok n W=>
  obtain⟨m,n',hn⟩:=ab n W O
  cases hn with
  |comm bl sh hq hc=>obtain⟨rfl,rfl,rfl,rfl,rfl,_⟩:=h;exact⟨q?,q?⟩
  |spawn ad hd=>
   have key:∀(X:Array Event)(c:Prop)[Decidable c] (A B C:GStep),cK X (if c then A else B)=C->(c/\cK X A=C)\/(¬c/\cK X B=C):=by intro X c _ A B C hh;split at hh;exact .inl ⟨‹_›,hh⟩;exact .inr ⟨‹_›,hh⟩
   obtain⟨_,h⟩|⟨hc,h⟩:=key _ _ _ _ _ h
   simp[bI,bV,cK]at h;simp[cK]at h
  |recover=>
   obtain⟨fn,tm,td,df,md,kd,rd⟩:=fr
   cases rd with
   |none=>revert h;generalize bB _ cs=p;intro h;cases p<;>cases h
   |some l=>dsimp only at h;rw[if_pos Y]at h;revert h;generalize bB _ cs=p;intro h;cases p<;>cases h
  |_=>cases h
 |halt x W=>
  cases x with
  |panic v=>cases h
  |stuck y=>cases h
  |throw y=>cases h
  |unsupported u=>
   obtain⟨v,U⟩|U:=aa _ _ O
   cases U
   cases u<;>first|exact U.elim|cases h
  |_=>
   obtain⟨v,U⟩|U:=aa _ _ O
   cases U;exact U.elim
def Jy(B:P.follows .rangeFuncRecover=t?)(hl:Loc P s w)(U:∀n W,s.run P w=.ok n W->∃m n',iI P m n n')(Y:∀x W,s.run P w=.halt x W->(∃v,x=.panic v)\/l7 x)
  (h:cI P t? fr cs x? s w=.comm g k b sh w₁ es):F3 P (cI P t? fr cs x? s) w g k b sh w₁:=by
 obtain⟨rfl,hr⟩:=AO B U Y h;obtain⟨x,ab,O,h2⟩|⟨O,h2,h3⟩:=hl
 rw[hr]at O;cases O;rw[hr]at O h2 h3;refine⟨O,h2,λτ aa=>?_⟩;have h4:=h3 τ aa;obtain⟨e',e⟩:=ij h4;unfold cI;simp only[if_true,e];exact⟨_,q?⟩
end
end
section
open Go.Conc
variable {k:Array CommCase} {b:Bool} {sh:CommShape} {fM:Frame} {fN:List Frame} {w':w?}
structure P7(P:P?)(r:GStep):Prop where
 go:∀{g c w es},r≠.go (G g c) w es
 outs:qB P r
 plain:kz r
def P7.after{P r}(h:P7 P r)(X):P7 P (cK X r):=⟨λe=>(wz e).elim λ_ e=>h.go e,h.outs.after X,h.plain.after X⟩
def P7.ended{P}(o)(w)(es):P7 P (.ended o w es):=⟨λe=>(by cases e),.ended ..,.ended ..⟩
def P7.throw{P}(fr)(y)(w):P7 P (bI fr y w):=⟨nofun,uR ..,.go ..⟩
inductive yI(P:P?)(T:List Frame)(main':Bool)(ok:Prop):Ren->(w?->GStep)->(w?->GStep)->Prop
 |stay {m f f' g g' cs cs'}:ed P m T (g::cs) (g'::cs')->(∀x,f x=.go (G g cs) x)->(∀x,f' x=.go (G g' cs') x)->yI P T main' ok m f f'|low {m f f' g cs}:(ok->False)->(∀x,f x=.go (G g cs) x)->yI P T main' ok m f f'|bad {m f f'}:(∀x x',WR m x x'->P7 P (f x))->yI P T main' ok m f f'|app {m f f' fr fr' cs cs' s s'}:vj P m->ed P m T (fr::cs) (fr'::cs')->lZ P (iI P) m s s'->(∀x,f x=cI P true fr cs none s x)->(∀x,f' x=cI P true fr' cs' none s' x)->yI P T main' ok m f f'|ret {m f f' fr fr' cs cs' v v'}:ed P m T (fr::cs) (fr'::cs')->(ok->cs=[door P]->fr.roundOf=none->False)->VR m v v'->(∀x,f x=bC P true fr cs none v x)->(∀x,f' x=bC P main' fr' cs' none v' x)->yI P T main' ok m f f'|run {m f f'} {α β:Type} {RA:Ren->α->β->Prop} {t t'} {E:Result α->Array Event->Array Event} {E':Result β->Array Event->Array Event} {K:Result α->GStep} {K':Result β->GStep}:dz P RA m t t'->
   (∀x r es,t.runT P x #[]=(r,es)->f x=cK (E r es) (K r))->(∀x r es,t'.runT P x #[]=(r,es)->f' x=cK (E' r es) (K' r))->(∀dA r es,(∀e∈es,qd dA e)->∀e∈E' r es,qd dA e)->
   (∀dA a a',m.Le dA->RA dA a a'->yI P T main' ok dA (λw=>K (.ok a w)) (λw=>K' (.ok a' w)))->
   (∀dA v v',m.Le dA->VR dA v v'->yI P T main' ok dA (λw=>K (.halt (.panic v) w)) (λw=>K' (.halt (.panic v') w)))->
   (∀x w,l7 x->P7 P (K (.halt x w)))->yI P T main' ok m f f'
section
variable {P:P?} {m:Ren} {T:List Frame} {gl:Nat->Prop} {st main':Bool} {ok:Prop} {f f':w?->GStep}
def yI.out(F:yI P T main' ok m f f')(W:ok):∀{w w'},WR m w w'->Al w w'->∀{fM fN w₁ es},f w=.go (G fM fN) w₁ es->oT P m T (f' w') w' fM fN w₁:=by
 induction F with
 |stay hg h h'=>intro w w' U B fM fN w₁ es e;rw[h]at e;rw[h'];exact still U hg e|low hn h=>exact(hn W).elim|bad h=>intro w w' U B fM fN w₁ es e;exact absurd e (h w w' U).go|app hE hS hs h h'=>intro w w' U B fM fN w₁ es e;rw[h]at e;rw[h'];exact Mq hE hS hs U B e|ret hS hn hv h h'=>intro w w' U B fM fN w₁ es e;have:=Si (main':=main') (X:=#[]) (X':=#[]) (.refl _) hS (hn W) hv U (.refl _ w') i! (by rw[oz,<-h];exact e);rw[oz]at this;rw[h'];exact this
 |@run m f f' α β RA t t' E E' K K' ht h h' hE _ _ Y aa ab=>
  intro w w' U B fM fN w₁ es e;have O:=ht.run w w' #[] U (.inl B);rw[<-cM P _ w _]at O;rcases hrt:t.runT P w _ with⟨r,ad⟩;rw[hrt]at O;rw[h _ _ _ hrt]at e;obtain⟨ae,e⟩:=wz e
  cases r with
  |ok a wn=>obtain⟨dA,a',ac,es₁,g1,g2,g3,g4,g5,g6,g7⟩:=O;rw[h' _ _ _ g1];exact oT.after g2 g6 (hE _ _ _ (u! g7)) (aa dA a a' g2 g3 g4 (g5 B) e)
  |halt x wn=>
   cases x with
   |panic v=>obtain⟨dA,a',ac,es₁,g1,g2,g3,g4,g5,g6,g7⟩:=O;rw[h' _ _ _ g1];exact oT.after g2 g6 (hE _ _ _ (u! g7)) (ab dA v a' g2 g3 g4 (g5 B) e)
   |_=>refine absurd e (Y _ _ ?_).go;exact O
def Kj(R:w?->Array Event->GStep)(s:w?->GStep)(w w₁:w?):Prop:=
 w.drawn<=w₁.drawn/\w₁.tape=w.tape/\∀τ,xo τ w w₁->∃es,s (tp w τ)=R (tp w₁ τ) es
structure Kind(P:P?)(R:w?->Array Event->GStep):Prop where
 off:∀{X s w es},cK X s=R w es->∃e,s=R w e
 on:∀X w es,∃e,cK X (R w es)=R w e
 bad:∀{r w es},P7 P r->r≠R w es
 go:∀{g c x w es},GStep.go (G g c) x=R w es->w=x/\∀y,∃e,GStep.go (G g c) y=R y e
 ret:∀{fr c cs v x w es},bC P true fr (c::cs) none v x=R w es->w=x/\∀y,∃e,bC P true fr (c::cs) none v y=R y e
 app:∀{fr cs s w w₁ es},Loc P s w->(∀n wn,s.run P w=.ok n wn->∃m n',iI P m n n')->(∀x wn,s.run P w=.halt x wn->(∃v,x=.panic v)\/l7 x)->cI P true fr cs none s w=R w₁ es->Kj R (cI P true fr cs none s) w w₁
def yI.loc(F:yI P T main' ok m f f'){R}(k:Kind P R):∀{w w'},WR m w w'->∀{w₁ es},f w=R w₁ es->Kj R f w w₁:=by
 induction F with
 |stay _ h _|low _ h=>intro w w' O w₁ es e;rw[h]at e;obtain⟨rfl,q⟩:=k.go e;exact⟨dB _,q?,λτ _=>by rw[h];exact q _⟩
 |bad h=>intro w w' O w₁ es e;exact absurd e (k.bad (h w w' O))|app hE hS hs h h'=>intro w w' O w₁ es e;rw[h]at e;obtain⟨a,b,c⟩:=k.app (hs.loc w w' O) (hs.outs O).1 (hs.outs O).2 e;exact⟨a,b,λτ U=>by rw[h];exact c τ U⟩
 |ret hS hn hv h h'=>obtain⟨c,ak,rfl⟩:=Eo hS;intro w w' O w₁ es e;rw[h]at e;obtain⟨rfl,q⟩:=k.ret e;exact⟨dB _,q?,λτ _=>by rw[h];exact q _⟩
 |@run m f f' α β RA t t' E E' K K' ht h h' hE _ _ Y aa ab=>
  intro w w' O w₁ es e;obtain⟨ac,ad,ae,_⟩:=align O;have B:=ht.run w ac #[] ad (.inl ae);have hl:=ht.loc w w' O;obtain⟨am,af⟩:=ij (P:=P) (s:=t) (w:=w) rfl;rw[h _ _ _ af]at e;obtain⟨_,e⟩:=k.off e
  have key:∀{r:Result α}{W:w?},DS r=W->Kj R (λw=>K (match r with|.ok a _=>.ok a w|.halt x _=>.halt x w)) W w₁->(∀τ,zH P t w τ r->t.run P (tp w τ)=match r with|.ok a _=>.ok a (tp W τ)|.halt x _=>.halt x (tp W τ))->t.run P w=r->Tx P t w->Kj R f w w₁:=by
   rintro r W rfl ⟨k1,k2,k3⟩ ag hr ⟨h1,h2,h3⟩;rw[hr]at h1 h2 h3;refine⟨dw h1 k1,k2.trans h2,λτ U=>?_⟩;have ha:=ag τ (h3 τ λi x y=>U i x (dS y k1));obtain⟨an,k4⟩:=k3 τ λi x y=>by rw[h2];exact U i (dw h1 x) y
   obtain⟨ao,ah⟩:=ij ha;have k4:K _=R .. := k4;rw[h _ _ _ ah,k4];exact k.on ..
  obtain⟨q,aj,h1,h2⟩|hl:=hl
  rw[h1]at e;exact absurd e (k.bad (Y _ _ h2))
  cases hq:t.run P w with
  |ok a W=>rw[hq]at e B;obtain⟨dA,a',ai,es₁,g1,g2,g3,g4,_⟩:=B;exact key (r:=.ok a W) q? (aa dA a a' g2 g3 g4 e) (λ_ h=>h) hq hl
  |halt x W=>
   rw[hq]at e B
   cases x with
   |panic v=>obtain⟨dA,a',ai,es₁,g1,g2,g3,g4,_⟩:=B;exact key (r:=.halt _ W) q? (ab dA v a' g2 g3 g4 e) (λ_ h=>h) hq hl
   |_=>refine absurd e (k.bad (Y _ _ ?_));exact B
def yI.outs(F:yI P T main' ok m f f'):∀{w w'},WR m w w'->qB P (f w):=by
 induction F with
 |stay _ h _|low _ h=>intro w w' O;rw[h];exact .go ..|bad h=>exact λO=>(h _ _ O).outs|app hE hS hs h h'=>intro w w' O;rw[h];exact Il hE.TM (hs.outs O).1 (hs.outs O).2|ret hS hn hv h h'=>obtain⟨c,af,rfl⟩:=Eo hS;intro w w' O;rw[h];exact BE ..
 |@run m f f' α β RA t t' E E' K K' ht h h' hE _ _ U W Y=>
  intro w w' O;obtain⟨aa,ab,ac,_⟩:=align O;have B:=ht.run w aa #[] ab (.inl ac);obtain⟨ag,ad⟩:=ij (P:=P) (s:=t) (w:=w) rfl;rw[h _ _ _ ad];refine qB.after ?_ _
  cases hq:t.run P w with
  |ok a wn=>rw[hq]at B;obtain⟨dA,a',ae,es₁,g1,g2,g3,g4,_⟩:=B;exact W dA a a' g2 g3 g4
  |halt x wn=>
   rw[hq]at B
   cases x with
   |panic v=>obtain⟨dA,a',ae,es₁,g1,g2,g3,g4,_⟩:=B;exact Y dA v a' g2 g3 g4
   |_=>refine(U _ _ ?_).outs;exact B
def QJ.after{dA r r' wn' X X'}(U:m.Le dA)(hk:gw m dA w' wn')(hX:∀e∈X',qd dA e)(h:QJ P dA T r r' wn'):QJ P m T (cK X r) (cK X' r') w':=by
 have W:∀(X Y:Array Event)(s:GStep),cK X (cK Y s)=cK (X++Y) s:=λX Y s=>by cases s<;>simp[cK]
 obtain⟨m₂,Y,Y',fr,cs,fr',cs',s,s',w₁,B,rfl,rfl,O,h2,h3,h4,h5,h6,h7,h8⟩|h:=h
 exact .inl ⟨m₂,_,_,fr,cs,fr',cs',s,s',w₁,B,W ..,W ..,U.trans O,h2,h3,h4,h5,h6,hk.trans U O h7,ul O hX h8⟩;exact .inr (h.after _)
def yI.via(F:yI P T main' ok m f f'):∀{w w'},WR m w w'->Al w w'->QJ P m T (f w) (f' w') w':=by
 induction F with
 |stay _ h _|low _ h=>intro w w' U O;rw[h];exact .inr (.go ..)|bad h=>exact λU _=>.inr (h _ _ U).plain|app hE hS hs h h'=>intro w w' U O;rw[h,h'];exact QJ.direct hE hS hs U O|ret hS hn hv h h'=>obtain⟨c,ae,rfl⟩:=Eo hS;intro w w' U O;rw[h];exact .inr (sJ ..)
 |@run m f f' α β RA t t' E E' K K' ht h h' hE _ _ W aa ab=>
  intro w w' U O;have B:=ht.run w w' #[] U (.inl O);obtain⟨af,ac⟩:=ij (P:=P) (s:=t) (w:=w) rfl;rw[h _ _ _ ac]
  cases hq:t.run P w with
  |ok a wn=>rw[hq]at B;obtain⟨dA,a',ad,es₁,g1,Y,g3,g4,g5,g6,g7⟩:=B;rw[h' _ _ _ g1];exact QJ.after Y g6 (hE _ _ _ (u! g7)) (aa dA a a' Y g3 g4 (g5 O))
  |halt x wn=>
   rw[hq]at B
   cases x with
   |panic v=>obtain⟨dA,a',ad,es₁,g1,Y,g3,g4,g5,g6,g7⟩:=B;rw[h' _ _ _ g1];exact QJ.after Y g6 (hE _ _ _ (u! g7)) (ab dA v a' Y g3 g4 (g5 O))
   |_=>refine .inr (kz.after (W _ _ ?_).plain _);exact B
def r8{fr fr':Frame}{cs cs':List Frame}(B:fr.roundOf≠x?)(O:ed P m T (fr::cs) (fr'::cs')){l l'}(U:m.blk l=y? l')(j:Option Code)(W:∀c,j=y? c->gG m.ok c){q q'}
  (h:∀x,f x=cK (bE P fr.fn ((aQ l j).runT P x #[]).2) (match ((aQ l j).runT P x #[]).1 with|.ok v w=>bC P t? fr cs x? v w|.halt _ w=>.ended q w))
  (h':∀x,f' x=cK (bE P fr'.fn ((aQ l' j).runT P x #[]).2) (match ((aQ l' j).runT P x #[]).1 with|.ok v w=>bC P main' fr' cs' x? v w|.halt _ w=>.ended q' w)):yI P T main' ok m f f':=
 .run (E:=λ_ es=>bE P _ es) (E':=λ_ es=>bE P _ es) (K:=λr=>match r with|.ok v w=>bC P t? fr cs x? v w|.halt _ w=>.ended q w) (K':=λr=>match r with|.ok v w=>bC P main' fr' cs' x? v w|.halt _ w=>.ended q' w) (I9 (P:=P) U W)
  (λx r es e=>by rw[h,e]) (λx r es e=>by rw[h',e]) (λ_ _ _ h=>o9 h) (λdA a a' hm Y=>.ret (O.mono hm) (λ_ _ h=>B h) Y (λ_=>rfl) (λ_=>rfl)) (λ_ _ _ _ _=>.bad λ_ _ _=>.ended ..) (λ_ _ _=>.ended ..)
def oA{fr:Frame}{cs:List Frame}{ops:Array Oper}{i}{t:List Nat}{k:List Item}{o}(B:fr.todo=r? ops (i::t)::k)(O:ops[i]?=y? o)(U:gA o (bO ops fr.tmps)=t?)(x) :
  cJ P b t? fr cs x? x=match fr.roundOf,o.op with
   |some l,.defer c=>cI P t? fr cs x? (do aY l (<-bW fr.eval c o.type);pure .skip) x
   |_,_=>cI P t? fr cs x? (bZ fr.eval o) x:=by
 unfold cJ;simp only[B,O,gc,ga];rw[if_pos U];unfold bG.oper;simp only[fa,B,O];rfl
def Ln(hX:mF P m gl st){fr fr' cs cs'}(hS:ed P m T (fr::cs) (fr'::cs')):yI P T main' ok m (cJ P t? t? fr cs x?) (cJ P main' t? fr' cs' x?):=by
 have hF:=hS.rM;have ht:=hF.todo;have ad:=hF.round;have ao:=hF.fn;obtain⟨fn,tm,td,df,md,kd,rd⟩:=fr;obtain⟨B,O,ap,Y,ab,aa,U⟩:=fr';simp only at ht ad ao;subst ao;have W:∀{k k':List Item},dY (kU m) k k'->ed P m T (⟨B,tm,k,df,md,kd,rd⟩::cs) (⟨B,O,k',Y,ab,aa,U⟩::cs'):=λhk=>hS.set (.refl m) (JI hF hk) q? q? q? rfl;have ai:ed P m T (⟨B,tm,td,df,.returning,kd,rd⟩::cs) (⟨B,O,ap,Y,.returning,aa,U⟩::cs'):=hS.set (.refl m) (Ub hF .returning) q? q? q? rfl;have ak:∀x,e9 m.gE gl x->VR m (en ⟨B,tm,td,df,md,kd,rd⟩ x) (en ⟨B,O,ap,Y,ab,aa,U⟩ x):=λx hx=>hF.eval hX.qa x hx
 cases ht with
 |nil=>
  cases ad with
  |none=>exact .stay ai (λ_=>rfl) (λ_=>rfl)|some hl=>exact r8 i! hS hl x? (λ_ h=>by cases h) (λ_=>rfl) (λ_=>rfl)
 |cons hi hk=>
  rename_i k k'
  cases hi with
  |FP y=>exact .bad λ_ _ _=>.ended _ _ _|ni y=>exact .stay (W (.cons (.FP y) (.cons (.ni y) hk))) (λ_=>rfl) (λ_=>rfl)|inBlock i=>exact .stay (W hk) (λ_=>rfl) (λ_=>rfl)|inScope c hc=>exact .stay (W hk) (λ_=>rfl) (λ_=>rfl)|inLoop c hc=>exact .stay (W (.cons (.code c hc) (.cons (.inLoop c hc) hk))) (λ_=>rfl) (λ_=>rfl)|inRangeFunc hl=>exact .bad λ_ _ _=>.ended _ _ _|beginRound=>
   refine .app hX.env hS (s:=do rd.elim (stuck "beginRound: no round") aU;pure .skip) (s':=do U.elim (stuck "beginRound: no round") aU;pure .skip) ?_ (λ_=>rfl) (λ_=>rfl)
   cases ad with
   |none=>exact .base (.dm)|some hl=>exact Wf (Dk hl)
  |endRangeFunc hl=>
   rename_i l l'
   refine .run (Np (P:=P) hl) (E:=λ_ es=>bE P B es) (E':=λ_ es=>bE P B es)
    (K:=λr=>match r with|.ok af w=>.go {frame:=⟨B,tm,(af.map Item.code).toList++k,df,md,kd,rd⟩,callers:=cs,status:=.running,dying:=x?} w|.halt (.panic v) w=>.go {frame:=ey ⟨B,tm,.endRangeFunc l::k,df,md,kd,rd⟩ [{v,recovered:=f?}],callers:=cs,status:=.running,dying:=x?} w|.halt _ w=>.ended (.stuck "range over a function: no such loop" (er P ⟨B,tm,.endRangeFunc l::k,df,md,kd,rd⟩)) w)
    (K':=λr=>match r with|.ok af w=>.go {frame:=⟨B,O,(af.map Item.code).toList++k',Y,ab,aa,U⟩,callers:=cs',status:=.running,dying:=x?} w|.halt (.panic v) w=>.go {frame:=ey ⟨B,O,.endRangeFunc l'::k',Y,ab,aa,U⟩ [{v,recovered:=f?}],callers:=cs',status:=.running,dying:=x?} w|.halt _ w=>.ended (.stuck "range over a function: no such loop" (er P ⟨B,O,.endRangeFunc l'::k',Y,ab,aa,U⟩)) w)
    (λx r es e=>by unfold cJ;dsimp only;rw[e];rfl) (λx r es e=>by unfold cJ;dsimp only;rw[e];rfl) (λ_ _ _ h=>o9 h) ?_ ?_ ?_
   rintro dA a b hm ⟨rfl,ha⟩;refine .stay (hS.set hm (g:=⟨B,tm,_,df,md,kd,rd⟩) (g':=⟨B,O,_,Y,ab,aa,U⟩) (JI (hF.mono hm) (dY.append ?_ (hk.mono λ_ _ x=>x.mono hm))) q? q? q? q?) (λ_=>rfl) (λ_=>rfl)
   cases a with
   |none=>exact .nil|some c=>exact .cons (.code c (ha c q?)) .nil
   intro dA v v' hm hv;have hf:=(hF.mono hm).raise (vs:=[{v,recovered:=f?}]) (vs':=[{v:=v',recovered:=f?}]) (.cons ⟨hv,q?,q?⟩ .nil);exact .stay (hS.set hm hf.1 hf.2.1 hf.2.2 (pK _ _) (vJ _ _)) (λ_=>rfl) (λ_=>rfl);intro x w hx;cases x<;>first|exact hx.elim|exact .ended _ _ _
  |inRegion ops t ho=>
   cases t with
   |nil=>exact .stay (W hk) (λ_=>rfl) (λ_=>rfl)|cons i t=>
    have hy:bO ops O=bO ops tm:=funext (mQ ops hF.tmps);have hf:=hF.finish (.undef m);have aj:=hS.set (.refl m) hf.1 hf.2.1 hf.2.2 (fS _ _) (iK _ _)
    cases ac:ops[i]? with
    |none=>exact .stay aj (λx=>by unfold cJ;dsimp only;rw[ac];rfl) (λx=>by unfold cJ;dsimp only;rw[ac];rfl)|some o=>
     by_cases ag:gA o (bO ops tm)=t?;have ah:gA o (bO ops O)=t?:=by rw[hy];exact ag
     have am:=hX.ops o (ho o (by rw[<-az]at ac;exact List.mem_of_getElem? ac));have aq:=Fj hX.env hX.strict hX.jf ak (λc=>⟨q?,q?⟩) o am
     cases ad with
     |none=>exact .app hX.env hS aq (λx=>by rw[oA q? ac ag]) (λx=>by rw[oA q? ac ah])|some hl=>
      obtain⟨od,oo,ot,op,oa,og⟩:=o;cases oo<;>first|exact .app hX.env hS aq (λx=>oA q? ac ag x) (λx=>oA q? ac ah x)|skip
      rename_i c;refine .app hX.env hS (.base ?_) (λx=>oA q? ac ag x) (λx=>oA q? ac ah x);refine dJ (N7 ak ⟨am.1,?_⟩ _) λm' d d' av hd=>dJ (AA (av.blk _ _ hl) hd) λ_ _ _ _ _=>.pure .skip;have h2:=am.2;obtain⟨cc,ca,ct⟩:=c;cases cc<;>first|trivial|exact⟨h2.1,hX.jf h2.2⟩|exact h2.elim
     refine .stay aj (λx=>?_) (λx=>?_)
     all_goals
      unfold cJ;dsimp only;rw[ac];simp only[gc,ga]
      try rw[hy]
      rw[if_neg ag];rfl
  |code c hc=>
   cases c with
   |skip=>exact .stay (W hk) (λ_=>rfl) (λ_=>rfl)|label l=>exact .stay (W hk) (λ_=>rfl) (λ_=>rfl)|ret=>
    cases ad with
    |none=>exact .stay ai (λ_=>rfl) (λ_=>rfl)|some hl=>exact r8 i! hS hl (y? .ret) (λ_ h=>by cases h;trivial) (λ_=>rfl) (λ_=>rfl)
   |seq x y=>exact .stay (W (.cons (.code x hc.1) (.cons (.code y hc.2) hk))) (λ_=>rfl) (λ_=>rfl)|cond c x y=>
    have hv:=ak c (by have:=hc.1;cases c<;>first|exact this|exact this.elim);generalize hp:en _ c=p at hv;generalize ae:en _ c=p' at hv;cases hv<;>first|exact .bad (λx _ _=>by unfold cJ;dsimp only;rw[hp];exact .ended _ _ _)|skip
    rename_i t;refine .stay (W (.cons (.code (if t then x else y) ?_) hk)) (λx=>by unfold cJ;dsimp only;rw[hp];rfl) (λx=>by unfold cJ;dsimp only;rw[ae];rfl);cases t;exact hc.2.2;exact hc.2.1
   |block i x=>exact .stay (W (.cons (.code x hc) (.cons (.inBlock i) hk))) (λ_=>rfl) (λ_=>rfl)|loop x=>exact .stay (W (.cons (.code x hc) (.cons (.inLoop x hc) hk))) (λ_=>rfl) (λ_=>rfl)|scope x=>exact .stay (W (.cons (.code x hc) (.cons (.inScope x hc) hk))) (λ_=>rfl) (λ_=>rfl)|exit i=>
    have he:=A2 i hk;generalize hp:bY i k=p at he;generalize ae:bY i k'=p' at he
    cases he with
    |some an=>exact .stay (W an) (λx=>by unfold cJ;dsimp only;rw[hp];rfl) (λx=>by unfold cJ;dsimp only;rw[ae];rfl)|none=>
     cases ad with
     |none=>exact .bad (λx _ _=>by unfold cJ;dsimp only;rw[hp];exact .ended _ _ _)|some hl=>exact r8 i! hS hl (y? (.exit i)) (λ_ h=>by cases h;trivial) (λx=>by unfold cJ;dsimp only;rw[hp];rfl) (λx=>by unfold cJ;dsimp only;rw[ae];rfl)
   |goto l=>
    have he:=AX l hk;generalize hp:bX l k=p at he;generalize ae:bX l k'=p' at he
    cases he with
    |some an=>exact .stay (W an) (λx=>by unfold cJ;dsimp only;rw[hp];rfl) (λx=>by unfold cJ;dsimp only;rw[ae];rfl)|none=>
     cases ad with
     |none=>exact .bad (λx _ _=>by unfold cJ;dsimp only;rw[hp];exact .ended _ _ _)|some hl=>exact r8 i! hS hl (y? (.goto l)) (λ_ h=>by cases h;trivial) (λx=>by unfold cJ;dsimp only;rw[hp];rfl) (λx=>by unfold cJ;dsimp only;rw[ae];rfl)
   |rangeFunc f ps a x=>
    refine .run (Ha (P:=P) (fn:=B) (ps:=ps) hF.tmps hc.2.1 hc.2.2 ad) (E:=λ_ es=>bE P B es) (E':=λ_ es=>bE P B es)
     (K:=λr=>match r with|.ok (l,mark) w=>cI P t? ⟨B,tm,.inRangeFunc l::k,mark++df,md,kd,rd⟩ cs x? (do let d <-bW (en ⟨B,tm,.inRangeFunc l::k,mark++df,md,kd,rd⟩) {callee:=.value f,args:=#[.const (.func (.yield l) #[] #[])],argTypes:=#[]} 0;invoke d.target d.args) w|.halt _ w=>.ended (.stuck "range over a function: no such loop" (er P ⟨B,tm,.code (.rangeFunc f ps a x)::k,df,md,kd,rd⟩)) w)
     (K':=λr=>match r with|.ok (l,mark) w=>cI P t? ⟨B,O,.inRangeFunc l::k',mark++Y,ab,aa,U⟩ cs' x? (do let d <-bW (en ⟨B,O,.inRangeFunc l::k',mark++Y,ab,aa,U⟩) {callee:=.value f,args:=#[.const (.func (.yield l) #[] #[])],argTypes:=#[]} 0;invoke d.target d.args) w|.halt _ w=>.ended (.stuck "range over a function: no such loop" (er P ⟨B,O,.code (.rangeFunc f ps a x)::k',Y,ab,aa,U⟩)) w)
     (λx r es e=>by unfold cJ;dsimp only;rw[e];rfl) (λx r es e=>by unfold cJ;dsimp only;rw[e];rfl) (λ_ _ _ h=>o9 h) ?_ (λ_ _ _ _ _=>.bad λ_ _ _=>.ended _ _ _) (λ_ _ _=>.ended _ _ _)
    rintro dA ⟨l,mk⟩ ⟨l',mk'⟩ hm ⟨ar,aw⟩
    have au:gT dA ⟨B,tm,.inRangeFunc l::k,mk++df,md,kd,rd⟩ ⟨B,O,.inRangeFunc l'::k',mk'++Y,ab,aa,U⟩:=
     ⟨q?,hF.tmps.mono hm,.cons (.inRangeFunc ar) (hk.mono λ_ _ y=>y.mono hm),aw.append ((hF.mono hm).defers),(hF.mono hm).mode,(hF.mono hm).round⟩
    refine .app (hX.mono hm).env (hS.set hm au q? q? q? q?) (.base (dJ (qG (au.eval (hX.mono hm).qa f (by have:=hc.1;cases f<;>first|exact this|exact this.elim)) (by simpa[en]using eP.one (VR.K6 (NN.yield ar) (.nil dA) (.nil dA)))) λm' d d' hl hd=>?_)) (λ_=>rfl) (λ_=>rfl);exact s8 ((hX.mono hm).env.mono hl) hd.1.target hd.2 hd.1.args
   |region i ops d=>
    cases d with
    |false=>exact .stay (W (.cons (.inRegion ops _ hc) hk)) (λ_=>rfl) (λ_=>rfl)|true=>
     refine .run (RA:=yw) (t:=choose (.order B i)) (t':=choose (.order B i)) (E:=λ_ _=>#[]) (E':=λ_ _=>#[])
      (K:=λr=>match r with|.ok t w=>.go {frame:=⟨B,tm,.inRegion ops (gB (P.follows .mixedOrders) ops t)::k,df,md,kd,rd⟩,callers:=cs,status:=.running,dying:=x?} w|.halt _ w=>.ended (.stuck "order" (er P ⟨B,tm,.code (.region i ops t?)::k,df,md,kd,rd⟩)) w)
      (K':=λr=>match r with|.ok t w=>.go {frame:=⟨B,O,.inRegion ops (gB (P.follows .mixedOrders) ops t)::k',Y,ab,aa,U⟩,callers:=cs',status:=.running,dying:=x?} w|.halt _ w=>.ended (.stuck "order" (er P ⟨B,O,.code (.region i ops t?)::k',Y,ab,aa,U⟩)) w)
      (.choose λn=>.pure q?) (λx r es e=>?_) (λx r es e=>?_) (λ_ _ _ _ e h=>by simp at h) ?_ (λ_ _ _ _ _=>.bad λ_ _ _=>.ended _ _ _) (λ_ _ _=>.ended _ _ _)
     have q:(choose (.order B i)).run P x=r:=by rw[<-cM P _ x #[],e]
     rw[oz,<-q];rfl;have q:(choose (.order B i)).run P x=r:=by rw[<-cM P _ x #[],e]
     rw[oz,<-q];rfl;rintro dA a b hm rfl;exact .stay (hS.set hm (g:=⟨B,tm,_,df,md,kd,rd⟩) (g':=⟨B,O,_,Y,ab,aa,U⟩) (JI (hF.mono hm) (.cons (.inRegion ops _ (hm.ok▸hc)) (hk.mono λ_ _ y=>y.mono hm))) q? q? q? q?) (λ_=>rfl) (λ_=>rfl)
   |refuse y=>exact hc.elim
def yI.eq{g g':w?->GStep}(F:yI P T main' ok m f f')(h:∀x,g x=f x)(h':∀x,g' x=f' x):yI P T main' ok m g g':=by rw[funext h,funext h'];exact F
def pJ(hX:mF P m gl st){fr fr' cs cs'}(hS:ed P m T (fr::cs) (fr'::cs')){d d'}(hd:DR m d d')(hn:∀x y z,d.target≠.builtin .close x y z):yI P T main' ok m (bM P fr cs x? d) (bM P fr' cs' x? d'):=by
 have Y:dz P (iI P) m (invoke d.target d.args) (invoke d'.target d'.args):=s8 hX.env hd.target (by
  intro bb x y z e;have B:=hd.target;rw[e]at B;revert B;generalize d'.target=t';intro B;cases B
  exact hn x y z e) hd.args
 have O:=hS.rM.mode;have aa:=Be hd
 have ab:((fr'.mode matches .panicking _):Bool)=(fr.mode matches .panicking _):=by revert O;generalize fr.mode=q;generalize fr'.mode=q';intro h;cases h<;>rfl
 by_cases hc:((d.target matches .nil)&&(fr.mode matches .panicking _))=t?;exact .bad λx _ _=>by rw[show bM P fr cs x? d x=_ from if_pos hc];exact .ended _ _ _
 refine .run Y (E:=λr es=>bE P fr.fn (match r with|.halt .blocked _|.halt .waiting _=>#[]|_=>es)) (E':=λr es=>bE P fr'.fn (match r with|.halt .blocked _|.halt .waiting _=>#[]|_=>es)) (λx r es e=>by rw[show bM P fr cs x? d x=_ from if_neg hc,e];rfl)
  (λx r es e=>by rw[show bM P fr' cs' x? d' x=_ from if_neg λh=>hc ((congr (congrArg and aa) ab).symm.trans h),e];rfl) (λdA r es h=>o9 (by split<;>simp_all)) ?_ ?_ ?_
 intro dA a a' hm ha;have W:=hS.mono hm
 cases ha with
 |enter hf U ha=>exact .stay (W.push (D5 ((hX.env.mono hm).calls _ hf) U ha .deferred .deferred) q? (.inr q?)) (λ_=>rfl) (λ_=>rfl)|round hl B ha U=>rename_i l l' f t t' a c;have ac:gT dA (ev l f t a c .deferred) (ev l' f t' a c .deferred):=⟨q?,B,.cons (.code _ ha) (.cons .beginRound (.cons (.code _ U) .nil)),.nil,.run,.some hl⟩;exact .stay (W.push ac q? (.inr q?)) (λ_=>rfl) (λ_=>rfl)
 |recover=>
  have B:=vX W;generalize hq:fr.mode=q at O;generalize ad:fr'.mode=q' at O
  cases O with
  |run|panicking=>exact .stay W (λ_=>rfl) (λ_=>rfl)|returning=>
   generalize hp:bB _ cs=p at B;generalize ae:bB _ cs'=p' at B
   cases B with
   |none=>exact .stay W (λ_=>rfl) (λ_=>rfl)|some hx=>exact .stay hx.2 (λ_=>rfl) (λ_=>rfl)
 |_=>exact .stay W (λ_=>rfl) (λ_=>rfl)
 intro dA v v' hm hv;have hf:=(hS.rM.mono hm).raise (vs:=[{v,recovered:=f?}]) (vs':=[{v:=v',recovered:=f?}]) (.cons ⟨hv,q?,q?⟩ .nil);exact .stay (hS.set hm hf.1 hf.2.1 hf.2.2 (pK ..) (vJ ..)) (λ_=>rfl) (λ_=>rfl);intro x w hx
 cases x with
 |throw y=>exact .throw ..|stuck y=>exact .ended ..|unsupported u=>exact .ended ..|_=>exact hx.elim
def Fi(hX:mF P m gl st){fr fr' cs cs'}(hS:ed P m T (fr::cs) (fr'::cs'))(hm:fr.mode≠.run)(hn:¬AtClose fr)(O:ok->cs=[door P]->fr.mode≠.run->fr.defers=[]->fr.roundOf=x?->False):yI P T main' ok m (bL P t? fr cs x?) (bL P main' fr' cs' x?):=by
 have hF:=hS.rM;have ab:=hF.defers;have U:=hF.mode;have ac:=hF.fn;unfold AtClose at hn;obtain⟨fn,tm,td,df,md,kd,rd⟩:=fr;obtain⟨B,ad,ae,ar,af,ag,ah⟩:=fr';simp only at ab U hm hn O ac;subst ac
 cases ab with
 |cons hd ai=>
  rename_i d d' ds aj;have ak:ed P m T (⟨B,tm,td,ds,md,kd,rd⟩::cs) (⟨B,ad,ae,aj,af,ag,ah⟩::cs'):=hS.set (.refl m) ⟨hF.fn,hF.tmps,hF.todo,ai,U,hF.round⟩ q? q? q? rfl;have ht:=hd.target;obtain⟨dt,da⟩:=d;obtain⟨au,am⟩:=d';simp only at ht
  cases ht with
  |collected an=>
   rename_i r r';refine .run (zV (P:=P) an) (E:=λ_ es=>bE P B es) (E':=λ_ es=>bE P B es) (λx r es e=>by unfold bL;dsimp only;rw[e];dsimp only) (λx r es e=>by unfold bL;dsimp only;rw[e];dsimp only) (λ_ _ _ h=>o9 h) (λdA a a' Y ha=>?_) (λ_ _ _ _ _=>.bad λ_ _ _=>?_) (λ_ _ _=>?_)<;>try exact .ended _ _ _
   exact .stay (hS.set Y (g:=⟨B,tm,td,a++ds,md,kd,rd⟩) (g':=⟨B,ad,ae,a'++aj,af,ag,ah⟩) ⟨hF.fn,hF.tmps.mono Y,(hF.mono Y).todo,ha.append (ai.mono λ_ _ x=>x.mono Y),U.mono Y,(hF.mono Y).round⟩ q? q? q? q?) (λ_=>rfl) (λ_=>rfl)
  |nil=>exact(pJ hX ak (d:=⟨.nil,da⟩) (d':=⟨.nil,am⟩) ⟨.nil,hd.args⟩ (λ_ _ _ h=>by cases h)).eq (λ_=>rfl) (λ_=>rfl)|fn hf=>exact(pJ hX ak (d:=⟨_,da⟩) (d':=⟨_,am⟩) ⟨.fn hf,hd.args⟩ (λ_ _ _ h=>by cases h)).eq (λ_=>rfl) (λ_=>rfl)|builtin x y z av=>exact absurd ⟨hm,x,y,z,_,_,q?⟩ hn|mark x y z ao=>refine .bad λx _ hw=>?_;obtain⟨q,aq,e1⟩:=N9 (P:=P) ao hw;rw[<-cM P _ x #[]]at e1;unfold bL;dsimp only;rw[e1];exact P7.after (.ended _ _ _) _
 |nil=>
  cases U with
  |run=>exact absurd q? hm|returning=>
   cases W:P.funcs[B]? with
   |none=>exact .ret hS (λo e h=>O o e i! q? h) (hF.tmps.getD 0) (λx=>by unfold bL;dsimp only;rw[W]) (λx=>by unfold bL;dsimp only;rw[W])|some f=>
    refine .run (mX (P:=P) (fn:=f) hF.tmps) (E:=λ_ es=>bE P B es) (E':=λ_ es=>bE P B es) (λx r es e=>by unfold bL;dsimp only;rw[W];dsimp only;rw[e];dsimp only) (λx r es e=>by unfold bL;dsimp only;rw[W];dsimp only;rw[e];dsimp only) (λ_ _ _ h=>o9 h)
     (λdA a a' Y ha=>?_) (λ_ _ _ _ _=>.bad λ_ _ _=>?_) (λx _ _=>?_)
    exact .ret (hS.mono Y) (λo e h=>O o e i! q? h) ha (λ_=>rfl) (λ_=>rfl);exact .ended _ _ _
    cases x<;>exact .ended _ _ _
  |panicking ap=>
   have lg:∀{q q':Frame},gT m q q'->e8 P q=f?/\e8 P q'=f?:=by
    intro q q' hq;have:=hq.todo;unfold e8;revert this;generalize q.todo=l;generalize q'.todo=l';intro ht
    cases ht with
    |nil=>constructor <;>(split<;>first|rfl|simp_all)
    |cons hi _=>cases hi <;>(constructor <;>(split<;>first|rfl|simp_all))
   have aa:=lg hF
   cases hS with
   |one hf h1 h2 h3=>exact .low (λo=>O o q? i! q? h3) (λx=>by unfold bL;dsimp only;rw[aa.1];rfl)|cons hf h1 h2 h3=>have hr:=h3.rM.raise ap;exact .stay (h3.set (.refl m) hr.1 hr.2.1 hr.2.2 (pK ..) (vJ ..)) (λx=>by unfold bL;rw[aa.1];rfl) (λx=>by unfold bL;rw[aa.2];rfl)
def Fy(hX:mF P m gl st){fr fr' cs cs'}(W:ed P m T (fr::cs) (fr'::cs'))(hn:¬AtClose fr)(O:ok->cs=[door P]->fr.mode≠.run->fr.defers=[]->fr.roundOf=x?->False):yI P T main' ok m (bG P t? (G fr cs)) (bG P main' (G fr' cs')):=by
 have B:=W.rM.mode;generalize Y:fr.mode=q at B;generalize U:fr'.mode=q' at B
 cases B with
 |run=>exact(Ln hX W).eq (λx=>by unfold bG;simp only[G,Y]) (λx=>by unfold bG;simp only[G,U])|returning|panicking=>exact(Fi hX W (by rw[Y];simp) hn O).eq (λx=>by unfold bG;simp only[G,Y]) (λx=>by unfold bG;simp only[G,U])
def zP(U:mF P m gl st){fr fr' cs cs'}(W:ed P m T (fr::cs) (fr'::cs'))(Y:¬AtClose fr)(B:cs=[door P]->fr.mode≠.run->fr.defers=[]->fr.roundOf=x?->False){w}(hw:WR m w w')(O:Al w w'){main' w₁ es}
  (h:bG P t? (G fr cs) w=.go (G fM fN) w₁ es):oT P m T (bG P main' (G fr' cs') w') w' fM fN w₁:=(Fy (ok:=True) U W Y λ_=>B).out trivial hw O h
def yM(B:mF P m gl st){fr fr' cs cs'}(O:ed P m T (fr::cs) (fr'::cs'))(U:¬AtClose fr):yI P T main' False m (bG P t? (G fr cs)) (bG P main' (G fr' cs')):=Fy B O U False.elim
def Sa(B:mF P m gl st){fr fr' cs cs'}(O:ed P m T (fr::cs) (fr'::cs'))(U:¬AtClose fr){w}(W:WR m w w'){w₁ es}
  (h:bG P t? (G fr cs) w=.go (G fM fN) w₁ es):yZ P (bG P t? (G fr cs)) w fM fN w₁:=
 (yM (main':=t?) B O U).loc (R:=λx es=>.go _ x es) ⟨wz,λ_ _ _=>⟨_,q?⟩,λh=>h.go,TT,λh=>Ee _ _ _ _ _ _ _ _ _ h,λa b c h=>MA B.env.TM a b c h⟩ W h
def OX(B:mF P m gl st){fr fr' cs cs'}(O:ed P m T (fr::cs) (fr'::cs'))(U:¬AtClose fr){w}(W:WR m w w'):qB P (bG P t? (G fr cs) w):=(yM (main':=t?) B O U).outs W
def Kv(O:mF P m gl st){fr fr' cs cs'}(U:ed P m T (fr::cs) (fr'::cs'))(W:¬AtClose fr){w}(Y:WR m w w')(B:Al w w'){main'}:QJ P m T (bG P t? (G fr cs) w) (bG P main' (G fr' cs') w') w':=(yM O U W).via Y B
def wA(hX:mF P m gl st){fr fr' cs cs'}(hS:ed P m T (fr::cs) (fr'::cs'))(hn:¬AtClose fr){w}(hw:WR m w w')(W:Al w w'){main' g w₁ es}
  (h:bG P t? (G fr cs) w=.comm g k b sh w₁ es):KX P m T (bG P main' (G fr' cs') w') w' g k b sh w₁:=by
 have hv:=Kv hX hS hn hw W (main':=main');rw[h]at hv;obtain⟨dA,X,X',f,c,f',c',s,s',w2,ae,Y,e2,hl,hE,aa,hs,ab,B,hk,hx⟩|hp:=hv
 rw[e2];generalize hr:cI P t? f c x? s w2=r at Y;cases r<;>simp only[cK,GStep.comm.injEq,reduceCtorEq]at Y;obtain⟨rfl,rfl,rfl,rfl,rfl,_⟩:=Y;obtain⟨ac,ad,m₂,O,U,k',w3,af,rfl,g1,g0,g2,g3,g4,g5,g6,g7⟩:=Ig hE aa hs ab B hr;rw[g1];exact⟨ac,ad,m₂,O,U,k',w3,_,q?,q?,g0.imp (λx=>hl.jf▸x) id,hl.trans g2,g3,g4,g5,hk.trans hl g2 g6,ul g2 hx g7⟩
 cases hp
def M1(hX:mF P m gl st){fr fr' cs cs'}(hS:ed P m T (fr::cs) (fr'::cs'))(hn:¬AtClose fr){w}(hw:WR m w w')(W:Al w w'){main' g ch w₁ es}
  (h:bG P t? (G fr cs) w=.spawn g ch w₁ es):K9 P m T (bG P main' (G fr' cs') w') w' g ch w₁:=by
 have hv:=Kv hX hS hn hw W (main':=main');rw[h]at hv;obtain⟨dA,X,X',f,c,f',c',s,s',w2,ae,Y,e2,hl,hE,aa,hs,ab,B,hk,hx⟩|hp:=hv
 rw[e2];generalize hr:cI P t? f c x? s w2=r at Y;cases r<;>simp only[cK,GStep.spawn.injEq,reduceCtorEq]at Y;obtain⟨rfl,rfl,rfl,_⟩:=Y;obtain⟨ac,ad,d,m₂,O,U,d',w3,af,rfl,rfl,g1,g0,g2,g3,g4,g5,g6,g7⟩:=Ff hE aa hs ab B hr;rw[g1];exact⟨ac,ad,d,m₂,O,U,d',w3,_,q?,q?,q?,hl.jf▸g0,hl.trans g2,g3,g4,g5,hk.trans hl g2 g6,ul g2 hx g7⟩
 cases hp
def NR(B:mF P m gl st){fr fr' cs cs'}(O:ed P m T (fr::cs) (fr'::cs'))(U:¬AtClose fr){w}(W:WR m w w'){g w₁ es}
  (h:bG P t? (G fr cs) w=.comm g k b sh w₁ es):F3 P (bG P t? (G fr cs)) w g k b sh w₁:=
 (yM (main':=t?) B O U).loc (R:=λx es=>.comm g k b sh x es) ⟨IY,λ_ _ _=>⟨_,q?⟩,λh e=>W7 h.plain e,nofun,λh=>W7 (sJ ..) h,λa b c h=>Jy B.env.TM a b c h⟩ W h
end
end
