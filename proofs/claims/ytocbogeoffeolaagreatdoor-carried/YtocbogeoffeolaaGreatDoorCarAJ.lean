import Derived.Test.YtocbogeoffeolaaGreatDoorCarAI
import Derived.Test.YtocbogeoffeolaaGreatDoorCards
import Derived.Test.YtocbogeoffeolaaGreatDoorTie
import Derived.Conc.LeavingOf
import Derived.Deep.DeepHandedRow
import Derived.Lib.LaidTab
import Derived.LaidMore
import Derived.Stop.LaidErr
import Derived.OpenShut
set_option linter.all false
set_option maxHeartbeats 8000000
set_option maxRecDepth 1000000
open Classical renaming choose_spec->a2,choose->a3,propDecidable->a4
open Array renaming getElem?_eq_getElem->aI,getElem_ofFn->aJ,getElem?_eq_some_iff->aK,getElem?_eq_none->aL,getElem?_mapIdx->aM,sizeOf_getElem->aN,ofFn->aO,getElem_map->aP
open Go.Proofs.Tryz renaming underlying3->aQ,underlying48->aR,underlying26->aS,underlying25->aT,func9->aU,underlying141->aV,checked->aW
open Go renaming trodAll_cons_mk->aX,TypeId->aY,ReturnsInLeavingWide->aZ,laidMetH->ba,FuncId->bc
open Option.some renaming inj->bd,injEq->be
open Go.DataW renaming trod_lt->bf,trod->bg,Trod->bh,trod_struct->bi,trod_int->bj
open Go.Proofs.YtocbogeoffeolaaGreatDoor.Rows renaming carriedSpec->bk,carriedRow->bl
open Go.Value renaming okWide->bm
open List renaming getElem?_eq_getElem->bn,mem_of_mem_take->bo
open Go.World renaming cell?->bp,doorLaid->bq
open Nat renaming le_refl->br
open Go renaming undef->bs
namespace Go.Proofs.YtocbogeoffeolaaGreatDoor
open Go.Proofs.Tryz
section
open Go.Conc Go.RowKit
variable {Z:jj prog} {b r:Nat} {m:Ren} {v v':Value}
def stands:∀v:Value,∃x,(∀m,VR m x v)/\∀t z,v=.iface t z->∃B,x=.iface t B
 |.bool b=>⟨_,λ_=>.bool b,λ_ _ e=>(by cases e)⟩
 |.int k n=>⟨_,λ_=>.int k n,λ_ _ e=>(by cases e)⟩
 |.string s=>⟨_,λ_=>.string s,λ_ _ e=>(by cases e)⟩
 |.float k b=>⟨_,λ_=>.fV _ trivial,λ_ _ e=>(by cases e)⟩
 |.complex k a b=>⟨_,λ_=>.fV _ trivial,λ_ _ e=>(by cases e)⟩
 |.pointer none=>⟨_,λ_=>.gR,λ_ _ e=>(by cases e)⟩
 |.pointer (some a)=>⟨_,λ_=>.fV _ trivial,λ_ _ e=>(by cases e)⟩
 |.slice none l c=>⟨_,λ_=>.fE l c,λ_ _ e=>(by cases e)⟩
 |.slice (some a) l c=>⟨_,λ_=>.fV _ trivial,λ_ _ e=>(by cases e)⟩
 |.map none=>⟨_,λ_=>.mQ,λ_ _ e=>(by cases e)⟩
 |.map (some r)=>⟨_,λ_=>.fV _ trivial,λ_ _ e=>(by cases e)⟩
 |.chan none=>⟨_,λ_=>.je,λ_ _ e=>(by cases e)⟩
 |.chan (some r)=>⟨_,λ_=>.fV _ trivial,λ_ _ e=>(by cases e)⟩
 |.nilFunc=>⟨_,λ_=>.nilFunc,λ_ _ e=>(by cases e)⟩
 |.nilIface=>⟨_,λ_=>.nilIface,λ_ _ e=>(by cases e)⟩
 |.tuple c=>⟨_,λ_=>.fV _ trivial,λ_ _ e=>(by cases e)⟩
 |.iface t v=>by
  obtain⟨x,U,_⟩:=stands v
  exact⟨.iface t x,λm=>.iface t (U m),λ_ _ e=>(by cases e;exact⟨_,rfl⟩)⟩
 |.agg c=>by
  have y:∀i(h:i<c.size),∃x,(∀m,VR m x c[i])/\∀t z,c[i]=.iface t z->∃B,x=.iface t B:=λi h=>stands _;refine⟨.agg (aO λi=>a3 (y _ i.2)),λm=>.agg (by simp) λi h Y=>?_,λ_ _ e=>(by cases e)⟩;simp only[aJ];exact(a2 (y i _)).1 m
 |.func (.func f) a c=>⟨_,λ_=>.fV _ trivial,λ_ _ e=>(by cases e)⟩
 |.func (.methodOf t n) a c=>⟨_,λ_=>.fV _ trivial,λ_ _ e=>(by cases e)⟩
 |.func (.via t p f b) a c=>⟨_,λ_=>.fV _ trivial,λ_ _ e=>(by cases e)⟩
 |.func (.yield l) a c=>⟨_,λ_=>.fV _ trivial,λ_ _ e=>(by cases e)⟩
 |.func (.method n) f c=>by
  have y:∀i(h:i<f.size),∃x,(∀m,VR m x f[i])/\∀t z,f[i]=.iface t z->∃B,x=.iface t B:=λi h=>stands _;refine⟨.func _ (aO λi=>a3 (y _ i.2)) _,λm=>.ri (by simp) (λi h Y=>?_) (λt w hw=>?_),λ_ _ e=>(by cases e)⟩;simp only[aJ];exact(a2 (y i _)).1 m;obtain⟨O,e0⟩:=aK.1 hw;obtain⟨z,hz⟩:=(a2 (y 0 O)).2 t w e0;refine⟨z,?_⟩;rw[aI (by simpa using O)];simp only[aJ];rw[hz]
termination_by v=>SizeOf.sizeOf v
decreasing_by
 all_goals simp_wf
 all_goals(first|omega|(have:=aN c i h;omega)|(have:=aN f i h;omega))
def El(Mp:Nat->Prop):Value->Prop
 |.bool _|.int _ _|.string _|.pointer none|.slice none _ _|.map none|.chan none|.nilFunc|.nilIface=>True|.pointer (some a)=>Mp a.block|.slice (some a) _ _=>Mp a.block|_=>False
def KC(Mp:Nat->Prop)(v:Value)(B:¬El Mp v):∃x,(∀m,VR m x v)/\(oL x\/∀m v',VR m x v'->v'=v):=by
 have y:QJ v->∃x,(∀m,VR m x v)/\(oL x\/∀m v',VR m x v'->v'=v):=λh=>⟨.tuple _,λm=>.fV _ h,.inl trivial⟩
 cases v with
 |bool b=>exact absurd trivial B|int k n=>exact absurd trivial B|string s=>exact absurd trivial B|float k b=>exact y trivial|complex k a b=>exact y trivial|pointer a=>cases a with|none=>exact absurd trivial B|some a=>exact y trivial
 |slice a l c=>cases a with|none=>exact absurd trivial B|some a=>exact y trivial
 |map a=>cases a with|none=>exact absurd trivial B|some a=>exact y trivial
 |chan a=>cases a with|none=>exact absurd trivial B|some a=>exact y trivial
 |nilFunc=>exact absurd trivial B|nilIface=>exact absurd trivial B|iface t v=>exact y trivial|tuple c=>exact y trivial|agg c=>
  obtain⟨x,U,_⟩:=stands (.agg c)
  have hx:oL x:=by
   have:=U ⟨λ_=>none,λ_=>none,λ_=>False,λ_=>True,λ_=>True,False,λ_=>False,λ_=>0,λ_ _=>none,λ_=>none,0,λ_ _ h=>(by cases h),λ_ _ _ h=>(by cases h),λ_ _ _ h=>(by cases h)⟩;cases this<;>trivial
  exact⟨x,U,.inl hx⟩
 |func fn f c=>
  cases fn with
  |func g=>exact y trivial|methodOf t n=>exact y trivial|via t p g b=>exact y trivial|yield l=>exact y trivial|method n=>
   have O:∀i(h:i<f.size),∃x,(∀m,VR m x f[i])/\∀t z,f[i]=.iface t z->∃z',x=.iface t z':=λi h=>stands _;refine⟨.func _ (aO λi=>a3 (O _ i.2)) _,λm=>.ri (by simp) (λi h h'=>?_) (λt w hw=>?_),.inr λm v' h=>?_⟩;simp only[aJ];exact(a2 (O i _)).1 m;obtain⟨Y,e0⟩:=aK.1 hw;obtain⟨z,hz⟩:=(a2 (O 0 Y)).2 t w e0;refine⟨z,?_⟩;rw[aI (by simpa using Y)];simp only[aJ];rw[hz]
   cases h with
   |func hf=>cases hf
   |ri _ _ _=>rfl
def NK{Mp:Nat->Prop}(hm:∀r,Mp r->m.blk r=some r)(h:El Mp v):VR m v v:=by
 cases v with
 |bool b=>exact .bool b|int k n=>exact .int k n|string s=>exact .string s|pointer a=>cases a with|none=>exact .gR|some a=>exact .ptr (.mk (hm _ h))
 |slice a l c=>cases a with|none=>exact .fE l c|some a=>exact .slice l c (.mk (hm _ h))
 |map a=>cases a with|none=>exact .mQ|some a=>exact h.elim
 |chan a=>cases a with|none=>exact .je|some a=>exact h.elim
 |nilFunc=>exact .nilFunc|nilIface=>exact .nilIface|_=>exact h.elim
def Mz{Mp:Nat->Prop}(hm:∀r,Mp r->m.blk r=some r)(h:El Mp v)(O:VR m v v'):v'=v:=by
 have y:∀{a B:Addr},Mp a.block->AR m a B->B=a:=fun {a B} ha x=>by
  cases x with
  |mk hb=>
   rw[hm _ ha]at hb;cases hb;rfl
 cases O with
 |fV _ _=>exact h.elim|ptr x=>rw[y h x]|slice l c x=>rw[y h x]|map _=>exact h.elim|gone _=>exact h.elim|chan _=>exact h.elim|func _ _ _ _ _=>exact h.elim|iface _ _=>exact h.elim|agg _ _=>exact h.elim|tuple _ _=>exact h.elim|ri _ _ _=>exact h.elim|_=>rfl
noncomputable def QO (Mp:Nat->Prop) (v:Value):Value:=@dite _ (El Mp v) (a4 _) (λ_=>v) λh=>a3 (KC Mp v h)
def uI{Mp:Nat->Prop}(h:El Mp v):QO Mp v=v:=by simp[QO,h]
def Gn{Mp:Nat->Prop}(h:¬El Mp v):QO Mp v=a3 (KC Mp v h):=by simp[QO,h]
def UX{Mp:Nat->Prop}(hm:∀r,Mp r->m.blk r=some r)(v:Value):VR m (QO Mp v) v:=by
 by_cases h:El Mp v;rw[uI h];exact NK hm h;rw[Gn h];exact(a2 (KC Mp v h)).1 m
def Q0{Mp:Nat->Prop}(hm:∀r,Mp r->m.blk r=some r)(y:VR m (QO Mp v) v'):oL (QO Mp v)\/v'=v:=by
 by_cases h:El Mp v;rw[uI h]at y;exact .inr (Mz hm h y);rw[Gn h]at y⊢;exact(a2 (KC Mp v h)).2.imp id λx=>x m v' y
noncomputable def UR (Mp:Nat->Prop):Obj->Obj
 |.cells c e f=>.cells (c.map (QO Mp)) e f|o=>o
noncomputable def nK (W0:World) (Mp:Nat->Prop):World:={W0 with heap:=W0.heap.mapIdx λb o=>@ite _ (Mp b) (a4 _) (UR Mp o) o}
section
variable {W0:World} {Mp:Nat->Prop}
def qP:(nK W0 Mp).heap.size=W0.heap.size:=by simp[nK]
def pK(h:Mp b){c:Array Value}{e:aY}{f:Nat×Nat}(hb:W0.heap[b]?=some (.cells c e f)):(nK W0 Mp).heap[b]?=some (.cells (c.map (QO Mp)) e f):=by
 unfold nK;simp only[aM,hb];simp[h,UR]
def CR(h:¬Mp b):(nK W0 Mp).heap[b]?=W0.heap[b]?:=by
 unfold nK;simp only[aM]
 cases W0.heap[b]? with
 |none=>rfl|some o=>simp[h]
def jH{a:Addr}(B:El Mp v)(h:W0.cell? a=some v):(nK W0 Mp).cell? a=some v:=by
 by_cases hm:Mp a.block;unfold bp at h⊢
 cases y:W0.heap[a.block]? with
 |none=>rw[y]at h;cases h
 |some o=>
  rw[y]at h
  cases o with
  |cells c e f=>
   rw[pK hm y];simp only at h⊢;split at h
   cases h;rename_i O;rw[if_neg O,Array.getElem?_map,h];simp[uI B]
  |_=>cases h
 unfold bp at h⊢;rw[CR hm];exact h
noncomputable def nS (W0:World) (Mp:Nat->Prop):Ren where
 blk:=λr=>@ite _ (Mp r) (a4 _) (some r) none
 ch:=λ_=>none
 loose:=λ_=>False
 ok:=OW prog tP rj true
 fF:=λf=>tP f=true
 iq:=False
 dead:=λ_=>False
 dm:=λ_=>0
 sW:=λr o=>@ite _ (Mp r) (a4 _) (W0.cell? ⟨r,o,none⟩) none
 lz:=λ_=>none
 G:=5
 po:=λr r' h=>by split at h<;>cases h;exact Iff.rfl
 inj:=λr s t h1 h2=>by
  split at h1<;>cases h1
  split at h2<;>cases h2
  rfl
 vF:=λ_ _ _ h=>by cases h
def oc(h:Mp r):(nS W0 Mp).blk r=some r:=by simp[nS,h]
def oH{r':Nat}(h:(nS W0 Mp).blk r=some r'):Mp r/\r'=r:=by
 simp only[nS]at h;split at h
 cases h;exact⟨by assumption,rfl⟩
 cases h
def LJ(h5:5<=W0.heap.size)(U:∀r,Mp r->∃c e f,W0.heap[r]?=some (.cells c e f)):WR (nS W0 Mp) (nK W0 Mp) W0:=by
 refine⟨λr r' y=>?_,λr r' c e f Y e' f' y O B _=>?_,nofun,λ_ _ h=>(by cases h),by rw[qP];exact h5,h5,rfl,λ_ _ h=>(by cases h),nofun,nofun,λr o v hv=>?_⟩;obtain⟨hm,rfl⟩:=oH y;obtain⟨c,e,f,hb⟩:=U _ hm
 exact⟨_,_,pK hm hb,hb,.cells e f f (eD.il (by simp) λi h h'=>by
  simp only[aP]
  exact UX (λr y=>oc y) _)⟩
 obtain⟨hm,rfl⟩:=oH y;rw[pK hm B]at O;cases O;rfl;simp only[nS]at hv;split at hv
 rename_i hm;refine⟨r,oc hm,λc e f Y e' f' x _ B _ _=>?_⟩;unfold bp at hv;rw[B]at hv;simpa using hv
 cases hv
def MX(B:∀g,rj g=true->Mp g):Rg (fg Z W0 Mp) (nS W0 Mp):=
 ⟨Tn rfl rfl rfl (nofun) (λg O=>oc (B g O)),id,λ_ _ h=>(by cases h),rfl,rfl,λr y=>oc y,λr o v y U=>by simp[nS,y,U]⟩
def Q'{wS w:World}(hc:∀r,Mp r->∃c e f,W0.heap[r]?=some (.cells c e f))(y:Rg (fg Z W0 Mp) m)(hw:WR m wS w)(ab:∀b,(fg Z W0 Mp).fK b->w.heap[b]?=(fg Z W0 Mp).w0.heap[b]?)(O:∀k,k<W0.heap.size->wS.heap[k]?=(nK W0 Mp).heap[k]?) :
  ∀b,b<W0.heap.size->w.heap[b]?=W0.heap[b]?:=by
 intro b hb;by_cases hm:Mp b;obtain⟨c,e,f,B⟩:=hc b hm;have U:=y.x.1 b hm;obtain⟨o,o',h1,h2,h3⟩:=hw.obj b b U;rw[O b hb,pK hm B]at h1;cases h1
 cases h3 with
 |@cells _ c' _ _ f' ac=>
  have ad:wS.heap[b]?=some (.cells (c.map (QO Mp)) e f):=by rw[O b hb];exact pK hm B
  have hf:=hw.fz b b _ _ _ _ _ _ U ad h2 (y.qf.strict rfl b)
  have ah:=by
   have ae:=ac.size;simp at ae;refine Array.ext ae.symm λi hi Y=>?_;have hv:=ac.idx i (by simpa using Y) hi;simp only[aP]at hv;rcases Q0 (λr hr=>y.x.1 r hr) hv with hn|he
   have aa:W0.cell? ⟨b,i,none⟩=some c[i]:=by
    unfold bp;rw[B];simp[Y]
   have hp:=y.x.2 b i _ hm aa;obtain⟨r',af,ag⟩:=hw.sW b i _ hp;rw[U]at af;cases af;have:=ag _ _ _ _ _ _ _ ad h2 (by simp[Y]) hn;rw[aI hi]at this;exact bd this;exact he
  rw[h2,B,hf,ah]
 have:=ab b ⟨hb,hm⟩;rw[this];exact Ct hm
end
section
variable {H:Type} {enc:aY×Value->H}
def pQ{a:Assume}{C:Checked}{os:Os}{f:bc}{fn:Func}{s:OpenSpec}{F:Stop.Interp}{O:List PathCond}{apart fresh B U:Bool}{laid:List (String×DataW Unit)}
  (own:ownKnob C.prog.godebug=none) (Y:os.Started) (ad:C.prog.funcs[f]?=some fn)
  (witness:∃(w:World)(tape:Tape)(i:Input),w.os=os/\(w.forCall tape i).Shaped C.prog/\i.vars=[]/\Input.okWide C.prog (w.forCall tape i) .any w.heap.size f i/\
    s.preRow enc C.prog fn O apart laid (w.forCall tape i).memory i.args/\a.holds C.prog (lone (Frame.enter C.prog f i.args .normal) [] (w.forCall tape i)))
  (runs:∀(W:World)(base:Nat)(args:Array Value)(ds gs:List (DataW H))(y:List MemPlace),
    (∀(j:Nat)t v,fn.params[j]?=some t->args[j]?=some v->bm C.prog W .any base t v)->
    DataW.Whole enc C.prog fn.params.toList s.vars apart W args.toList ds gs y->
    (∀k,s.cond=some k->k H (ds++gs)=true)->
    ba C.prog laid W->W.ShapedOpen C.prog->args.size=fn.params.size->
    ux C.prog (λv W'=>∃W2:World,W2.blind=W'.blind/\(s.at F).post enc C.prog fn apart fresh B U W args v W2) (solo (G (Frame.enter C.prog f args .normal) []) W) #[]) :
  aZ a C os f .any (s.preRow enc C.prog fn O apart laid) ((s.at F).post enc C.prog fn apart fresh B U):=by
 refine returnsInLeavingWide_of_good own Y witness ?_;intro w tape i _ ae _ af aa _;obtain⟨_,_,_,ai,ab,_,_,_,ag,ac⟩:=af;have e:=bd (ab.symm.trans ad);subst e;obtain⟨⟨hp,hl⟩,_⟩:=aa;obtain⟨ds,gs,y,hw,_,hk⟩:=OpenSpec.pre_parts hp;have ah:=DataW.Whole.of_heap (w':=w.forCall tape i) (by rfl) hw;obtain⟨N,last,o,w',t',h1,h2,h3,h4⟩:=runs _ _ _ ds gs y ac ah hk (hl.of_heap (by rfl)) ae ag;exact⟨N,last,o,w',t',h1,h2,h3,h4.mono λv ⟨W2,e2,hp⟩=>by rw[<-e2];exact ChangeSpec.post_blind hp⟩
end
def sN(W:World)(w:World):Prop:=Below W.heap.size W {w with tape:=W.tape}
open Go.ChangeShapes Go.WideShapes Go.ChangeAt
variable {gs:List (Option Addr)} {c l:Nat} {W:World}
def Vm:ownKnob prog.godebug=none:=by kernel_rfl
def p9:laidOutB prog=true:=by kernel_rfl
def Rq:List (String×DataW Unit):=[("math/bits.deBruijn32tab",Rows.laid_math_bits_deBruijn32tab),("math/bits.deBruijn64tab",Rows.laid_math_bits_deBruijn64tab),("internal/strconv.uint64pow10",Rows.laid_internal_strconv_uint64pow10),("hint/follow.weights",Rows.laid_hint_follow_weights)]
def DG(h:ba prog Rq W):NL W:=by
 have B:=h.tail.tail.tail;have y:=Lib.tabIs_of_head (k:=.u64) (zs:=[4,10,25]) (g:=0) (t:=195) (e:=141) (n:=3) (by kernel_rfl) (by kernel_rfl) underlying195 aV (by kernel_rfl) (by kernel_rfl) B;exact⟨y.cell (by kernel_rfl) 0 (by decide),y.cell (by kernel_rfl) 1 (by decide),y.cell (by kernel_rfl) 2 (by decide)⟩
def Af(h:W.ShapedOpen prog):∀g,g<5->∃c e f,W.heap[g]?=some (.cells c e f):=by
 have key:∀g,g<5->(((begin prog (λ_ _=>0) default).world.heap[g]?).bind Obj.row?).isSome=true:=by
  intro g y;rcases(by omega:g=0\/g=1\/g=2\/g=3\/g=4)with rfl|rfl|rfl|rfl|rfl<;>kernel_rfl
 intro g y;obtain⟨⟨z,t⟩,O⟩:=Option.isSome_iff_exists.1 (key g y);obtain⟨cs,B,_⟩:=h.1 g z t (y) O;exact⟨cs,t,_,B⟩
def BA{base:Nat}{t e:aY}{a:Addr}(U:prog.underlying t=some (.slice e))(h:bm prog W .any base t (.slice (some a) l c)):a.spot=none/\∃cs y f,W.heap[a.block]?=some (.cells cs y f):=by
 simp only[bm,U,Cell.okWide,Cell.ok]at h;obtain⟨_,_,_,B,row,cells,hsh,_⟩:=h;refine⟨B,?_⟩;unfold World.shape? at hsh
 cases O:W.heap[a.block]? with
 |none=>rw[O]at hsh;cases hsh
 |some o=>
  cases o with
  |cells cs y f=>exact⟨cs,y,f,rfl⟩|_=>rw[O]at hsh;cases hsh
def Px(gs:List (Option Addr))(b:Nat):Prop:=rj b=true\/∃a,some a∈gs/\a.block=b
def Rz{g:Nat}(h:rj g=true):g<5:=by
 unfold rj at h;simp only[Bool.or_eq_true,beq_iff_eq]at h;omega
def EH(y:W.ShapedOpen prog)(B:∀a,some a∈gs->∃c e f,W.heap[a.block]?=some (.cells c e f)):∀r,Px gs r->∃c e f,W.heap[r]?=some (.cells c e f):=by
 rintro r (h|⟨a,h,rfl⟩);exact Af y r (Rz h);exact B a h
def E1(y:W.ShapedOpen prog):5<=W.heap.size:=by
 obtain⟨c,e,f,h⟩:=Af y 4 (by omega);have:=(aK.1 h).1;omega
def Pn{Mp:Nat->Prop}(h:NL W):NL (nK W Mp):=⟨jH trivial h.1,jH trivial h.2.1,jH trivial h.2.2⟩
def zM{a:Option Addr}(h:a∈gs):VR (nS W (Px gs)) (.slice a l c) (.slice a l c):=by
 cases a with
 |none=>exact .fE l c|some a=>exact .slice l c (.mk (oc (.inr ⟨a,h,rfl⟩)))
def Pk{args:Array Value}{f:bc}{gP:Func}{c:Code}{v:Value}{tm:Array Value}(B:W.ShapedOpen prog)(Y:∀a,some a∈gs->∃c e f,W.heap[a.block]?=some (.cells c e f))(hf:prog.funcs[f]?=some gP)(hb:gP.body=some c)(y:eD (nS W (Px gs)) args args)(O:args++Array.replicate (gP.ntmps-args.size) bs=tm)
  (h:dh (fg (ending prog λv' w=>v'=v/\sN W w) W (Px gs)) [⟨f,tm,[.code c]⟩] (nK W (Px gs)) []):ux prog (λv' w=>v'=v/\sN W w) (solo (G (Frame.enter prog f args .normal) []) W) #[]:=
 Jq (E:=fg _ W _) (m:=nS W _) rfl (λb hb=>⟨hb.1,(Ct hb.2).symm⟩) (λr b U hb=>absurd (oH U).1 (by rw[<-(oH U).2];exact hb.2)) (GM _ _ _) (by rw[show(fg _ W _).w0.heap.size=W.heap.size from wX W _];exact br _) ⟨rfl,rfl⟩ rfl hf hb (MX λg hg=>.inl hg) (LJ (E1 B) (EH B Y)) y (by rw[O];exact h)
def ux.mono{P:Program}{A B:Value->World->Prop}{M:Machine}{t:Trace}(h:ux P A M t)(y:∀v w,A v w->B v w):ux P B M t:=by
 obtain⟨N,last,o,w',t',O,U,Y,h4⟩:=h;exact⟨N,last,o,w',t',O,U,Y,h4.mono λv=>y v w'⟩
variable {p:List MemPlace} {cs:List Value} {base o:Nat} {a:Option Addr} {H:Type} {d:DataW H} {enc:aY×Value->H}
def kp{n:Int}(h:(Lit.int .i64 n).wf=true) : -9223372036854775808<=n/\n<=9223372036854775807:=by
 simpa[Lit.wf,IntKind.min,IntKind.signed,IntKind.bits]using h
def BP:prog.cellsOf 3=1:=by kernel_rfl
def Rn(U:bm prog W .any base 26 (.slice a l c))(h:bh enc prog W 0 (λ_=>true) true 26 (.slice a l c) d p) :
  ∃rs:List Int,rs.length=l/\Bc W a rs/\l<=c/\l<=9223372036854775807/\∀x,a=some x->∃c e f,W.heap[x.block]?=some (.cells c e f):=by
 obtain⟨ae,hf⟩:=h;rcases open_ints aS aQ BP hf with⟨B,Y⟩|⟨x,af,ag,zs,B,_,hl,hm,hz,Y,O,aa⟩
 obtain⟨rfl,rfl,rfl⟩:=B;exact⟨[],rfl,⟨λj hj=>absurd hj (by simp),λx Y=>absurd Y (by simp),λx Y=>absurd Y (by simp)⟩,br _,by omega,nofun⟩;obtain⟨rfl,rfl,rfl⟩:=B;simp only[if_true]at hz;obtain⟨ad,ab⟩:=BA aS U;have ah:c<=9223372036854775807:=hm;refine⟨zs.take l,by simp;omega,⟨λj hj=>?_,λy hy=>(kp (aa y (bo hy))).1,λy hy=>(kp (aa y (bo hy))).2⟩,hl,by omega,λy e=>by cases e;exact ab⟩;obtain⟨b,off,spot⟩:=x;subst ad;have ac:j<zs.length:=by simp at hj;omega
 have:=O j ac;rw[Addr.add_lit]at this;refine⟨b,off,rfl,?_⟩;rw[this];simp[List.getD,ac]
def Is:prog.cellsOf 48=4:=by kernel_rfl
def take_one{v:Value}(h:(cs.drop o).take 1=[v]):cs[o]?=some v:=by
 have:((cs.drop o).take 1)[0]?=some v:=by rw[h];rfl
 simpa using this
def PQ{w:World}{spare:Nat->Bool}{held:Bool}{O:Nat}{b:Nat}{x:DataW H×List MemPlace}
  (hc:w.cells? base ⟨b,o,none⟩ 4=some cs) (h:bg enc prog w base spare held O 48 cs=some x) :
  ∃r:Raw,r.Ok/\w.cell? ⟨b,o,none⟩=some (.int .i64 r.name)/\w.cell? ⟨b,o+1,none⟩=some (.int .i64 r.text)/\w.cell? ⟨b,o+2,none⟩=some (.int .i64 r.du)/\w.cell? ⟨b,o+3,none⟩=some (.int .i64 r.dE):=by
 obtain⟨xs,n,rfl,_,hl,Y,U⟩:=bi aR h;obtain⟨_,aa,B⟩:=World.cells?_some hc;have ab:xs.length=4:=Y
 have cell:∀i,i<4->∀v,cs[i]?=some v->w.cell? _=some v:=λi hi v hv=>by
  have:=B i hi;rw[hv]at this;exact this
 have one:∀i,i<4->∃n:Int,w.cell? _=some _/\-9223372036854775808<=n/\n<=9223372036854775807:=λi hi=>by
  obtain⟨y,e⟩:∃y,xs[i]?=some y:=⟨xs[i],bn _⟩
  have f:bg enc prog w base spare held n 3 ((cs.drop i).take (prog.cellsOf 3))=some y:=by
   rcases(by omega:i=0\/i=1\/i=2\/i=3)with rfl|rfl|rfl|rfl
   exact(U 0 _ rfl).trans e;exact(U 1 _ rfl).trans e;exact(U 2 _ rfl).trans e;exact(U 3 _ rfl).trans e
  obtain⟨n,g,_,wf⟩:=bj aQ f;exact⟨n,cell i hi _ (take_one g),kp wf⟩
 obtain⟨n0,p0,q0⟩:=one 0 (by omega);obtain⟨n1,p1,q1⟩:=one 1 (by omega);obtain⟨n2,p2,q2⟩:=one 2 (by omega);obtain⟨n3,p3,q3⟩:=one 3 (by omega);exact⟨⟨n0,n1,n2,n3⟩,⟨q0.1,q0.2,q1.1,q1.2,q2.1,q2.2,q3.1,q3.2⟩,p0,p1,p2,p3⟩
def P2(Y:bm prog W .any base 25 (.slice a l c))(h:bh enc prog W 0 (λ_=>true) true 25 (.slice a l c) d p) :
  ∃rs:List Raw,rs.length=l/\tn W a rs/\l<=c/\l<=9223372036854775807/\∀x,a=some x->∃c e f,W.heap[x.block]?=some (.cells c e f):=by
 obtain⟨ae,hf⟩:=h;rcases DataW.trod_slice aT hf with⟨O,hx⟩|⟨x,af,ag,elems,rest,n,_,O,_,hb,hl,hm,ah,ac,ai,aj⟩
 obtain⟨rfl,rfl,rfl⟩:=O;exact⟨[],rfl,⟨λj B=>absurd B (by simp),λx hx=>absurd hx (by simp)⟩,br _,by omega,nofun⟩;obtain⟨rfl,rfl,rfl⟩:=O;obtain⟨aa,ab⟩:=BA aT Y;have ak:c<=9223372036854775807:=hm;obtain⟨b,off,spot⟩:=x;subst aa
 have each:∀j,j<l->∃r:Raw,r.Ok/\W.cell? _=some _/\W.cell? _=some _/\W.cell? _=some _/\W.cell? _=some _:=λj B=>by
  have h1:=ac j B;rw[bn (by omega),Option.bind_eq_some_iff]at h1;obtain⟨cs,h2,h3⟩:=h1;rw[Addr.add_lit]at h2;exact PQ h2 h3
 have U:∀j,∃r:Raw,j<l->r.Ok/\W.cell? _=some _/\W.cell? _=some _/\W.cell? _=some _/\W.cell? _=some _:=λj=>by
  by_cases B:j<l;obtain⟨r,hr⟩:=each j B;exact⟨r,λ_=>hr⟩;exact⟨⟨0,0,0,0⟩,λh=>absurd h B⟩
 refine⟨(List.range l).map λj=>a3 (U j),by simp,⟨λj B=>?_,λy hy=>?_⟩,hl,by omega,λy e=>by cases e;exact ab⟩;have ad:=by simpa using B
 have:=a2 (U j) ad;rw[List.getElem_map,List.getElem_range];exact⟨b,off,rfl,this.2⟩;obtain⟨j,B,rfl⟩:=List.mem_map.1 hy;exact(a2 (U j) (List.mem_range.1 B)).1
def QD(h:ba prog Rq W):lK W:=by
 have y:=h.tail.tail;exact Lib.tabIs_of_head (k:=.u64) (zs:=Lib.pow10Tab) (g:=2) (t:=295) (e:=141) (n:=20) (by kernel_rfl) (by kernel_rfl) underlying295 aV (by kernel_rfl) (by kernel_rfl) y
def Hi{Mp:Nat->Prop}(h:lK W):lK (nK W Mp):=by
 unfold lK Lib.TabIs World.var? at h⊢;rw[show prog.globalNamed _=some 2 by kernel_rfl]at h⊢;simp only[Option.bind_some]at h⊢
 cases y:W.heap[2]? with
 |none=>rw[y]at h;cases h
 |some o=>
  rw[y]at h
  cases o with
  |cells c e f=>
   simp only[be]at h;by_cases hm:Mp 2;rw[pK hm y];simp only[be];rw[h];apply Array.ext';simp only[Array.toList_map,List.map_map];apply List.map_congr_left;intro z _;exact uI trivial;rw[CR hm,y];simp only[be];exact h
  |_=>cases h
variable {Mp:Nat->Prop} {ra:Option Addr}
def LW{rs:List Int}(h:Bc W ra rs):Bc (nK W Mp) ra rs:=⟨λj y=>by
 obtain⟨b,off,e,B⟩:=h.cell j y
 exact⟨b,off,e,jH trivial B⟩,h.lo,h.hi⟩
def Jy{rs:List Raw}(h:tn W ra rs):tn (nK W Mp) ra rs:=⟨λj y=>by
 obtain⟨b,off,e,B,O,U,Y⟩:=h.cell j y
 exact⟨b,off,e,jH trivial B,jH trivial O,jH trivial U,jH trivial Y⟩,h.ok⟩
def QG{W0:World}{f:bc}{gP:Func}{rs:Array Tmp}{tm:Array Value}{wl:World}{v:Value}{k:List Item}(hk:k.all iT=true)(hc:∀r,Mp r->∃c e f,W0.heap[r]?=some (.cells c e f))(hf:prog.funcs[f]?=some gP)(ae:prog.inits.idxOf? f=none)(Y:∀k,k<W0.heap.size->wl.heap[k]?=(nK W0 Mp).heap[k]?)(af:Plain v)(aa:∀w:World,(results gP tm).run prog w=.ok v w) :
  dh (fg (ending prog λv' w=>v'=v/\sN W0 w) W0 Mp) [⟨f,tm,.code .ret::k⟩] wl []:=by
 have hS:iZ (fg (ending _ λv' w=>v'=v/\sN W0 w) W0 Mp) ⟨fY f tm (.code .ret::k.map nM),[door prog],wl⟩ [] []:=by
  let B:LS->Prop:=λS=>S.cs=[door prog]/\S.fr.fn=f/\S.w.heap=wl.heap/\S.fr.leaving prog S.w (.returned v);refine iZ.ob (Stop:=λS=>∃τ,B (S.on τ)) (λS τ ⟨O,h⟩=>⟨O,h⟩) (λτ _=>⟨1,⟨⟨f,tm,.code _::k.map nM,[],.returning,.normal,none⟩,[door _],tp wl τ⟩,rfl,⟨τ,rfl,rfl,rfl,rfl,rfl,rfl,gP,hf,aa _⟩,by simp⟩) λS' ⟨O,ag,ah,hh,hl⟩=>?_;refine iZ.tape (τ:=O) ?_;refine iZ.done rfl rfl ag hl (by rw[ah];exact ae) λm v2 w U hv hw ab y=>⟨?_,?_⟩
  cases hv<;>first|rfl|exact af.elim
  have hold:=Q' hc U hw ab (λk hk=>by rw[hh];exact Y k hk);refine⟨y.1,rfl,y.2,?_,hold⟩;rcases Nat.lt_or_ge .. with ac|ai
  have:=hold _ ac;rw[aL (br _),aI ac]at this;cases this;exact ai
 intro m Pd ρ gs w sl t fr' cs' U aj ak ad h0;obtain⟨al,l',e,ht,y⟩:=ad.head;cases e;have am:vA (fg (ending _ λv' w=>v'=v/\sN W0 w) W0 Mp) []:=.inr nofun;exact hS m Pd ρ gs w sl t _ _ cs' U aj ak y (dU.one (fr:=fY f tm _) (fr':=fY f al _) ⟨rfl,ht,.cons (.code _ (by trivial)) (Ix hk),.nil,.run,.none⟩ rfl (.inl ⟨rfl,ui am y⟩) rfl) h0
def Of{m:Ren}(own:Raw):VR m (ki own) (ki own):=.agg rfl λi h _=>by
 have y:i<4:=h;rcases(by omega:i=0\/i=1\/i=2\/i=3)with rfl|rfl|rfl|rfl<;>exact .int _ _
def TW{enc:aY×Value->H}{base:Nat}{v:Value}{d:DataW H}{p:List MemPlace}(O:bm prog W .any base 48 v)(h:bh enc prog W 0 (λ_=>true) true 48 v d p):∃r:Raw,v=ki r/\r.Ok:=by
 obtain⟨cs,rfl,U⟩:=okWide_struct aR O;rw[Is]at U;obtain⟨aa,B⟩:=h;obtain⟨xs,n,_,_,hl,Y,B⟩:=bi aR B;have ab:xs.length=4:=Y
 have one:∀i,i<4->∃n:Int,cs[i]?=some (.int .i64 n)/\-9223372036854775808<=n/\n<=9223372036854775807:=λi hi=>by
  obtain⟨y,e⟩:∃y,xs[i]?=some y:=⟨xs[i],bn (by omega)⟩
  have f:bg enc prog W 0 (λ_=>true) true n 3 ((cs.toList.drop i).take (prog.cellsOf 3))=some y:=by
   rcases(by omega:i=0\/i=1\/i=2\/i=3)with rfl|rfl|rfl|rfl
   exact(B 0 _ rfl).trans e;exact(B 1 _ rfl).trans e;exact(B 2 _ rfl).trans e;exact(B 3 _ rfl).trans e
  rw[BP]at f;obtain⟨n,g,_,wf⟩:=bj aQ f;exact⟨n,by have:=take_one g;simpa using this,kp wf⟩
 obtain⟨n0,p0,q0⟩:=one 0 (by omega);obtain⟨n1,p1,q1⟩:=one 1 (by omega);obtain⟨n2,p2,q2⟩:=one 2 (by omega);obtain⟨n3,p3,q3⟩:=one 3 (by omega);refine⟨⟨n0,n1,n2,n3⟩,?_,⟨q0.1,q0.2,q1.1,q1.2,q2.1,q2.2,q3.1,q3.2⟩⟩;unfold ki;congr 1;apply Array.ext_getElem?;intro j;rcases(by omega:j=0\/j=1\/j=2\/j=3\/4<=j)with rfl|rfl|rfl|rfl|hj
 exact p0;exact p1;exact p2;exact p3;rw[aL (by omega),aL (by simpa using hj)]
def E4{U Y:Option Addr}{ls:List Raw}{rs:List Int}{lc rc:Nat}{own:Raw}{gn q fr too at_ y:Int}(B:W.ShapedOpen prog)(hW:NL W)(O:lK W)(hL:tn W U ls)(hT:Bc W Y rs)(aa:∀a,some a∈[U,Y]->∃c e f,W.heap[a.block]?=some (.cells c e f))(ag:ls.length<=lc)(ah:rs.length<=rc)(ai:ls.length<=9223372036854775807)(aj:rs.length<=9223372036854775807)(ab:own.Ok)
  (ak : -9223372036854775808<=gn) (al:gn<=9223372036854775807) (q0 : -9223372036854775808<=q) (q1:q<=9223372036854775807) (am : -9223372036854775808<=fr) (an:fr<=9223372036854775807) (ac : -9223372036854775808<=too) (ad:too<=9223372036854775807) (at_0 : -9223372036854775808<=at_) (at_1:at_<=9223372036854775807) (ae : -9223372036854775808<=y) (af:y<=9223372036854775807) :
  ux prog (λv' w=>v'=.bool true/\sN W w) (solo (G (Frame.enter prog 9 #[.slice U ls.length lc,.slice Y rs.length rc,ki own,.int .i64 gn,.int .i64 q,.int .i64 fr,.int .i64 too,.int .i64 at_,.int .i64 y] .normal) []) W) #[]:=by
 refine Pk (gs:=[U,Y]) (tm:=#[.slice U ls.length lc,.slice Y rs.length rc,ki own,.int .i64 gn,.int .i64 q,.int .i64 fr,.int .i64 too,.int .i64 at_,.int .i64 y,bs,bs,bs,bs,bs,bs,bs,bs,bs,bs,bs,bs,bs,bs,bs,bs,bs,bs,bs,bs,bs,bs,bs,bs,bs,bs,bs,bs,bs,bs,bs,bs,bs,bs,bs,bs,bs,bs,bs,bs,bs,bs,bs,bs,bs,bs,bs,bs,bs,bs,bs,bs,bs,bs,bs,bs,bs,bs,bs,bs,bs,bs,bs,bs,bs,bs,bs,bs,bs,bs,bs,bs,bs,bs,bs,bs,bs,bs,bs,bs,bs,bs,bs,bs,bs,bs,bs,bs,bs,bs,bs,bs,bs,bs,bs,bs,bs,bs,bs,bs,bs,bs,bs,bs,bs,bs,bs,bs,bs,bs,bs,bs,bs,bs,bs,bs,bs,bs,bs,bs,bs,bs,bs,bs,bs,bs,bs,bs,bs,bs,bs,bs,bs,bs,bs,bs,bs,bs,bs,bs,bs,bs,bs,bs,bs,bs,bs,bs,bs,bs,bs,bs,bs,bs,bs,bs,bs,bs,bs,bs,bs,bs,bs,bs,bs,bs,bs,bs,bs,bs,bs,bs,bs,bs,bs,bs,bs,bs,bs,bs,bs,bs,bs,bs,bs,bs,bs,bs,bs,bs,bs,bs,bs,bs,bs,bs,bs,bs,bs,bs,bs,bs,bs,bs,bs,bs,bs,bs,bs,bs,bs,bs,bs,bs,bs,bs,bs,bs,bs,bs,bs,bs,bs,bs,bs,bs,bs,bs,bs,bs,bs,bs,bs,bs,bs,bs,bs,bs,bs,bs,bs,bs,bs,bs,bs,bs,bs,bs,bs,bs,bs,bs,bs,bs,bs,bs,bs,bs,bs,bs,bs,bs,bs,bs,bs,bs,bs,bs,bs,bs,bs,bs,bs,bs,bs,bs,bs,bs,bs,bs,bs,bs,bs,bs,bs,bs,bs,bs,bs,bs,bs,bs,bs,bs,bs,bs,bs,bs,bs,bs,bs,bs,bs,bs,bs,bs,bs,bs,bs,bs,bs,bs,bs,bs,bs,bs,bs,bs,bs,bs,bs,bs,bs,bs,bs,bs]) (gP:=f9) (c:=ed f9) B aa aU (by kernel_rfl) (.cons (zM (by simp)) (.cons (zM (by simp)) (.cons (Of own) (.cons (.int _ _) (.cons (.int _ _) (.cons (.int _ _) (.cons (.int _ _) (.cons (.int _ _) (.cons (.int _ _) .nil))))))))) (by kernel_rfl) ?_;refine Dn ⟨Pn hW,Hi O⟩ (by rw[qP];exact E1 B) (Jy hL) (LW hT) ag ah ai aj ab ak al ⟨Hi O,by rw[qP];exact E1 B,q0,q1,am,an,ac,ad,at_0,at_1,ae,af⟩ λw ap k hk hF ao=>?_;refine QG hk (gP:=f9) (rs:=#[]) (EH B aa) aU (by kernel_rfl) (λk hk=>hF.block k (by rw[qP];exact hk)) trivial λw=>?_;simp[results,results9,go_sem,ao]
def MM(os:Os)(args:Array Value):laidMet prog Rq ((bq prog 29 os).forCall (λ_ _=>0) ⟨#[],args,[]⟩).memory:=
 laidMet_of_run' 8 (by kernel_rfl) (by kernel_rfl)
def R8(os:Os)(enc:aY×Value->H):∃places,DataW.whole enc prog ((bq prog 29 os).forCall (λ_ _=>0) ⟨#[],#[.slice none 0 0,.slice none 0 0,.agg #[.int .i64 0,.int .i64 0,.int .i64 0,.int .i64 0],.int .i64 0,.int .i64 0,.int .i64 0,.int .i64 0,.int .i64 0,.int .i64 0],[]⟩).memory f9.params.toList bk.vars false #[Value.slice none 0 0,.slice none 0 0,.agg #[.int .i64 0,.int .i64 0,.int .i64 0,.int .i64 0],.int .i64 0,.int .i64 0,.int .i64 0,.int .i64 0,.int .i64 0,.int .i64 0].toList 8=some ([.nil,.nil,.agg [.lit (.int .i64 0),.lit (.int .i64 0),.lit (.int .i64 0),.lit (.int .i64 0)],.lit (.int .i64 0),.lit (.int .i64 0),.lit (.int .i64 0),.lit (.int .i64 0),.lit (.int .i64 0),.lit (.int .i64 0)],[],places):=
 ⟨[],by kernel_rfl⟩
def Oy(os:Os)(B:os.Started)(H:Type)(enc:aY×Value->H) :
  aZ {} aW os 9 .any ((OpenSpec.ofChange bk).preRow enc prog f9 bl.domain false Rq) (bk.post enc prog f9 false true false false):=by
 obtain⟨places,hx⟩:=R8 os enc
 refine pQ (C:=aW) (s:=OpenSpec.ofChange bk) (F:=λ_ _ _=>0) Vm B aU
  (witness_row_at (enc:=enc) (C:=aW) false (bq prog 29 os) #[.slice none 0 0,.slice none 0 0,.agg #[.int .i64 0,.int .i64 0,.int .i64 0,.int .i64 0],.int .i64 0,.int .i64 0,.int .i64 0,.int .i64 0,.int .i64 0,.int .i64 0] rfl (by kernel_rfl) (by kernel_rfl) (by kernel_rfl)
    (OpenSpec.preRow_of_cond 8 hx (by kernel_rfl) (λk hk=>by cases hk) (by kernel_rfl) (MM os _))) ?_
 intro W base args ds gs af O hW _ hL ag _;have y:∀(j:Nat)t v,f9.params[j]?=some t->args[j]?=some v->bm prog W .any base t v:=O;have ac:=hW;obtain⟨p,q,ad,hV,rfl,_,_⟩:=hW;have hA:DataW.TrodAll enc prog W 0 (λ_=>true) true f9.params.toList args.toList ds p:=ad;rw[params9]at hA y;obtain⟨v0,aw,d0,ax,p0,q0,Y,rfl,rfl,h0,r0⟩:=trodAll_cons hA;obtain⟨v1,ay,d1,az,p1,q1,rfl,rfl,rfl,h1,r1⟩:=trodAll_cons r0;obtain⟨v2,a5,d2,a6,p2,q2,rfl,rfl,rfl,h2,r2⟩:=trodAll_cons r1;obtain⟨v3,a7,d3,a8,p3,q3,rfl,rfl,rfl,h3,r3⟩:=trodAll_cons r2;obtain⟨v4,a9,d4,a',p4,q4,rfl,rfl,rfl,h4,r4⟩:=trodAll_cons r3;obtain⟨v5,aA,d5,aB,p5,q5,rfl,rfl,rfl,h5,r5⟩:=trodAll_cons r4;obtain⟨v6,aC,d6,aD,p6,q6,rfl,rfl,rfl,h6,r6⟩:=trodAll_cons r5;obtain⟨v7,aE,d7,aF,p7,q7,rfl,rfl,rfl,h7,r7⟩:=trodAll_cons r6;obtain⟨v8,aG,d8,aH,p8,q8,rfl,rfl,rfl,h8,r8⟩:=trodAll_cons r7;obtain⟨rfl,rfl,rfl⟩:=trodAll_nil r8;obtain rfl:args=#[v0,v1,v2,v3,v4,v5,v6,v7,v8]:=by cases args;simp_all
 obtain⟨rfl,rfl⟩:=trodVars_none hV;obtain⟨a0,aq,ar,rfl⟩:=okWide_slice aT (y 0 25 v0 rfl rfl);obtain⟨a1,au,av,rfl⟩:=okWide_slice aS (y 1 26 v1 rfl rfl);have ah:=y 0 25 _ rfl rfl;have ai:=y 1 26 _ rfl rfl;have k2:=h2;have P8:∀x∈p2,x.block<W.heap.size:=by obtain⟨m,hm⟩:=k2;exact bf m _ _ _ hm
 obtain⟨own,rfl,ae⟩:=TW (y 2 48 _ rfl rfl) h2;obtain⟨z3,rfl,rfl,rfl,w3⟩:=open_int aQ (y 3 3 v3 rfl rfl) h3;obtain⟨z4,rfl,rfl,rfl,w4⟩:=open_int aQ (y 4 3 v4 rfl rfl) h4;obtain⟨z5,rfl,rfl,rfl,w5⟩:=open_int aQ (y 5 3 v5 rfl rfl) h5;obtain⟨z6,rfl,rfl,rfl,w6⟩:=open_int aQ (y 6 3 v6 rfl rfl) h6;obtain⟨z7,rfl,rfl,rfl,w7⟩:=open_int aQ (y 7 3 v7 rfl rfl) h7;obtain⟨z8,rfl,rfl,rfl,w8⟩:=open_int aQ (y 8 3 v8 rfl rfl) h8;have k0:=h0;have k1:=h1;have aj:∀x∈p0,x.block<W.heap.size:=by obtain⟨m,hm⟩:=k0;exact bf m _ _ _ hm
 have Oh:∀x∈p1,x.block<W.heap.size:=by obtain⟨m,hm⟩:=k1;exact bf m _ _ _ hm
 obtain⟨ls,rfl,ak,al,am,aa⟩:=P2 ah h0;obtain⟨rs,rfl,an,ao,ap,ab⟩:=Rn ai h1;clear ad O Y;simp only[List.append_nil]at ac
 refine(E4 ag (DG hL) (QD hL) ak an (λa ha=>by
  simp only[List.mem_cons,List.not_mem_nil,or_false]at ha;rcases ha with ha|ha
  exact aa a ha.symm
  exact ab a ha.symm) al ao am ap ae (kp w3).1 (kp w3).2 (kp w4).1 (kp w4).2 (kp w5).1 (kp w5).2 (kp w6).1 (kp w6).2 (kp w7).1 (kp w7).2 (kp w8).1 (kp w8).2).mono λv w ⟨hv,U⟩=>?_
 subst hv;refine⟨{w with tape:=W.tape},rfl,?_⟩;exact⟨_,_,_,[],_,[],ac,trodAll_mk1 (shut_bool underlying4 _),aX (Below.trod p9 (by kernel_rfl) (of_decide_eq_true (by kernel_rfl)) k0 U aj) (aX (Below.trod p9 (by kernel_rfl) (of_decide_eq_true (by kernel_rfl)) k1 U Oh) (aX (Below.trod p9 (by kernel_rfl) (of_decide_eq_true (by kernel_rfl)) k2 U P8) (aX (shut_int aQ w3) (aX (shut_int aQ w4) (aX (shut_int aQ w5) (aX (shut_int aQ w6) (aX (shut_int aQ w7) (aX (shut_int aQ w8) trodAll_mk0)))))))),rfl,U.frame _,λh=>by cases h⟩
def Ij:Rows.CarriedSaid:=
 OpenClaim.holds_of_wide_leaving 9 f9 rfl rfl rfl rfl rfl rfl rfl ⟨rfl,rfl,rfl,rfl,rfl⟩ rfl rfl rfl rfl rfl (by kernel_rfl) aU (by kernel_rfl)
  (of_decide_eq_true (by kernel_rfl)) (by unfold Func.isWrapper;first|(rw[if_pos (by decide +kernel)];kernel_rfl)|(rw[if_neg (by decide +kernel)];exact⟨rfl,rfl⟩))
  (λos y H enc _=>by rw[OpenClaim.pre_eq_preRow];exact Oy os y H enc)
def Eb(f:bc)(fn:Func)(O:Tryz.pinned.checked.prog.funcNamed bl.func=some f)(y:Tryz.pinned.checked.prog.funcs[f]?=some fn) :
  true=Tryz.pinned.checked.prog.looks []/\∀(j:Nat)t,fn.params[j]?=some t->Tryz.pinned.checked.prog.wantsStandIn t=false:=by
 obtain rfl:f=9:=bd ((show prog.funcNamed bl.func=some 9 by kernel_rfl).symm.trans O) |>.symm
 obtain rfl:fn=f9:=(bd (aU.symm.trans y)).symm;refine⟨by kernel_rfl,λj t B=>?_⟩;rw[params9]at B;have:t=25\/t=26\/t=48\/t=3:=by simpa using Array.mem_of_getElem? B
 rcases this with rfl|rfl|rfl|rfl
 .exact(show prog.wantsStandIn 25=false by kernel_rfl)
 .exact(show prog.wantsStandIn 26=false by kernel_rfl)
 .exact(show prog.wantsStandIn 48=false by kernel_rfl)
 exact(show prog.wantsStandIn 3=false by kernel_rfl)
end
end Go.Proofs.YtocbogeoffeolaaGreatDoor
