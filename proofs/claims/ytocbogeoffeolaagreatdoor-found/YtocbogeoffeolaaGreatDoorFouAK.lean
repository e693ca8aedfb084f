import Derived.Test.YtocbogeoffeolaaGreatDoorFouAJ
import Derived.Test.YtocbogeoffeolaaGreatDoorCards
import Derived.Test.YtocbogeoffeolaaGreatDoorTie
import Derived.Conc.LeavingOf
import Derived.Deep.DeepHandedRow
import Derived.Lib.LaidTab
import Derived.LaidMore
import Derived.Stop.LaidErr
import Derived.OpenShut
set_option linter.all false
set_option maxHeartbeats 8000000
set_option maxRecDepth 1000000
open Classical renaming choose_spec->a2,choose->aF,propDecidable->aG
open Array renaming getElem?_eq_getElem->aH,getElem_ofFn->aI,getElem?_eq_some_iff->aJ,getElem?_mapIdx->aK,sizeOf_getElem->aL,ofFn->aM,getElem_map->aN
open Go.Proofs.Tryz renaming underlying3->aO,underlying26->aP,underlying25->aQ,func6->aR,underlying141->aS,checked->aT
open Go renaming trodAll_cons_mk->aU,TypeId->aV,ReturnsInLeavingWide->aW,laidMetH->aX,FuncId->aY
open Option.some renaming inj->aZ,injEq->ba
open Go.World renaming cell?->bc,doorLaid->bd
open Go.Value renaming okWide->be
open List renaming getElem?_eq_getElem->bf,mem_of_mem_take->bg
open Nat renaming le_refl->bh
open Go renaming undef->bi
namespace Go.Proofs.YtocbogeoffeolaaGreatDoor
open Go.Proofs.Tryz
section
open Go.Conc Go.RowKit
variable {f:aY} {Z:jN prog} {b r:Nat} {m:Ren} {v v':Value}
theorem stands:∀v:Value,∃x,(∀m,VR m x v)/\∀t z,v=.iface t z->∃B,x=.iface t B
 |.bool b=>⟨_,λ_=>.bool b,λ_ _ e=>(by cases e)⟩
 |.int k n=>⟨_,λ_=>.int k n,λ_ _ e=>(by cases e)⟩
 |.string s=>⟨_,λ_=>.string s,λ_ _ e=>(by cases e)⟩
 |.float k b=>⟨_,λ_=>.fK _ trivial,λ_ _ e=>(by cases e)⟩
 |.complex k a b=>⟨_,λ_=>.fK _ trivial,λ_ _ e=>(by cases e)⟩
 |.pointer none=>⟨_,λ_=>.gQ,λ_ _ e=>(by cases e)⟩
 |.pointer (some a)=>⟨_,λ_=>.fK _ trivial,λ_ _ e=>(by cases e)⟩
 |.slice none l c=>⟨_,λ_=>.fu l c,λ_ _ e=>(by cases e)⟩
 |.slice (some a) l c=>⟨_,λ_=>.fK _ trivial,λ_ _ e=>(by cases e)⟩
 |.map none=>⟨_,λ_=>.my,λ_ _ e=>(by cases e)⟩
 |.map (some r)=>⟨_,λ_=>.fK _ trivial,λ_ _ e=>(by cases e)⟩
 |.chan none=>⟨_,λ_=>.iW,λ_ _ e=>(by cases e)⟩
 |.chan (some r)=>⟨_,λ_=>.fK _ trivial,λ_ _ e=>(by cases e)⟩
 |.nilFunc=>⟨_,λ_=>.nilFunc,λ_ _ e=>(by cases e)⟩
 |.nilIface=>⟨_,λ_=>.nilIface,λ_ _ e=>(by cases e)⟩
 |.tuple c=>⟨_,λ_=>.fK _ trivial,λ_ _ e=>(by cases e)⟩
 |.iface t v=>by
  obtain⟨x,U,_⟩:=stands v
  exact⟨.iface t x,λm=>.iface t (U m),λ_ _ e=>(by cases e;exact⟨_,rfl⟩)⟩
 |.agg c=>by
  have y:∀i(h:i<c.size),∃x,(∀m,VR m x c[i])/\∀t z,c[i]=.iface t z->∃B,x=.iface t B:=λi h=>stands _;refine⟨.agg (aM λi=>aF (y _ i.2)),λm=>.agg (by simp) λi h Y=>?_,λ_ _ e=>(by cases e)⟩;simp only[aI];exact(a2 (y i _)).1 m
 |.func (.func f) a c=>⟨_,λ_=>.fK _ trivial,λ_ _ e=>(by cases e)⟩
 |.func (.methodOf t n) a c=>⟨_,λ_=>.fK _ trivial,λ_ _ e=>(by cases e)⟩
 |.func (.via t p f b) a c=>⟨_,λ_=>.fK _ trivial,λ_ _ e=>(by cases e)⟩
 |.func (.yield l) a c=>⟨_,λ_=>.fK _ trivial,λ_ _ e=>(by cases e)⟩
 |.func (.method n) f c=>by
  have y:∀i(h:i<f.size),∃x,(∀m,VR m x f[i])/\∀t z,f[i]=.iface t z->∃B,x=.iface t B:=λi h=>stands _;refine⟨.func _ (aM λi=>aF (y _ i.2)) _,λm=>.q9 (by simp) (λi h Y=>?_) (λt w hw=>?_),λ_ _ e=>(by cases e)⟩;simp only[aI];exact(a2 (y i _)).1 m;obtain⟨O,e0⟩:=aJ.1 hw;obtain⟨z,hz⟩:=(a2 (y 0 O)).2 t w e0;refine⟨z,?_⟩;rw[aH (by simpa using O)];simp only[aI];rw[hz]
termination_by v=>SizeOf.sizeOf v
decreasing_by
 all_goals simp_wf
 all_goals(first|omega|(have:=aL c i h;omega)|(have:=aL f i h;omega))
def DG(Mp:Nat->Prop):Value->Prop
 |.bool _|.int _ _|.string _|.pointer none|.slice none _ _|.map none|.chan none|.nilFunc|.nilIface=>True|.pointer (some a)=>Mp a.block|.slice (some a) _ _=>Mp a.block|_=>False
theorem Ky(Mp:Nat->Prop)(v:Value)(B:¬DG Mp v):∃x,(∀m,VR m x v)/\(oq x\/∀m v',VR m x v'->v'=v):=by
 have y:NN v->∃x,(∀m,VR m x v)/\(oq x\/∀m v',VR m x v'->v'=v):=λh=>⟨.tuple _,λm=>.fK _ h,.inl trivial⟩
 cases v with
 |bool b=>exact absurd trivial B|int k n=>exact absurd trivial B|string s=>exact absurd trivial B|float k b=>exact y trivial|complex k a b=>exact y trivial|pointer a=>cases a with|none=>exact absurd trivial B|some a=>exact y trivial
 |slice a l c=>cases a with|none=>exact absurd trivial B|some a=>exact y trivial
 |map a=>cases a with|none=>exact absurd trivial B|some a=>exact y trivial
 |chan a=>cases a with|none=>exact absurd trivial B|some a=>exact y trivial
 |nilFunc=>exact absurd trivial B|nilIface=>exact absurd trivial B|iface t v=>exact y trivial|tuple c=>exact y trivial|agg c=>
  obtain⟨x,U,_⟩:=stands (.agg c)
  have hx:oq x:=by
   have:=U ⟨λ_=>none,λ_=>none,λ_=>False,λ_=>True,λ_=>True,False,λ_=>False,λ_=>0,λ_ _=>none,λ_=>none,0,λ_ _ h=>(by cases h),λ_ _ _ h=>(by cases h),λ_ _ _ h=>(by cases h)⟩;cases this<;>trivial
  exact⟨x,U,.inl hx⟩
 |func fn f c=>
  cases fn with
  |func g=>exact y trivial|methodOf t n=>exact y trivial|via t p g b=>exact y trivial|yield l=>exact y trivial|method n=>
   have O:∀i(h:i<f.size),∃x,(∀m,VR m x f[i])/\∀t z,f[i]=.iface t z->∃z',x=.iface t z':=λi h=>stands _;refine⟨.func _ (aM λi=>aF (O _ i.2)) _,λm=>.q9 (by simp) (λi h h'=>?_) (λt w hw=>?_),.inr λm v' h=>?_⟩;simp only[aI];exact(a2 (O i _)).1 m;obtain⟨Y,e0⟩:=aJ.1 hw;obtain⟨z,hz⟩:=(a2 (O 0 Y)).2 t w e0;refine⟨z,?_⟩;rw[aH (by simpa using Y)];simp only[aI];rw[hz]
   cases h with
   |func hf=>cases hf
   |q9 _ _ _=>rfl
theorem Mi{Mp:Nat->Prop}(hm:∀r,Mp r->m.blk r=some r)(h:DG Mp v):VR m v v:=by
 cases v with
 |bool b=>exact .bool b|int k n=>exact .int k n|string s=>exact .string s|pointer a=>cases a with|none=>exact .gQ|some a=>exact .ptr (.mk (hm _ h))
 |slice a l c=>cases a with|none=>exact .fu l c|some a=>exact .slice l c (.mk (hm _ h))
 |map a=>cases a with|none=>exact .my|some a=>exact h.elim
 |chan a=>cases a with|none=>exact .iW|some a=>exact h.elim
 |nilFunc=>exact .nilFunc|nilIface=>exact .nilIface|_=>exact h.elim
theorem KE{Mp:Nat->Prop}(hm:∀r,Mp r->m.blk r=some r)(h:DG Mp v)(O:VR m v v'):v'=v:=by
 have y:∀{a B:Addr},Mp a.block->AR m a B->B=a:=fun {a B} ha x=>by
  cases x with
  |mk hb=>
   rw[hm _ ha]at hb;cases hb;rfl
 cases O with
 |fK _ _=>exact h.elim|ptr x=>rw[y h x]|slice l c x=>rw[y h x]|map _=>exact h.elim|gone _=>exact h.elim|chan _=>exact h.elim|func _ _ _ _ _=>exact h.elim|iface _ _=>exact h.elim|agg _ _=>exact h.elim|tuple _ _=>exact h.elim|q9 _ _ _=>exact h.elim|_=>rfl
noncomputable def Qc (Mp:Nat->Prop) (v:Value):Value:=@dite _ (DG Mp v) (aG _) (λ_=>v) λh=>aF (Ky Mp v h)
theorem ue{Mp:Nat->Prop}(h:DG Mp v):Qc Mp v=v:=by simp[Qc,h]
theorem EP{Mp:Nat->Prop}(h:¬DG Mp v):Qc Mp v=aF (Ky Mp v h):=by simp[Qc,h]
theorem TW{Mp:Nat->Prop}(hm:∀r,Mp r->m.blk r=some r)(v:Value):VR m (Qc Mp v) v:=by
 by_cases h:DG Mp v;rw[ue h];exact Mi hm h;rw[EP h];exact(a2 (Ky Mp v h)).1 m
theorem Oi{Mp:Nat->Prop}(hm:∀r,Mp r->m.blk r=some r)(y:VR m (Qc Mp v) v'):oq (Qc Mp v)\/v'=v:=by
 by_cases h:DG Mp v;rw[ue h]at y;exact .inr (KE hm h y);rw[EP h]at y⊢;exact(a2 (Ky Mp v h)).2.imp id λx=>x m v' y
noncomputable def T4 (Mp:Nat->Prop):Obj->Obj
 |.cells c e f=>.cells (c.map (Qc Mp)) e f|o=>o
noncomputable def nh (W0:World) (Mp:Nat->Prop):World:={W0 with heap:=W0.heap.mapIdx λb o=>@ite _ (Mp b) (aG _) (T4 Mp o) o}
section
variable {W0:World} {Mp:Nat->Prop}
theorem sZ:(nh W0 Mp).heap.size=W0.heap.size:=by simp[nh]
theorem oU(h:Mp b){c:Array Value}{e:aV}{f:Nat×Nat}(hb:W0.heap[b]?=some (.cells c e f)):(nh W0 Mp).heap[b]?=some (.cells (c.map (Qc Mp)) e f):=by
 unfold nh;simp only[aK,hb];simp[h,T4]
theorem B6(h:¬Mp b):(nh W0 Mp).heap[b]?=W0.heap[b]?:=by
 unfold nh;simp only[aK]
 cases W0.heap[b]? with
 |none=>rfl|some o=>simp[h]
theorem j7{a:Addr}(B:DG Mp v)(h:W0.cell? a=some v):(nh W0 Mp).cell? a=some v:=by
 by_cases hm:Mp a.block;unfold bc at h⊢
 cases y:W0.heap[a.block]? with
 |none=>rw[y]at h;cases h
 |some o=>
  rw[y]at h
  cases o with
  |cells c e f=>
   rw[oU hm y];simp only at h⊢;split at h
   cases h;rename_i O;rw[if_neg O,Array.getElem?_map,h];simp[ue B]
  |_=>cases h
 unfold bc at h⊢;rw[B6 hm];exact h
noncomputable def ns (W0:World) (Mp:Nat->Prop):Ren where
 blk:=λr=>@ite _ (Mp r) (aG _) (some r) none
 ch:=λ_=>none
 loose:=λ_=>False
 ok:=Nd prog uc qV true
 fw:=λf=>uc f=true
 il:=False
 dead:=λ_=>False
 dm:=λ_=>0
 rY:=λr o=>@ite _ (Mp r) (aG _) (W0.cell? ⟨r,o,none⟩) none
 kI:=λ_=>none
 G:=5
 ou:=λr r' h=>by split at h<;>cases h;exact Iff.rfl
 inj:=λr s t h1 h2=>by
  split at h1<;>cases h1
  split at h2<;>cases h2
  rfl
 vm:=λ_ _ _ h=>by cases h
theorem nK(h:Mp r):(ns W0 Mp).blk r=some r:=by simp[ns,h]
theorem oh{r':Nat}(h:(ns W0 Mp).blk r=some r'):Mp r/\r'=r:=by
 simp only[ns]at h;split at h
 cases h;exact⟨by assumption,rfl⟩
 cases h
theorem L0(O:5<=W0.heap.size)(Y:∀r,Mp r->∃c e f,W0.heap[r]?=some (.cells c e f)):WR (ns W0 Mp) (nh W0 Mp) W0:=by
 refine⟨λr r' y=>?_,λr r' c e f c' e' f' y U B _=>?_,nofun,λ_ _ h=>(by cases h),by rw[sZ];exact O,O,rfl,λ_ _ h=>(by cases h),nofun,nofun,λr o v hv=>?_⟩;obtain⟨hm,rfl⟩:=oh y;obtain⟨c,e,f,hb⟩:=Y _ hm
 exact⟨_,_,oU hm hb,hb,.cells e f f (ep.ii (by simp) λi h h'=>by
  simp only[aN]
  exact TW (λr y=>nK y) _)⟩
 obtain⟨hm,rfl⟩:=oh y;rw[oU hm B]at U;cases U;rfl;simp only[ns]at hv;split at hv
 rename_i hm;refine⟨r,nK hm,λc e f c' e' f' x _ B _ _=>?_⟩;unfold bc at hv;rw[B]at hv;simpa using hv
 cases hv
theorem KU(B:∀g,qV g=true->Mp g):Rg (fJ Z W0 Mp) (ns W0 Mp):=
 ⟨SH rfl rfl rfl (nofun) (λg O=>nK (B g O)),id,λ_ _ h=>(by cases h),rfl,rfl,λr y=>nK y,λr o v y U=>by simp[ns,y,U]⟩
theorem N5{wS w:World}(hc:∀r,Mp r->∃c e f,W0.heap[r]?=some (.cells c e f))(y:Rg (fJ Z W0 Mp) m)(hw:WR m wS w)(ab:∀b,(fJ Z W0 Mp).fC b->w.heap[b]?=(fJ Z W0 Mp).w0.heap[b]?)(O:∀k,k<W0.heap.size->wS.heap[k]?=(nh W0 Mp).heap[k]?) :
  ∀b,b<W0.heap.size->w.heap[b]?=W0.heap[b]?:=by
 intro b hb;by_cases hm:Mp b;obtain⟨c,e,f,B⟩:=hc b hm;have U:=y.x.1 b hm;obtain⟨o,o',h1,h2,h3⟩:=hw.obj b b U;rw[O b hb,oU hm B]at h1;cases h1
 cases h3 with
 |@cells _ c' _ _ f' ac=>
  have ad:wS.heap[b]?=some (.cells (c.map (Qc Mp)) e f):=by rw[O b hb];exact oU hm B
  have hf:=hw.fz b b _ _ _ _ _ _ U ad h2 (y.pA.strict rfl b)
  have ah:=by
   have ae:=ac.size;simp at ae;refine Array.ext ae.symm λi hi Y=>?_;have hv:=ac.idx i (by simpa using Y) hi;simp only[aN]at hv;rcases Oi (λr hr=>y.x.1 r hr) hv with hn|he
   have aa:W0.cell? ⟨b,i,none⟩=some c[i]:=by
    unfold bc;rw[B];simp[Y]
   have hp:=y.x.2 b i _ hm aa;obtain⟨r',af,ag⟩:=hw.rY b i _ hp;rw[U]at af;cases af;have:=ag _ _ _ _ _ _ _ ad h2 (by simp[Y]) hn;rw[aH hi]at this;exact aZ this;exact he
  rw[h2,B,hf,ah]
 have:=ab b ⟨hb,hm⟩;rw[this];exact AX hm
end
section
variable {H:Type} {enc:aV×Value->H}
theorem pf{a:Assume}{C:Checked}{os:Os}{fn:Func}{s:OpenSpec}{F:Stop.Interp}{O:List PathCond}{apart fresh B U:Bool}{laid:List (String×DataW Unit)}
  (own:ownKnob C.prog.godebug=none) (Y:os.Started) (ad:C.prog.funcs[f]?=some fn)
  (witness:∃(w:World)(tape:Tape)(i:Input),w.os=os/\(w.forCall tape i).Shaped C.prog/\i.vars=[]/\Input.okWide C.prog (w.forCall tape i) .any w.heap.size f i/\
    s.preRow enc C.prog fn O apart laid (w.forCall tape i).memory i.args/\a.holds C.prog (lone (Frame.enter C.prog f i.args .normal) [] (w.forCall tape i)))
  (runs:∀(W:World)(base:Nat)(args:Array Value)(ds gs:List (DataW H))(y:List MemPlace),
    (∀(j:Nat)t v,fn.params[j]?=some t->args[j]?=some v->be C.prog W .any base t v)->
    DataW.Whole enc C.prog fn.params.toList s.vars apart W args.toList ds gs y->
    (∀k,s.cond=some k->k H (ds++gs)=true)->
    aX C.prog laid W->W.ShapedOpen C.prog->args.size=fn.params.size->
    tO C.prog (λv W'=>∃W2:World,W2.blind=W'.blind/\(s.at F).post enc C.prog fn apart fresh B U W args v W2) (solo (G (Frame.enter C.prog f args .normal) []) W) #[]) :
  aW a C os f .any (s.preRow enc C.prog fn O apart laid) ((s.at F).post enc C.prog fn apart fresh B U):=by
 refine returnsInLeavingWide_of_good own Y witness ?_;intro w tape i _ ae _ af aa _;obtain⟨_,_,_,ai,ab,_,_,_,ag,ac⟩:=af;have e:=aZ (ab.symm.trans ad);subst e;obtain⟨⟨hp,hl⟩,_⟩:=aa;obtain⟨ds,gs,y,hw,_,hk⟩:=OpenSpec.pre_parts hp;have ah:=DataW.Whole.of_heap (w':=w.forCall tape i) (by rfl) hw;obtain⟨N,last,o,w',t',h1,h2,h3,h4⟩:=runs _ _ _ ds gs y ac ah hk (hl.of_heap (by rfl)) ae ag;exact⟨N,last,o,w',t',h1,h2,h3,h4.mono λv ⟨W2,e2,hp⟩=>by rw[<-e2];exact ChangeSpec.post_blind hp⟩
end
def xv(W:World)(w:World):Prop:=Below W.heap.size W {w with tape:=W.tape}
theorem Ro{W0:World}{Mp:Nat->Prop}{gO:Func}{rs:Array Tmp}{tm:Array Value}{wl:World}(hc:∀r,Mp r->∃c e f,W0.heap[r]?=some (.cells c e f))(hf:prog.funcs[f]?=some gO)(ac:prog.inits.idxOf? f=none)(O:∀k,k<W0.heap.size->wl.heap[k]?=(nh W0 Mp).heap[k]?)(ad:Plain v)(U:∀w:World,(results gO tm).run prog w=.ok v w) :
  dl (fJ (ending prog λv' w=>v'=v/\xv W0 w) W0 Mp) [⟨f,tm,[.code .ret]⟩] wl []:=by
 refine dl.tail (λx hx=>by simp only[List.mem_singleton]at hx;subst hx;trivial) (.inr nofun) ?_;let y:LS->Prop:=λS=>S.cs=[door prog]/\S.fr.fn=f/\S.w.heap=wl.heap/\S.fr.leaving prog S.w (.returned v);refine iT.nu (Stop:=λS=>∃τ,y (S.on τ)) (λS τ ⟨B,h⟩=>⟨B,h⟩) (λτ _=>⟨1,⟨⟨f,tm,[.code _],[],.returning,.normal,none⟩,[door _],tp wl τ⟩,rfl,⟨τ,rfl,rfl,rfl,rfl,rfl,rfl,gO,hf,U _⟩,by simp⟩) λS' ⟨B,ae,af,hh,hl⟩=>?_;refine iT.tape (τ:=B) ?_;refine iT.done rfl rfl ae hl (by rw[af];exact ac) λm v2 w ag hv hw Y aa=>⟨?_,?_⟩
 cases hv<;>first|rfl|exact ad.elim
 have hold:=N5 hc ag hw Y (λk hk=>by rw[hh];exact O k hk);refine⟨aa.1,rfl,aa.2,?_,hold⟩;rcases Nat.lt_or_ge .. with ab|ah
 have:=hold _ ab;rw[Array.getElem?_eq_none (bh _),aH ab]at this;cases this;exact ah
open Go.ChangeShapes Go.WideShapes Go.ChangeAt
variable {gs:List (Option Addr)} {c l:Nat} {W:World}
theorem Uj:ownKnob prog.godebug=none:=by kernel_rfl
theorem qF:laidOutB prog=true:=by kernel_rfl
def Rr:List (String×DataW Unit):=[("math/bits.deBruijn32tab",Rows.laid_math_bits_deBruijn32tab),("math/bits.deBruijn64tab",Rows.laid_math_bits_deBruijn64tab),("internal/strconv.uint64pow10",Rows.laid_internal_strconv_uint64pow10),("hint/follow.weights",Rows.laid_hint_follow_weights)]
theorem Dp(h:aX prog Rr W):Nb W:=by
 have B:=h.tail.tail.tail;have y:=Lib.tabIs_of_head (k:=.u64) (zs:=[4,10,25]) (g:=0) (t:=195) (e:=141) (n:=3) (by kernel_rfl) (by kernel_rfl) underlying195 aS (by kernel_rfl) (by kernel_rfl) B;exact⟨y.cell (by kernel_rfl) 0 (by decide),y.cell (by kernel_rfl) 1 (by decide),y.cell (by kernel_rfl) 2 (by decide)⟩
theorem yM(h:W.ShapedOpen prog):∀g,g<5->∃c e f,W.heap[g]?=some (.cells c e f):=by
 have key:∀g,g<5->(((begin prog (λ_ _=>0) default).world.heap[g]?).bind Obj.row?).isSome=true:=by
  intro g y;rcases(by omega:g=0\/g=1\/g=2\/g=3\/g=4)with rfl|rfl|rfl|rfl|rfl<;>kernel_rfl
 intro g y;obtain⟨⟨z,t⟩,O⟩:=Option.isSome_iff_exists.1 (key g y);obtain⟨cs,B,_⟩:=h.1 g z t (y) O;exact⟨cs,t,_,B⟩
theorem AL{base:Nat}{t e:aV}{a:Addr}(U:prog.underlying t=some (.slice e))(h:be prog W .any base t (.slice (some a) l c)):a.spot=none/\∃cs y f,W.heap[a.block]?=some (.cells cs y f):=by
 simp only[be,U,Cell.okWide,Cell.ok]at h;obtain⟨_,_,_,B,row,cells,hsh,_⟩:=h;refine⟨B,?_⟩;unfold World.shape? at hsh
 cases O:W.heap[a.block]? with
 |none=>rw[O]at hsh;cases hsh
 |some o=>
  cases o with
  |cells cs y f=>exact⟨cs,y,f,rfl⟩|_=>rw[O]at hsh;cases hsh
def Pp(gs:List (Option Addr))(b:Nat):Prop:=qV b=true\/∃a,some a∈gs/\a.block=b
theorem Q9{g:Nat}(h:qV g=true):g<5:=by
 unfold qV at h;simp only[Bool.or_eq_true,beq_iff_eq]at h;omega
theorem Gn(y:W.ShapedOpen prog)(B:∀a,some a∈gs->∃c e f,W.heap[a.block]?=some (.cells c e f)):∀r,Pp gs r->∃c e f,W.heap[r]?=some (.cells c e f):=by
 rintro r (h|⟨a,h,rfl⟩);exact yM y r (Q9 h);exact B a h
theorem Ku(y:W.ShapedOpen prog):5<=W.heap.size:=by
 obtain⟨c,e,f,h⟩:=yM y 4 (by omega);have:=(aJ.1 h).1;omega
theorem OL{Mp:Nat->Prop}(h:Nb W):Nb (nh W Mp):=⟨j7 trivial h.1,j7 trivial h.2.1,j7 trivial h.2.2⟩
theorem yk{a:Option Addr}(h:a∈gs):VR (ns W (Pp gs)) (.slice a l c) (.slice a l c):=by
 cases a with
 |none=>exact .fu l c|some a=>exact .slice l c (.mk (nK (.inr ⟨a,h,rfl⟩)))
theorem PH{args:Array Value}{f:aY}{gO:Func}{c:Code}{v:Value}{tm:Array Value}(B:W.ShapedOpen prog)(Y:∀a,some a∈gs->∃c e f,W.heap[a.block]?=some (.cells c e f))(hf:prog.funcs[f]?=some gO)(hb:gO.body=some c)(y:ep (ns W (Pp gs)) args args)(O:args++Array.replicate (gO.ntmps-args.size) bi=tm)
  (h:dl (fJ (ending prog λv' w=>v'=v/\xv W w) W (Pp gs)) [⟨f,tm,[.code c]⟩] (nh W (Pp gs)) []):tO prog (λv' w=>v'=v/\xv W w) (solo (G (Frame.enter prog f args .normal) []) W) #[]:=
 Ip (E:=fJ _ W _) (m:=ns W _) rfl (λb hb=>⟨hb.1,(AX hb.2).symm⟩) (λr b U hb=>absurd (oh U).1 (by rw[<-(oh U).2];exact hb.2)) (EE _ _ _) (by rw[show(fJ _ W _).w0.heap.size=W.heap.size from wj W _];exact bh _) ⟨rfl,rfl⟩ rfl hf hb (KU λg hg=>.inl hg) (L0 (Ku B) (Gn B Y)) y (by rw[O];exact h)
theorem tO.mono{P:Program}{A B:Value->World->Prop}{M:Machine}{t:Trace}(h:tO P A M t)(y:∀v w,A v w->B v w):tO P B M t:=by
 obtain⟨N,last,o,w',t',O,U,Y,h4⟩:=h;exact⟨N,last,o,w',t',O,U,Y,h4.mono λv=>y v w'⟩
variable {p:List MemPlace} {cs:List Value} {base o:Nat} {a:Option Addr} {H:Type} {d:DataW H} {enc:aV×Value->H}
theorem jA{n:Int}(h:(Lit.int .i64 n).wf=true) : -9223372036854775808<=n/\n<=9223372036854775807:=by
 simpa[Lit.wf,IntKind.min,IntKind.signed,IntKind.bits]using h
theorem K6:prog.cellsOf 3=1:=by kernel_rfl
theorem Q4(U:be prog W .any base 26 (.slice a l c))(h:DataW.Trod enc prog W 0 (λ_=>true) true 26 (.slice a l c) d p) :
  ∃rs:List Int,rs.length=l/\A5 W a rs/\l<=c/\l<=9223372036854775807/\∀x,a=some x->∃c e f,W.heap[x.block]?=some (.cells c e f):=by
 obtain⟨ae,hf⟩:=h;rcases open_ints aP aO K6 hf with⟨B,Y⟩|⟨x,af,ag,zs,B,_,hl,hm,hz,Y,O,aa⟩
 obtain⟨rfl,rfl,rfl⟩:=B;exact⟨[],rfl,⟨λj hj=>absurd hj (by simp),λx Y=>absurd Y (by simp),λx Y=>absurd Y (by simp)⟩,bh _,by omega,nofun⟩;obtain⟨rfl,rfl,rfl⟩:=B;simp only[if_true]at hz;obtain⟨ad,ab⟩:=AL aP U;have ah:c<=9223372036854775807:=hm;refine⟨zs.take l,by simp;omega,⟨λj hj=>?_,λy hy=>(jA (aa y (bg hy))).1,λy hy=>(jA (aa y (bg hy))).2⟩,hl,by omega,λy e=>by cases e;exact ab⟩;obtain⟨b,off,spot⟩:=x;subst ad;have ac:j<zs.length:=by simp at hj;omega
 have:=O j ac;rw[Addr.add_lit]at this;refine⟨b,off,rfl,?_⟩;rw[this];simp[List.getD,ac]
theorem Ta:prog.cellsOf 48=4:=by kernel_rfl
theorem take_one{v:Value}(h:(cs.drop o).take 1=[v]):cs[o]?=some v:=by
 have:((cs.drop o).take 1)[0]?=some v:=by rw[h];rfl
 simpa using this
theorem OQ{w:World}{spare:Nat->Bool}{held:Bool}{O:Nat}{b:Nat}{x:DataW H×List MemPlace}
  (hc:w.cells? base ⟨b,o,none⟩ 4=some cs) (h:DataW.trod enc prog w base spare held O 48 cs=some x) :
  ∃r:Raw,r.Ok/\w.cell? ⟨b,o,none⟩=some (.int .i64 r.name)/\w.cell? ⟨b,o+1,none⟩=some (.int .i64 r.text)/\w.cell? ⟨b,o+2,none⟩=some (.int .i64 r.dp)/\w.cell? ⟨b,o+3,none⟩=some (.int .i64 r.dA):=by
 obtain⟨xs,n,rfl,_,hl,Y,U⟩:=DataW.trod_struct underlying48 h;obtain⟨_,aa,B⟩:=World.cells?_some hc;have ab:xs.length=4:=Y
 have cell:∀i,i<4->∀v,cs[i]?=some v->w.cell? _=some v:=λi hi v hv=>by
  have:=B i hi;rw[hv]at this;exact this
 have one:∀i,i<4->∃n:Int,w.cell? _=some _/\-9223372036854775808<=n/\n<=9223372036854775807:=λi hi=>by
  obtain⟨y,e⟩:∃y,xs[i]?=some y:=⟨xs[i],bf _⟩
  have f:DataW.trod enc prog w base spare held n 3 ((cs.drop i).take (prog.cellsOf 3))=some y:=by
   rcases(by omega:i=0\/i=1\/i=2\/i=3)with rfl|rfl|rfl|rfl
   exact(U 0 _ rfl).trans e;exact(U 1 _ rfl).trans e;exact(U 2 _ rfl).trans e;exact(U 3 _ rfl).trans e
  obtain⟨n,g,_,wf⟩:=DataW.trod_int aO f;exact⟨n,cell i hi _ (take_one g),jA wf⟩
 obtain⟨n0,p0,q0⟩:=one 0 (by omega);obtain⟨n1,p1,q1⟩:=one 1 (by omega);obtain⟨n2,p2,q2⟩:=one 2 (by omega);obtain⟨n3,p3,q3⟩:=one 3 (by omega);exact⟨⟨n0,n1,n2,n3⟩,⟨q0.1,q0.2,q1.1,q1.2,q2.1,q2.2,q3.1,q3.2⟩,p0,p1,p2,p3⟩
theorem N'(Y:be prog W .any base 25 (.slice a l c))(h:DataW.Trod enc prog W 0 (λ_=>true) true 25 (.slice a l c) d p) :
  ∃rs:List Raw,rs.length=l/\sq W a rs/\l<=c/\l<=9223372036854775807/\∀x,a=some x->∃c e f,W.heap[x.block]?=some (.cells c e f):=by
 obtain⟨ae,hf⟩:=h;rcases DataW.trod_slice aQ hf with⟨O,hx⟩|⟨x,af,ag,elems,rest,n,_,O,_,hb,hl,hm,ah,ac,ai,aj⟩
 obtain⟨rfl,rfl,rfl⟩:=O;exact⟨[],rfl,⟨λj B=>absurd B (by simp),λx hx=>absurd hx (by simp)⟩,bh _,by omega,nofun⟩;obtain⟨rfl,rfl,rfl⟩:=O;obtain⟨aa,ab⟩:=AL aQ Y;have ak:c<=9223372036854775807:=hm;obtain⟨b,off,spot⟩:=x;subst aa
 have each:∀j,j<l->∃r:Raw,r.Ok/\W.cell? _=some _/\W.cell? _=some _/\W.cell? _=some _/\W.cell? _=some _:=λj B=>by
  have h1:=ac j B;rw[bf (by omega),Option.bind_eq_some_iff]at h1;obtain⟨cs,h2,h3⟩:=h1;rw[Addr.add_lit]at h2;exact OQ h2 h3
 have U:∀j,∃r:Raw,j<l->r.Ok/\W.cell? _=some _/\W.cell? _=some _/\W.cell? _=some _/\W.cell? _=some _:=λj=>by
  by_cases B:j<l;obtain⟨r,hr⟩:=each j B;exact⟨r,λ_=>hr⟩;exact⟨⟨0,0,0,0⟩,λh=>absurd h B⟩
 refine⟨(List.range l).map λj=>aF (U j),by simp,⟨λj B=>?_,λy hy=>?_⟩,hl,by omega,λy e=>by cases e;exact ab⟩;have ad:=by simpa using B
 have:=a2 (U j) ad;rw[List.getElem_map,List.getElem_range];exact⟨b,off,rfl,this.2⟩;obtain⟨j,B,rfl⟩:=List.mem_map.1 hy;exact(a2 (U j) (List.mem_range.1 B)).1
theorem NF(h:aX prog Rr W):lX W:=by
 have y:=h.tail.tail;exact Lib.tabIs_of_head (k:=.u64) (zs:=Lib.pow10Tab) (g:=2) (t:=295) (e:=141) (n:=20) (by kernel_rfl) (by kernel_rfl) underlying295 aS (by kernel_rfl) (by kernel_rfl) y
theorem PL{Mp:Nat->Prop}(h:lX W):lX (nh W Mp):=by
 unfold lX Lib.TabIs World.var? at h⊢;rw[show prog.globalNamed _=some 2 by kernel_rfl]at h⊢;simp only[Option.bind_some]at h⊢
 cases y:W.heap[2]? with
 |none=>rw[y]at h;cases h
 |some o=>
  rw[y]at h
  cases o with
  |cells c e f=>
   simp only[ba]at h;by_cases hm:Mp 2;rw[oU hm y];simp only[ba];rw[h];apply Array.ext';simp only[Array.toList_map,List.map_map];apply List.map_congr_left;intro z _;exact ue trivial;rw[B6 hm,y];simp only[ba];exact h
  |_=>cases h
variable {Mp:Nat->Prop} {ra:Option Addr}
theorem MV{rs:List Int}(h:A5 W ra rs):A5 (nh W Mp) ra rs:=⟨λj y=>by
 obtain⟨b,off,e,B⟩:=h.cell j y
 exact⟨b,off,e,j7 trivial B⟩,h.lo,h.hi⟩
theorem Jl{rs:List Raw}(h:sq W ra rs):sq (nh W Mp) ra rs:=⟨λj y=>by
 obtain⟨b,off,e,B,O,U,Y⟩:=h.cell j y
 exact⟨b,off,e,j7 trivial B,j7 trivial O,j7 trivial U,j7 trivial Y⟩,h.ok⟩
theorem Js{O U:Option Addr}{Y:List Raw}{rs:List Int}{lc rc:Nat}{md c fr too ch tg y:Int}(B:W.ShapedOpen prog)(hW:Nb W)(aa:lX W)(hL:sq W O Y)(hT:A5 W U rs)(ab:∀a,some a∈[O,U]->∃c e f,W.heap[a.block]?=some (.cells c e f))(ac:Y.length<=lc)(ad:rs.length<=rc)(ae:Y.length<=9223372036854775807)(af:rs.length<=9223372036854775807)
  (Tr : -9223372036854775808<=md) (Tv:md<=9223372036854775807) (c0 : -9223372036854775808<=c) (c1:c<=9223372036854775807) (Ts : -9223372036854775808<=fr) (Tw:fr<=9223372036854775807) (MM : -9223372036854775808<=too) (LC:too<=9223372036854775807) (Tn : -9223372036854775808<=ch) (Ty:ch<=9223372036854775807) (Tz : -9223372036854775808<=tg) (Tp:tg<=9223372036854775807) (Mw : -9223372036854775808<=y) (Lw:y<=9223372036854775807) :
  tO prog (λv' w=>v'=.bool true/\xv W w) (solo (G (Frame.enter prog 6 #[.slice O Y.length lc,.slice U rs.length rc,.int .i64 md,.int .i64 c,.int .i64 fr,.int .i64 too,.int .i64 ch,.int .i64 tg,.int .i64 y] .normal) []) W) #[]:=by
 refine PH (gs:=[O,U]) (tm:=#[.slice O Y.length lc,.slice U rs.length rc,.int .i64 md,.int .i64 c,.int .i64 fr,.int .i64 too,.int .i64 ch,.int .i64 tg,.int .i64 y,bi,bi,bi,bi,bi,bi,bi,bi,bi,bi,bi,bi,bi,bi,bi,bi,bi,bi,bi,bi,bi,bi,bi,bi,bi,bi,bi,bi,bi,bi,bi,bi,bi,bi,bi,bi,bi,bi,bi,bi,bi,bi,bi,bi,bi,bi,bi,bi,bi,bi,bi,bi,bi,bi,bi,bi,bi,bi,bi,bi,bi,bi]) (gO:=Tryz.f6) (c:=ey Tryz.f6) B ab aR (by kernel_rfl) (.cons (yk (by simp)) (.cons (yk (by simp)) (.cons (.int _ _) (.cons (.int _ _) (.cons (.int _ _) (.cons (.int _ _) (.cons (.int _ _) (.cons (.int _ _) (.cons (.int _ _) .nil))))))))) (by kernel_rfl) ?_;refine H9 ⟨OL hW,PL aa⟩ (by rw[sZ];exact Ku B) (Jl hL) (MV hT) ac ad ae af Tr Tv c0 c1 Ts Tw MM LC Tn Ty Tz Tp Mw Lw λw ah hF ag=>?_;refine Ro (gO:=Tryz.f6) (rs:=#[]) (Gn B ab) aR (by kernel_rfl) (λk hk=>hF.block k (by rw[sZ];exact hk)) trivial λw=>?_;simp[results,results6,go_sem,ag]
theorem Mz(os:Os)(args:Array Value):laidMet prog Rr ((bd prog 29 os).forCall (λ_ _=>0) ⟨#[],args,[]⟩).memory:=
 laidMet_of_run' 8 (by kernel_rfl) (by kernel_rfl)
theorem Qs(os:Os)(enc:aV×Value->H):∃places,DataW.whole enc prog ((bd prog 29 os).forCall (λ_ _=>0) ⟨#[],#[.slice none 0 0,.slice none 0 0,.int .i64 0,.int .i64 0,.int .i64 0,.int .i64 0,.int .i64 0,.int .i64 0,.int .i64 0],[]⟩).memory Tryz.f6.params.toList Rows.foundSpec.vars false #[Value.slice none 0 0,.slice none 0 0,.int .i64 0,.int .i64 0,.int .i64 0,.int .i64 0,.int .i64 0,.int .i64 0,.int .i64 0].toList 8=some ([.nil,.nil,.lit (.int .i64 0),.lit (.int .i64 0),.lit (.int .i64 0),.lit (.int .i64 0),.lit (.int .i64 0),.lit (.int .i64 0),.lit (.int .i64 0)],[],places):=
 ⟨[],by kernel_rfl⟩
theorem PS(os:Os)(B:os.Started)(H:Type)(enc:aV×Value->H) :
  aW {} aT os 6 .any ((OpenSpec.ofChange Rows.foundSpec).preRow enc prog Tryz.f6 Rows.foundRow.domain false Rr) (Rows.foundSpec.post enc prog Tryz.f6 false true false false):=by
 obtain⟨places,hx⟩:=Qs os enc
 refine pf (C:=aT) (s:=OpenSpec.ofChange Rows.foundSpec) (F:=λ_ _ _=>0) Uj B aR
  (witness_row_at (enc:=enc) (C:=aT) false (bd prog 29 os) #[.slice none 0 0,.slice none 0 0,.int .i64 0,.int .i64 0,.int .i64 0,.int .i64 0,.int .i64 0,.int .i64 0,.int .i64 0] rfl (by kernel_rfl) (by kernel_rfl) (by kernel_rfl)
    (OpenSpec.preRow_of_cond 8 hx (by kernel_rfl) (λk hk=>by cases hk) (by kernel_rfl) (Mz os _))) ?_
 intro W base args ds gs ae O hW _ hL af _;have y:∀(j:Nat)t v,Tryz.f6.params[j]?=some t->args[j]?=some v->be prog W .any base t v:=O;have ac:=hW;obtain⟨p,q,ad,hV,rfl,_,_⟩:=hW;have hA:DataW.TrodAll enc prog W 0 (λ_=>true) true Tryz.f6.params.toList args.toList ds p:=ad;rw[params6]at hA y;obtain⟨v0,av,d0,aw,p0,q0,U,rfl,rfl,h0,r0⟩:=trodAll_cons hA;obtain⟨v1,ax,d1,ay,p1,q1,rfl,rfl,rfl,h1,r1⟩:=trodAll_cons r0;obtain⟨v2,az,d2,a3,p2,q2,rfl,rfl,rfl,h2,r2⟩:=trodAll_cons r1;obtain⟨v3,a4,d3,a5,p3,q3,rfl,rfl,rfl,h3,r3⟩:=trodAll_cons r2;obtain⟨v4,a6,d4,a7,p4,q4,rfl,rfl,rfl,h4,r4⟩:=trodAll_cons r3;obtain⟨v5,a8,d5,a9,p5,q5,rfl,rfl,rfl,h5,r5⟩:=trodAll_cons r4;obtain⟨v6,a',d6,aA,p6,q6,rfl,rfl,rfl,h6,r6⟩:=trodAll_cons r5;obtain⟨v7,aB,d7,aC,p7,q7,rfl,rfl,rfl,h7,r7⟩:=trodAll_cons r6;obtain⟨v8,aD,d8,aE,p8,q8,rfl,rfl,rfl,h8,r8⟩:=trodAll_cons r7;obtain⟨rfl,rfl,rfl⟩:=trodAll_nil r8;obtain rfl:args=#[v0,v1,v2,v3,v4,v5,v6,v7,v8]:=by cases args;simp_all
 obtain⟨rfl,rfl⟩:=trodVars_none hV;obtain⟨a0,ap,aq,rfl⟩:=okWide_slice aQ (y 0 25 v0 rfl rfl);obtain⟨a1,ar,au,rfl⟩:=okWide_slice aP (y 1 26 v1 rfl rfl);have ag:=y 0 25 _ rfl rfl;have ah:=y 1 26 _ rfl rfl;obtain⟨z2,rfl,rfl,rfl,w2⟩:=open_int aO (y 2 3 v2 rfl rfl) h2;obtain⟨z3,rfl,rfl,rfl,w3⟩:=open_int aO (y 3 3 v3 rfl rfl) h3;obtain⟨z4,rfl,rfl,rfl,w4⟩:=open_int aO (y 4 3 v4 rfl rfl) h4;obtain⟨z5,rfl,rfl,rfl,w5⟩:=open_int aO (y 5 3 v5 rfl rfl) h5;obtain⟨z6,rfl,rfl,rfl,w6⟩:=open_int aO (y 6 3 v6 rfl rfl) h6;obtain⟨z7,rfl,rfl,rfl,w7⟩:=open_int aO (y 7 3 v7 rfl rfl) h7;obtain⟨z8,rfl,rfl,rfl,w8⟩:=open_int aO (y 8 3 v8 rfl rfl) h8;have k0:=h0;have k1:=h1;have ai:∀x∈p0,x.block<W.heap.size:=by obtain⟨m,hm⟩:=k0;exact DataW.trod_lt m _ _ _ hm
 have T3:∀x∈p1,x.block<W.heap.size:=by obtain⟨m,hm⟩:=k1;exact DataW.trod_lt m _ _ _ hm
 obtain⟨ls,rfl,aj,ak,al,Y⟩:=N' ag h0;obtain⟨rs,rfl,am,an,ao,aa⟩:=Q4 ah h1;clear ad O U;simp only[List.append_nil]at ac
 refine(Js af (Dp hL) (NF hL) aj am (λa ha=>by
  simp only[List.mem_cons,List.not_mem_nil,or_false]at ha;rcases ha with ha|ha
  exact Y a ha.symm
  exact aa a ha.symm) ak an al ao (jA w2).1 (jA w2).2 (jA w3).1 (jA w3).2 (jA w4).1 (jA w4).2 (jA w5).1 (jA w5).2 (jA w6).1 (jA w6).2 (jA w7).1 (jA w7).2 (jA w8).1 (jA w8).2).mono λv w ⟨hv,ab⟩=>?_
 subst hv;refine⟨{w with tape:=W.tape},rfl,?_⟩;exact⟨_,_,_,[],_,[],ac,trodAll_mk1 (shut_bool underlying4 _),aU (Below.trod qF (by kernel_rfl) (of_decide_eq_true (by kernel_rfl)) k0 ab ai) (aU (Below.trod qF (by kernel_rfl) (of_decide_eq_true (by kernel_rfl)) k1 ab T3) (aU (shut_int aO w2) (aU (shut_int aO w3) (aU (shut_int aO w4) (aU (shut_int aO w5) (aU (shut_int aO w6) (aU (shut_int aO w7) (aU (shut_int aO w8) trodAll_mk0)))))))),rfl,ab.frame _,λh=>by cases h⟩
theorem Mg:Rows.FoundSaid:=
 OpenClaim.holds_of_wide_leaving 6 Tryz.f6 rfl rfl rfl rfl rfl rfl rfl ⟨rfl,rfl,rfl,rfl,rfl⟩ rfl rfl rfl rfl rfl (by kernel_rfl) aR (by kernel_rfl)
  (of_decide_eq_true (by kernel_rfl)) (by unfold Func.isWrapper;first|(rw[if_pos (by decide +kernel)];kernel_rfl)|(rw[if_neg (by decide +kernel)];exact⟨rfl,rfl⟩))
  (λos y H enc _=>by rw[OpenClaim.pre_eq_preRow];exact PS os y H enc)
theorem IY(f:aY)(fn:Func)(O:Tryz.pinned.checked.prog.funcNamed Rows.foundRow.func=some f)(y:Tryz.pinned.checked.prog.funcs[f]?=some fn) :
  true=Tryz.pinned.checked.prog.looks []/\∀(j:Nat)t,fn.params[j]?=some t->Tryz.pinned.checked.prog.wantsStandIn t=false:=by
 obtain rfl:f=6:=aZ ((show prog.funcNamed Rows.foundRow.func=some 6 by kernel_rfl).symm.trans O) |>.symm
 obtain rfl:fn=Tryz.f6:=(aZ (aR.symm.trans y)).symm;refine⟨by kernel_rfl,λj t B=>?_⟩;rw[params6]at B;have:t=25\/t=26\/t=3:=by simpa using Array.mem_of_getElem? B
 rcases this with rfl|rfl|rfl
 .exact(show prog.wantsStandIn 25=false by kernel_rfl)
 .exact(show prog.wantsStandIn 26=false by kernel_rfl)
 exact(show prog.wantsStandIn 3=false by kernel_rfl)
end
end Go.Proofs.YtocbogeoffeolaaGreatDoor
