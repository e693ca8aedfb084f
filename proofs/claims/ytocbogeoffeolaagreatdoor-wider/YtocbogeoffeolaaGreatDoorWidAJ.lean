import Derived.Test.YtocbogeoffeolaaGreatDoorWidAI
import Derived.Test.YtocbogeoffeolaaGreatDoorCards
import Derived.Test.YtocbogeoffeolaaGreatDoorTie
import Derived.Conc.LeavingOf
import Derived.Deep.DeepHandedRow
import Derived.Lib.LaidTab
import Derived.LaidMore
import Derived.Stop.LaidErr
import Derived.OpenShut
set_option linter.all false
set_option maxHeartbeats 8000000
set_option maxRecDepth 1000000
open Classical renaming choose_spec->a2,choose->aE,propDecidable->aF
open Array renaming getElem?_eq_getElem->aG,getElem_ofFn->aH,getElem?_eq_some_iff->aI,getElem?_mapIdx->aJ,sizeOf_getElem->aK,ofFn->aL,getElem_map->aM
open Go.Proofs.Tryz renaming underlying3->aN,underlying26->aO,underlying25->aP,func8->aQ,underlying141->aR,checked->aS
open Go renaming trodAll_cons_mk->aT,TypeId->aU,ReturnsInLeavingWide->aV,laidMetH->aW,FuncId->aX
open Option.some renaming inj->aY,injEq->aZ
open Go.World renaming cell?->ba,doorLaid->bc
open Go.Value renaming okWide->bd
open List renaming getElem?_eq_getElem->be,mem_of_mem_take->bf
open Nat renaming le_refl->bg
open Go renaming undef->bh
namespace Go.Proofs.YtocbogeoffeolaaGreatDoor
open Go.Proofs.Tryz
section
open Go.Conc Go.RowKit
variable {f:aX} {Z:iS prog} {b r:Nat} {m:Ren} {v v':Value}
theorem stands:∀v:Value,∃x,(∀m,VR m x v)/\∀t z,v=.iface t z->∃O,x=.iface t O
 |.bool b=>⟨_,λ_=>.bool b,λ_ _ e=>(by cases e)⟩
 |.int k n=>⟨_,λ_=>.int k n,λ_ _ e=>(by cases e)⟩
 |.string s=>⟨_,λ_=>.string s,λ_ _ e=>(by cases e)⟩
 |.float k b=>⟨_,λ_=>.fJ _ trivial,λ_ _ e=>(by cases e)⟩
 |.complex k a b=>⟨_,λ_=>.fJ _ trivial,λ_ _ e=>(by cases e)⟩
 |.pointer none=>⟨_,λ_=>.gM,λ_ _ e=>(by cases e)⟩
 |.pointer (some a)=>⟨_,λ_=>.fJ _ trivial,λ_ _ e=>(by cases e)⟩
 |.slice none l c=>⟨_,λ_=>.ft l c,λ_ _ e=>(by cases e)⟩
 |.slice (some a) l c=>⟨_,λ_=>.fJ _ trivial,λ_ _ e=>(by cases e)⟩
 |.map none=>⟨_,λ_=>.mz,λ_ _ e=>(by cases e)⟩
 |.map (some r)=>⟨_,λ_=>.fJ _ trivial,λ_ _ e=>(by cases e)⟩
 |.chan none=>⟨_,λ_=>.iR,λ_ _ e=>(by cases e)⟩
 |.chan (some r)=>⟨_,λ_=>.fJ _ trivial,λ_ _ e=>(by cases e)⟩
 |.nilFunc=>⟨_,λ_=>.nilFunc,λ_ _ e=>(by cases e)⟩
 |.nilIface=>⟨_,λ_=>.nilIface,λ_ _ e=>(by cases e)⟩
 |.tuple c=>⟨_,λ_=>.fJ _ trivial,λ_ _ e=>(by cases e)⟩
 |.iface t v=>by
  obtain⟨x,Y,_⟩:=stands v
  exact⟨.iface t x,λm=>.iface t (Y m),λ_ _ e=>(by cases e; exact⟨_,rfl⟩)⟩
 |.agg c=>by
  have B:∀i(h:i<c.size),∃x,(∀m,VR m x c[i])/\∀t z,c[i]=.iface t z->∃O,x=.iface t O:=λi h=>stands _;refine⟨.agg (aL λi=>aE (B _ i.2)),λm=>.agg (by simp) λi h h'=>?_,λ_ _ e=>(by cases e)⟩;simp only[aH];exact(a2 (B i _)).1 m
 |.func (.func f) a c=>⟨_,λ_=>.fJ _ trivial,λ_ _ e=>(by cases e)⟩
 |.func (.methodOf t n) a c=>⟨_,λ_=>.fJ _ trivial,λ_ _ e=>(by cases e)⟩
 |.func (.via t p f b) a c=>⟨_,λ_=>.fJ _ trivial,λ_ _ e=>(by cases e)⟩
 |.func (.yield l) a c=>⟨_,λ_=>.fJ _ trivial,λ_ _ e=>(by cases e)⟩
 |.func (.method n) f c=>by
  have B:∀i(h:i<f.size),∃x,(∀m,VR m x f[i])/\∀t z,f[i]=.iface t z->∃O,x=.iface t O:=λi h=>stands _;refine⟨.func _ (aL λi=>aE (B _ i.2)) _,λm=>.qx (by simp) (λi h h'=>?_) (λt w hw=>?_),λ_ _ e=>(by cases e)⟩
  .simp only[aH];exact(a2 (B i _)).1 m
  .obtain⟨U,e0⟩:=aI.1 hw;obtain⟨z,hz⟩:=(a2 (B 0 U)).2 t w e0;refine⟨z,?_⟩;rw[aG (by simpa using U)];simp only[aH];rw[hz]
termination_by v=>SizeOf.sizeOf v
decreasing_by
 all_goals simp_wf
 all_goals(first|omega|(have:=aK c i h; omega)|(have:=aK f i h; omega))
def Dw(Mp:Nat->Prop):Value->Prop
 |.bool _|.int _ _|.string _|.pointer none|.slice none _ _|.map none|.chan none|.nilFunc|.nilIface=>True
 |.pointer (some a)=>Mp a.block
 |.slice (some a) _ _=>Mp a.block
 |_=>False
theorem Ju(Mp:Nat->Prop)(v:Value)(O:¬Dw Mp v):∃x,(∀m,VR m x v)/\(nX x\/∀m v',VR m x v'->v'=v):=by
 have B:Pt v->∃x,(∀m,VR m x v)/\(nX x\/∀m v',VR m x v'->v'=v):=λh=>⟨.tuple _,λm=>.fJ _ h,.inl trivial⟩
 cases v with
 |bool b=>exact absurd trivial O
 |int k n=>exact absurd trivial O
 |string s=>exact absurd trivial O
 |float k b=>exact B trivial
 |complex k a b=>exact B trivial
 |pointer a=>cases a with|none=>exact absurd trivial O|some a=>exact B trivial
 |slice a l c=>cases a with|none=>exact absurd trivial O|some a=>exact B trivial
 |map a=>cases a with|none=>exact absurd trivial O|some a=>exact B trivial
 |chan a=>cases a with|none=>exact absurd trivial O|some a=>exact B trivial
 |nilFunc=>exact absurd trivial O
 |nilIface=>exact absurd trivial O
 |iface t v=>exact B trivial
 |tuple c=>exact B trivial
 |agg c=>
  obtain⟨x,Y,_⟩:=stands (.agg c)
  have hx:nX x:=by
   have:=Y ⟨λ_=>none,λ_=>none,λ_=>False,λ_=>True,λ_=>True,False,λ_=>False,λ_=>0,λ_ _=>none,λ_=>none,0,λ_ _ h=>(by cases h),λ_ _ _ h=>(by cases h),λ_ _ _ h=>(by cases h)⟩;cases this<;>trivial
  exact⟨x,Y,.inl hx⟩
 |func fn f c=>
  cases fn with
  |func g=>exact B trivial
  |methodOf t n=>exact B trivial
  |via t p g b=>exact B trivial
  |yield l=>exact B trivial
  |method n=>
   have U:∀i(h:i<f.size),∃x,(∀m,VR m x f[i])/\∀t z,f[i]=.iface t z->∃z',x=.iface t z':=λi h=>stands _;refine⟨.func _ (aL λi=>aE (U _ i.2)) _,λm=>.qx (by simp) (λi h h'=>?_) (λt w hw=>?_),.inr λm v' h=>?_⟩
   .simp only[aH];exact(a2 (U i _)).1 m
   .obtain⟨hl,e0⟩:=aI.1 hw;obtain⟨z,hz⟩:=(a2 (U 0 hl)).2 t w e0;refine⟨z,?_⟩;rw[aG (by simpa using hl)];simp only[aH];rw[hz]
   .cases h with
    |func hf=>cases hf
    |qx _ _ _=>rfl
theorem KX{Mp:Nat->Prop}(hm:∀r,Mp r->m.blk r=some r)(h:Dw Mp v):VR m v v:=by
 cases v with
 |bool b=>exact .bool b
 |int k n=>exact .int k n
 |string s=>exact .string s
 |pointer a=>cases a with|none=>exact .gM|some a=>exact .ptr (.mk (hm _ h))
 |slice a l c=>cases a with|none=>exact .ft l c|some a=>exact .slice l c (.mk (hm _ h))
 |map a=>cases a with|none=>exact .mz|some a=>exact h.elim
 |chan a=>cases a with|none=>exact .iR|some a=>exact h.elim
 |nilFunc=>exact .nilFunc
 |nilIface=>exact .nilIface
 |_=>exact h.elim
theorem Mb{Mp:Nat->Prop}(hm:∀r,Mp r->m.blk r=some r)(h:Dw Mp v)(U:VR m v v'):v'=v:=by
 have B:∀{a O:Addr},Mp a.block->AR m a O->O=a:=fun {a O} ha x=>by
  cases x with
  |mk hb=>
   rw[hm _ ha]at hb;cases hb;rfl
 cases U with
 |fJ _ _=>exact h.elim
 |ptr x=>rw[B h x]
 |slice l c x=>rw[B h x]
 |map _=>exact h.elim
 |gone _=>exact h.elim
 |chan _=>exact h.elim
 |func _ _ _ _ _=>exact h.elim
 |iface _ _=>exact h.elim
 |agg _ _=>exact h.elim
 |tuple _ _=>exact h.elim
 |qx _ _ _=>exact h.elim
 |_=>rfl
noncomputable def Py (Mp:Nat->Prop) (v:Value):Value:=@dite _ (Dw Mp v) (aF _) (λ_=>v) λh=>aE (Ju Mp v h)
theorem tq{Mp:Nat->Prop}(h:Dw Mp v):Py Mp v=v:=by simp[Py,h]
theorem Fa{Mp:Nat->Prop}(h:¬Dw Mp v):Py Mp v=aE (Ju Mp v h):=by simp[Py,h]
theorem TH{Mp:Nat->Prop}(hm:∀r,Mp r->m.blk r=some r)(v:Value):VR m (Py Mp v) v:=by
 by_cases h:Dw Mp v
 .rw[tq h]; exact KX hm h
 .rw[Fa h]; exact(a2 (Ju Mp v h)).1 m
theorem NW{Mp:Nat->Prop}(hm:∀r,Mp r->m.blk r=some r)(B:VR m (Py Mp v) v'):nX (Py Mp v)\/v'=v:=by
 by_cases h:Dw Mp v
 .rw[tq h]at B; exact .inr (Mb hm h B)
 .rw[Fa h]at B⊢;exact(a2 (Ju Mp v h)).2.imp id λx=>x m v' B
noncomputable def Ti (Mp:Nat->Prop):Obj->Obj
 |.cells c e f=>.cells (c.map (Py Mp)) e f
 |o=>o
noncomputable def np (W0:World) (Mp:Nat->Prop):World:={W0 with heap:=W0.heap.mapIdx λb o=>@ite _ (Mp b) (aF _) (Ti Mp o) o}
section
variable {W0:World} {Mp:Nat->Prop}
theorem sK:(np W0 Mp).heap.size=W0.heap.size:=by simp[np]
theorem oW(h:Mp b){c:Array Value}{e:aU}{f:Nat×Nat}(hb:W0.heap[b]?=some (.cells c e f)):(np W0 Mp).heap[b]?=some (.cells (c.map (Py Mp)) e f):=by
 unfold np;simp only[aJ,hb];simp[h,Ti]
theorem AK(h:¬Mp b):(np W0 Mp).heap[b]?=W0.heap[b]?:=by
 unfold np;simp only[aJ]
 cases W0.heap[b]? with
 |none=>rfl
 |some o=>simp[h]
theorem jw{a:Addr}(O:Dw Mp v)(h:W0.cell? a=some v):(np W0 Mp).cell? a=some v:=by
 by_cases hm:Mp a.block
 .unfold ba at h⊢
  cases B:W0.heap[a.block]? with
  |none=>rw[B]at h; cases h
  |some o=>
   rw[B]at h
   cases o with
   |cells c e f=>
    rw[oW hm B];simp only at h⊢;split at h
    .cases h
    .rename_i U;rw[if_neg U,Array.getElem?_map,h];simp[tq O]
   |_=>cases h
 .unfold ba at h⊢;rw[AK hm];exact h
noncomputable def nE (W0:World) (Mp:Nat->Prop):Ren where
 blk:=λr=>@ite _ (Mp r) (aF _) (some r) none
 ch:=λ_=>none
 loose:=λ_=>False
 ok:=Nf prog rL qd true
 fu:=λf=>rL f=true
 ig:=False
 dead:=λ_=>False
 dm:=λ_=>0
 rP:=λr o=>@ite _ (Mp r) (aF _) (W0.cell? ⟨r,o,none⟩) none
 kJ:=λ_=>none
 G:=5
 oh:=λr r' h=>by split at h<;>cases h; exact Iff.rfl
 inj:=λr s t h1 h2=>by
  split at h1<;>cases h1
  split at h2<;>cases h2
  rfl
 uB:=λ_ _ _ h=>by cases h
theorem ns(h:Mp r):(nE W0 Mp).blk r=some r:=by simp[nE,h]
theorem oc{r':Nat}(h:(nE W0 Mp).blk r=some r'):Mp r/\r'=r:=by
 simp only[nE]at h;split at h
 .cases h; exact⟨by assumption,rfl⟩
 .cases h
theorem Ky(U:5<=W0.heap.size)(hc:∀r,Mp r->∃c e f,W0.heap[r]?=some (.cells c e f)):WR (nE W0 Mp) (np W0 Mp) W0:=by
 refine⟨λr r' B=>?_,λr r' c e f c' e' f' B Y O _=>?_,nofun,λ_ _ h=>(by cases h),by rw[sK]; exact U,U,rfl,λ_ _ h=>(by cases h),nofun,nofun,λr o v hv=>?_⟩
 .obtain⟨hm,rfl⟩:=oc B;obtain⟨c,e,f,hb⟩:=hc _ hm
  exact⟨_,_,oW hm hb,hb,.cells e f f (ep.ib (by simp) λi h h'=>by
   simp only[aM]
   exact TH (λr B=>ns B) _)⟩
 .obtain⟨hm,rfl⟩:=oc B;rw[oW hm O]at Y;cases Y;rfl
 .simp only[nE]at hv;split at hv
  .rename_i hm;refine⟨r,ns hm,λc e f c' e' f' x _ O _ _=>?_⟩;unfold ba at hv;rw[O]at hv;simpa using hv
  .cases hv
theorem KG(O:∀g,qd g=true->Mp g):Rg (fi Z W0 Mp) (nE W0 Mp):=
 ⟨RX rfl rfl rfl (nofun) (λg U=>ns (O g U)),id,λ_ _ h=>(by cases h),rfl,rfl,λr B=>ns B,λr o v B Y=>by simp[nE,B,Y]⟩
theorem Oz{wS w:World}(hc:∀r,Mp r->∃c e f,W0.heap[r]?=some (.cells c e f))(B:Rg (fi Z W0 Mp) m)(hw:WR m wS w)(ac:∀b,(fi Z W0 Mp).fA b->w.heap[b]?=(fi Z W0 Mp).w0.heap[b]?)(U:∀k,k<W0.heap.size->wS.heap[k]?=(np W0 Mp).heap[k]?) :
  ∀b,b<W0.heap.size->w.heap[b]?=W0.heap[b]?:=by
 intro b hb;by_cases hm:Mp b
 .obtain⟨c,e,f,O⟩:=hc b hm;have Y:=B.x.1 b hm;obtain⟨o,o',h1,h2,h3⟩:=hw.obj b b Y;rw[U b hb,oW hm O]at h1;cases h1
  cases h3 with
  |@cells _ c' _ _ f' ad=>
   have ae:wS.heap[b]?=some (.cells (c.map (Py Mp)) e f):=by rw[U b hb]; exact oW hm O
   have hf:=hw.fz b b _ _ _ _ _ _ Y ae h2 (B.pj.strict rfl b)
   have ai:=by
    have af:=ad.size;simp at af;refine Array.ext af.symm λi hi aa=>?_;have hv:=ad.idx i (by simpa using aa) hi;simp only[aM]at hv;rcases NW (λr hr=>B.x.1 r hr) hv with hn|he
    .have ab:W0.cell? ⟨b,i,none⟩=some c[i]:=by
      unfold ba;rw[O];simp[aa]
     have hp:=B.x.2 b i _ hm ab;obtain⟨r',ag,ah⟩:=hw.rP b i _ hp;rw[Y]at ag;cases ag;have:=ah _ _ _ _ _ _ _ ae h2 (by simp[aa]) hn;rw[aG hi]at this;exact aY this
    .exact he
   rw[h2,O,hf,ai]
 .have:=ac b ⟨hb,hm⟩;rw[this];exact AH hm
end
section
variable {H:Type} {enc:aU×Value->H}
theorem oB{a:Assume}{C:Checked}{os:Os}{fn:Func}{s:OpenSpec}{F:Stop.Interp}{U:List PathCond}{apart fresh O Y:Bool}{laid:List (String×DataW Unit)}
  (own:ownKnob C.prog.godebug=none) (aa:os.Started) (ae:C.prog.funcs[f]?=some fn)
  (witness:∃(w:World)(tape:Tape)(i:Input),w.os=os/\(w.forCall tape i).Shaped C.prog/\i.vars=[]/\Input.okWide C.prog (w.forCall tape i) .any w.heap.size f i/\
    s.preRow enc C.prog fn U apart laid (w.forCall tape i).memory i.args/\a.holds C.prog (lone (Frame.enter C.prog f i.args .normal) [] (w.forCall tape i)))
  (runs:∀(W:World)(base:Nat)(args:Array Value)(ds gs:List (DataW H))(B:List MemPlace),
    (∀(j:Nat)t v,fn.params[j]?=some t->args[j]?=some v->bd C.prog W .any base t v)->
    DataW.Whole enc C.prog fn.params.toList s.vars apart W args.toList ds gs B->
    (∀k,s.cond=some k->k H (ds++gs)=true)->
    aW C.prog laid W->W.ShapedOpen C.prog->args.size=fn.params.size->
    tF C.prog (λv W'=>∃W2:World,W2.blind=W'.blind/\(s.at F).post enc C.prog fn apart fresh O Y W args v W2) (solo (G (Frame.enter C.prog f args .normal) []) W) #[]) :
  aV a C os f .any (s.preRow enc C.prog fn U apart laid) ((s.at F).post enc C.prog fn apart fresh O Y):=by
 refine returnsInLeavingWide_of_good own aa witness ?_;intro w tape i _ af _ ag ab _;obtain⟨_,_,_,aj,ac,_,_,_,ah,ad⟩:=ag;have e:=aY (ac.symm.trans ae);subst e;obtain⟨⟨hp,hl⟩,_⟩:=ab;obtain⟨ds,gs,B,hw,_,hk⟩:=OpenSpec.pre_parts hp;have ai:=DataW.Whole.of_heap (w':=w.forCall tape i) (by rfl) hw;obtain⟨N,last,o,w',t',h1,h2,h3,h4⟩:=runs _ _ _ ds gs B ad ai hk (hl.of_heap (by rfl)) af ah;exact⟨N,last,o,w',t',h1,h2,h3,h4.mono λv ⟨W2,e2,hp⟩=>by rw[<-e2]; exact ChangeSpec.post_blind hp⟩
end
def xy(W:World)(w:World):Prop:=Below W.heap.size W {w with tape:=W.tape}
theorem QH{W0:World}{Mp:Nat->Prop}{gK:Func}{rs:Array Tmp}{tm:Array Value}{wl:World}(hc:∀r,Mp r->∃c e f,W0.heap[r]?=some (.cells c e f))(hf:prog.funcs[f]?=some gK)(ad:prog.inits.idxOf? f=none)(U:∀k,k<W0.heap.size->wl.heap[k]?=(np W0 Mp).heap[k]?)(ae:Plain v)(Y:∀w:World,(results gK tm).run prog w=.ok v w) :
  dn (fi (ending prog λv' w=>v'=v/\xy W0 w) W0 Mp) [⟨f,tm,[.code .ret]⟩] wl []:=by
 refine dn.tail (λx hx=>by simp only[List.mem_singleton]at hx; subst hx; trivial) (.inr nofun) ?_;let B:LS->Prop:=λS=>S.cs=[door prog]/\S.fr.fn=f/\S.w.heap=wl.heap/\S.fr.leaving prog S.w (.returned v);refine iO.mZ (Stop:=λS=>∃τ,B (S.on τ)) (λS τ ⟨O,h⟩=>⟨O,h⟩) (λτ _=>⟨1,⟨⟨f,tm,[.code _],[],.returning,.normal,none⟩,[door _],tp wl τ⟩,rfl,⟨τ,rfl,rfl,rfl,rfl,rfl,rfl,gK,hf,Y _⟩,by simp⟩) λS' ⟨O,af,ag,hh,hl⟩=>?_;refine iO.tape (τ:=O) ?_;refine iO.done rfl rfl af hl (by rw[ag]; exact ad) λm v2 w ah hv hw aa ab=>⟨?_,?_⟩
 .cases hv<;>first|rfl|exact ae.elim
 .have hold:=Oz hc ah hw aa (λk hk=>by rw[hh]; exact U k hk);refine⟨ab.1,rfl,ab.2,?_,hold⟩;rcases Nat.lt_or_ge .. with ac|ai
  .have:=hold _ ac;rw[Array.getElem?_eq_none (bg _),aG ac]at this;cases this
  .exact ai
end
section
open Go.ChangeShapes Go.WideShapes Go.ChangeAt Go.RowKit Go.Conc
variable {gs:List (Option Addr)} {c l:Nat} {W:World}
theorem To:ownKnob prog.godebug=none:=by kernel_rfl
theorem qD:laidOutB prog=true:=by kernel_rfl
def PQ:List (String×DataW Unit):=[("math/bits.deBruijn32tab",Rows.laid_math_bits_deBruijn32tab),("math/bits.deBruijn64tab",Rows.laid_math_bits_deBruijn64tab),("internal/strconv.uint64pow10",Rows.laid_internal_strconv_uint64pow10),("hint/follow.weights",Rows.laid_hint_follow_weights)]
theorem D9(h:aW prog PQ W):M9 W:=by
 have O:=h.tail.tail.tail;have B:=Lib.tabIs_of_head (k:=.u64) (zs:=[4,10,25]) (g:=0) (t:=195) (e:=141) (n:=3) (by kernel_rfl) (by kernel_rfl) underlying195 aR (by kernel_rfl) (by kernel_rfl) O;exact⟨B.cell (by kernel_rfl) 0 (by decide),B.cell (by kernel_rfl) 1 (by decide),B.cell (by kernel_rfl) 2 (by decide)⟩
theorem yb(h:W.ShapedOpen prog):∀g,g<5->∃c e f,W.heap[g]?=some (.cells c e f):=by
 have key:∀g,g<5->(((begin prog (λ_ _=>0) default).world.heap[g]?).bind Obj.row?).isSome=true:=by
  intro g B;rcases(by omega:g=0\/g=1\/g=2\/g=3\/g=4)with rfl|rfl|rfl|rfl|rfl<;>kernel_rfl
 intro g B;obtain⟨⟨z,t⟩,U⟩:=Option.isSome_iff_exists.1 (key g B);obtain⟨cs,O,_⟩:=h.1 g z t (B) U;exact⟨cs,t,_,O⟩
theorem BL{base:Nat}{t e:aU}{a:Addr}(Y:prog.underlying t=some (.slice e))(h:bd prog W .any base t (.slice (some a) l c)):a.spot=none/\∃cs B f,W.heap[a.block]?=some (.cells cs B f):=by
 simp only[bd,Y,Cell.okWide,Cell.ok]at h;obtain⟨_,_,_,O,row,cells,hsh,_⟩:=h;refine⟨O,?_⟩;unfold World.shape? at hsh
 cases U:W.heap[a.block]? with
 |none=>rw[U]at hsh; cases hsh
 |some o=>
  cases o with
  |cells cs B f=>exact⟨cs,B,f,rfl⟩
  |_=>rw[U]at hsh; cases hsh
def Ot(gs:List (Option Addr))(b:Nat):Prop:=qd b=true\/∃a,some a∈gs/\a.block=b
theorem P8{g:Nat}(h:qd g=true):g<5:=by
 unfold qd at h;simp only[Bool.or_eq_true,beq_iff_eq]at h;omega
theorem Fp(B:W.ShapedOpen prog)(O:∀a,some a∈gs->∃c e f,W.heap[a.block]?=some (.cells c e f)):∀r,Ot gs r->∃c e f,W.heap[r]?=some (.cells c e f):=by
 rintro r (h|⟨a,h,rfl⟩)
 .exact yb B r (P8 h)
 .exact O a h
theorem JO(B:W.ShapedOpen prog):5<=W.heap.size:=by
 obtain⟨c,e,f,h⟩:=yb B 4 (by omega);have:=(aI.1 h).1;omega
theorem Oc{Mp:Nat->Prop}(h:M9 W):M9 (np W Mp):=⟨jw trivial h.1,jw trivial h.2.1,jw trivial h.2.2⟩
theorem yw{a:Option Addr}(h:a∈gs):VR (nE W (Ot gs)) (.slice a l c) (.slice a l c):=by
 cases a with
 |none=>exact .ft l c
 |some a=>exact .slice l c (.mk (ns (.inr ⟨a,h,rfl⟩)))
theorem Oo{args:Array Value}{f:aX}{gK:Func}{c:Code}{v:Value}{tm:Array Value}(O:W.ShapedOpen prog)(ha:∀a,some a∈gs->∃c e f,W.heap[a.block]?=some (.cells c e f))(hf:prog.funcs[f]?=some gK)(hb:gK.body=some c)(B:ep (nE W (Ot gs)) args args)(U:args++Array.replicate (gK.ntmps-args.size) bh=tm)
  (h:dn (fi (ending prog λv' w=>v'=v/\xy W w) W (Ot gs)) [⟨f,tm,[.code c]⟩] (np W (Ot gs)) []):tF prog (λv' w=>v'=v/\xy W w) (solo (G (Frame.enter prog f args .normal) []) W) #[]:=
 Hh (E:=fi _ W _) (m:=nE W _) rfl (λb hb=>⟨hb.1,(AH hb.2).symm⟩) (λr b Y hb=>absurd (oc Y).1 (by rw[<-(oc Y).2]; exact hb.2)) (Gq _ _ _) (by rw[show(fi _ W _).w0.heap.size=W.heap.size from vF W _]; exact bg _) ⟨rfl,rfl⟩ rfl hf hb (KG λg hg=>.inl hg) (Ky (JO O) (Fp O ha)) B (by rw[U]; exact h)
theorem tF.mono{P:Program}{A B:Value->World->Prop}{M:Machine}{t:Trace}(h:tF P A M t)(O:∀v w,A v w->B v w):tF P B M t:=by
 obtain⟨N,last,o,w',t',U,Y,h3,h4⟩:=h;exact⟨N,last,o,w',t',U,Y,h3,h4.mono λv=>O v w'⟩
end
section
open Go.ChangeShapes Go.WideShapes Go.ChangeAt Go.RowKit Go.Conc
variable {p:List MemPlace} {cs:List Value} {base c l o:Nat} {a:Option Addr} {H:Type} {W:World} {d:DataW H} {enc:aU×Value->H}
theorem ku{n:Int}(h:(Lit.int .i64 n).wf=true) : -9223372036854775808<=n/\n<=9223372036854775807:=by
 simpa[Lit.wf,IntKind.min,IntKind.signed,IntKind.bits]using h
theorem M1:prog.cellsOf 3=1:=by kernel_rfl
theorem QM(U:bd prog W .any base 26 (.slice a l c))(h:DataW.Trod enc prog W 0 (λ_=>true) true 26 (.slice a l c) d p) :
  ∃rs:List Int,rs.length=l/\Ah W a rs/\l<=c/\l<=9223372036854775807/\∀x,a=some x->∃c e f,W.heap[x.block]?=some (.cells c e f):=by
 obtain⟨ae,hf⟩:=h;rcases open_ints aO aN M1 hf with⟨B,Y⟩|⟨x,af,ag,zs,B,_,hl,hm,hz,Y,O,aa⟩
 .obtain⟨rfl,rfl,rfl⟩:=B;exact⟨[],rfl,⟨λj hj=>absurd hj (by simp),λx Y=>absurd Y (by simp),λx Y=>absurd Y (by simp)⟩,bg _,by omega,nofun⟩
 .obtain⟨rfl,rfl,rfl⟩:=B;simp only[if_true]at hz;obtain⟨ad,ab⟩:=BL aO U;have ah:c<=9223372036854775807:=hm;refine⟨zs.take l,by simp; omega,⟨λj hj=>?_,λy hy=>(ku (aa y (bf hy))).1,λy hy=>(ku (aa y (bf hy))).2⟩,hl,by omega,λy e=>by cases e; exact ab⟩;obtain⟨b,off,spot⟩:=x;subst ad;have ac:j<zs.length:=by simp at hj; omega
  have:=O j ac;rw[Addr.add_lit]at this;refine⟨b,off,rfl,?_⟩;rw[this];simp[List.getD,ac]
theorem Sm:prog.cellsOf 48=4:=by kernel_rfl
theorem take_one{v:Value}(h:(cs.drop o).take 1=[v]):cs[o]?=some v:=by
 have:((cs.drop o).take 1)[0]?=some v:=by rw[h]; rfl
 simpa using this
theorem N5{w:World}{spare:Nat->Bool}{held:Bool}{O:Nat}{b:Nat}{x:DataW H×List MemPlace}
  (hc:w.cells? base ⟨b,o,none⟩ 4=some cs) (h:DataW.trod enc prog w base spare held O 48 cs=some x) :
  ∃r:Raw,r.Ok/\w.cell? ⟨b,o,none⟩=some (.int .i64 r.name)/\w.cell? ⟨b,o+1,none⟩=some (.int .i64 r.text)/\w.cell? ⟨b,o+2,none⟩=some (.int .i64 r.du)/\w.cell? ⟨b,o+3,none⟩=some (.int .i64 r.dD):=by
 obtain⟨xs,n,rfl,_,hl,Y,U⟩:=DataW.trod_struct underlying48 h;obtain⟨_,aa,B⟩:=World.cells?_some hc;have ab:xs.length=4:=Y
 have cell:∀i,i<4->∀v,cs[i]?=some v->w.cell? _=some v:=λi hi v hv=>by
  have:=B i hi;rw[hv]at this;exact this
 have one:∀i,i<4->∃n:Int,w.cell? _=some _/\-9223372036854775808<=n/\n<=9223372036854775807:=λi hi=>by
  obtain⟨y,e⟩:∃y,xs[i]?=some y:=⟨xs[i],be _⟩
  have f:DataW.trod enc prog w base spare held n 3 ((cs.drop i).take (prog.cellsOf 3))=some y:=by
   rcases(by omega:i=0\/i=1\/i=2\/i=3)with rfl|rfl|rfl|rfl
   .exact(U 0 _ rfl).trans e
   .exact(U 1 _ rfl).trans e
   .exact(U 2 _ rfl).trans e
   .exact(U 3 _ rfl).trans e
  obtain⟨n,g,_,wf⟩:=DataW.trod_int aN f;exact⟨n,cell i hi _ (take_one g),ku wf⟩
 obtain⟨n0,p0,q0⟩:=one 0 (by omega);obtain⟨n1,p1,q1⟩:=one 1 (by omega);obtain⟨n2,p2,q2⟩:=one 2 (by omega);obtain⟨n3,p3,q3⟩:=one 3 (by omega);exact⟨⟨n0,n1,n2,n3⟩,⟨q0.1,q0.2,q1.1,q1.2,q2.1,q2.2,q3.1,q3.2⟩,p0,p1,p2,p3⟩
theorem MO(Y:bd prog W .any base 25 (.slice a l c))(h:DataW.Trod enc prog W 0 (λ_=>true) true 25 (.slice a l c) d p) :
  ∃rs:List Raw,rs.length=l/\sw W a rs/\l<=c/\l<=9223372036854775807/\∀x,a=some x->∃c e f,W.heap[x.block]?=some (.cells c e f):=by
 obtain⟨ae,hf⟩:=h;rcases DataW.trod_slice aP hf with⟨O,hx⟩|⟨x,af,ag,elems,rest,n,_,O,_,hb,hl,hm,ah,ac,ai,aj⟩
 .obtain⟨rfl,rfl,rfl⟩:=O;exact⟨[],rfl,⟨λj B=>absurd B (by simp),λx hx=>absurd hx (by simp)⟩,bg _,by omega,nofun⟩
 .obtain⟨rfl,rfl,rfl⟩:=O;obtain⟨aa,ab⟩:=BL aP Y;have ak:c<=9223372036854775807:=hm;obtain⟨b,off,spot⟩:=x;subst aa
  have each:∀j,j<l->∃r:Raw,r.Ok/\W.cell? _=some _/\W.cell? _=some _/\W.cell? _=some _/\W.cell? _=some _:=λj B=>by
   have h1:=ac j B;rw[be (by omega),Option.bind_eq_some_iff]at h1;obtain⟨cs,h2,h3⟩:=h1;rw[Addr.add_lit]at h2;exact N5 h2 h3
  have U:∀j,∃r:Raw,j<l->r.Ok/\W.cell? _=some _/\W.cell? _=some _/\W.cell? _=some _/\W.cell? _=some _:=λj=>by
   by_cases B:j<l
   .obtain⟨r,hr⟩:=each j B;exact⟨r,λ_=>hr⟩
   .exact⟨⟨0,0,0,0⟩,λh=>absurd h B⟩
  refine⟨(List.range l).map λj=>aE (U j),by simp,⟨λj B=>?_,λy hy=>?_⟩,hl,by omega,λy e=>by cases e; exact ab⟩
  .have ad:=by simpa using B
   have:=a2 (U j) ad;rw[List.getElem_map,List.getElem_range];exact⟨b,off,rfl,this.2⟩
  .obtain⟨j,B,rfl⟩:=List.mem_map.1 hy;exact(a2 (U j) (List.mem_range.1 B)).1
theorem MM(h:aW prog PQ W):kD W:=by
 have B:=h.tail.tail;exact Lib.tabIs_of_head (k:=.u64) (zs:=Lib.pow10Tab) (g:=2) (t:=295) (e:=141) (n:=20) (by kernel_rfl) (by kernel_rfl) underlying295 aR (by kernel_rfl) (by kernel_rfl) B
theorem Ng{Mp:Nat->Prop}(h:kD W):kD (np W Mp):=by
 unfold kD Lib.TabIs World.var? at h⊢;rw[show prog.globalNamed _=some 2 by kernel_rfl]at h⊢;simp only[Option.bind_some]at h⊢
 cases B:W.heap[2]? with
 |none=>rw[B]at h; cases h
 |some o=>
  rw[B]at h
  cases o with
  |cells c e f=>
   simp only[aZ]at h;by_cases hm:Mp 2
   .rw[oW hm B];simp only[aZ];rw[h];apply Array.ext';simp only[Array.toList_map,List.map_map];apply List.map_congr_left;intro z _;exact tq trivial
   .rw[AK hm,B];simp only[aZ];exact h
  |_=>cases h
end
section
open Go.ChangeShapes Go.WideShapes Go.ChangeAt Go.RowKit Go.Conc
variable {Mp:Nat->Prop} {ra:Option Addr} {W:World}
theorem Lt{rs:List Int}(h:Ah W ra rs):Ah (np W Mp) ra rs:=⟨λj B=>by
 obtain⟨b,off,e,O⟩:=h.cell j B
 exact⟨b,off,e,jw trivial O⟩,h.lo,h.hi⟩
theorem H9{rs:List Raw}(h:sw W ra rs):sw (np W Mp) ra rs:=⟨λj B=>by
 obtain⟨b,off,e,O,U,Y,h4⟩:=h.cell j B
 exact⟨b,off,e,jw trivial O,jw trivial U,jw trivial Y,jw trivial h4⟩,h.ok⟩
end
section
open Go.ChangeShapes Go.WideShapes Go.ChangeAt Go.RowKit Go.Conc
theorem IJ{W:World}{U Y:Option Addr}{ls:List Raw}{rs:List Int}{lc rc:Nat}{c fr too tg mo B:Int}(O:W.ShapedOpen prog)(hW:M9 W)(aa:kD W)(hL:sw W U ls)(hT:Ah W Y rs)(ab:∀a,some a∈[U,Y]->∃c e f,W.heap[a.block]?=some (.cells c e f))(ag:ls.length<=lc)(ah:rs.length<=rc)(ai:ls.length<=9223372036854775807)(aj:rs.length<=9223372036854775807)
  (c0 : -9223372036854775808<=c) (c1:c<=9223372036854775807) (ak : -9223372036854775808<=fr) (al:fr<=9223372036854775807) (ac : -9223372036854775808<=too) (ad:too<=9223372036854775807) (am : -9223372036854775808<=tg) (an:tg<=9223372036854775807) (ao : -9223372036854775808<=mo) (ap:mo<=9223372036854775807) (ae : -9223372036854775808<=B) (af:B<=9223372036854775807) :
  tF prog (λv' w=>v'=.bool true/\xy W w) (solo (G (Frame.enter prog 8 #[.slice U ls.length lc,.slice Y rs.length rc,.int .i64 c,.int .i64 fr,.int .i64 too,.int .i64 tg,.int .i64 mo,.int .i64 B] .normal) []) W) #[]:=by
 refine Oo (gs:=[U,Y]) (tm:=#[.slice U ls.length lc,.slice Y rs.length rc,.int .i64 c,.int .i64 fr,.int .i64 too,.int .i64 tg,.int .i64 mo,.int .i64 B,bh,bh,bh,bh,bh,bh,bh,bh,bh,bh,bh,bh,bh,bh,bh,bh,bh,bh,bh,bh,bh,bh,bh,bh,bh,bh,bh,bh,bh,bh,bh,bh,bh,bh,bh,bh,bh,bh,bh,bh,bh,bh,bh,bh,bh,bh,bh,bh,bh,bh,bh,bh,bh,bh,bh,bh,bh,bh,bh,bh,bh,bh,bh,bh,bh,bh,bh,bh,bh,bh,bh,bh,bh,bh,bh,bh,bh,bh,bh,bh,bh,bh,bh,bh,bh,bh,bh,bh,bh,bh,bh,bh,bh,bh,bh,bh,bh,bh,bh,bh,bh,bh,bh,bh,bh,bh,bh,bh,bh,bh,bh,bh,bh,bh,bh,bh,bh,bh,bh,bh,bh,bh,bh,bh,bh,bh,bh,bh,bh,bh,bh,bh,bh,bh,bh,bh,bh,bh,bh,bh,bh,bh,bh,bh,bh,bh,bh,bh,bh,bh,bh,bh,bh,bh,bh,bh,bh,bh,bh,bh,bh,bh,bh,bh,bh,bh,bh,bh,bh,bh,bh,bh,bh,bh,bh,bh,bh,bh,bh,bh,bh,bh,bh,bh,bh,bh,bh,bh,bh,bh,bh,bh,bh,bh,bh,bh,bh,bh,bh,bh,bh,bh,bh,bh,bh,bh,bh,bh,bh,bh,bh,bh]) (gK:=Tryz.f8) (c:=dT Tryz.f8) O ab aQ (by kernel_rfl) (.cons (yw (by simp)) (.cons (yw (by simp)) (.cons (.int _ _) (.cons (.int _ _) (.cons (.int _ _) (.cons (.int _ _) (.cons (.int _ _) (.cons (.int _ _) .nil)))))))) (by kernel_rfl) ?_;refine IG ⟨Oc hW,Ng aa⟩ (by rw[sK]; exact JO O) (H9 hL) (Lt hT) ag ah ai aj c0 c1 ak al ac ad am an ao ap ae af λw ar hF aq=>?_;refine QH (gK:=Tryz.f8) (rs:=#[]) (Fp O ab) aQ (by kernel_rfl) (λk hk=>hF.block k (by rw[sK]; exact hk)) trivial λw=>?_;simp[results,results8,go_sem,aq]
end
section
open Go.ChangeShapes Go.WideShapes Go.ChangeAt Go.RowKit Go.Conc
theorem Ke(os:Os)(args:Array Value):laidMet prog PQ ((bc prog 29 os).forCall (λ_ _=>0) ⟨#[],args,[]⟩).memory:=
 laidMet_of_run' 8 (by kernel_rfl) (by kernel_rfl)
theorem Sz(os:Os){H:Type}(enc:aU×Value->H):∃places,DataW.whole enc prog ((bc prog 29 os).forCall (λ_ _=>0) ⟨#[],#[.slice none 0 0,.slice none 0 0,.int .i64 0,.int .i64 0,.int .i64 0,.int .i64 0,.int .i64 0,.int .i64 0],[]⟩).memory Tryz.f8.params.toList Rows.widerSpec.vars false #[Value.slice none 0 0,.slice none 0 0,.int .i64 0,.int .i64 0,.int .i64 0,.int .i64 0,.int .i64 0,.int .i64 0].toList 8=some ([.nil,.nil,.lit (.int .i64 0),.lit (.int .i64 0),.lit (.int .i64 0),.lit (.int .i64 0),.lit (.int .i64 0),.lit (.int .i64 0)],[],places):=
 ⟨[],by kernel_rfl⟩
theorem Qa(os:Os)(O:os.Started)(H:Type)(enc:aU×Value->H) :
  aV {} aS os 8 .any ((OpenSpec.ofChange Rows.widerSpec).preRow enc prog Tryz.f8 Rows.widerRow.domain false PQ) (Rows.widerSpec.post enc prog Tryz.f8 false true false false):=by
 obtain⟨places,hx⟩:=Sz os enc
 refine oB (C:=aS) (s:=OpenSpec.ofChange Rows.widerSpec) (F:=λ_ _ _=>0) To O aQ
  (witness_row_at (enc:=enc) (C:=aS) false (bc prog 29 os) #[.slice none 0 0,.slice none 0 0,.int .i64 0,.int .i64 0,.int .i64 0,.int .i64 0,.int .i64 0,.int .i64 0] rfl (by kernel_rfl) (by kernel_rfl) (by kernel_rfl)
    (OpenSpec.preRow_of_cond 8 hx (by kernel_rfl) (λk hk=>by cases hk) (by kernel_rfl) (Ke os _))) ?_
 intro W base args ds gs af U hW _ hL ag _;have B:∀(j:Nat)t v,Tryz.f8.params[j]?=some t->args[j]?=some v->bd prog W .any base t v:=U;have ad:=hW;obtain⟨p,q,ae,hV,rfl,_,_⟩:=hW;have hA:DataW.TrodAll enc prog W 0 (λ_=>true) true Tryz.f8.params.toList args.toList ds p:=ae;rw[params8]at hA B;obtain⟨v0,aw,d0,ax,p0,q0,Y,rfl,rfl,h0,r0⟩:=trodAll_cons hA;obtain⟨v1,ay,d1,az,p1,q1,rfl,rfl,rfl,h1,r1⟩:=trodAll_cons r0;obtain⟨v2,a3,d2,a4,p2,q2,rfl,rfl,rfl,h2,r2⟩:=trodAll_cons r1;obtain⟨v3,a5,d3,a6,p3,q3,rfl,rfl,rfl,h3,r3⟩:=trodAll_cons r2;obtain⟨v4,a7,d4,a8,p4,q4,rfl,rfl,rfl,h4,r4⟩:=trodAll_cons r3;obtain⟨v5,a9,d5,a',p5,q5,rfl,rfl,rfl,h5,r5⟩:=trodAll_cons r4;obtain⟨v6,aA,d6,aB,p6,q6,rfl,rfl,rfl,h6,r6⟩:=trodAll_cons r5;obtain⟨v7,aC,d7,aD,p7,q7,rfl,rfl,rfl,h7,r7⟩:=trodAll_cons r6;obtain⟨rfl,rfl,rfl⟩:=trodAll_nil r7;obtain rfl:args=#[v0,v1,v2,v3,v4,v5,v6,v7]:=by cases args; simp_all
 obtain⟨rfl,rfl⟩:=trodVars_none hV;obtain⟨a0,aq,ar,rfl⟩:=okWide_slice aP (B 0 25 v0 rfl rfl);obtain⟨a1,au,av,rfl⟩:=okWide_slice aO (B 1 26 v1 rfl rfl);have ah:=B 0 25 _ rfl rfl;have ai:=B 1 26 _ rfl rfl;obtain⟨z2,rfl,rfl,rfl,w2⟩:=open_int aN (B 2 3 v2 rfl rfl) h2;obtain⟨z3,rfl,rfl,rfl,w3⟩:=open_int aN (B 3 3 v3 rfl rfl) h3;obtain⟨z4,rfl,rfl,rfl,w4⟩:=open_int aN (B 4 3 v4 rfl rfl) h4;obtain⟨z5,rfl,rfl,rfl,w5⟩:=open_int aN (B 5 3 v5 rfl rfl) h5;obtain⟨z6,rfl,rfl,rfl,w6⟩:=open_int aN (B 6 3 v6 rfl rfl) h6;obtain⟨z7,rfl,rfl,rfl,w7⟩:=open_int aN (B 7 3 v7 rfl rfl) h7;have k0:=h0;have k1:=h1;have aj:∀x∈p0,x.block<W.heap.size:=by obtain⟨m,hm⟩:=k0; exact DataW.trod_lt m _ _ _ hm
 have S5:∀x∈p1,x.block<W.heap.size:=by obtain⟨m,hm⟩:=k1; exact DataW.trod_lt m _ _ _ hm
 obtain⟨ls,rfl,ak,al,am,aa⟩:=MO ah h0;obtain⟨rs,rfl,an,ao,ap,ab⟩:=QM ai h1;clear ae U Y;simp only[List.append_nil]at ad
 refine(IJ ag (D9 hL) (MM hL) ak an (λa ha=>by
  simp only[List.mem_cons,List.not_mem_nil,or_false]at ha;rcases ha with ha|ha
  .exact aa a ha.symm
  .exact ab a ha.symm) al ao am ap (ku w2).1 (ku w2).2 (ku w3).1 (ku w3).2 (ku w4).1 (ku w4).2 (ku w5).1 (ku w5).2 (ku w6).1 (ku w6).2 (ku w7).1 (ku w7).2).mono λv w ⟨hv,ac⟩=>?_
 subst hv;refine⟨{w with tape:=W.tape},rfl,?_⟩;exact⟨_,_,_,[],_,[],ad,trodAll_mk1 (shut_bool underlying4 _),aT (Below.trod qD (by kernel_rfl) (of_decide_eq_true (by kernel_rfl)) k0 ac aj) (aT (Below.trod qD (by kernel_rfl) (of_decide_eq_true (by kernel_rfl)) k1 ac S5) (aT (shut_int aN w2) (aT (shut_int aN w3) (aT (shut_int aN w4) (aT (shut_int aN w5) (aT (shut_int aN w6) (aT (shut_int aN w7) trodAll_mk0))))))),rfl,ac.frame _,λh=>by cases h⟩
theorem Kv:Rows.WiderSaid:=
 OpenClaim.holds_of_wide_leaving 8 Tryz.f8 rfl rfl rfl rfl rfl rfl rfl ⟨rfl,rfl,rfl,rfl,rfl⟩ rfl rfl rfl rfl rfl (by kernel_rfl) aQ (by kernel_rfl)
  (of_decide_eq_true (by kernel_rfl)) (by unfold Func.isWrapper; first|(rw[if_pos (by decide +kernel)]; kernel_rfl)|(rw[if_neg (by decide +kernel)]; exact⟨rfl,rfl⟩))
  (λos B H enc _=>by rw[OpenClaim.pre_eq_preRow]; exact Qa os B H enc)
theorem IQ(f:aX)(fn:Func)(U:Tryz.pinned.checked.prog.funcNamed Rows.widerRow.func=some f)(B:Tryz.pinned.checked.prog.funcs[f]?=some fn) :
  true=Tryz.pinned.checked.prog.looks []/\∀(j:Nat)t,fn.params[j]?=some t->Tryz.pinned.checked.prog.wantsStandIn t=false:=by
 obtain rfl:f=8:=aY ((show prog.funcNamed Rows.widerRow.func=some 8 by kernel_rfl).symm.trans U) |>.symm
 obtain rfl:fn=Tryz.f8:=(aY (aQ.symm.trans B)).symm;refine⟨by kernel_rfl,λj t O=>?_⟩;rw[params8]at O;have:t=25\/t=26\/t=3:=by simpa using Array.mem_of_getElem? O
 rcases this with rfl|rfl|rfl
 .exact(show prog.wantsStandIn 25=false by kernel_rfl)
 .exact(show prog.wantsStandIn 26=false by kernel_rfl)
 .exact(show prog.wantsStandIn 3=false by kernel_rfl)
end
end Go.Proofs.YtocbogeoffeolaaGreatDoor
