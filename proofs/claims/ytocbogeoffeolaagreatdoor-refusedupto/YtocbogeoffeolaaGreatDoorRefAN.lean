import Derived.Test.YtocbogeoffeolaaGreatDoorRefAM
import Derived.Test.YtocbogeoffeolaaGreatDoorCards
import Derived.Test.YtocbogeoffeolaaGreatDoorTie
import Derived.Conc.LeavingOf
import Derived.Deep.DeepHandedRow
import Derived.Lib.LaidTab
import Derived.LaidMore
import Derived.Stop.LaidErr
import Derived.OpenShut
set_option linter.all false
set_option maxHeartbeats 8000000
set_option maxRecDepth 1000000
open Classical renaming choose_spec->al,choose->am,propDecidable->an
open Array renaming getElem?_eq_getElem->ao,getElem_ofFn->ap,getElem?_eq_some_iff->aq,getElem?_mapIdx->ar,sizeOf_getElem->au,ofFn->av,getElem_map->aw
open Option.some renaming injEq->ax,inj->ay
open Go.Value renaming okWide->az
open List renaming getElem?_eq_getElem->a0,mem_of_mem_take->a1
open Nat renaming le_refl->a2
open Go renaming undef->a3
namespace Go.Proofs.YtocbogeoffeolaaGreatDoor
open Go.Proofs.Tryz
section
open Go.Conc Go.RowKit
variable {f:FuncId} {Z:lQ prog} {b r:Nat} {m:Ren} {v v':Value}
theorem stands:∀v:Value,∃x,(∀m,VR m x v)/\∀t z,v=.iface t z->∃O,x=.iface t O
 |.bool b=>⟨_,λ_=>.bool b,λ_ _ e=>(by cases e)⟩
 |.int k n=>⟨_,λ_=>.int k n,λ_ _ e=>(by cases e)⟩
 |.string s=>⟨_,λ_=>.string s,λ_ _ e=>(by cases e)⟩
 |.float k b=>⟨_,λ_=>.jw _ trivial,λ_ _ e=>(by cases e)⟩
 |.complex k a b=>⟨_,λ_=>.jw _ trivial,λ_ _ e=>(by cases e)⟩
 |.pointer none=>⟨_,λ_=>.jY,λ_ _ e=>(by cases e)⟩
 |.pointer (some a)=>⟨_,λ_=>.jw _ trivial,λ_ _ e=>(by cases e)⟩
 |.slice none l c=>⟨_,λ_=>.jg l c,λ_ _ e=>(by cases e)⟩
 |.slice (some a) l c=>⟨_,λ_=>.jw _ trivial,λ_ _ e=>(by cases e)⟩
 |.map none=>⟨_,λ_=>.oV,λ_ _ e=>(by cases e)⟩
 |.map (some r)=>⟨_,λ_=>.jw _ trivial,λ_ _ e=>(by cases e)⟩
 |.chan none=>⟨_,λ_=>.lF,λ_ _ e=>(by cases e)⟩
 |.chan (some r)=>⟨_,λ_=>.jw _ trivial,λ_ _ e=>(by cases e)⟩
 |.nilFunc=>⟨_,λ_=>.nilFunc,λ_ _ e=>(by cases e)⟩
 |.nilIface=>⟨_,λ_=>.nilIface,λ_ _ e=>(by cases e)⟩
 |.tuple c=>⟨_,λ_=>.jw _ trivial,λ_ _ e=>(by cases e)⟩
 |.iface t v=>by
  obtain⟨x,Y,_⟩:=stands v
  exact⟨.iface t x,λm=>.iface t (Y m),λ_ _ e=>(by cases e; exact⟨_,rfl⟩)⟩
 |.agg c=>by
  have B:∀i(h:i<c.size),∃x,(∀m,VR m x c[i])/\∀t z,c[i]=.iface t z->∃O,x=.iface t O:=λi h=>stands _;refine⟨.agg (av λi=>am (B _ i.2)),λm=>.agg (by simp) λi h h'=>?_,λ_ _ e=>(by cases e)⟩;simp only[ap];exact(al (B i _)).1 m
 |.func (.func f) a c=>⟨_,λ_=>.jw _ trivial,λ_ _ e=>(by cases e)⟩
 |.func (.methodOf t n) a c=>⟨_,λ_=>.jw _ trivial,λ_ _ e=>(by cases e)⟩
 |.func (.via t p f b) a c=>⟨_,λ_=>.jw _ trivial,λ_ _ e=>(by cases e)⟩
 |.func (.yield l) a c=>⟨_,λ_=>.jw _ trivial,λ_ _ e=>(by cases e)⟩
 |.func (.method n) f c=>by
  have B:∀i(h:i<f.size),∃x,(∀m,VR m x f[i])/\∀t z,f[i]=.iface t z->∃O,x=.iface t O:=λi h=>stands _;refine⟨.func _ (av λi=>am (B _ i.2)) _,λm=>.sV (by simp) (λi h h'=>?_) (λt w hw=>?_),λ_ _ e=>(by cases e)⟩
  .simp only[ap];exact(al (B i _)).1 m
  .obtain⟨U,e0⟩:=aq.1 hw;obtain⟨z,hz⟩:=(al (B 0 U)).2 t w e0;refine⟨z,?_⟩;rw[ao (by simpa using U)];simp only[ap];rw[hz]
termination_by v=>SizeOf.sizeOf v
decreasing_by
 all_goals simp_wf
 all_goals(first|omega|(have:=au c i h; omega)|(have:=au f i h; omega))
def EX(Mp:Nat->Prop):Value->Prop
 |.bool _|.int _ _|.string _|.pointer none|.slice none _ _|.map none|.chan none|.nilFunc|.nilIface=>True
 |.pointer (some a)=>Mp a.block
 |.slice (some a) _ _=>Mp a.block
 |_=>False
theorem La(Mp:Nat->Prop)(v:Value)(O:¬EX Mp v):∃x,(∀m,VR m x v)/\(qF x\/∀m v',VR m x v'->v'=v):=by
 have B:Qq v->∃x,(∀m,VR m x v)/\(qF x\/∀m v',VR m x v'->v'=v):=λh=>⟨.tuple _,λm=>.jw _ h,.inl trivial⟩
 cases v with
 |bool b=>exact absurd trivial O
 |int k n=>exact absurd trivial O
 |string s=>exact absurd trivial O
 |float k b=>exact B trivial
 |complex k a b=>exact B trivial
 |pointer a=>cases a with|none=>exact absurd trivial O|some a=>exact B trivial
 |slice a l c=>cases a with|none=>exact absurd trivial O|some a=>exact B trivial
 |map a=>cases a with|none=>exact absurd trivial O|some a=>exact B trivial
 |chan a=>cases a with|none=>exact absurd trivial O|some a=>exact B trivial
 |nilFunc=>exact absurd trivial O
 |nilIface=>exact absurd trivial O
 |iface t v=>exact B trivial
 |tuple c=>exact B trivial
 |agg c=>
  obtain⟨x,Y,_⟩:=stands (.agg c)
  have hx:qF x:=by
   have:=Y ⟨λ_=>none,λ_=>none,λ_=>False,λ_=>True,λ_=>True,False,λ_=>False,λ_=>0,λ_ _=>none,λ_=>none,0,λ_ _ h=>(by cases h),λ_ _ _ h=>(by cases h),λ_ _ _ h=>(by cases h)⟩;cases this<;>trivial
  exact⟨x,Y,.inl hx⟩
 |func fn f c=>
  cases fn with
  |func g=>exact B trivial
  |methodOf t n=>exact B trivial
  |via t p g b=>exact B trivial
  |yield l=>exact B trivial
  |method n=>
   have U:∀i(h:i<f.size),∃x,(∀m,VR m x f[i])/\∀t z,f[i]=.iface t z->∃z',x=.iface t z':=λi h=>stands _;refine⟨.func _ (av λi=>am (U _ i.2)) _,λm=>.sV (by simp) (λi h h'=>?_) (λt w hw=>?_),.inr λm v' h=>?_⟩
   .simp only[ap];exact(al (U i _)).1 m
   .obtain⟨hl,e0⟩:=aq.1 hw;obtain⟨z,hz⟩:=(al (U 0 hl)).2 t w e0;refine⟨z,?_⟩;rw[ao (by simpa using hl)];simp only[ap];rw[hz]
   .cases h with
    |func hf=>cases hf
    |sV _ _ _=>rfl
theorem M8{Mp:Nat->Prop}(hm:∀r,Mp r->m.blk r=some r)(h:EX Mp v):VR m v v:=by
 cases v with
 |bool b=>exact .bool b
 |int k n=>exact .int k n
 |string s=>exact .string s
 |pointer a=>cases a with|none=>exact .jY|some a=>exact .ptr (.mk (hm _ h))
 |slice a l c=>cases a with|none=>exact .jg l c|some a=>exact .slice l c (.mk (hm _ h))
 |map a=>cases a with|none=>exact .oV|some a=>exact h.elim
 |chan a=>cases a with|none=>exact .lF|some a=>exact h.elim
 |nilFunc=>exact .nilFunc
 |nilIface=>exact .nilIface
 |_=>exact h.elim
theorem Ng{Mp:Nat->Prop}(hm:∀r,Mp r->m.blk r=some r)(h:EX Mp v)(U:VR m v v'):v'=v:=by
 have B:∀{a O:Addr},Mp a.block->AR m a O->O=a:=fun {a O} ha x=>by
  cases x with
  |mk hb=>
   rw[hm _ ha]at hb;cases hb;rfl
 cases U with
 |jw _ _=>exact h.elim
 |ptr x=>rw[B h x]
 |slice l c x=>rw[B h x]
 |map _=>exact h.elim
 |gone _=>exact h.elim
 |chan _=>exact h.elim
 |func _ _ _ _ _=>exact h.elim
 |iface _ _=>exact h.elim
 |agg _ _=>exact h.elim
 |tuple _ _=>exact h.elim
 |sV _ _ _=>exact h.elim
 |_=>rfl
noncomputable def QQ (Mp:Nat->Prop) (v:Value):Value:=@dite _ (EX Mp v) (an _) (λ_=>v) λh=>am (La Mp v h)
theorem vT{Mp:Nat->Prop}(h:EX Mp v):QQ Mp v=v:=by simp[QQ,h]
theorem IE{Mp:Nat->Prop}(h:¬EX Mp v):QQ Mp v=am (La Mp v h):=by simp[QQ,h]
theorem UC{Mp:Nat->Prop}(hm:∀r,Mp r->m.blk r=some r)(v:Value):VR m (QQ Mp v) v:=by
 by_cases h:EX Mp v
 .rw[vT h]; exact M8 hm h
 .rw[IE h]; exact(al (La Mp v h)).1 m
theorem ON{Mp:Nat->Prop}(hm:∀r,Mp r->m.blk r=some r)(B:VR m (QQ Mp v) v'):qF (QQ Mp v)\/v'=v:=by
 by_cases h:EX Mp v
 .rw[vT h]at B; exact .inr (Ng hm h B)
 .rw[IE h]at B⊢;exact(al (La Mp v h)).2.imp id λx=>x m v' B
noncomputable def U9 (Mp:Nat->Prop):Obj->Obj
 |.cells c e f=>.cells (c.map (QQ Mp)) e f
 |o=>o
noncomputable def qe (W0:World) (Mp:Nat->Prop):World:={W0 with heap:=W0.heap.mapIdx λb o=>@ite _ (Mp b) (an _) (U9 Mp o) o}
section
variable {W0:World} {Mp:Nat->Prop}
theorem uP:(qe W0 Mp).heap.size=W0.heap.size:=by simp[qe]
theorem rj(h:Mp b){c:Array Value}{e:TypeId}{f:Nat×Nat}(hb:W0.heap[b]?=some (.cells c e f)):(qe W0 Mp).heap[b]?=some (.cells (c.map (QQ Mp)) e f):=by
 unfold qe;simp only[ar,hb];simp[h,U9]
theorem CJ(h:¬Mp b):(qe W0 Mp).heap[b]?=W0.heap[b]?:=by
 unfold qe;simp only[ar]
 cases W0.heap[b]? with
 |none=>rfl
 |some o=>simp[h]
theorem mn{a:Addr}(O:EX Mp v)(h:W0.cell? a=some v):(qe W0 Mp).cell? a=some v:=by
 by_cases hm:Mp a.block
 .unfold World.cell? at h⊢
  cases B:W0.heap[a.block]? with
  |none=>rw[B]at h; cases h
  |some o=>
   rw[B]at h
   cases o with
   |cells c e f=>
    rw[rj hm B];simp only at h⊢;split at h
    .cases h
    .rename_i U;rw[if_neg U,Array.getElem?_map,h];simp[vT O]
   |_=>cases h
 .unfold World.cell? at h⊢;rw[CJ hm];exact h
noncomputable def pS (W0:World) (Mp:Nat->Prop):Ren where
 blk:=λr=>@ite _ (Mp r) (an _) (some r) none
 ch:=λ_=>none
 loose:=λ_=>False
 ok:=Ou prog uu sf true
 je:=λf=>uu f=true
 kK:=False
 dead:=λ_=>False
 dm:=λ_=>0
 ur:=λr o=>@ite _ (Mp r) (an _) (W0.cell? ⟨r,o,none⟩) none
 n5:=λ_=>none
 G:=5
 qT:=λr r' h=>by split at h<;>cases h; exact Iff.rfl
 inj:=λr s t h1 h2=>by
  split at h1<;>cases h1
  split at h2<;>cases h2
  rfl
 xH:=λ_ _ _ h=>by cases h
theorem pR(h:Mp r):(pS W0 Mp).blk r=some r:=by simp[pS,h]
theorem qM{r':Nat}(h:(pS W0 Mp).blk r=some r'):Mp r/\r'=r:=by
 simp only[pS]at h;split at h
 .cases h; exact⟨by assumption,rfl⟩
 .cases h
theorem N5(U:5<=W0.heap.size)(hc:∀r,Mp r->∃c e f,W0.heap[r]?=some (.cells c e f)):WR (pS W0 Mp) (qe W0 Mp) W0:=by
 refine⟨λr r' B=>?_,λr r' c e f c' e' f' B Y O _=>?_,nofun,λ_ _ h=>(by cases h),by rw[uP]; exact U,U,rfl,λ_ _ h=>(by cases h),nofun,nofun,λr o v hv=>?_⟩
 .obtain⟨hm,rfl⟩:=qM B;obtain⟨c,e,f,hb⟩:=hc _ hm
  exact⟨_,_,rj hm hb,hb,.cells e f f (io.kE (by simp) λi h h'=>by
   simp only[aw]
   exact UC (λr B=>pR B) _)⟩
 .obtain⟨hm,rfl⟩:=qM B;rw[rj hm O]at Y;cases Y;rfl
 .simp only[pS]at hv;split at hv
  .rename_i hm;refine⟨r,pR hm,λc e f c' e' f' x _ O _ _=>?_⟩;unfold World.cell? at hv;rw[O]at hv;simpa using hv
  .cases hv
theorem NW(O:∀g,sf g=true->Mp g):Rg (iK Z W0 Mp) (pS W0 Mp):=
 ⟨TP rfl rfl rfl (nofun) (λg U=>pR (O g U)),id,λ_ _ h=>(by cases h),rfl,rfl,λr B=>pR B,λr o v B Y=>by simp[pS,B,Y]⟩
theorem P6{wS w:World}(hc:∀r,Mp r->∃c e f,W0.heap[r]?=some (.cells c e f))(B:Rg (iK Z W0 Mp) m)(hw:WR m wS w)(ac:∀b,(iK Z W0 Mp).jl b->w.heap[b]?=(iK Z W0 Mp).w0.heap[b]?)(U:∀k,k<W0.heap.size->wS.heap[k]?=(qe W0 Mp).heap[k]?) :
  ∀b,b<W0.heap.size->w.heap[b]?=W0.heap[b]?:=by
 intro b hb;by_cases hm:Mp b
 .obtain⟨c,e,f,O⟩:=hc b hm;have Y:=B.x.1 b hm;obtain⟨o,o',h1,h2,h3⟩:=hw.obj b b Y;rw[U b hb,rj hm O]at h1;cases h1
  cases h3 with
  |@cells _ c' _ _ f' ad=>
   have ae:wS.heap[b]?=some (.cells (c.map (QQ Mp)) e f):=by rw[U b hb]; exact rj hm O
   have hf:=hw.fz b b _ _ _ _ _ _ Y ae h2 (B.rL.strict rfl b)
   have ai:=by
    have af:=ad.size;simp at af;refine Array.ext af.symm λi hi aa=>?_;have hv:=ad.idx i (by simpa using aa) hi;simp only[aw]at hv;rcases ON (λr hr=>B.x.1 r hr) hv with hn|he
    .have ab:W0.cell? ⟨b,i,none⟩=some c[i]:=by
      unfold World.cell?;rw[O];simp[aa]
     have hp:=B.x.2 b i _ hm ab;obtain⟨r',ag,ah⟩:=hw.ur b i _ hp;rw[Y]at ag;cases ag;have:=ah _ _ _ _ _ _ _ ae h2 (by simp[aa]) hn;rw[ao hi]at this;exact ay this
    .exact he
   rw[h2,O,hf,ai]
 .have:=ac b ⟨hb,hm⟩;rw[this];exact C9 hm
end
section
variable {H:Type} {enc:TypeId×Value->H}
theorem rh{a:Assume}{C:Checked}{os:Os}{fn:Func}{s:OpenSpec}{F:Stop.Interp}{U:List PathCond}{apart fresh O Y:Bool}{laid:List (String×DataW Unit)}
  (own:ownKnob C.prog.godebug=none) (aa:os.Started) (ae:C.prog.funcs[f]?=some fn)
  (witness:∃(w:World)(tape:Tape)(i:Input),w.os=os/\(w.forCall tape i).Shaped C.prog/\i.vars=[]/\Input.okWide C.prog (w.forCall tape i) .any w.heap.size f i/\
    s.preRow enc C.prog fn U apart laid (w.forCall tape i).memory i.args/\a.holds C.prog (lone (Frame.enter C.prog f i.args .normal) [] (w.forCall tape i)))
  (runs:∀(W:World)(base:Nat)(args:Array Value)(ds gs:List (DataW H))(B:List MemPlace),
    (∀(j:Nat)t v,fn.params[j]?=some t->args[j]?=some v->az C.prog W .any base t v)->
    DataW.Whole enc C.prog fn.params.toList s.vars apart W args.toList ds gs B->
    (∀k,s.cond=some k->k H (ds++gs)=true)->
    laidMetH C.prog laid W->W.ShapedOpen C.prog->args.size=fn.params.size->
    wM C.prog (λv W'=>∃W2:World,W2.blind=W'.blind/\(s.at F).post enc C.prog fn apart fresh O Y W args v W2) (solo (G (Frame.enter C.prog f args .normal) []) W) #[]) :
  ReturnsInLeavingWide a C os f .any (s.preRow enc C.prog fn U apart laid) ((s.at F).post enc C.prog fn apart fresh O Y):=by
 refine returnsInLeavingWide_of_good own aa witness ?_;intro w tape i _ af _ ag ab _;obtain⟨_,_,_,aj,ac,_,_,_,ah,ad⟩:=ag;have e:=ay (ac.symm.trans ae);subst e;obtain⟨⟨hp,hl⟩,_⟩:=ab;obtain⟨ds,gs,B,hw,_,hk⟩:=OpenSpec.pre_parts hp;have ai:=DataW.Whole.of_heap (w':=w.forCall tape i) (by rfl) hw;obtain⟨N,last,o,w',t',h1,h2,h3,h4⟩:=runs _ _ _ ds gs B ad ai hk (hl.of_heap (by rfl)) af ah;exact⟨N,last,o,w',t',h1,h2,h3,h4.mono λv ⟨W2,e2,hp⟩=>by rw[<-e2]; exact ChangeSpec.post_blind hp⟩
end
def zC(W:World)(w:World):Prop:=Below W.heap.size W {w with tape:=W.tape}
theorem Rw{W0:World}{Mp:Nat->Prop}{jQ:Func}{rs:Array Tmp}{tm:Array Value}{wl:World}(hc:∀r,Mp r->∃c e f,W0.heap[r]?=some (.cells c e f))(hf:prog.funcs[f]?=some jQ)(ad:prog.inits.idxOf? f=none)(U:∀k,k<W0.heap.size->wl.heap[k]?=(qe W0 Mp).heap[k]?)(ae:Plain v)(Y:∀w:World,(results jQ tm).run prog w=.ok v w) :
  gp (iK (ending prog λv' w=>v'=v/\zC W0 w) W0 Mp) [⟨f,tm,[.code .ret]⟩] wl []:=by
 refine gp.tail (λx hx=>by simp only[List.mem_singleton]at hx; subst hx; trivial) (.inr nofun) ?_;let B:LS->Prop:=λS=>S.cs=[door prog]/\S.fr.fn=f/\S.w.heap=wl.heap/\S.fr.leaving prog S.w (.returned v);refine lz.pW (Stop:=λS=>∃τ,B (S.on τ)) (λS τ ⟨O,h⟩=>⟨O,h⟩) (λτ _=>⟨1,⟨⟨f,tm,[.code _],[],.returning,.normal,none⟩,[door _],tp wl τ⟩,rfl,⟨τ,rfl,rfl,rfl,rfl,rfl,rfl,jQ,hf,Y _⟩,by simp⟩) λS' ⟨O,af,ag,hh,hl⟩=>?_;refine lz.tape (τ:=O) ?_;refine lz.done rfl rfl af hl (by rw[ag]; exact ad) λm v2 w ah hv hw aa ab=>⟨?_,?_⟩
 .cases hv<;>first|rfl|exact ae.elim
 .have hold:=P6 hc ah hw aa (λk hk=>by rw[hh]; exact U k hk);refine⟨ab.1,rfl,ab.2,?_,hold⟩;rcases Nat.lt_or_ge .. with ac|ai
  .have:=hold _ ac;rw[Array.getElem?_eq_none (a2 _),ao ac]at this;cases this
  .exact ai
end
section
open Go.ChangeShapes Go.WideShapes Go.ChangeAt Go.RowKit Go.Conc
variable {gs:List (Option Addr)} {c l:Nat} {W:World}
theorem US:ownKnob prog.godebug=none:=by kernel_rfl
theorem tz:laidOutB prog=true:=by kernel_rfl
def RX:List (String×DataW Unit):=[("math/bits.deBruijn32tab",Rows.laid_math_bits_deBruijn32tab),("math/bits.deBruijn64tab",Rows.laid_math_bits_deBruijn64tab),("internal/strconv.uint64pow10",Rows.laid_internal_strconv_uint64pow10),("hint/follow.weights",Rows.laid_hint_follow_weights)]
theorem F6(h:laidMetH prog RX W):NZ W:=by
 have O:=h.tail.tail.tail;have B:=Lib.tabIs_of_head (k:=.u64) (zs:=[4,10,25]) (g:=0) (t:=195) (e:=141) (n:=3) (by kernel_rfl) (by kernel_rfl) underlying195 underlying141 (by kernel_rfl) (by kernel_rfl) O;exact⟨B.cell (by kernel_rfl) 0 (by decide),B.cell (by kernel_rfl) 1 (by decide),B.cell (by kernel_rfl) 2 (by decide)⟩
theorem Bi(h:W.ShapedOpen prog):∀g,g<5->∃c e f,W.heap[g]?=some (.cells c e f):=by
 have key:∀g,g<5->(((begin prog (λ_ _=>0) default).world.heap[g]?).bind Obj.row?).isSome=true:=by
  intro g B;rcases(by omega:g=0\/g=1\/g=2\/g=3\/g=4)with rfl|rfl|rfl|rfl|rfl<;>kernel_rfl
 intro g B;obtain⟨⟨z,t⟩,U⟩:=Option.isSome_iff_exists.1 (key g B);obtain⟨cs,O,_⟩:=h.1 g z t (B) U;exact⟨cs,t,_,O⟩
theorem Dt{base:Nat}{t e:TypeId}{a:Addr}(Y:prog.underlying t=some (.slice e))(h:az prog W .any base t (.slice (some a) l c)):a.spot=none/\∃cs B f,W.heap[a.block]?=some (.cells cs B f):=by
 simp only[az,Y,Cell.okWide,Cell.ok]at h;obtain⟨_,_,_,O,row,cells,hsh,_⟩:=h;refine⟨O,?_⟩;unfold World.shape? at hsh
 cases U:W.heap[a.block]? with
 |none=>rw[U]at hsh; cases hsh
 |some o=>
  cases o with
  |cells cs B f=>exact⟨cs,B,f,rfl⟩
  |_=>rw[U]at hsh; cases hsh
def PG(gs:List (Option Addr))(b:Nat):Prop:=sf b=true\/∃a,some a∈gs/\a.block=b
theorem SD{g:Nat}(h:sf g=true):g<5:=by
 unfold sf at h;simp only[Bool.or_eq_true,beq_iff_eq]at h;omega
theorem Gl(B:W.ShapedOpen prog)(O:∀a,some a∈gs->∃c e f,W.heap[a.block]?=some (.cells c e f)):∀r,PG gs r->∃c e f,W.heap[r]?=some (.cells c e f):=by
 rintro r (h|⟨a,h,rfl⟩)
 .exact Bi B r (SD h)
 .exact O a h
theorem LL(B:W.ShapedOpen prog):5<=W.heap.size:=by
 obtain⟨c,e,f,h⟩:=Bi B 4 (by omega);have:=(aq.1 h).1;omega
theorem On{Mp:Nat->Prop}(h:NZ W):NZ (qe W Mp):=⟨mn trivial h.1,mn trivial h.2.1,mn trivial h.2.2⟩
theorem zL{a:Option Addr}(h:a∈gs):VR (pS W (PG gs)) (.slice a l c) (.slice a l c):=by
 cases a with
 |none=>exact .jg l c
 |some a=>exact .slice l c (.mk (pR (.inr ⟨a,h,rfl⟩)))
theorem Qf{args:Array Value}{f:FuncId}{jQ:Func}{c:Code}{v:Value}{tm:Array Value}(O:W.ShapedOpen prog)(ha:∀a,some a∈gs->∃c e f,W.heap[a.block]?=some (.cells c e f))(hf:prog.funcs[f]?=some jQ)(hb:jQ.body=some c)(B:io (pS W (PG gs)) args args)(U:args++Array.replicate (jQ.ntmps-args.size) a3=tm)
  (h:gp (iK (ending prog λv' w=>v'=v/\zC W w) W (PG gs)) [⟨f,tm,[.code c]⟩] (qe W (PG gs)) []):wM prog (λv' w=>v'=v/\zC W w) (solo (G (Frame.enter prog f args .normal) []) W) #[]:=
 KG (E:=iK _ W _) (m:=pS W _) rfl (λb hb=>⟨hb.1,(C9 hb.2).symm⟩) (λr b Y hb=>absurd (qM Y).1 (by rw[<-(qM Y).2]; exact hb.2)) (Gb _ _ _) (by rw[show(iK _ W _).w0.heap.size=W.heap.size from yi W _]; exact a2 _) ⟨rfl,rfl⟩ rfl hf hb (NW λg hg=>.inl hg) (N5 (LL O) (Gl O ha)) B (by rw[U]; exact h)
theorem wM.mono{P:Program}{A B:Value->World->Prop}{M:Machine}{t:Trace}(h:wM P A M t)(O:∀v w,A v w->B v w):wM P B M t:=by
 obtain⟨N,last,o,w',t',U,Y,h3,h4⟩:=h;exact⟨N,last,o,w',t',U,Y,h3,h4.mono λv=>O v w'⟩
end
section
open Go.ChangeShapes Go.WideShapes Go.ChangeAt Go.RowKit Go.Conc
variable {p:List MemPlace} {cs:List Value} {base c l o:Nat} {a:Option Addr} {H:Type} {W:World} {d:DataW H} {enc:TypeId×Value->H}
theorem AD{n:Int}(h:(Lit.int .i64 n).wf=true) : -9223372036854775808<=n/\n<=9223372036854775807:=by
 simpa[Lit.wf,IntKind.min,IntKind.signed,IntKind.bits]using h
theorem Mj:prog.cellsOf 3=1:=by kernel_rfl
theorem RV(U:az prog W .any base 26 (.slice a l c))(h:DataW.Trod enc prog W 0 (λ_=>true) true 26 (.slice a l c) d p) :
  ∃rs:List Int,rs.length=l/\Cb W a rs/\l<=c/\l<=9223372036854775807/\∀x,a=some x->∃c e f,W.heap[x.block]?=some (.cells c e f):=by
 obtain⟨ae,hf⟩:=h;rcases open_ints underlying26 underlying3 Mj hf with⟨B,Y⟩|⟨x,af,ag,zs,B,_,hl,hm,hz,Y,O,aa⟩
 .obtain⟨rfl,rfl,rfl⟩:=B;exact⟨[],rfl,⟨λj hj=>absurd hj (by simp),λx Y=>absurd Y (by simp),λx Y=>absurd Y (by simp)⟩,a2 _,by omega,nofun⟩
 .obtain⟨rfl,rfl,rfl⟩:=B;simp only[if_true]at hz;obtain⟨ad,ab⟩:=Dt underlying26 U;have ah:c<=9223372036854775807:=hm;refine⟨zs.take l,by simp; omega,⟨λj hj=>?_,λy hy=>(AD (aa y (a1 hy))).1,λy hy=>(AD (aa y (a1 hy))).2⟩,hl,by omega,λy e=>by cases e; exact ab⟩;obtain⟨b,off,spot⟩:=x;subst ad;have ac:j<zs.length:=by simp at hj; omega
  have:=O j ac;rw[Addr.add_lit]at this;refine⟨b,off,rfl,?_⟩;rw[this];simp[List.getD,ac]
theorem TA:prog.cellsOf 48=4:=by kernel_rfl
theorem take_one{v:Value}(h:(cs.drop o).take 1=[v]):cs[o]?=some v:=by
 have:((cs.drop o).take 1)[0]?=some v:=by rw[h]; rfl
 simpa using this
theorem Pq{w:World}{spare:Nat->Bool}{held:Bool}{O:Nat}{b:Nat}{x:DataW H×List MemPlace}
  (hc:w.cells? base ⟨b,o,none⟩ 4=some cs) (h:DataW.trod enc prog w base spare held O 48 cs=some x) :
  ∃r:Raw,r.Ok/\w.cell? ⟨b,o,none⟩=some (.int .i64 r.name)/\w.cell? ⟨b,o+1,none⟩=some (.int .i64 r.text)/\w.cell? ⟨b,o+2,none⟩=some (.int .i64 r.gw)/\w.cell? ⟨b,o+3,none⟩=some (.int .i64 r.gK):=by
 obtain⟨xs,n,rfl,_,hl,Y,U⟩:=DataW.trod_struct underlying48 h;obtain⟨_,aa,B⟩:=World.cells?_some hc;have ab:xs.length=4:=Y
 have cell:∀i,i<4->∀v,cs[i]?=some v->w.cell? _=some v:=λi hi v hv=>by
  have:=B i hi;rw[hv]at this;exact this
 have one:∀i,i<4->∃n:Int,w.cell? _=some _/\-9223372036854775808<=n/\n<=9223372036854775807:=λi hi=>by
  obtain⟨y,e⟩:∃y,xs[i]?=some y:=⟨xs[i],a0 _⟩
  have f:DataW.trod enc prog w base spare held n 3 ((cs.drop i).take (prog.cellsOf 3))=some y:=by
   rcases(by omega:i=0\/i=1\/i=2\/i=3)with rfl|rfl|rfl|rfl
   .exact(U 0 _ rfl).trans e
   .exact(U 1 _ rfl).trans e
   .exact(U 2 _ rfl).trans e
   .exact(U 3 _ rfl).trans e
  obtain⟨n,g,_,wf⟩:=DataW.trod_int underlying3 f;exact⟨n,cell i hi _ (take_one g),AD wf⟩
 obtain⟨n0,p0,q0⟩:=one 0 (by omega);obtain⟨n1,p1,q1⟩:=one 1 (by omega);obtain⟨n2,p2,q2⟩:=one 2 (by omega);obtain⟨n3,p3,q3⟩:=one 3 (by omega);exact⟨⟨n0,n1,n2,n3⟩,⟨q0.1,q0.2,q1.1,q1.2,q2.1,q2.2,q3.1,q3.2⟩,p0,p1,p2,p3⟩
theorem OM(Y:az prog W .any base 25 (.slice a l c))(h:DataW.Trod enc prog W 0 (λ_=>true) true 25 (.slice a l c) d p) :
  ∃rs:List Raw,rs.length=l/\uJ W a rs/\l<=c/\l<=9223372036854775807/\∀x,a=some x->∃c e f,W.heap[x.block]?=some (.cells c e f):=by
 obtain⟨ae,hf⟩:=h;rcases DataW.trod_slice underlying25 hf with⟨O,hx⟩|⟨x,af,ag,elems,rest,n,_,O,_,hb,hl,hm,ah,ac,ai,aj⟩
 .obtain⟨rfl,rfl,rfl⟩:=O;exact⟨[],rfl,⟨λj B=>absurd B (by simp),λx hx=>absurd hx (by simp)⟩,a2 _,by omega,nofun⟩
 .obtain⟨rfl,rfl,rfl⟩:=O;obtain⟨aa,ab⟩:=Dt underlying25 Y;have ak:c<=9223372036854775807:=hm;obtain⟨b,off,spot⟩:=x;subst aa
  have each:∀j,j<l->∃r:Raw,r.Ok/\W.cell? _=some _/\W.cell? _=some _/\W.cell? _=some _/\W.cell? _=some _:=λj B=>by
   have h1:=ac j B;rw[a0 (by omega),Option.bind_eq_some_iff]at h1;obtain⟨cs,h2,h3⟩:=h1;rw[Addr.add_lit]at h2;exact Pq h2 h3
  have U:∀j,∃r:Raw,j<l->r.Ok/\W.cell? _=some _/\W.cell? _=some _/\W.cell? _=some _/\W.cell? _=some _:=λj=>by
   by_cases B:j<l
   .obtain⟨r,hr⟩:=each j B;exact⟨r,λ_=>hr⟩
   .exact⟨⟨0,0,0,0⟩,λh=>absurd h B⟩
  refine⟨(List.range l).map λj=>am (U j),by simp,⟨λj B=>?_,λy hy=>?_⟩,hl,by omega,λy e=>by cases e; exact ab⟩
  .have ad:=by simpa using B
   have:=al (U j) ad;rw[List.getElem_map,List.getElem_range];exact⟨b,off,rfl,this.2⟩
  .obtain⟨j,B,rfl⟩:=List.mem_map.1 hy;exact(al (U j) (List.mem_range.1 B)).1
theorem Pl(h:laidMetH prog RX W):oM W:=by
 have B:=h.tail.tail;exact Lib.tabIs_of_head (k:=.u64) (zs:=Lib.pow10Tab) (g:=2) (t:=295) (e:=141) (n:=20) (by kernel_rfl) (by kernel_rfl) underlying295 underlying141 (by kernel_rfl) (by kernel_rfl) B
theorem Ov{Mp:Nat->Prop}(h:oM W):oM (qe W Mp):=by
 unfold oM Lib.TabIs World.var? at h⊢;rw[show prog.globalNamed _=some 2 by kernel_rfl]at h⊢;simp only[Option.bind_some]at h⊢
 cases B:W.heap[2]? with
 |none=>rw[B]at h; cases h
 |some o=>
  rw[B]at h
  cases o with
  |cells c e f=>
   simp only[ax]at h;by_cases hm:Mp 2
   .rw[rj hm B];simp only[ax];rw[h];apply Array.ext';simp only[Array.toList_map,List.map_map];apply List.map_congr_left;intro z _;exact vT trivial
   .rw[CJ hm,B];simp only[ax];exact h
  |_=>cases h
end
section
open Go.ChangeShapes Go.WideShapes Go.ChangeAt Go.RowKit Go.Conc
variable {Mp:Nat->Prop} {ra:Option Addr} {W:World}
theorem Nd{rs:List Int}(h:Cb W ra rs):Cb (qe W Mp) ra rs:=⟨λj B=>by
 obtain⟨b,off,e,O⟩:=h.cell j B
 exact⟨b,off,e,mn trivial O⟩,h.lo,h.hi⟩
theorem J3{rs:List Raw}(h:uJ W ra rs):uJ (qe W Mp) ra rs:=⟨λj B=>by
 obtain⟨b,off,e,O,U,Y,h4⟩:=h.cell j B
 exact⟨b,off,e,mn trivial O,mn trivial U,mn trivial Y,mn trivial h4⟩,h.ok⟩
end
section
open Go.ChangeShapes Go.WideShapes Go.ChangeAt Go.RowKit Go.Conc
theorem EG{W:World}{O U:Option Addr}{Y:List Raw}{rs:List Int}{lc rc:Nat}{sb:ByteArray}{n wt tg:Int}(B:W.ShapedOpen prog)(hW:NZ W)(aa:oM W)(hL:uJ W O Y)(hT:Cb W U rs)(ab:∀a,some a∈[O,U]->∃c e f,W.heap[a.block]?=some (.cells c e f))(ac:Y.length<=lc)(ad:rs.length<=rc)(ae:Y.length<=9223372036854775807)(af:rs.length<=9223372036854775807)(hs:sb.size+1<=maxLen)
  (n0 : -9223372036854775808<=n) (n1:n<=9223372036854775807) :
  wM prog (λv' w=>v'=.bool true/\zC W w) (solo (G (Frame.enter prog 11 #[.slice O Y.length lc,.slice U rs.length rc,.string sb,.int .i64 n,.int .i64 wt,.int .i64 tg] .normal) []) W) #[]:=by
 refine Qf (gs:=[O,U]) (tm:=#[.slice O Y.length lc,.slice U rs.length rc,.string sb,.int .i64 n,.int .i64 wt,.int .i64 tg,a3,a3,a3,a3,a3,a3,a3,a3,a3,a3,a3,a3,a3,a3,a3,a3,a3,a3,a3,a3,a3,a3,a3,a3,a3,a3,a3,a3,a3,a3,a3,a3,a3,a3,a3,a3,a3,a3,a3,a3,a3,a3,a3,a3,a3,a3,a3,a3,a3,a3,a3,a3,a3,a3,a3,a3,a3,a3,a3,a3,a3,a3,a3,a3,a3,a3,a3,a3,a3,a3,a3,a3,a3,a3,a3,a3,a3,a3,a3,a3,a3,a3,a3,a3,a3,a3,a3,a3,a3,a3,a3,a3,a3,a3,a3,a3,a3,a3,a3,a3,a3,a3,a3,a3,a3,a3,a3,a3,a3,a3,a3,a3,a3,a3,a3,a3,a3,a3,a3,a3,a3,a3,a3,a3,a3,a3,a3,a3,a3,a3,a3,a3,a3,a3,a3,a3,a3,a3,a3,a3,a3,a3,a3,a3,a3,a3,a3,a3,a3,a3,a3,a3,a3,a3,a3,a3,a3,a3,a3,a3,a3,a3,a3,a3,a3,a3,a3,a3,a3,a3,a3,a3,a3,a3,a3,a3,a3,a3,a3,a3,a3,a3,a3,a3,a3,a3,a3,a3,a3,a3,a3,a3,a3,a3,a3,a3,a3,a3,a3,a3,a3,a3,a3,a3,a3,a3,a3,a3,a3,a3,a3,a3,a3,a3,a3,a3,a3,a3,a3,a3,a3,a3,a3,a3,a3,a3,a3,a3,a3,a3,a3,a3,a3,a3,a3,a3,a3,a3,a3,a3,a3,a3,a3,a3,a3,a3,a3,a3,a3,a3,a3,a3,a3,a3,a3,a3,a3,a3,a3,a3,a3,a3,a3,a3,a3,a3,a3,a3,a3,a3,a3,a3,a3,a3,a3,a3,a3,a3,a3,a3,a3,a3,a3,a3,a3,a3,a3,a3,a3,a3,a3,a3,a3,a3,a3,a3,a3,a3,a3,a3,a3,a3,a3,a3,a3,a3,a3,a3,a3,a3,a3,a3,a3,a3,a3,a3,a3,a3,a3,a3,a3,a3,a3,a3,a3,a3,a3]) (jQ:=Tryz.f11) (c:=ic Tryz.f11) B ab func11 (by kernel_rfl) (.cons (zL (by simp)) (.cons (zL (by simp)) (.cons (.string _) (.cons (.int _ _) (.cons (.int _ _) (.cons (.int _ _) .nil)))))) (by kernel_rfl) ?_;refine DO ⟨On hW,Ov aa⟩ (by rw[uP]; exact LL B) (J3 hL) (Nd hT) ac ad ae af hs n0 n1 λw ah hF ag=>?_;refine Rw (jQ:=Tryz.f11) (rs:=#[]) (Gl B ab) func11 (by kernel_rfl) (λk hk=>hF.block k (by rw[uP]; exact hk)) trivial λw=>?_;simp[results,results11,go_sem,ag]
end
end Go.Proofs.YtocbogeoffeolaaGreatDoor
