import Derived.Test.YtocbogeoffeolaaGreatDoorFolAN
import Derived.Conc.Beside
import Derived.Conc.CrowdComm
set_option linter.unusedVariables false
set_option linter.unusedSimpArgs false
set_option maxHeartbeats 8000000
set_option maxRecDepth 1000000
open Go.Conc renaming mem_ofEvents->a1,touchAt->a2,getElem?_append_old->a3,rcase->a4,Knows->a5,lt_size_of_getElem?->a6,crowd->a7,knows_own->a8,mem_of_getElem?->a9,noRace_append->a',woken_quitsD->aA,woken->aB,served->aC
open Go.MemOp renaming ofEvents->aD
open Nat renaming lt_of_lt_of_le->aE,le_refl->aF,le_trans->aG,exists_eq_add_of_le->aH
open Go.ConcN renaming upd_same->aI,upd_ne->aJ,upd->aK
open Array renaming getElem?_setIfInBounds_ne->aL,getElem?_eq_getElem->aM
open Go.MemAct renaming ofEvent->aN,touch?->aO
open Go renaming Trace->aP,stepG->aQ,goexitEntry->aR,HappensBefore->aS,unwind->aT,FuncId->aU,runN->aV,TypeId->aW
open Option.some renaming injEq->aX
open List renaming mem_iff_getElem?->aY,not_mem_nil->aZ,mem_toArray->ba,mem_filter->bb,mem_cons->bc,mem_map->bd,length->be
open Classical renaming choose->bf,byContradiction->bg,choose_spec->bh
open Go.Stepped.next renaming injEq->bi
open Go.Question renaming forced->bj,cut->bk
open Go.Trace renaming act?->bl,g?->bm
open Go.Goroutine renaming callers->bn,frame->bo
open Ne renaming symm->bp
open Bool renaming false_eq_true->bq
namespace Go.Proofs.YtocbogeoffeolaaGreatDoor
section
open Go.Conc
variable {S':LS} {w':World}
def ou(P:Program)(Stop:LS->Prop)(S:LS):Prop:=∀τ,Bl τ S.w->∃n h,aV P n (S.on τ).m=.next (LS.m h)/\Stop h/\h.cs≠[]
def AF(Stop:LS->Prop):Prop:=∀S τ,Stop (S.on τ)->Stop S
def po(P:Program)(Stop:LS->Prop)(S' S:LS):Prop:=¬Stop S/\∃τ,Bl τ S.w/\GC P (S.on τ) S'
def wR(P:Program)(S:LS):Prop:=∃gl st m T fr' cs' w',xP P gl st m T S fr' cs' w'
theorem WR.tp{m:Ren}{w:World}(h:WR m w w')(τ:Nat->Question->Nat):WR m (tp w τ) w':=⟨h.obj,h.fz,h.all,h.M4,h.M2,h.J5,h.os,h.nJ,h.lk,h.dead,h.tI⟩
section
variable {P:Program} {m:Ren} {T:List Frame} {gl:Nat->Prop} {st:Bool} {Stop:LS->Prop}
theorem xP.on{S:LS}{fr':Frame}{cs':List Frame}(h:xP P gl st m T S fr' cs' w')(τ:Nat->Question->Nat):xP P gl st m T (S.on τ) fr' cs' w':=⟨h.ry,h.kL,h.op,h.stack,h.world.tp τ⟩
theorem Ho(w:World):Bl w.tape w:=λ_ _=>rfl
theorem Tt(S:LS)(τ h:Nat->Question->Nat):(S.on τ).on h=S.on h:=rfl
theorem ou.step(W:AF Stop){S:LS}(h:wR P S)(Y:ou P Stop S)(hn:¬Stop S)(τ:Nat->Question->Nat)(D:Bl τ S.w):¬Fin P S/\∃S',GC P (S.on τ) S':=by
 obtain⟨gl,st,m,T,fr',cs',w',h⟩:=h;obtain⟨n,O,y,h2,h3⟩:=Y τ D
 cases n with
 |zero=>
  simp only[aV,bi]at y;obtain rfl:=LS.J4 y;exact absurd (W _ _ h2) hn
 |succ n=>
  refine⟨λU=>BS (m:=m) (T:=T) (S:=S.on τ) (h.on τ).stack ⟨U.1,U.2⟩ n h3 y,?_⟩;obtain⟨S',g,_⟩:=BG (h.on τ).ry h.kL h.op (h.on τ).stack (h.on τ).world y;exact⟨S',g⟩
theorem wR.own{S:LS}(y:wR P S)(D:¬Fin P S)(h:GC P S S'):wR P S':=by
 obtain⟨gl,st,m,T,fr',cs',w',y⟩:=y;obtain⟨Ud,f,c,w,h⟩:=y.own D h;exact⟨gl,st,Ud,T,f,c,w,h⟩
theorem wR.on{S:LS}(h:wR P S)(τ:Nat->Question->Nat):wR P (S.on τ):=by
 obtain⟨gl,st,m,T,fr',cs',w',h⟩:=h;exact⟨gl,st,m,T,fr',cs',w',h.on τ⟩
theorem Aa{S:LS}(y:wR P S)(h:GC P S S'):S.w.drawn<=S'.w.drawn/\S'.w.tape=S.w.tape/\∀τ,wY τ S.w S'.w->GC P (S.on τ) (S'.on τ):=by
 obtain⟨gl,st,m,T,fr',cs',w',y⟩:=y;exact h.loc y
theorem ou.own(hB:AF Stop){S:LS}(hs:wR P S)(hH:ou P Stop S)(h:po P Stop S' S):wR P S'/\ou P Stop S':=by
 obtain⟨hn,τ,O,ho⟩:=h;have hf:=(hH.step hB hs hn τ O).1;refine⟨(hs.on τ).own (λx=>hf ⟨x.1,x.2⟩) ho,λD y=>?_⟩;obtain⟨h1,Y,h3⟩:=Aa (hs.on τ) ho;have h1:S.w.drawn<=S'.w.drawn:=h1;have Y:S'.w.tape=τ:=Y
 have U:=h3 D λi _ b=>by
  rw[y i b,Y]; rfl
 rw[Tt]at U
 have hb:Bl D S.w:=λi hi=>by
  rw[y i (aE hi h1),Y]; exact O i hi
 obtain⟨n,W,g1,g2,g3⟩:=hH D hb
 cases n with
 |zero=>
  simp only[aV,bi]at g1;obtain rfl:=LS.J4 g1;exact absurd (hB _ _ g2) hn
 |succ n=>
  simp only[aV,U.next]at g1;exact⟨n,W,g1,g2,g3⟩
theorem Ql{D:Type}{r:D->D->Prop}{x:D}(h:¬Acc r x):∃y,r y x/\¬Acc r y:=by
 by_cases O:∃y,r y x/\¬Acc r y
 .exact O
 .exact absurd (Acc.intro x λy U=>bg λW=>O ⟨y,U,W⟩) h
open Classical in
theorem ou.acc(hB:AF Stop){S:LS}(hs:wR P S)(hH:ou P Stop S):Acc (po P Stop) S:=by
 apply bg;intro aa;let X:={S:LS // wR P S/\ou P Stop S/\¬Acc (po P Stop) S}
 have nx:∀x:X,∃y:X,po P Stop y.1 x.1:=by
  rintro⟨x,h1,O,h3⟩;obtain⟨y,hr,hy⟩:=Ql h3;have:=O.own hB h1 hr;exact⟨⟨y,this.1,this.2,hy⟩,hr⟩
 let f:X->X:=λx=>bf (nx x);have hf:∀x:X,po P Stop (f x).1 x.1:=λx=>bh (nx x);let s:Nat->X:=λn=>Nat.rec ⟨S,hs,hH,aa⟩ (λ_ x=>f x) n;have D:∀n,po P Stop (s (n+1)).1 (s n).1:=λn=>hf (s n)
 have one:∀n,(s n).1.w.drawn<=(s (n+1)).1.w.drawn/\(∀i,i<(s n).1.w.drawn->(s (n+1)).1.w.tape i=(s n).1.w.tape i):=by
  intro n;obtain⟨_,τ,U,ho⟩:=D n;obtain⟨h1,O,_⟩:=Aa ((s n).2.1.on τ) ho;have O:(s (n+1)).1.w.tape=τ:=O;exact⟨h1,λi hi=>by rw[O]; exact U i hi⟩
 have mono:∀k n,(s n).1.w.drawn<=(s (n+k)).1.w.drawn/\(∀i,i<(s n).1.w.drawn->(s (n+k)).1.w.tape i=(s n).1.w.tape i):=by
  intro k
  induction k with
  |zero=>exact λn=>⟨aF _,λ_ _=>rfl⟩
  |succ k ih=>
   intro n;have a:=ih n;have b:=one (n+k);refine⟨aG a.1 b.1,λi hi=>?_⟩;have:=b.2 i (aE hi a.1);exact this.trans (a.2 i hi)
 let τ:Nat->Question->Nat:=λi=>if h:∃n,i<(s n).1.w.drawn then(s (bf h)).1.w.tape i else λ_=>0
 have U:∀n i,i<(s n).1.w.drawn->τ i=(s n).1.w.tape i:=by
  intro n i hi;have hx:∃n,i<(s n).1.w.drawn:=⟨n,hi⟩;have e:τ i=(s (bf hx)).1.w.tape i:=dif_pos hx;have hk:=bh hx;rw[e];generalize bf hx=k at hk;rcases Nat.le_total k n with h|h
  .obtain⟨d,rfl⟩:=aH h;exact((mono d k).2 i hk).symm
  .obtain⟨d,rfl⟩:=aH h;exact(mono d n).2 i hi
 have go:∀n,GC P ((s n).1.on τ) ((s (n+1)).1.on τ):=by
  intro n;obtain⟨_,W,hb,ho⟩:=D n;obtain⟨h1,O,h3⟩:=Aa ((s n).2.1.on W) ho;have O:(s (n+1)).1.w.tape=W:=O
  exact h3 τ λi _ hi=>by
   rw[U (n+1) i hi,O]; rfl
 have run:∀n k,aV P n ((s k).1.on τ).m=.next ((s (k+n)).1.on τ).m:=by
  intro n
  induction n with
  |zero=>exact λk=>rfl
  |succ n ih=>
   intro k;simp only[aV,(go k).next];rw[ih (k+1),Nat.add_right_comm];rfl
 obtain⟨n,Y,g1,g2,_⟩:=hH τ λi hi=>U 0 i hi;have:=run n 0;rw[Nat.zero_add]at this;have e:Stepped.next ((s n).1.on τ).m=.next Y.m:=this.symm.trans g1;simp only[bi]at e;obtain rfl:=LS.J4 e;exact(D n).1 (hB _ _ g2)
end
end
section
open Go.Conc
variable {fr':Frame} {S:LS} {cs':List Frame} {w' Um:World}
section
variable {P:Program} {m:Ren} {T:List Frame} {gl:Nat->Prop} {st:Bool} {Stop:LS->Prop}
theorem WR.rely{w:World}(h:WR m w w')(O:∀r r',m.blk r=some r'->Um.heap[r']?=w'.heap[r']?)(Y:w'.heap.size<=Um.heap.size)(ho:Um.os=w'.os):WR m w Um:=by
 refine⟨λr r' hb=>?_,λr r' c e f U W f' hb y D hn=>?_,λr r' c e f U W f' hb y D hl=>?_,λr r' hb=>?_,h.M2,aG h.J5 Y,ho.trans h.os,h.nJ,h.lk,h.dead,λr i v hv=>?_⟩
 .obtain⟨o,o',y,D,h3⟩:=h.obj r r' hb;exact⟨o,o',y,by rw[O r r' hb]; exact D,h3⟩
 .exact h.fz r r' _ _ _ _ _ _ hb y (by rw[<-O r r' hb]; exact D) hn
 .exact h.all r r' _ _ _ _ _ _ hb y (by rw[<-O r r' hb]; exact D) hl
 .have:=h.M4 r r' hb;exact⟨this.1,aE this.2 Y⟩
 .obtain⟨r',hb,hp⟩:=h.tI r i v hv;exact⟨r',hb,λc e f U W f' x g1 g2=>hp c e f U W f' x g1 (by rw[<-O r r' hb]; exact g2)⟩
theorem xP.rely(h:xP P gl st m T S fr' cs' w')(y:∀r r',m.blk r=some r'->Um.heap[r']?=w'.heap[r']?)(D:w'.heap.size<=Um.heap.size)(O:Um.os=w'.os):xP P gl st m T S fr' cs' Um:=⟨h.ry,h.kL,h.op,h.stack,h.world.rely y D O⟩
structure rA(P:Program)(gl:Nat->Prop)(st:Bool)(m:Ren)(T:List Frame)(S:LS)(r r':Nat)(v v':Value)(fr':Frame)(cs':List Frame)(w':World):Prop where
 ry:oh P m gl st
 kL:¬m.kL
 op:Open m
 ch:m.ch r=some r'
 val:VR m v v'
 tR:∃f0 wl cap buf km rcvd tm,S=⟨f0.finish undef,S.cs,{wl with heap:=wl.heap.setIfInBounds r (.chan cap (buf.push v) false (km+1) rcvd tm)}⟩/\iy P m T (f0::S.cs) (fr'::cs')/\WR m wl w'/\wl.heap[r]?=some (.chan cap buf false km rcvd tm)/\buf.size<cap
theorem rA.rely{r r':Nat}{v D:Value}(h:rA P gl st m T S r r' v D fr' cs' w')(O:∀r r',m.blk r=some r'->Um.heap[r']?=w'.heap[r']?)(U:w'.heap.size<=Um.heap.size)(W:Um.os=w'.os):rA P gl st m T S r r' v D fr' cs' Um:=by
 obtain⟨f0,wl,cap,buf,km,y,tm,Y,h2,h3,h4⟩:=h.tR;exact⟨h.ry,h.kL,h.op,h.ch,h.val,f0,wl,cap,buf,km,y,tm,Y,h2,h3.rely O U W,h4⟩
theorem rA.done{r r':Nat}{v Y:Value}(h:rA P gl st m T S r r' v Y fr' cs' w'):∃o,xP P gl st (m.put r o) T S (fr'.finish undef) cs' w':=by
 obtain⟨f0,wl,cap,buf,km,D,tm,U,W,h3,h4,_⟩:=h.tR;have y:=W.rX.finish (VR.undef m);refine⟨.chan cap (buf.push v) false (km+1) D tm,h.ry.mono (Ren.qE _ _ _),h.kL,λs s' O=>?_,?_,?_⟩
 .by_cases e:s=r
  .exact⟨cap,buf.push v,km+1,D,tm,by simp[Ren.put,e]⟩
  .obtain⟨a,b,c,d,e',hx⟩:=h.op s s' O;exact⟨a,b,c,d,e',by simp only[Ren.put,e,if_false]; exact hx⟩
 .rw[U];exact(W.set (.refl m) y.1 y.2.1 y.2.2 (jj _ _) (kB _ _)).mono (Ren.qE _ _ _)
 .rw[U];exact h3.put ⟨_,_,_,_,_,_,rfl⟩ ⟨_,_,_,_,_,_,h4⟩
inductive Does(P:Program)(gl:Nat->Prop)(st:Bool)(Stop:LS->Prop)(m:Ren)(T:List Frame)(S:LS)(w':World):GStep->Prop
 |go {S' Ud Uh Ui Uc es}:po P Stop S' S->m.Le Ud->xP P gl st Ud T S' Uh Ui Uc->ju m Ud w' Uc->(∀e∈es,qJ Ud e)->Does P gl st Stop m T S w' (.go (G Uh Ui) Uc es)
 |send {S' Ud Uh Ui Uc es r r' v v' z'}:po P Stop S' S->m.Le Ud->rA P gl st Ud T S' r r' v v' Uh Ui Uc->ju m Ud w' Uc->(∀e∈es,qJ Ud e)->Does P gl st Stop m T S w' (.comm (G Uh Ui) #[⟨.chan (some r'),some v',z'⟩] true .send Uc es)
def along(w w':World):Nat->Question->Nat:=λi=>if i<w.drawn then w.tape i else w'.tape (w'.drawn+(i-w.drawn))
theorem FC(w w':World):Bl (along w w') w:=λi hi=>by simp[along,hi]
theorem rm(w w':World):Al (tp w (along w w')) w':=λi q=>by
 show w'.tape (w'.drawn+i) q=along w w' (w.drawn+i) q;have:¬w.drawn+i<w.drawn:=by omega
 simp[along,this]
theorem xP.Tq(hB:AF Stop)(D:xP P gl st m T S fr' cs' w')(hH:ou P Stop S)(hn:¬Stop S)(main':Bool):Does P gl st Stop m T S w' (aQ P main' (G fr' cs') w'):=by
 have hb:=FC S.w w';have af:=rm S.w w';obtain⟨hf,S',ho⟩:=hH.step hB ⟨_,_,_,_,_,_,_,D⟩ hn _ hb;have hg:po P Stop S' S:=⟨hn,_,hb,ho⟩;have y:=D.on (along S.w w');have U:=nE y.kL y.stack;generalize aa:S.on (along S.w w')=S0 at ho y U;have O:Al S0.w w':=by rw[<-aa]; exact af
 have ag:¬Fin P S0:=by rw[<-aa]; exact λx=>hf ⟨x.1,x.2⟩
 cases ho with
 |go h=>
  obtain⟨Ud,f,c,Um,es,e,W,h2,h3,h4,h5⟩:=zn (main':=main') y.ry y.stack U (λa b c d=>ag ⟨a,b,c,d⟩) y.world O h;rw[e];exact .go hg W ⟨D.ry.mono W,by rw[W.kL]; exact D.kL,λr r' hr=>by rw[h4.qD D.kL]at hr; rw[h4.nJ]; exact D.op r r' hr,h2,h3⟩ h4 h5
 |@send _ _ _ f0 c0 r v z Uc es cap buf km ab tm h hc ah=>
  obtain⟨f1,c1,Ud,ak,al,k',Um,am,e0,e,_,W,h2,h3,h4,h5,h6⟩:=vh (main':=main') y.ry y.stack U y.world O h;obtain⟨rfl,rfl⟩:f0=f1/\c0=c1:=⟨congrArg bo e0,congrArg bn e0⟩;obtain⟨kl⟩:=k';simp only at h3
  cases h3 with
  |@cons _ q _ _ hx Y=>
   cases Y;obtain⟨an,ao,ap⟩:=q;have ac:=hx.chan;have ad:=hx.send;simp only at ac ad
   cases ac with
   |@chan _ r' ai=>
   cases ad with
   |@some _ v' hv=>
   rw[e];have aj:Open Ud:=λs s' ae=>by rw[h5.qD D.kL]at ae; rw[h5.nJ]; exact D.op s s' ae
   exact .send hg W ⟨D.ry.mono W,by rw[W.kL]; exact D.kL,aj,ai,hv,f0,Uc,cap,buf,km,ab,tm,rfl,h2,h4,hc,ah⟩ h5 h6
end
end
section
open Go.Conc
variable {es:Array Event} {fn:aU} {m':Ren} {pos:String}
def nT:Go.Loc->Option Nat
 |.cell a=>some a.block
 |.obj r=>some r
 |_=>none
def pt(t:aP)(g:Nat)(m:Ren):Prop:=∀p a b r,a2 t p=some a->nT a.loc=some b->m.blk r=some b->(m.loose r->a.write=true)->a5 t g p
def Nw(t:aP)(B:Nat):Prop:=∀p a b,a2 t p=some a->nT a.loc=some b->b<B
def qe(m m':Ren):Prop:=∀r r' b,m.blk r=some b->m'.blk r'=some b->m.loose r/\m'.loose r'
theorem qe.symm{m:Ren}(h:qe m m'):qe m' m:=λr r' b x y=>⟨(h r' r b y x).2,(h r' r b y x).1⟩
section
variable {t u:aP} {g:Nat} {m Ud:Ren} {B:Nat}
theorem oU{e:Event}(h:qJ m e){x:Touch}(y:(aN e).touch?=some x)(hm:x.loc.isMemory=true):∃b r,nT x.loc=some b/\m.blk r=some b/\(m.loose r->x.write=false):=by
 obtain⟨loc,wr,U⟩:=e
 cases loc with
 |cell a=>
  obtain⟨D,W,Y,hw⟩:=h;simp only[aN,aO,aX]at y;subst y;refine⟨a.block,W.block,rfl,Y.blk,λO=>?_⟩
  cases wr with
  |false=>rfl
  |true=>exact absurd O (hw rfl)
 |obj r=>
  obtain⟨D,r0,hb,O⟩:=h;simp only at D;subst D;cases wr <;>(simp only[aN,aO,aX]at y; subst y; exact⟨r,r0,rfl,hb,λx=>absurd x O⟩)
 |mark k=>
  have hk:Ef k:=h;cases k<;>first|exact hk.elim|(simp[aN,aO]at y)
 |output=>
  cases wr<;>cases U <;>(simp only[aN,aO,aX]at y; subst y; simp[Go.Loc.isMemory]at hm)
 |goroutines=>exact h.elim
theorem pt.grow(h:pt t g m)(O:m.Le Ud)(U:Nw t B)(W:∀r b,Ud.blk r=some b->m.blk r=some b\/B<=b):pt t g Ud:=by
 intro p a b r D hb Y hw;rcases W r b Y with x|x
 .exact h p a b r D hb x λy=>hw ((O.loose r b x).2 y)
 .have:=U p a b D hb;omega
theorem iG{p:Nat}{a:Touch}(h:a2 (t++u) p=some a):(p<t.size/\a2 t p=some a)\/∃op,op∈u/\(t++u)[p]?=some op/\op.act.touch?=some a:=by
 obtain⟨op,y,O⟩:=touch_of h;rcases getElem?_append_cases y with⟨U,D⟩|⟨_,D⟩
 .exact .inl ⟨U,by rw[touchAt_of D]; exact O⟩
 .exact .inr ⟨op,D,y,O⟩
theorem pt.own(h:pt t g m):pt (t++aD g fn pos es) g m:=by
 intro p a b r D hb O U;rcases iG D with⟨_,y⟩|⟨op,y,W,_⟩
 .exact(h p a b r y hb O U).app _
 .have:=a8 W;obtain⟨e,_,rfl⟩:=a1 y;exact this
theorem pt.other(h:pt t g m)(hd:qe m m'){j:Nat}(he:∀e∈es,qJ m' e):pt (t++aD j fn pos es) g m:=by
 intro p a b r ha hb O U;rcases iG ha with⟨_,y⟩|⟨op,y,_,h3⟩
 .exact(h p a b r y hb O U).app _
 .obtain⟨e,D,rfl⟩:=a1 y
  have hm:a.loc.isMemory=true:=by
   cases hl:a.loc<;>rw[hl]at hb<;>simp[nT]at hb<;>rfl
  obtain⟨b',r',W,g2,Y⟩:=oU (he e D) h3 hm;rw[hb]at W;cases W;obtain⟨l1,l2⟩:=hd r r' b O g2;rw[U l1]at Y;exact absurd (Y l2) (by simp)
theorem pt.clean(h:pt t g m)(W:∀said,¬Race said t)(Y:∀e∈es,qJ m e):∀said,¬Race said (t++aD g fn pos es):=by
 intro said;refine a' (W said) (λop y=>by obtain⟨e,_,rfl⟩:=a1 y; rfl) λi a ha op y b hb D=>?_;obtain⟨e,O,rfl⟩:=a1 y;obtain⟨U,h2,h3,_⟩:=D;obtain⟨b',r,g1,g2,g3⟩:=oU (Y e O) hb (U▸h2);refine h i a b' r ha (by rw[U]; exact g1) g2 λhl=>?_;rcases h3 with x|x
 .exact x
 .rw[g3 hl]at x;cases x
theorem Nw.own(h:Nw t B){w:World}{wl:World}(U:WR m wl w)(W:B<=w.heap.size)(Y:∀e∈es,qJ m e):Nw (t++aD g fn pos es) w.heap.size:=by
 intro p a b ha hb;rcases iG ha with⟨_,y⟩|⟨op,y,_,h3⟩
 .exact aE (h p a b y hb) W
 .obtain⟨e,D,rfl⟩:=a1 y
  have hm:a.loc.isMemory=true:=by
   cases hl:a.loc<;>rw[hl]at hb<;>simp[nT]at hb<;>rfl
  obtain⟨b',r',O,g2,g3⟩:=oU (Y e D) h3 hm;rw[hb]at O;cases O;exact(U.lt g2).2
end
end
section
open Go.Conc
def Hr{h:Type}(r:h->h->Prop)(n:Nat)(y q:Nat->h):Prop:=∃i,i<n/\r (y i) (q i)/\∀j,j≠i->y j=q j
theorem Ob{O:Type}{r:O->O->Prop}:∀(n:Nat)(q:Nat->O),(∀i,i<n->Acc r (q i))->Acc (Hr r n) q:=by
 intro n
 induction n with
 |zero=>exact λq _=>.intro q λU ⟨i,hi,_⟩=>absurd hi (Nat.not_lt_zero i)
 |succ n ih=>
  have key:∀x,Acc r x->∀q:Nat->O,q n=x->(∀i,i<n->Acc r (q i))->Acc (Hr r (n+1)) q:=by
   intro x hx
   induction hx with
   |intro x _ aa=>
    intro q W jO;have D:=ih q jO;revert W jO
    induction D with
    |intro q _ ab=>
     intro W jO;refine .intro q λU ⟨i,hi,hr,Y⟩=>?_;by_cases e:i=n
     .subst e;exact aa (U i) (W▸hr) U rfl λj y=>by rw[Y j (Nat.ne_of_lt y)]; exact jO j y
     .have D:i<n:=by omega
      refine ab U ⟨i,D,hr,Y⟩ (by rw[Y n (bp e)]; exact W) λj y=>?_;by_cases ej:j=i
      .subst ej;exact(jO j y).inv hr
      .rw[Y j ej]; exact jO j y
  exact λq h=>key (q n) (h n (Nat.lt_succ_self n)) q rfl λi hi=>h i (Nat.lt_succ_of_lt hi)
section
variable {m Ud m':Ren} {w Uc wl wl':World} {B:Nat}
theorem qe.grow(h:qe m m')(D:m.Le Ud)(O:ju m Ud w Uc)(U:WR m' wl' w):qe Ud m':=by
 intro r r' b W y;rcases O.news r b W with x|x
 .obtain⟨a,b⟩:=h r r' _ x y;exact⟨(D.loose r _ x).2 a,b⟩
 .have:=(U.lt y).2;omega
theorem ju.leaves(y:ju m Ud w Uc)(O:qe m m')(U:WR m' wl' w):∀r r',m'.blk r=some r'->Uc.heap[r']?=w.heap[r']?:=by
 intro r r' hb;by_cases D:∃s,m.blk s=some r'
 .obtain⟨s,h⟩:=D;exact y.still s r' h (O s r r' h hb).1
 .exact y.old r' (U.lt hb).2 λs h=>D ⟨s,h⟩
theorem nF(O:WR m wl w){c:Nat}{o:Obj}(h:∃a b x s y t,w.heap[c]?=some (.chan a b x s y t)):∀r r',m.blk r=some r'->(w.heap.setIfInBounds c o)[r']?=w.heap[r']?:=by
 intro r r' hb;refine aL ?_;rintro rfl;obtain⟨x,W,_,D,U⟩:=O.obj r _ hb;obtain⟨a,b,y,s,z,t,h⟩:=h;rw[h]at D;cases D;cases U
theorem ju.chan(O:ju m Ud w Uc)(U:WR m wl w){c:Nat}{a:Nat}{b:Array Value}{x:Bool}{s y:Nat}{t:Bool}(h:w.heap[c]?=some (.chan a b x s y t)):Uc.heap[c]?=some (.chan a b x s y t):=by
 rw[O.old c (mG h) λr W=>?_]
 .exact h
 .obtain⟨o,o',_,D,Y⟩:=U.obj r _ W;rw[h]at D;cases D;cases Y
end
end
section
open Go.Conc
variable {fr':Frame} {cs':List Frame} {r:Nat} {w':World}
section
variable {P:Program} {m:Ren} {T:List Frame} {gl:Nat->Prop} {st:Bool} {Stop:LS->Prop}
def Holds(S:LS)(r:Nat)(l:List Value):Prop:=∃cap buf km h tm,S.w.heap[r]?=some (.chan cap buf false km h tm)/\buf.toList=l
theorem Holds.one{S:LS}{l y:List Value}(h:Holds S r l)(O:Holds S r y):l=y:=by
 obtain⟨_,_,_,_,_,U,rfl⟩:=h;obtain⟨_,_,_,_,_,D,rfl⟩:=O;rw[U]at D;cases D;rfl
theorem xP.Tg{S S':LS}(D:xP P gl st m T S fr' cs' w')(hf:¬Fin P S)(h:GC P S S'):∃Ud ab ac Uc,xP P gl st Ud T S' ab ac Uc/\Ud.ch=m.ch/\∀r r' l,m.ch r=some r'->Holds S r l->Holds S' r l\/∃v,Holds S' r (l++[v]):=by
 obtain⟨aj,ad,ae,_⟩:=align D.world;have hn:=nE D.kL D.stack;have hx:=D.own hf h
 cases h with
 |go h=>
  obtain⟨Ud,f,c,Um,es,_,h1,h2,h3,h4,_⟩:=zn (main':=true) D.ry D.stack hn (λa b c d=>hf ⟨a,b,c,d⟩) ad ae h;refine⟨Ud,f,c,Um,⟨D.ry.mono h1,by rw[h1.kL]; exact D.kL,λr r' hr=>by rw[h4.qD D.kL]at hr; rw[h4.nJ]; exact D.op r r' hr,h2,h3⟩,h4.qD D.kL,λr r' l hr hl=>.inl ?_⟩;obtain⟨cap,buf,km,y,tm,hx⟩:=D.op r r' hr;have a:=(D.world.nJ r _ hx).1;have b:=(h3.nJ r _ (by rw[h4.nJ]; exact hx)).1;have:l=buf.toList:=hl.one ⟨cap,buf,km,y,tm,a,rfl⟩;exact⟨cap,buf,km,y,tm,b,this.symm⟩
 |@send _ _ _ f0 c0 r0 v z Uc es cap buf km y tm h hc hb=>
  obtain⟨f1,c1,Ud,ag,ah,k',Um,ak,e0,_,_,h1,h2,h3,h4,h5,_⟩:=vh (main':=true) D.ry D.stack hn ad ae h;obtain⟨rfl,rfl⟩:f0=f1/\c0=c1:=⟨congrArg bo e0,congrArg bn e0⟩;have O:=(h2.rX).finish (VR.undef Ud)
  have ai:Open (Ud.put r0 (.chan cap (buf.push v) false (km+1) y tm)):=by
   intro s s' Y;by_cases e:s=r0
   .exact⟨cap,buf.push v,km+1,y,tm,by simp[Ren.put,e]⟩
   .have Y:Ud.ch s=some s':=Y;rw[h5.qD D.kL]at Y;obtain⟨a,b,c,d,e',hx⟩:=D.op s s' Y;exact⟨a,b,c,d,e',by simp only[Ren.put,e,if_false]; rw[h5.nJ]; exact hx⟩
  refine⟨Ud.put r0 (.chan cap (buf.push v) false (km+1) y tm),ag.finish undef,ah,Um,⟨(D.ry.mono h1).mono (Ren.qE _ _ _),?_,ai,?_,h4.put ⟨_,_,_,_,_,_,rfl⟩ ⟨_,_,_,_,_,_,hc⟩⟩,h5.qD D.kL,λr r' l hr hl=>?_⟩
  .show ¬Ud.kL;rw[h1.kL]; exact D.kL
  .exact(h2.set (.refl Ud) O.1 O.2.1 O.2.2 (jj _ _) (kB _ _)).mono (Ren.qE _ _ _)
  .obtain⟨aa,buf',U,W,af,hx⟩:=D.op r r' hr;have a:=(D.world.nJ r _ hx).1;have b:=(h4.nJ r _ (by rw[h5.nJ]; exact hx)).1;have el:l=buf'.toList:=hl.one ⟨aa,buf',U,W,af,a,rfl⟩;by_cases e:r=r0
   .subst e;rw[hc]at b;cases b;refine .inr ⟨v,cap,buf.push v,km+1,y,tm,?_,by rw[el]; simp⟩;show(Uc.heap.setIfInBounds r _)[r]?=_;simp[mG hc]
   .refine .inl ⟨aa,buf',U,W,af,?_,el.symm⟩;show(Uc.heap.setIfInBounds r0 _)[r]?=_;rw[aL (bp e)];exact b
theorem zc{r':Nat}{L:List Value}:∀(n:Nat){m:Ren}{S:LS}{fr':Frame}{cs':List Frame}{w':World},xP P gl st m T S fr' cs' w'->m.ch r=some r'->∀{y:LS},aV P n S.m=.next y.m->y.cs≠[]->Holds y r L->∀{l},Holds S r l->l <+: L
 |0,m,S,fr',cs',w',D,O,y,h,U,W,l,Y=>by
  simp only[aV,bi]at h
  obtain rfl:=LS.J4 h
  rw[Y.one W];exact List.prefix_refl _
 |n+1,m,S,fr',cs',w',D,O,y,h,U,W,l,Y=>by
  have hf:¬Fin P S:=λx=>BS D.stack x n U h;obtain⟨S',ho,h2⟩:=BG D.ry D.kL D.op D.stack D.world h;obtain⟨Ud,f,c,w,aa,ab,hh⟩:=D.Tg hf ho;have ih:=fun {l}=>zc (L:=L) n aa (by rw[ab]; exact O) h2 U W (l:=l);rcases hh r r' l O Y with x|⟨v,x⟩
  .exact ih x
  .exact(List.prefix_append l [v]).trans (ih x)
theorem ou.prefix{S:LS}(y:xP P gl st m T S fr' cs' w')(D:ou P Stop S){r':Nat}(O:m.ch r=some r'){L:List Value}(U:∀h,Stop h->Holds h r L){l:List Value}(W:Holds S r l):l <+: L:=by
 obtain⟨n,h,Y,h2,h3⟩:=D S.w.tape (Ho _);exact zc n y O (S:=S) Y h3 (U _ h2) W
theorem rA.next{S:LS}{r':Nat}{v U:Value}(h:rA P gl st m T S r r' v U fr' cs' w')(W:ou P Stop S){L:List Value}(Y:∀y,Stop y->Holds y r L):∃l,Holds S r (l++[v])/\(l++[v]) <+: L:=by
 obtain⟨o,hs⟩:=h.done;obtain⟨f0,wl,cap,buf,km,D,tm,h1,h2,h3,h4,_⟩:=h.tR
 have O:Holds S r (buf.toList++[v]):=by
  rw[h1];refine⟨cap,buf.push v,km+1,D,tm,?_,by simp⟩;show(wl.heap.setIfInBounds r _)[r]?=_;simp[mG h4]
 exact⟨_,O,W.prefix hs (r':=r') h.ch Y O⟩
end
end
section
open Go.Conc
variable {buf:Array Value} {tm:Bool} {fr ps:Frame} {c cap r s:Nat} {w:World}
def Lv(P:Program):Nat->Goroutine->Prop
 |0,g=>g.status=.finished
 |n+1,g=>g.status=.finished\/(g.status=.running/\∃g',(∀w,aQ P false g w=.go g' w #[])/\Lv P n g')
theorem Lv.status{P:Program}{n:Nat}{g:Goroutine}(h:Lv P n g):g.status=.running\/g.status=.finished:=by
 cases n with
 |zero=>exact .inr h
 |succ n=>exact h.elim .inr λx=>.inl x.1
theorem Lv.Gy{P:Program}:∀{n:Nat}{g:Goroutine},Lv P n g->QuitsD P n 0 g
 |0,_,h=>⟨h,rfl⟩
 |_+1,_,.inl h=>.inl ⟨h,rfl⟩
 |_+1,_,.inr ⟨h,g',y,D⟩=>.inr ⟨h,g',#[],by simp,y,D.Gy⟩
section
variable {P:Program}
theorem Iv(a:Array aW)(t:aW)(cs:Array Bool)(h:w.heap[c]?=some (.chan cap buf false s r tm)) :
  (invoke (.builtin .close a t cs) #[.chan (some c)]).runT P w #[]=(.ok (.value (.tuple #[])) {w with heap:=w.heap.setIfInBounds c (.chan cap buf true s r tm)},#[⟨.obj c,false,true⟩,⟨.obj c,true,true⟩]):=by
 obtain⟨k,e,y⟩:∃k,invoke (.builtin .close a t cs) #[.chan (some c)]=Sem.getObj c k/\k (.chan cap buf false s r tm)=Sem.setObj c (.chan cap buf true s r tm) (.pure (.value (.tuple #[]))):=⟨_,rfl,rfl⟩;rw[e]
 have D:(Sem.getObj c k).runT P w #[]=(k (.chan cap buf false s r tm)).runT P w (#[].push ⟨.obj c,false,true⟩):=by
  rw[Sem.runT];simp only[h];rfl
 rw[D,y];rw[Sem.runT];simp only[h];rfl
theorem closing{a:Array aW}{t:aW}{cs:Array Bool}(hm:fr.mode=.returning)(h:fr.defers=[⟨.builtin .close a t cs,#[.chan (some c)]⟩])(y:(P.funcs[fr.fn]?).any (·.norace)=false)(O:w.heap[c]?=some (.chan cap buf false s r tm)) :
  aQ P false (G fr [ps]) w=.go (G {fr with defers:=[]} [ps]) {w with heap:=w.heap.setIfInBounds c (.chan cap buf true s r tm)} #[⟨.obj c,false,true⟩,⟨.obj c,true,true⟩]:=by
 have e:aQ P false (G fr [ps]) w=aT P false fr [ps] none w:=by unfold aQ; simp only[G,hm]
 rw[e];obtain⟨fn,tmps,todo,defers,mode,D,round⟩:=fr;simp only at hm h y;subst hm h;unfold aT;dsimp only;unfold callDeferred;simp only[Bool.false_and,bq,if_false];rw[Iv a t cs O];simp[seen,y,GStep.after,G]
theorem DT{fn:Func}(hm:fr.mode=.returning)(W:fr.defers=[])(Y:fr.kind=.deferred)(hf:P.funcs[fr.fn]?=some fn)(U:fn.results=#[])(h:ps.mode=.panicking [aR])(D:ps.defers=[])(aa:P.funcs[ps.fn]?=none)(O:ps.todo=[]):Lv P 2 (G fr [ps]):=by
 refine .inr ⟨rfl,G ps [],λw=>?_,.inr ⟨rfl,{frame:=ps,callers:=[],status:=.finished,dying:=none},λw=>?_,rfl⟩⟩
 .have e:aQ P false (G fr [ps]) w=aT P false fr [ps] none w:=by unfold aQ; simp only[G,hm]
  rw[e]
  have y:(results fn fr.tmps).runT P w #[]=(.ok (.tuple #[]) w,#[]):=by
   rw[Sem.runT_eq,results_none U _ P w,events_results_none U _ _]
  unfold aT;simp only[W,hm,hf,y];unfold doReturn;simp only[Y,h,aR];simp[seen,GStep.after,G]
 .have e:aQ P false (G ps []) w=aT P false ps [] none w:=by unfold aQ; simp only[G,h]
  rw[e];unfold aT;simp[D,h,Frame.catches,O,aR]
end
end
section
open Go.Conc
section
variable {P:Program} {m:Ren} {T:List Frame} {gl:Nat->Prop} {st:Bool} {Stop:LS->Prop}
theorem xP.R'{S:LS}{fr':Frame}{cs':List Frame}{w':World}(hs:xP P gl st m T S fr' cs' w'){rd r c:Nat}(h1:S.cs=[door P])(h2:S.fr.mode=.returning)(h3:S.fr.defers=[⟨.collected rd,#[.chan (some r)]⟩])(hd:m.dead rd)(hr:m.ch r=some c) :
  fr'.mode=.returning/\cs'=T/\(∃a t cs,fr'.defers=[⟨.builtin .close a t cs,#[.chan (some c)]⟩])/\DE fr'.kind T/\fr'.fn=S.fr.fn:=by
 have hS:=hs.stack;have hF:=hS.rX;have y:=hF.mode;have D:=hF.defers;rw[h2]at y;rw[h3]at D;rw[h1]at hS;obtain⟨fn,tm,td,df,md,kd,aa⟩:=fr';simp only at y D
 have O:cs'=T/\DE kd T:=by
  cases hS with
  |one _ _ hb _=>exact⟨rfl,hb⟩
  |cons _ _ _ h=>cases h
 cases y;refine⟨rfl,O.1,?_,O.2,hF.fn⟩
 cases D with
 |@cons _ d' _ l' hx U=>
  cases U;obtain⟨ab,Y⟩:=d';have ht:=hx.target;have ha:=hx.args;simp only at ht ha
  have W:Y=#[.chan (some c)]:=by
   obtain⟨al⟩:=Y;unfold iI at ha;simp only at ha
   cases ha with
   |cons hv hn=>
    cases hn
    cases hv with
    |chan hb=>
     rw[hr]at hb;cases hb;rfl
  subst W
  cases ht with
  |collected hb=>
   rw[(hs.world.dead rd hd).1]at hb;cases hb
  |mark a t cs _=>exact⟨a,t,cs,rfl⟩
end
end
section
open Go.Conc
section
variable {P:Program} {gs:Array Goroutine} {w Uc:World} {sl:Option (Nat×Nat)} {i:Nat} {g Us:Goroutine} {es:Array Event} {cases:Array CommCase} {shape:CommShape} {blocking:Bool}
theorem LL(n:Nat)(h:0<n)(w:World):∃a d,a<n/\(choose (.select n)).run P w=.ok a (w.at d):=by
 by_cases y:n<=1
 .exact⟨0,w.drawn,h,by simp[choose,Sem.run,bj,y,World.at]⟩
 .refine⟨(Question.select n).cut (w.tape w.drawn (.select n)),w.drawn+1,?_,by simp[choose,Sem.run,bj,y,World.at]⟩;simp only[bk];exact Nat.mod_lt _ h
def me(w:World)(gs:Array Goroutine)(cases:Array CommCase):List (Nat×CommCase×List Way):=(cases.zipIdx.toList.map λ(c,k)=>(k,c,ways w gs c)).filter λ(_,_,ws)=>!ws.isEmpty
theorem mem_ready{gs:Array Goroutine}{x:Nat×CommCase×List Way}(h:x∈me Uc gs cases):cases[x.1]?=some x.2.1/\x.2.2=ways Uc gs x.2.1/\x.2.2≠[]:=by
 unfold me at h;rw[bb,bd]at h;obtain⟨⟨⟨cc,k⟩,hm,rfl⟩,O⟩:=h;obtain⟨j,D⟩:=aY.1 hm;simp at D;obtain⟨_,y,rfl,rfl⟩:=D;refine⟨y,rfl,λe=>?_⟩;have e:ways Uc gs _=[]:=e;simp[e]at O
theorem OK{gs:Array Goroutine}{k:Nat}{cc:CommCase}(h:cases[k]?=some cc)(y:ways Uc gs cc≠[]):me Uc gs cases≠[]:=by
 have:(k,cc,ways Uc gs cc)∈me Uc gs cases:=by
  unfold me;rw[bb,bd];refine⟨⟨(cc,k),?_,rfl⟩,?_⟩
  .refine aY.2 ⟨k,?_⟩;simp[h]
  .cases e:ways Uc gs cc with
   |nil=>exact absurd e y
   |cons a l=>rfl
 intro e;rw[e]at this;cases this
theorem Bm(hi:gs[i]?=some g)(h:aQ P (i==0) g w=.comm Us cases blocking shape Uc es)(Y:∀cc∈cases,illMade Uc cc=false)
  (aa:∀(k:Nat)cc,cases[k]?=some cc->ways Uc (gs.setIfInBounds i ph) cc=[]\/(∃c z cap buf s r tm,cc=a4 c z/\Uc.heap[c]?=some (.chan cap buf true s r tm)/\ways Uc (gs.setIfInBounds i ph) cc=[.closed])\/(∃c z cap buf cl s r tm j q,cc=a4 c z/\Uc.heap[c]?=some (.chan cap buf cl s r tm)/\ways Uc (gs.setIfInBounds i ph) cc=[.partner j q]))
  (ae:∃(k:Nat)(cc:CommCase),cases[k]?=some cc/\ways Uc (gs.setIfInBounds i ph) cc≠[]) :
  (∃(k:Nat)(c:Nat)(z:Value)(d:Nat),cases[k]?=some (a4 c z)/\ways Uc (gs.setIfInBounds i ph) (a4 c z)=[.closed]/\runT P (a7 gs w sl) i=(.next (a7 (gs.setIfInBounds i (Us.finishComm P cases shape k z false)) (Uc.at d) sl),aD i g.frame.fn g.frame.place es++#[{g:=i,fn:=Us.frame.fn,pos:=Us.frame.place,act:=.recvClosed c}]))\/
  (∃(k:Nat)(c:Nat)(z:Value)(d j q cap s r:Nat)(buf:Array Value)(cl tm:Bool),cases[k]?=some (a4 c z)/\Uc.heap[c]?=some (.chan cap buf cl s r tm)/\ways Uc (gs.setIfInBounds i ph) (a4 c z)=[.partner j q]/\
    runT P (a7 gs w sl) i=(.next (a7 ((finishPartner P (gs.setIfInBounds i ph) j q undef).setIfInBounds i (Us.finishComm P cases shape k (offeredValue (gs.setIfInBounds i ph) j q) true)) {Uc.at d with heap:=Uc.heap.setIfInBounds c (.chan cap buf cl (s+1) (r+1) tm)} sl),
     aD i g.frame.fn g.frame.place es++#[{g:=j,fn:=((gs.setIfInBounds i ph).getD j default).frame.fn,pos:=((gs.setIfInBounds i ph).getD j default).frame.place,act:=.send c s},{g:=i,fn:=Us.frame.fn,pos:=Us.frame.place,act:=.recv c r cap},{g:=j,fn:=((gs.setIfInBounds i ph).getD j default).frame.fn,pos:=((gs.setIfInBounds i ph).getD j default).frame.place,act:=.sendDone c s},{g:=i,fn:=Us.frame.fn,pos:=Us.frame.place,act:=.recvDone c r}])):=by
 obtain⟨k0,aj,af,ag⟩:=ae;have ab:=OK af ag
 have ac:0<(me Uc (gs.setIfInBounds i ph) cases).length:=by
  cases W:me Uc (gs.setIfInBounds i ph) cases with
  |nil=>exact absurd W ab
  |cons a l=>simp
 obtain⟨a,d,ha,ah⟩:=LL (P:=P) _ ac Uc;obtain⟨x,W⟩:∃x,(me Uc (gs.setIfInBounds i ph) cases)[a]?=some x:=⟨_,List.getElem?_eq_getElem ha⟩;have ad:=mem_ready (aY.2 ⟨a,W⟩);obtain⟨k,cc,ws⟩:=x;obtain⟨h1,U,h3⟩:=ad;simp only at h1 U h3;have D:(me Uc (gs.setIfInBounds i ph) cases).getD a (0,default,[])=(k,cc,ws):=by simp[List.getD,W]
 have O:(me Uc (gs.setIfInBounds i ph) cases).isEmpty=false:=by
  cases W:me Uc (gs.setIfInBounds i ph) cases with
  |nil=>exact absurd W ab
  |cons a l=>rfl
 rw[runT_crowd_comm hi h];unfold communicate;rw[if_neg (by rw[Bool.not_eq_true]; exact any_ill Y)]
 have y:∀(f:Nat->Sem (Nat×CommCase×Way)),((choose (.select (me Uc (gs.setIfInBounds i ph) cases).length)).bind f).run P Uc=(f a).run P (Uc.at d):=by
  intro f;rw[Sem.run_bind',ah];rfl
 have ai:(Uc.at d).heap=Uc.heap:=rfl;rcases aa k cc h1 with e|⟨c,z,cap,buf,s,r,tm,rfl,hc,e⟩|⟨c,z,cap,buf,cl,s,r,tm,j,q,rfl,hc,e⟩
 .rw[e]at U;exact absurd U h3
 .rw[e]at U;subst U;refine .inl ⟨k,c,z,d,h1,e,?_⟩;have hf:((cases.zipIdx.toList.map λ(c,k)=>(k,c,ways Uc (gs.setIfInBounds i ph) c)).filter λ(_,_,ws)=>!ws.isEmpty)=me Uc (gs.setIfInBounds i ph) cases:=rfl;simp only[hf,O,bq,if_false,bind,y,D];simp[choose,Sem.run,bj,bind,Sem.bind,pure,a4,a7]
 .rw[e]at U;subst U;refine .inr ⟨k,c,z,d,j,q,cap,s,r,buf,cl,tm,h1,hc,e,?_⟩;have hf:((cases.zipIdx.toList.map λ(c,k)=>(k,c,ways Uc (gs.setIfInBounds i ph) c)).filter λ(_,_,ws)=>!ws.isEmpty)=me Uc (gs.setIfInBounds i ph) cases:=rfl;simp only[hf,O,bq,if_false,bind,y,D];simp[choose,Sem.run,bj,bind,Sem.bind,pure,a4,a7,ai,hc]
end
end
section
open Go.Conc
variable {r z:MemOp} {i p pc pr:Nat}
def nX(t:aP):Prop:=∀op∈t,op.act≠.mark .disable/\op.act≠.mark .enable
section
variable {t u:aP}
theorem nX.append(y:nX t)(D:nX u):nX (t++u):=λop h=>(Array.mem_append.1 h).elim (y op) (D op)
theorem nX.deaf(h:nX t)(g:Nat):∀i,t.deaf g i=0:=by
 intro i
 induction i with
 |zero=>rfl
 |succ i D=>
  unfold aP.deaf;split
  .rename_i y; exact absurd rfl (h _ (a9 y)).1
  .rename_i y; exact absurd rfl (h _ (a9 y)).2
  .exact D
theorem nX.heard(h:nX t){op:MemOp}(hi:t[i]?=some op):t.heard i:=⟨op.g,by simp[bm,hi],h.deaf _ _⟩
theorem Mg(D:nX t){c:Nat}(O:t[pc]?=some z)(h:z.act=.close c)(U:t[pr]?=some r)(y:r.act=.recvClosed c):aS t pc pr:=
 .single (.inr ⟨.closed (c:=c) (by simp[bl,O,h]) (by simp[bl,U,y]),D.heard O,D.heard U⟩)
theorem L7(O:nX t){c:Nat}(U:t[pc]?=some z)(h:z.act=.close c)(D:t[pr]?=some r)(y:r.act=.recvClosed c)(W:Before t p pc):a5 t r.g p:=
 ⟨pr,r,D,rfl,.inr (W.hb (Mg O U h D y))⟩
theorem GZ(W:nX t){c:Nat}(U:t[pc]?=some z)(D:z.act=.close c)(Y:t[pr]?=some r)(O:r.act=.recvClosed c){y:MemOp}(hy:t[p]?=some y)(hg:y.g=z.g)(hp:p<=pc):a5 t r.g p:=by
 refine L7 W U D Y O ?_;rcases Nat.lt_or_eq_of_le hp with h|h
 .exact .inr (hb_po h hy U hg)
 .exact .inl h
theorem Fz{n:Nat}{a b:MemOp}(U:nX (t++#[a,b]))(W:a.g=i)(y:a.act=.go n)(hb:b.g=n)(D:b.act=.start)(Y:a5 t i p):a5 (t++#[a,b]) n p:=by
 have O:(t++#[a,b])[t.size]?=some a:=by simp
 have h:(t++#[a,b])[t.size+1]?=some b:=by simp
 have e1:aS (t++#[a,b]) p t.size:=Y.hb_new (aF _) O W;have e2:aS (t++#[a,b]) t.size (t.size+1):=.single (.inr ⟨.spawn (child:=n) (by simp[bl,O,y]) (by simp[bl,h,D]) (by simp[bm,h,hb]),U.heard O,U.heard h⟩);exact⟨t.size+1,b,h,hb,.inr (e1.trans e2)⟩
theorem pt.mute{g:Nat}{m:Ren}(h:pt t g m)(U:∀op∈u,op.act.touch?=none):pt (t++u) g m:=by
 intro p x q r W Y hr y;rcases iG W with⟨_,D⟩|⟨op,D,_,O⟩
 .exact(h p x q r D Y hr y).app u
 .rw[U op D]at O; cases O
end
end
section
open Go.Conc
def oz(t:aP)(A:Nat->Prop):Prop:=∀p a,a2 t p=some a->a.loc.isMemory=true->a5 t 0 p\/∃op,t[p]?=some op/\A op.g
section
variable {t u:aP} {A A':Nat->Prop}
theorem oz.mono(h:oz t A)(y:∀i,A i->A' i):oz t A':=λp a D hm=>(h p a D hm).imp id λ⟨op,O,U⟩=>⟨op,O,y _ U⟩
theorem oz.app(h:oz t A)(W:∀op∈u,op.act.touch?=none\/op.g=0\/A op.g):oz (t++u) A:=by
 intro p a Y hm;rcases iG Y with⟨hp,D⟩|⟨op,D,O,U⟩
 .rcases h p a D hm with x|⟨op,x,y⟩
  .exact .inl (x.app u)
  .exact .inr ⟨op,by rw[a3 hp]; exact x,y⟩
 .rcases W op D with x|x|x
  .rw[x]at U; cases U
  .have:=a8 O;rw[x]at this;exact .inl this
  .exact .inr ⟨op,O,x⟩
theorem oz.join(h:oz t A)(hw:nX t){j pc pr c:Nat}{z r:MemOp}(hz:t[pc]?=some z)(O:z.g=j)(U:z.act=.close c)(hr:t[pr]?=some r)(W:r.g=0)(Y:r.act=.recvClosed c)(D:∀p a op,a2 t p=some a->t[p]?=some op->op.g=j->p<=pc):oz t λi=>A i/\i≠j:=by
 intro p a ha hm;rcases h p a ha hm with x|⟨op,x,y⟩
 .exact .inl x
 .by_cases e:op.g=j
  .have:=GZ hw hz U hr Y x (e.trans O.symm) (D p a op ha x e);rw[W]at this;exact .inl this
  .exact .inr ⟨op,x,y,e⟩
theorem oz.over(h:oz t λ_=>False):t.HandedOver:=by
 intro i g W y Y;obtain⟨x,hx,hm,_⟩:=Y;rcases h i x hx hm with⟨q,z,O,U,D⟩|⟨_,_,h⟩
 .refine⟨q,by simp[bm,O,U],?_⟩;rcases D with rfl|D
  .exact absurd (by simpa[bm,O,U]using W.symm) y
  .exact D
 .exact h.elim
theorem OQ{m:Ren}{e:Event}(h:qJ m e):aN e≠.mark .disable/\aN e≠.mark .enable:=by
 obtain⟨loc,wr,y⟩:=e
 cases loc with
 |mark x=>
  have D:Ef x:=h;cases x<;>first|exact D.elim|simp[aN]
 |_=>cases wr<;>cases y<;>simp[aN]
theorem Cm(h:nX t){m:Ren}{g:Nat}{fn:aU}{pos:String}{es:Array Event}(O:∀e∈es,qJ m e):nX (t++aD g fn pos es):=by
 refine h.append λop y=>?_;obtain⟨e,D,rfl⟩:=a1 y;exact OQ (O e D)
end
end
section
open Go.Conc
structure pz where
 gl:Nat->Prop
 T:List Frame
 Stop:LS->Prop
 r:Nat
 c:Nat
 rd:Nat
 L:List Value
 mT:Nat->Nat->Obj->Prop
structure pz.Ok(P:Program)(J:pz):Prop where
 blind:AF J.Stop
 holds:∀S,J.Stop S->Holds S J.r J.L
 S9:∀S,J.Stop S->S.cs=[door P]/\S.fr.mode=.returning/\S.fr.defers=[⟨.collected J.rd,#[.chan (some J.r)]⟩]/\∃fn,P.funcs[S.fr.fn]?=some fn/\fn.results=#[]/\fn.norace=false
 back:∀S,J.Stop S->∀r b o,J.mT r b o->S.w.heap[r]?=some o/\∀(m:Go.Proofs.YtocbogeoffeolaaGreatDoor.Ren)o',OR m o o'->o'=o
 TM:∃ps,J.T=[ps]/\ps.mode=.panicking [aR]/\ps.defers=[]/\P.funcs[ps.fn]?=none/\ps.todo=[]
structure pz.Ren(J:pz)(m:Go.Proofs.YtocbogeoffeolaaGreatDoor.Ren):Prop where
 ch:m.ch J.r=some J.c
 only:∀r r',m.ch r=some r'->r=J.r
 dead:m.dead J.rd
 mT:∀r b o,J.mT r b o->m.blk r=some b
theorem pz.Ren.le{J:pz}{m Ud:Go.Proofs.YtocbogeoffeolaaGreatDoor.Ren}(h:J.Ren m)(y:m.Le Ud)(D:Ud.ch=m.ch):J.Ren Ud:=⟨by rw[D]; exact h.ch,λr r' x=>by rw[D]at x; exact h.only r r' x,by rw[y.dead]; exact h.dead,λr b o x=>y.blk r b (h.mT r b o x)⟩
structure pz.Act(P:Program)(J:pz)(m:Go.Proofs.YtocbogeoffeolaaGreatDoor.Ren)(S:LS)(n:Nat)(g:Goroutine)(w:World):Prop where
 oe:J.Ren m
 pU:ou P J.Stop S
 tR:∃fr' cs',g=G fr' cs'/\xP P J.gl false m J.T S fr' cs' w
 km:∃l,Holds S J.r l/\l.length=n
structure pz.Mz(P:Program)(J:pz)(m:Go.Proofs.YtocbogeoffeolaaGreatDoor.Ren)(S:LS)(n:Nat)(v':Value)(g:Goroutine)(w:World):Prop where
 oe:J.Ren m
 pU:ou P J.Stop S
 tR:∃v fr' cs',g=G fr' cs'/\rA P J.gl false m J.T S J.r J.c v v' fr' cs' w
 km:∃l,Holds S J.r l/\l.length=n+1
section
variable {P:Program} {J:pz} {m:Go.Proofs.YtocbogeoffeolaaGreatDoor.Ren} {S:LS} {n:Nat} {g:Goroutine} {w:World}
theorem pz.Mz.value(U:J.Ok P){D:Value}(h:J.Mz P m S n D g w):∃v,J.L[n]?=some v/\VR m v D:=by
 obtain⟨v,fr',cs',_,O⟩:=h.tR;obtain⟨l,W,Y⟩:=h.km;obtain⟨l0,h1,h2⟩:=O.next h.pU U.holds;have e:=W.one h1;subst e;have y:l0.length=n:=by simpa using Y
 refine⟨v,?_,O.val⟩;obtain⟨tl,e⟩:=h2;rw[<-e,<-y];simp
theorem pz.Mz.done{y:Value}(h:J.Mz P m S n y g w):∃Ud,m.Le Ud/\Ud.blk=m.blk/\Ud.loose=m.loose/\J.Act P Ud S (n+1) (aC g undef) w:=by
 obtain⟨v,fr',cs',rfl,D⟩:=h.tR;obtain⟨o,O⟩:=D.done;exact⟨m.put J.r o,Ren.qE _ _ _,rfl,rfl,h.oe.le (Ren.qE _ _ _) rfl,h.pU,⟨_,_,rfl,O⟩,h.km⟩
theorem pz.Act.stands(D:J.Ok P)(h:J.Act P m S n g w)(y:J.Stop S):n=J.L.length/\∃fr ps a t cs,g=G fr [ps]/\fr.mode=.returning/\fr.defers=[⟨.builtin .close a t cs,#[.chan (some J.c)]⟩]/\(P.funcs[fr.fn]?).any (·.norace)=false/\Lv P 2 (G {fr with defers:=[]} [ps]):=by
 obtain⟨fr',cs',rfl,hs⟩:=h.tR;obtain⟨l,hl,rfl⟩:=h.km;obtain⟨f1,f2,f3,fn,f4,f5,f6⟩:=D.S9 S y;obtain⟨ps,O,U,p2,p3,p4⟩:=D.TM;obtain⟨W,g2,⟨a,t,cs,g3⟩,g4,Y⟩:=hs.R' f1 f2 f3 h.oe.dead h.oe.ch;refine⟨by rw[hl.one (D.holds S y)],fr',ps,a,t,cs,by rw[g2,O],W,g3,by rw[Y,f4]; simp[f6],?_⟩
 have hk:fr'.kind=.deferred:=by
  rcases g4 with⟨_,h⟩|⟨h,_⟩
  .exact absurd U (h ps O)
  .exact h
 exact DT (fn:=fn) W rfl hk (by rw[show({fr' with defers:=[]}:Frame).fn=fr'.fn from rfl,Y]; exact f4) f5 U p2 p3 p4
end
end
section
open Go.Conc
inductive pz.Next(P:Program)(J:pz)(m:Go.Proofs.YtocbogeoffeolaaGreatDoor.Ren)(S:LS)(n:Nat)(w:World):GStep->Prop
 |go {S' Ud Ul Uc es}:po P J.Stop S' S->m.Le Ud->J.Act P Ud S' n Ul Uc->ju m Ud w Uc->(∀e∈es,qJ Ud e)->pz.Next P J m S n w (.go Ul Uc es)
 |send {S' Ud Ul Uc es v' z'}:po P J.Stop S' S->m.Le Ud->J.Mz P Ud S' n v' Ul Uc->ju m Ud w Uc->(∀e∈es,qJ Ud e)->pz.Next P J m S n w (.comm Ul #[scase J.c v' z'] true .send Uc es)
section
variable {P:Program} {J:pz} {m:Go.Proofs.YtocbogeoffeolaaGreatDoor.Ren} {S:LS} {n:Nat} {g:Goroutine} {w:World}
theorem LG{T:List Frame}{gl:Nat->Prop}{st:Bool}{Stop:LS->Prop}{S S':LS}{fr':Frame}{cs':List Frame}{w':World}(D:AF Stop)(y:xP P gl st m T S fr' cs' w')(O:ou P Stop S)(U:po P Stop S' S){r r':Nat}{l:List Value}(W:m.ch r=some r')(Y:Holds S r l):Holds S' r l\/∃v,Holds S' r (l++[v]):=by
 obtain⟨hn,τ,hb,ho⟩:=U;have hf:=(O.step D ⟨_,_,_,_,_,_,_,y⟩ hn τ hb).1;obtain⟨_,_,_,_,_,_,h⟩:=(y.on τ).Tg (λx=>hf ⟨x.1,x.2⟩) ho;exact h r r' l W Y
theorem pz.Act.BN(hJ:J.Ok P)(h:J.Act P m S n g w)(hn:¬J.Stop S):pz.Next P J m S n w (aQ P false g w):=by
 obtain⟨fr',cs',rfl,O⟩:=h.tR;obtain⟨l,hl,ac⟩:=h.km;have hd:=O.Tq hJ.blind h.pU hn false;generalize aQ P false (G fr' cs') w=s at hd
 cases hd with
 |@go S' Ud W Y Uc es hg D ad hk he=>
  have hh:=(h.pU.own hJ.blind ⟨_,_,_,_,_,_,_,O⟩ hg).2;refine .go hg D ⟨h.oe.le D (hk.qD O.kL),hh,⟨_,_,rfl,ad⟩,l,?_,ac⟩ hk he;obtain⟨cap,buf,km,y,tm,hx⟩:=O.op J.r J.c h.oe.ch;have a:=(O.world.nJ J.r _ hx).1;have b:=(ad.world.nJ J.r _ (by rw[hk.nJ]; exact hx)).1;have e:l=buf.toList:=hl.one ⟨cap,buf,km,y,tm,a,rfl⟩;exact⟨cap,buf,km,y,tm,b,e.symm⟩
 |@send S' Ud W Y Uc es r r' v v' z' hg D hp hk he=>
  have hh:=(h.pU.own hJ.blind ⟨_,_,_,_,_,_,_,O⟩ hg).2;have ae:=hk.qD O.kL;have hr:m.ch r=some r':=by rw[<-ae]; exact hp.ch
  have er:r=J.r:=h.oe.only r r' hr;subst er;have ag:r'=J.c:=by rw[h.oe.ch]at hr; cases hr; rfl
  subst ag;refine .send hg D ⟨h.oe.le D ae,hh,⟨v,_,_,rfl,hp⟩,?_⟩ hk he;obtain⟨l0,h1,_⟩:=hp.next hh hJ.holds;refine⟨l0++[v],h1,?_⟩;rcases LG hJ.blind O h.pU hg h.oe.ch hl with x|⟨u,x⟩
  .obtain⟨f0,wl,cap,buf,km,y,tm,e1,_,ah,hc,_⟩:=hp.tR;obtain⟨af,U,aa,ab,ai,hx⟩:=O.op J.r J.c h.oe.ch;have a:=(O.world.nJ J.r _ hx).1;have b:=(ah.nJ J.r _ (by rw[hk.nJ]; exact hx)).1;have e:l=U.toList:=hl.one ⟨af,U,aa,ab,ai,a,rfl⟩;rw[hc]at b;cases b
   have hS:Holds S' J.r (buf.toList++[v]):=by
    rw[e1];refine⟨cap,buf.push v,km+1,y,tm,?_,by simp⟩;show(wl.heap.setIfInBounds J.r _)[J.r]?=_;simp[mG hc]
   have:=hS.one x;have:=congrArg be this;rw[e]at this;simp at this
  .have:=h1.one x;have:=congrArg be this;simp at this;simp[this,ac]
end
end
section
open Go.Conc
variable {J:pz} {jv Pd:Nat->Prop} {m:Ren}
def sN(P:Program)(J:pz)(m:Ren)(S:LS):Nat->Goroutine->Prop
 |0,g=>g.status=.running/\∀w,WR m S.w w->∃fr' cs' d es,aQ P false g w=.go (G fr' cs') (w.at d) es/\(∀e∈es,qJ m e)/\xP P J.gl false m J.T S fr' cs' (w.at d)
 |k+1,g=>g.status=.running/\∀w,WR m S.w w->∃g' d es,aQ P false g w=.go g' (w.at d) es/\(∀e∈es,qJ m e)/\sN P J m S k g'
inductive iC
 |quit (q:Nat)
 |ended (heard:Bool) (J:pz) (m:Ren) (S:LS) (q:Nat)
 |act (J:pz) (m:Ren) (S:LS) (n:Nat)
 |lY (J:pz) (m:Ren) (S:LS) (n:Nat) (v:Value)
 |start (J:pz) (m:Ren) (S:LS) (k:Nat)
def iC.oe:iC->Option Ren
 |.quit _=>none
 |.ended _ _ m _ _|.act _ m _ _|.lY _ m _ _ _|.start _ m _ _=>some m
def iC.live:iC->Option Ren
 |.quit _|.ended .. => none
 |.act _ m _ _|.lY _ m _ _ _|.start _ m _ _=>some m
def iC.ru:iC->Option pz
 |.quit _=>none
 |.ended _ J _ _ _|.act J _ _ _|.lY J _ _ _ _|.start J _ _ _=>some J
def iC.chan:iC->Option pz
 |.quit _|.ended .. => none
 |.act J _ _ _|.lY J _ _ _ _|.start J _ _ _=>some J
def iC.sum:iC->Option (pz×Nat)
 |.quit _|.ended true .. => none
 |.ended false J _ _ _=>some (J,J.L.length)
 |.act J _ _ n|.lY J _ _ n _=>some (J,n)
 |.start J _ _ _=>some (J,0)
def jJ(w:World)(c:Nat)(cl:Bool):Prop:=∃s r,w.heap[c]?=some (.chan 0 #[] cl s r false)
def At(P:Program)(w:World)(t:aP)(i:Nat)(g:Goroutine):iC->Prop
 |.quit q=>Lv P q g
 |.ended _ J m S q=>Lv P q g/\J.Ren m/\(J.Stop S/\J.Ok P)/\WR m S.w w/\jJ w J.c true/\∃pc z,t[pc]?=some z/\z.g=i/\z.act=.close J.c/\∀p a op,a2 t p=some a->t[p]?=some op->op.g=i->p<=pc
 |.act J m S n=>J.Ok P/\jJ w J.c false/\J.Act P m S n g w
 |.lY J m S n v=>J.Ok P/\jJ w J.c false/\∃h z,g=parked h #[scase J.c v z] .send/\J.Mz P m S n v h w
 |.start J m S k=>J.Ok P/\jJ w J.c false/\J.Ren m/\ou P J.Stop S/\Holds S J.r []/\WR m S.w w/\sN P J m S k g
section
variable {P:Program} {w Uc:World} {t u:aP} {i:Nat} {g:Goroutine} {ρ:iC}
theorem WR.at{wl:World}(h:WR m wl w)(d:Nat):WR m wl (w.at d):=h.rely (λ_ _ _=>rfl) (aF _) rfl
theorem sN.status{S:LS}{k:Nat}(h:sN P J m S k g):g.status=.running:=by cases k<;>exact h.1
theorem At.status(h:At P w t i g ρ):g.status=.running\/g.status=.blocked\/g.status=.finished:=by
 cases ρ with
 |quit q=>exact h.status.elim .inl λx=>.inr (.inr x)
 |ended y J m S q=>exact h.1.status.elim .inl λx=>.inr (.inr x)
 |act J m S n=>
  obtain⟨_,_,h⟩:=h;obtain⟨fr,cs,rfl,_⟩:=h.tR;exact .inl rfl
 |lY J m S n v=>
  obtain⟨_,_,D,z,rfl,_⟩:=h;exact .inr (.inl rfl)
 |start J m S k=>exact .inl h.2.2.2.2.2.2.status
theorem At.wr(h:At P w t i g ρ)(hm:ρ.oe=some m):∃wl,WR m wl w:=by
 cases ρ with
 |quit q=>cases hm
 |ended U J m S q=>cases hm; exact⟨_,h.2.2.2.1⟩
 |act J m S n=>
  cases hm;obtain⟨_,_,h⟩:=h;obtain⟨fr,cs,rfl,y⟩:=h.tR;exact⟨_,y.world⟩
 |lY J m S n v=>
  cases hm;obtain⟨_,_,W,z,rfl,D⟩:=h;obtain⟨_,_,_,_,y⟩:=D.tR;obtain⟨_,wl,_,_,_,_,_,_,_,O,_⟩:=y.tR;exact⟨wl,O⟩
 |start J m S k=>cases hm; exact⟨_,h.2.2.2.2.2.1⟩
theorem At.T4(h:At P w t i g ρ)(hm:ρ.oe=some m)(y:ρ.ru=some J):J.Ren m:=by
 cases ρ with
 |quit q=>cases hm
 |ended O J m S q=>cases hm; cases y; exact h.2.1
 |act J m S n=>cases hm; cases y; exact h.2.2.oe
 |lY J m S n v=>
  cases hm; cases y;obtain⟨_,_,U,z,rfl,D⟩:=h;exact D.oe
 |start J m S k=>cases hm; cases y; exact h.2.2.1
theorem At.is(h:At P w t i g ρ)(y:ρ.ru=some J):∃cl,jJ w J.c cl:=by
 cases ρ with
 |quit q=>cases y
 |ended D J m S q=>cases y; exact⟨_,h.2.2.2.2.1⟩
 |act J m S n=>cases y; exact⟨_,h.2.1⟩
 |lY J m S n v=>cases y; exact⟨_,h.2.1⟩
 |start J m S k=>cases y; exact⟨_,h.2.1⟩
theorem At.rely(h:At P w t i g ρ)(hk:∀m,ρ.oe=some m->∀r b,m.blk r=some b->Uc.heap[b]?=w.heap[b]?)(hc:∀J,ρ.ru=some J->Uc.heap[J.c]?=w.heap[J.c]?)(hs:w.heap.size<=Uc.heap.size)(ho:Uc.os=w.os)(hu:∀op∈u,op.g=i->op.act.touch?=none):At P Uc (t++u) i g ρ:=by
 have O:∀J cl,ρ.ru=some J->jJ w J.c cl->jJ Uc J.c cl:=by
  rintro J cl hJ ⟨s,r,h⟩;exact⟨s,r,by rw[hc J hJ]; exact h⟩
 cases ρ with
 |quit q=>exact h
 |ended hd J m S q=>
  obtain⟨U,W,y,h4,h5,pc,z,h6,h7,h8,h9⟩:=h;refine⟨U,W,y,h4.rely (hk m rfl) hs ho,O J _ rfl h5,pc,z,by rw[a3 (a6 h6)]; exact h6,h7,h8,λp a op ha Y hg=>?_⟩;rcases iG ha with⟨hp,U⟩|⟨aa,x1,x2,x3⟩
  .exact h9 p a op U (by rw[<-a3 hp]; exact Y) hg
  .rw[x2]at Y;cases Y;rw[hu _ x1 hg]at x3;cases x3
 |act J m S n=>
  obtain⟨U,W,y⟩:=h;obtain⟨fr,cs,rfl,D⟩:=y.tR;exact⟨U,O J _ rfl W,y.oe,y.pU,⟨fr,cs,rfl,D.rely (hk m rfl) hs ho⟩,y.km⟩
 |lY J m S n v=>
  obtain⟨U,W,g0,z,rfl,y⟩:=h;obtain⟨v0,fr,cs,e,D⟩:=y.tR;exact⟨U,O J _ rfl W,g0,z,rfl,y.oe,y.pU,⟨v0,fr,cs,e,D.rely (hk m rfl) hs ho⟩,y.km⟩
 |start J m S k=>
  obtain⟨U,W,y,h4,h5,h6,h7⟩:=h;exact⟨U,O J _ rfl W,y,h4,h5,h6.rely (hk m rfl) hs ho,h7⟩
theorem At.woken(h:At P w t i g ρ)(a y:Goroutine):aB P a y w g=g:=by
 cases ρ with
 |quit q=>exact aA h.Gy
 |ended O J m S q=>exact aA h.1.Gy
 |act J m S n=>
  obtain⟨_,_,h⟩:=h;obtain⟨fr,cs,rfl,_⟩:=h.tR;exact woken_run rfl
 |lY J m S n v=>
  obtain⟨_,⟨s,r,D⟩,U,z,rfl,_⟩:=h;exact woken_send_open a y D
 |start J m S k=>exact woken_run h.2.2.2.2.2.2.status
end
def Kn(jv:Nat->Prop)(ρ:Nat->iC)(t:aP):Prop:=∀p a b,a2 t p=some a->nT a.loc=some b->jv b->a5 t 0 p\/∃i m' r,(ρ i).oe=some m'/\m'.blk r=some b
theorem Kn.app{ρ Uj:Nat->iC}{t u:aP}(h:Kn jv ρ t)(W:∀i m' r b,(ρ i).oe=some m'->m'.blk r=some b->∃Y D r',(Uj Y).oe=some D/\D.blk r'=some b)(hu:∀op∈u,∀a b,op.act.touch?=some a->nT a.loc=some b->jv b->op.g=0\/∃i m' r,(Uj i).oe=some m'/\m'.blk r=some b):Kn jv Uj (t++u):=by
 intro p a b ha hb U;rcases iG ha with⟨_,O⟩|⟨op,O,h2,h3⟩
 .rcases h p a b O hb U with x|⟨i,m',r,x,y⟩
  .exact .inl (x.app u)
  .exact .inr (W i m' r b x y)
 .rcases hu op O a b h3 hb U with x|x
  .have:=a8 h2;rw[x]at this;exact .inl this
  .exact .inr x
theorem Kn.same{ρ Uj:Nat->iC}{t:aP}(h:Kn jv ρ t)(D:∀j,(Uj j).oe=(ρ j).oe):Kn jv Uj t:=λp a b O hb U=>(h p a b O hb U).imp id λ⟨i,m',r,x,y⟩=>⟨i,m',r,by rw[D]; exact x,y⟩
def Sf(Pd jv:Nat->Prop)(ρ:Nat->iC)(w:World)(t:aP):Prop:=∀c,Pd c->jJ w c false/\(∀p a,a2 t p=some a->nT a.loc≠some c)/\(∀i J,(ρ i).ru=some J->J.c≠c)/\¬jv c
theorem Sf.app{ρ Uj:Nat->iC}{w Uc:World}{t u:aP}(h:Sf Pd jv ρ w t)(U:∀j,(Uj j).ru=(ρ j).ru)(W:∀c,Pd c->jJ w c false->Uc.heap[c]?=w.heap[c]?)(Y:∀op∈u,∀a c,op.act.touch?=some a->Pd c->jJ w c false->nT a.loc≠some c):Sf Pd jv Uj Uc (t++u):=by
 intro c D;obtain⟨⟨s,r,O⟩,h2,h3,h4⟩:=h c D;refine⟨⟨s,r,by rw[W c D ⟨s,r,O⟩]; exact O⟩,λp a ha=>?_,λi J hJ=>h3 i J (by rw[<-U]; exact hJ),h4⟩;rcases iG ha with⟨_,x⟩|⟨op,x,_,y⟩
 .exact h2 p a x
 .exact Y op x a c y D ⟨s,r,O⟩
theorem Sf.same{ρ Uj:Nat->iC}{w Uc:World}{t:aP}(h:Sf Pd jv ρ w t)(y:∀j,(Uj j).ru=(ρ j).ru)(D:Uc.heap=w.heap):Sf Pd jv Uj Uc t:=by
 have:=h.app (u:=#[]) (Uc:=Uc) y (λc _ _=>by rw[D]) (by simp);simpa using this
def qM:Obj:=.deferred none
def Tz(jv:Nat->Prop)(w0:World)(ρ:Nat->iC):Prop:=∀b,b<w0.heap.size->jv b\/(∃i J r o,(ρ i).ru=some J/\J.mT r b o/\w0.heap[b]?=some o)\/w0.heap[b]?=some qM
theorem Tz.same{w0:World}{ρ Uj:Nat->iC}(h:Tz jv w0 ρ)(D:∀j,(Uj j).ru=(ρ j).ru):Tz jv w0 Uj:=λb hb=>(h b hb).imp id λz=>z.imp (λ⟨i,J,r,o,x,y⟩=>⟨i,J,r,o,by rw[D]; exact x,y⟩) id
structure Co(P:Program)(jv:Nat->Prop)(w0:World)(Pd:Nat->Prop)(ρ:Nat->iC)(m:Ren)(wl:World)(gs:Array Goroutine)(w:World)(t:aP):Prop where
 main:WR m wl w
 at_:∀i g,0<i->gs[i]?=some g->At P w t i g (ρ i)
 out:∀i,i=0\/gs.size<=i->ρ i=.quit 0
 d0:∀i m',(ρ i).oe=some m'->qe m m'
 dd:∀i j m1 m2,i≠j->(ρ i).oe=some m1->(ρ j).oe=some m2->qe m1 m2
 cc:∀i j J1 J2,i≠j->(ρ i).ru=some J1->(ρ j).ru=some J2->J1.c≠J2.c
 s0:pt t 0 m
 ss:∀i m',(ρ i).live=some m'->pt t i m'
 Ko:∀i J,(ρ i).chan=some J->∀p a,a2 t p=some a->nT a.loc≠some J.c
 low:Nw t w.heap.size
 hears:nX t
 nt:oz t λi=>(ρ i).sum≠none
 clean:∀said,¬Race said t
 fix:∀b,jv b->b<w.heap.size/\w.heap[b]?=w0.heap[b]?
 f0:∀r b,m.blk r=some b->jv b->m.loose r
 ff:∀i m',(ρ i).oe=some m'->∀r b,m'.blk r=some b->jv b->m'.loose r
 cx:∀i J,(ρ i).ru=some J->¬jv J.c
 sz:w0.heap.size<=w.heap.size
 os:w.os=w0.os/\w.output=w0.output
 kn:Kn jv ρ t
 pd:Sf Pd jv ρ w t
 len:Tz jv w0 ρ
end
section
open Go.Conc
open Go.ConcN (upd upd_same upd_ne)
variable {es:Array Event} {fn:aU} {g':Goroutine} {J:pz} {c:Nat} {Ud:Ren} {Uj:iC} {pos:String}
theorem ju.at(m:Ren)(w:World)(d:Nat):ju m m w (w.at d):=⟨λ_ _ _=>rfl,aF _,λr' h y=>absurd y (by show ¬r'<w.heap.size; omega),λ_ _ h=>.inl h,λ_ _ h=>.inl h,rfl,rfl,rfl,λ_=>rfl,rfl,λ_ _ _ _=>rfl⟩
theorem iC.pR{ρ:iC}{m:Ren}(h:ρ.live=some m):ρ.oe=some m:=by cases ρ<;>first|cases h; rfl|cases h
theorem iC.vF{ρ:iC}(h:ρ.chan=some J):ρ.ru=some J:=by cases ρ<;>first|cases h; rfl|cases h
theorem iC.MJ{ρ:iC}{m:Ren}(h:ρ.live=some m):ρ.sum≠none:=by cases ρ<;>first|(simp[iC.sum]; done)|cases h
theorem WR.A3{m:Ren}{wl w:World}(h:WR m wl w){cl:Bool}(D:jJ w c cl){r:Nat}:m.blk r≠some c:=by
 intro U;obtain⟨s,y,D⟩:=D;obtain⟨o,Y,_,O,W⟩:=h.obj r c U;rw[D]at O;cases O;cases W
theorem ju.N0{m:Ren}{w Uc wl:World}(D:ju m Ud w Uc)(O:WR m wl w){cl:Bool}(h:jJ w c cl):Uc.heap[c]?=w.heap[c]?:=by
 obtain⟨s,y,h⟩:=h;rw[h];exact D.chan O h
theorem ofEvents_g{g:Nat}{op:MemOp}(h:op∈aD g fn pos es):op.g=g:=by
 obtain⟨e,_,rfl⟩:=a1 h;rfl
section
variable {P:Program} {jv:Nat->Prop} {w0:World} {Pd:Nat->Prop} {ρ:Nat->iC} {m:Ren} {wl:World} {gs gs':Array Goroutine} {w Uc:World} {t:aP}
theorem Co.get(h:Co P jv w0 Pd ρ m wl gs w t){i:Nat}(O:ρ i≠.quit 0):∃g,0<i/\gs[i]?=some g/\At P w t i g (ρ i):=by
 by_cases hi:i=0\/gs.size<=i
 .exact absurd (h.out i hi) O
 .have y:i<gs.size:=by omega
  have D:gs[i]?=some gs[i]:=aM y;exact⟨gs[i],by omega,D,h.at_ i _ (by omega) D⟩
theorem Co.wr(h:Co P jv w0 Pd ρ m wl gs w t){i:Nat}{m':Ren}(y:(ρ i).oe=some m'):∃wl',WR m' wl' w:=by
 obtain⟨g,_,_,D⟩:=h.get (i:=i) λe=>by rw[e]at y; cases y
 exact D.wr y
theorem Co.is(h:Co P jv w0 Pd ρ m wl gs w t){i:Nat}(y:(ρ i).ru=some J):∃cl,jJ w J.c cl:=by
 obtain⟨g,_,_,D⟩:=h.get (i:=i) λe=>by rw[e]at y; cases y
 exact D.is y
theorem Co.step{i:Nat}{mi:Ren}{ag:World}(h:Co P jv w0 Pd ρ m wl gs w t)(hi:0<i)(ay:i<gs.size)(hl:(ρ i).live=some mi)(ad:mi.Le Ud)(W:ju mi Ud w Uc)(he:∀e∈es,qJ Ud e)(aa:WR Ud ag Uc)
  (ai:At P Uc (t++aD i fn pos es) i g' Uj) (aj:Uj.live=some Ud) (an:Uj.ru=(ρ i).ru) (hc:Uj.chan=(ρ i).chan) (hs:Uj.sum=(ρ i).sum)
  (ao:gs'.size=gs.size) (ap:gs'[i]?=some g') (aq:∀j x,0<j->j≠i->gs'[j]?=some x->∃y,gs[j]?=some y/\(At P Uc (t++aD i fn pos es) j y (ρ j)->x=y)) :
  Co P jv w0 Pd (aK ρ i Uj) m wl gs' Uc (t++aD i fn pos es):=by
 have hr:=iC.pR hl;have ac:=iC.pR aj;obtain⟨az,ar⟩:=h.wr hr;have U:∀c cl,jJ w c cl->Uc.heap[c]?=w.heap[c]?:=λc cl x=>W.N0 ar x
 have Y:∀j,(aK ρ i Uj j).ru=(ρ j).ru:=λj=>by
  by_cases e:j=i
  .subst e; rw[aI]; exact an
  .rw[aJ _ _ e]
 have ak:∀j,(aK ρ i Uj j).chan=(ρ j).chan:=λj=>by
  by_cases e:j=i
  .subst e; rw[aI]; exact hc
  .rw[aJ _ _ e]
 have af:∀j,(aK ρ i Uj j).sum=(ρ j).sum:=λj=>by
  by_cases e:j=i
  .subst e; rw[aI]; exact hs
  .rw[aJ _ _ e]
 have dm:qe m Ud:=(qe.grow (h.d0 i mi hr).symm ad W h.main).symm
 have dj:∀j m',j≠i->(ρ j).oe=some m'->qe Ud m':=λj m' O D=>by
  obtain⟨wl',au⟩:=h.wr D;exact qe.grow (h.dd i j mi m' (bp O) hr D) ad W au
 have hrel:∀j y,0<j->j≠i->gs[j]?=some y->At P Uc (t++aD i fn pos es) j y (ρ j):=by
  intro j y hj O hy;refine(h.at_ j y hj hy).rely (λm' D=>W.leaves (h.dd i j mi m' (bp O) hr D) (h.wr D).choose_spec) (λJ hJ=>?_) W.size W.os λop ab hg=>absurd (ofEvents_g ab) (by rw[hg]; exact O);obtain⟨cl,hx⟩:=h.is hJ;exact U _ cl hx
 have av:∀j x,0<j->gs'[j]?=some x->At P Uc (t++aD i fn pos es) j x (aK ρ i Uj j):=by
  intro j x al hx;by_cases e:j=i
  .subst e;rw[ap]at hx;cases hx;rw[aI]; exact ai
  .rw[aJ _ _ e];obtain⟨y,hy,aw⟩:=aq j x al e hx;have:=hrel j y al e hy;rw[aw this]; exact this
 have si:pt t i Ud:=(h.ss i mi hl).grow ad h.low W.news;refine⟨h.main.rely (W.leaves (h.d0 i mi hr).symm h.main) W.size W.os,av,λj hj=>?_,λj m' D=>?_,λj k m1 m2 O h1 h2=>?_,λj k J1 J2 O h1 h2=>h.cc j k J1 J2 O (by rw[<-Y]; exact h1) (by rw[<-Y]; exact h2),h.s0.other dm he,λj m' D=>?_,λj J hJ p a ha hb=>?_,h.low.own aa W.size he,Cm h.hears he,?_,si.clean h.clean he,λb hb=>?_,h.f0,λj m' D r b am hb=>?_,λj J hJ=>h.cx j J (by rw[<-Y]; exact hJ),aG h.sz W.size,⟨W.os.trans h.os.1,W.output.trans h.os.2⟩,h.kn.app (λj m' r b D hb=>?_) (λop ab a b ha hb _=>?_),h.pd.app Y (λc _ ah=>U c _ ah) (λop ab a c ha _ ah hb=>?_),h.len.same Y⟩
 .rw[aJ _ _ (by rintro rfl; rcases hj with x|x<;>omega)];exact h.out j (by rw[<-ao]; exact hj)
 .by_cases e:j=i
  .subst e;rw[aI,ac]at D;cases D;exact dm
  .rw[aJ _ _ e]at D;exact h.d0 j m' D
 .by_cases e:j=i
  .subst e;rw[aI,ac]at h1;cases h1;rw[aJ _ _ (bp O)]at h2;exact dj k m2 (bp O) h2
  .rw[aJ _ _ e]at h1;by_cases e':k=i
   .subst e';rw[aI,ac]at h2;cases h2;exact(dj j m1 e h1).symm
   .rw[aJ _ _ e']at h2;exact h.dd j k m1 m2 O h1 h2
 .by_cases e:j=i
  .subst e;rw[aI,aj]at D;cases D;exact si.own
  .rw[aJ _ _ e]at D;exact(h.ss j m' D).other (dj j m' e (iC.pR D)).symm he
 .rw[ak]at hJ;rcases iG ha with⟨_,h1⟩|⟨op,h1,_,h3⟩
  .exact h.Ko j J hJ p a h1 hb
  .obtain⟨e,ae,rfl⟩:=a1 h1
   have hm:a.loc.isMemory=true:=by
    cases hl:a.loc<;>rw[hl]at hb<;>simp[nT]at hb<;>rfl
   obtain⟨b',r',g1,g2,g3⟩:=oU (he e ae) h3 hm;rw[hb]at g1;cases g1;obtain⟨cl,s,y,hx⟩:=h.is (iC.vF hJ);have:jJ Uc J.c cl:=⟨s,y,by rw[U _ cl ⟨s,y,hx⟩]; exact hx⟩;exact aa.A3 this g2
 .refine(h.nt.mono λj hj=>by rw[af]; exact hj).app λop ab=>.inr (.inr ?_);rw[ofEvents_g ab,af];exact iC.MJ hl
 .obtain⟨h1,h2⟩:=h.fix b hb;refine⟨aE h1 W.size,?_⟩;rw[<-h2];by_cases hx:∃r,mi.blk r=some b
  .obtain⟨r,hx⟩:=hx;exact W.still r b hx (h.ff i mi hr r b hx hb)
  .exact W.old b h1 λr ax=>hx ⟨r,ax⟩
 .by_cases e:j=i
  .subst e;rw[aI,ac]at D;cases D;rcases W.news r b am with x|x
   .exact(ad.loose r b x).2 (h.ff j mi hr r b x hb)
   .have:=(h.fix b hb).1;omega
  .rw[aJ _ _ e]at D;exact h.ff j m' D r b am hb
 .by_cases e:j=i
  .subst e;rw[hr]at D;cases D;exact⟨j,Ud,r,by rw[aI]; exact ac,ad.blk _ _ hb⟩
  .exact⟨j,m',r,by rw[aJ _ _ e]; exact D,hb⟩
 .obtain⟨e,ae,rfl⟩:=a1 ab
  have hm:a.loc.isMemory=true:=by
   cases hl:a.loc<;>rw[hl]at hb<;>simp[nT]at hb<;>rfl
  obtain⟨b',r',g1,g2,g3⟩:=oU (he e ae) ha hm;rw[hb]at g1;cases g1;exact .inr ⟨i,Ud,r',by rw[aI]; exact ac,g2⟩
 .obtain⟨e,ae,rfl⟩:=a1 ab
  have hm:a.loc.isMemory=true:=by
   cases hl:a.loc<;>rw[hl]at hb<;>simp[nT]at hb<;>rfl
  obtain⟨b',r',g1,g2,g3⟩:=oU (he e ae) ha hm;rw[hb]at g1;cases g1;obtain⟨s,y,hx⟩:=ah;exact aa.A3 (cl:=false) ⟨s,y,by rw[U _ false ⟨s,y,hx⟩]; exact hx⟩ g2
theorem Co.QZ{i:Nat}(h:Co P jv w0 Pd ρ m wl gs w t)(d:Nat)(hi:0<i)(af:i<gs.size)(Y:At P (w.at d) t i g' Uj)(hr:Uj.oe=(ρ i).oe)(hl:Uj.live=(ρ i).live)(D:Uj.ru=(ρ i).ru)(hc:Uj.chan=(ρ i).chan)(hs:Uj.sum=(ρ i).sum)
  (ab:gs'.size=gs.size) (ac:gs'[i]?=some g') (ad:∀j x,0<j->j≠i->gs'[j]?=some x->∃y,gs[j]?=some y/\(At P (w.at d) t j y (ρ j)->x=y)) :
  Co P jv w0 Pd (aK ρ i Uj) m wl gs' (w.at d) t:=by
 have key:∀{α:Type}(f:iC->α),f Uj=f (ρ i)->∀j,f (aK ρ i Uj j)=f (ρ j):=λf hf j=>by
  by_cases e:j=i
  .subst e; rw[aI]; exact hf
  .rw[aJ _ _ e]
 have hrel:∀j y,0<j->gs[j]?=some y->At P (w.at d) t j y (ρ j):=by
  intro j y W hy;have:=(h.at_ j y W hy).rely (Uc:=w.at d) (u:=#[]) (λ_ _ _ _ _=>rfl) (λ_ _=>rfl) (aF _) rfl (by simp);simpa using this
 refine⟨h.main.at d,λj x aa hx=>?_,λj W=>?_,λj m' O=>h.d0 j m' (by rw[<-key iC.oe hr]; exact O),λj k m1 m2 U h1 h2=>h.dd j k m1 m2 U (by rw[<-key iC.oe hr]; exact h1) (by rw[<-key iC.oe hr]; exact h2),λj k J1 J2 U h1 h2=>h.cc j k J1 J2 U (by rw[<-key iC.ru D]; exact h1) (by rw[<-key iC.ru D]; exact h2),h.s0,λj m' O=>h.ss j m' (by rw[<-key iC.live hl]; exact O),λj J hJ=>h.Ko j J (by rw[<-key iC.chan hc]; exact hJ),h.low,h.hears,h.nt.mono λj W=>by rw[key iC.sum hs]; exact W,h.clean,h.fix,h.f0,λj m' O=>h.ff j m' (by rw[<-key iC.oe hr]; exact O),λj J hJ=>h.cx j J (by rw[<-key iC.ru D]; exact hJ),h.sz,h.os,h.kn.same (key iC.oe hr),h.pd.same (key iC.ru D) rfl,h.len.same (key iC.ru D)⟩
 .by_cases e:j=i
  .subst e;rw[ac]at hx;cases hx;rw[aI]; exact Y
  .rw[aJ _ _ e];obtain⟨y,hy,ae⟩:=ad j x aa e hx;have:=hrel j y aa hy;rw[ae this]; exact this
 .rw[aJ _ _ (by rintro rfl; rcases W with x|x<;>omega)];exact h.out j (by rw[<-ab]; exact W)
end
end
section
open Go.Conc
open Go.ConcN (upd upd_same upd_ne)
inductive l5(P:Program):iC->iC->Prop
 |quit {q}:l5 P (.quit q) (.quit (q+1))
 |ended {h J m S q}:l5 P (.ended h J m S q) (.ended h J m S (q+1))
 |close {J m S n m' S' q}:l5 P (.ended false J m' S' q) (.act J m S n)
 |act {J m S n m' S' n'}:po P J.Stop S' S->l5 P (.act J m' S' n') (.act J m S n)
 |lY {J m S n m' S' n' v}:po P J.Stop S' S->l5 P (.lY J m' S' n' v) (.act J m S n)
 |start {J m S k}:l5 P (.start J m S k) (.start J m S (k+1))
 |go {J m S k}:l5 P (.act J m S 0) (.start J m S k)
section
variable {P:Program}
theorem F5(q:Nat):Acc (l5 P) (.quit q):=by
 induction q with
 |zero=>exact .intro _ λy h=>by cases h
 |succ q D=>exact .intro _ λy h=>by cases h; exact D
theorem Cg(D:Bool)(J:pz)(m:Ren)(S:LS)(q:Nat):Acc (l5 P) (.ended D J m S q):=by
 induction q with
 |zero=>exact .intro _ λy h=>by cases h
 |succ q O=>exact .intro _ λy h=>by cases h; exact O
theorem Gn(J:pz)(m:Ren)(S:LS)(n:Nat)(v:Value):Acc (l5 P) (.lY J m S n v):=.intro _ λy h=>by cases h
theorem Dh{J:pz}{S:LS}(h:Acc (po P J.Stop) S):∀(m:Ren)(n:Nat),Acc (l5 P) (.act J m S n):=by
 induction h with
 |intro S _ O=>
  intro m n;refine .intro _ λy U=>?_
  cases U with
  |close=>exact Cg _ _ _ _ _
  |act D=>exact O _ D _ _
  |lY D=>exact Gn _ _ _ _ _
theorem Km{J:pz}{S:LS}(h:Acc (po P J.Stop) S)(m:Ren)(k:Nat):Acc (l5 P) (.start J m S k):=by
 induction k with
 |zero=>exact .intro _ λy D=>by cases D; exact Dh h _ _
 |succ k O=>
  refine .intro _ λy D=>?_
  cases D with
  |start=>exact O
  |go=>exact Dh h _ _
theorem sN.Tn{J:pz}{m:Ren}{S:LS}:∀{k:Nat}{g:Goroutine},sN P J m S k g->∀{w:World},WR m S.w w->wR P S
 |0,_,h,w,y=>by
  obtain⟨fr,cs,d,es,_,_,D⟩:=h.2 w y
  exact⟨_,_,_,_,_,_,_,D⟩
 |k+1,_,h,w,y=>by
  obtain⟨g',d,es,_,_,D⟩:=h.2 w y;exact D.Tn y
theorem At.acc{w:World}{t:aP}{i:Nat}{g:Goroutine}{ρ:iC}(h:At P w t i g ρ):Acc (l5 P) ρ:=by
 cases ρ with
 |quit q=>exact F5 q
 |ended hd J m S q=>exact Cg _ _ _ _ _
 |act J m S n=>
  obtain⟨y,_,D⟩:=h;obtain⟨fr,cs,_,O⟩:=D.tR;exact Dh (D.pU.acc y.blind ⟨_,_,_,_,_,_,_,O⟩) _ _
 |lY J m S n v=>exact Gn _ _ _ _ _
 |start J m S k=>
  obtain⟨y,_,_,U,_,W,Y⟩:=h;exact Km (U.acc y.blind (Y.Tn W)) _ _
end
section
variable {P:Program} {jv:Nat->Prop} {w0:World} {Pd:Nat->Prop} {ρ:Nat->iC} {m:Ren} {wl:World} {gs gs':Array Goroutine} {w Uc:World} {t:aP}
theorem Co.acc(h:Co P jv w0 Pd ρ m wl gs w t):Acc (Hr (l5 P) gs.size) ρ:=by
 refine Ob _ _ λi hi=>?_;by_cases e:i=0
 .rw[h.out i (.inl e)]; exact F5 0
 .exact(h.at_ i gs[i] (by omega) (aM hi)).acc
theorem My(i:Nat)(fn:aU)(pos:String)(c:Nat):aD i fn pos #[⟨.obj c,false,true⟩,⟨.obj c,true,true⟩]=#[{g:=i,fn,pos,act:=.access ⟨.obj c,false,true⟩},{g:=i,fn,pos,act:=.close c}]:=by
 rw[ofEvents_eq];simp[aN]
theorem Co.close{i:Nat}{g':Goroutine}{J:pz}{mi:Ren}{S:LS}{n s r:Nat}{fn:aU}{pos:String}(h:Co P jv w0 Pd ρ m wl gs w t)(hi:0<i)(ap:i<gs.size)(ab:ρ i=.act J mi S n)(aq:J.Stop S)(hn:n=J.L.length)(an:WR mi S.w w)(hc:w.heap[J.c]?=some (.chan 0 #[] false s r false))(ar:Lv P 2 g')
  (af:Uc={w with heap:=w.heap.setIfInBounds J.c (.chan 0 #[] true s r false)}) (au:gs'.size=gs.size) (av:gs'[i]?=some g')
  (ao:∀j x,0<j->j≠i->gs'[j]?=some x->∃y,gs[j]?=some y/\(At P Uc (t++aD i fn pos #[⟨.obj J.c,false,true⟩,⟨.obj J.c,true,true⟩]) j y (ρ j)->x=y)) :
  Co P jv w0 Pd (aK ρ i (.ended false J mi S 2)) m wl gs' Uc (t++aD i fn pos #[⟨.obj J.c,false,true⟩,⟨.obj J.c,true,true⟩]):=by
 subst af;have ad:J.c<w.heap.size:=mG hc;have O:w.heap.size<=(w.heap.setIfInBounds J.c (.chan 0 #[] true s r false)).size:=by simp
 have ag:∃a b x s y t,w.heap[J.c]?=some (.chan a b x s y t):=⟨_,_,_,_,_,_,hc⟩
 have key:∀{α:Type}(f:iC->α),f (.ended false J mi S 2)=f (ρ i)->∀j,f (aK ρ i (.ended false J mi S 2) j)=f (ρ j):=λf hf j=>by
  by_cases e:j=i
  .subst e; rw[aI]; exact hf
  .rw[aJ _ _ e]
 have kr:=key iC.oe (by rw[ab]; rfl);have kj:=key iC.ru (by rw[ab]; rfl);have ks:=key iC.sum (by rw[ab,hn]; rfl);have ac:(ρ i).ru=some J:=by rw[ab]; rfl
 have aw:(ρ i).chan=some J:=by rw[ab]; rfl
 have kl:∀j m',(aK ρ i (.ended false J mi S 2) j).live=some m'->j≠i/\(ρ j).live=some m':=λj m' hx=>by
  by_cases e:j=i
  .subst e; rw[aI]at hx; cases hx
  .rw[aJ _ _ e]at hx; exact⟨e,hx⟩
 have kc:∀j J',(aK ρ i (.ended false J mi S 2) j).chan=some J'->j≠i/\(ρ j).chan=some J':=λj J' hx=>by
  by_cases e:j=i
  .subst e; rw[aI]at hx; cases hx
  .rw[aJ _ _ e]at hx; exact⟨e,hx⟩
 have Y:=My i fn pos J.c;generalize hu:aD i fn pos #[⟨.obj J.c,false,true⟩,⟨.obj J.c,true,true⟩]=u at Y ao⊢;have ah:∀op∈u,op.g=i:=by rw[<-hu]; exact λop D=>ofEvents_g D
 have W:∀op∈u,∀a,op.act.touch?=some a->a=⟨.obj J.c,false,.atomic⟩:=by
  intro op D a ha;rw[Y]at D;simp only[ba,bc,aZ,or_false]at D;rcases D with rfl|rfl
  .simp only[aO,aX]at ha; exact ha.symm
  .cases ha
 have ae:∀j m' wl',pt t j m'->WR m' wl' w->pt (t++u) j m':=by
  intro j m' wl' hs hw p a b rr ha hb hr ax;rcases iG ha with⟨_,h1⟩|⟨op,h1,_,h3⟩
  .exact(hs p a b rr h1 hb hr ax).app u
  .have:=W op h1 a h3;subst this;cases hb;exact absurd hr (hw.A3 ⟨s,r,hc⟩)
 refine⟨h.main.rely (nF h.main ag) O rfl,λj x ai hx=>?_,λj hj=>?_,λj m' U=>h.d0 j m' (by rw[<-kr]; exact U),λj k m1 m2 aj h1 h2=>h.dd j k m1 m2 aj (by rw[<-kr]; exact h1) (by rw[<-kr]; exact h2),λj k J1 J2 aj h1 h2=>h.cc j k J1 J2 aj (by rw[<-kj]; exact h1) (by rw[<-kj]; exact h2),ae 0 m wl h.s0 h.main,λj m' U=>?_,λj J' aa p a ha hb=>?_,λp a b ha hb=>?_,h.hears.append λop D=>?_,?_,λsaid=>?_,λb hb=>?_,h.f0,λj m' U=>h.ff j m' (by rw[<-kr]; exact U),λj J' aa=>h.cx j J' (by rw[<-kj]; exact aa),aG h.sz O,h.os,h.kn.app (λj m' r b U hb=>⟨j,m',r,by rw[kr]; exact U,hb⟩) (λop D a b ha hb ay=>?_),h.pd.app kj (λc ak _=>aL ((h.pd c ak).2.2.1 i J ac)) (λop D a c ha ak _ hb=>?_),h.len.same kj⟩
 .by_cases e:j=i
  .subst e;rw[av]at hx;cases hx;rw[aI];have al:=h.at_ j gs[j] ai (aM ap);rw[ab]at al;refine⟨ar,al.2.2.oe,⟨aq,al.1⟩,an.rely (nF an ag) O rfl,⟨s,r,by simp[ad]⟩,t.size+1,{g:=j,fn,pos,act:=.close J.c},by rw[Y]; simp,rfl,rfl,λp a op ha D hg=>?_⟩;have:p<(t++u).size:=a6 D;rw[Y]at this;simp at this;omega
  .rw[aJ _ _ e];obtain⟨y,hy,az⟩:=ao j x ai e hx
   have:At P {w with heap:=w.heap.setIfInBounds J.c (.chan 0 #[] true s r false)} (t++u) j y (ρ j):=by
    refine(h.at_ j y ai hy).rely (λm' U=>?_) (λJ' aa=>?_) O rfl λop D hg=>absurd (ah op D) (by rw[hg]; exact e)
    .obtain⟨wl',am⟩:=h.wr U;exact nF am ag
    .exact aL (h.cc i j J J' (bp e) ac aa)
   rw[az this]; exact this
 .rw[aJ _ _ (by rintro rfl; rcases hj with x|x<;>omega)];exact h.out j (by rw[<-au]; exact hj)
 .obtain⟨e,U⟩:=kl j m' U;obtain⟨wl',am⟩:=h.wr (iC.pR U);exact ae j m' wl' (h.ss j m' U) am
 .obtain⟨e,aa⟩:=kc j J' aa;rcases iG ha with⟨_,h1⟩|⟨op,h1,_,h3⟩
  .exact h.Ko j J' aa p a h1 hb
  .have:=W op h1 a h3;subst this;simp only[nT,aX]at hb;exact h.cc i j J J' (bp e) ac (iC.vF aa) hb
 .rcases iG ha with⟨_,h1⟩|⟨op,h1,_,h3⟩
  .exact aE (h.low p a b h1 hb) O
  .have:=W op h1 a h3;subst this;simp only[nT,aX]at hb;subst hb;exact aE ad O
 .rw[Y]at D;simp only[ba,bc,aZ,or_false]at D;rcases D with rfl|rfl<;>simp
 .refine(h.nt.mono λj hj=>by rw[ks]; exact hj).app λop D=>.inr (.inr ?_);rw[ah op D,ks,ab];simp[iC.sum]
 .refine a' (h.clean said) ah λq a ha op D b hb a0=>?_;have:=W op D b hb;subst this;exact absurd (by rw[a0.1]; rfl) (h.Ko i J aw q a ha)
 .obtain⟨h1,h2⟩:=h.fix b hb;refine⟨aE h1 O,?_⟩;rw[<-h2];exact aL (by rintro rfl; exact h.cx i J ac hb)
 .have:=W op D a ha;subst this;cases hb;exact absurd ay (h.cx i J ac)
 .have:=W op D a ha;subst this;simp only[nT,aX]at hb;exact(h.pd c ak).2.2.1 i J ac hb
end
end
end Go.Proofs.YtocbogeoffeolaaGreatDoor
