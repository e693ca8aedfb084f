import Derived.Test.YtocbogeoffeolaaGreatDoorFolAO
set_option linter.unusedVariables false
set_option linter.unusedSimpArgs false
set_option maxHeartbeats 8000000
set_option maxRecDepth 1000000
open Array renaming getElem?_setIfInBounds_ne->bb,getElem?_eq_some_iff->bj,getElem?_eq_getElem->bk,replicate->bl,empty_append->bm,mem_iff_getElem->bn,mem_toList_iff->bo,getElem?_setIfInBounds_self_of_lt->bp,append_empty->bq,getD_eq_getD_getElem?->br,all_eq_true->bs,getElem?_push->bt,getElem?_map->bu,ext->bv
open Option renaming bind_eq_some_iff->bw,bind_eq_bind->bx,bind_some->bz,map_eq_some_iff->b0,map_some->b4,getD_some->b5
open Go.Conc renaming offersAt_of_not_blocked->b6,runT_crowd_go->b7,served->b8,rcase->b9,offersAt->bA,crowd->bB,scase->bC,ofEvents_eq->bD,getElem?_stand->bE,offersAt_ph->bF,mem_ofEvents->bG,offersAt_parked_send->bH,mem_seen->bI,crowd_pick->bJ,finishPartner_at->bK,again_running->bL,partners_one->bM,partners_nil->bN,crowd_waits->bO,awake->bP
open Go renaming stepG->bQ,yielded->bR,FuncId->bS,ways->bT,execOp->bU,Trace->bV,TypeId->bW,unwind->bX,goexitEntry->bY,partners->bZ,seen->ca,results->cb,doReturn->cd,commResult->cf,offeredValue->cg
open Go.ConcN renaming upd_same->ci,upd_ne->cj,upd->ck
open List renaming mem_cons->cm,not_mem_nil->cn,mem_map->cq,mem_toArray->cr,mem_filter->ct,getElem?_eq_some_iff->cu,mem_of_getElem?->cv,map->cw
open Nat renaming lt_of_lt_of_le->cy,eq_zero_or_pos->cz,le_refl->c7,le_trans->c8
open Go.Made renaming reckon->c9,reckonStruct->cA,infoAt->cB
open Go.Region renaming wanted->cC,schedule->cD
open Go.stepG renaming apply->cE,exec->cF
open Go.MemOp renaming ofEvents->cG
open Bool renaming and_eq_true->cH,false_eq_true->cI,or_eq_true->cJ
open Classical renaming byContradiction->cK
open Option.some renaming inj->cL,injEq->cM
open Go.GStep renaming after->cN
open Go.Frame renaming enter->cO
open Ne renaming symm->cP
open Go renaming undef->cQ
namespace Go.Proofs.YtocbogeoffeolaaGreatDoor
section
open Go.Conc
open Go.ConcN (upd upd_same upd_ne)
variable {a g:Goroutine} {r:iC} {u:bV}
section
variable {P:Program} {jv:Nat->Prop} {w0:World} {Pd:Nat->Prop} {ρ:Nat->iC} {m:Ren} {wl:World} {gs gs':Array Goroutine} {w Uc:World} {t:bV} {sl:Option (Nat×Nat)}
theorem At.offers{i:Nat}{ρ:iC}(h:At P w t i g ρ)(c:Nat):bA g c false=[]:=by
 cases ρ with
 |quit q=>exact b6 (by rcases Lv.status h with x|x<;>rw[x]<;>simp) _ _
 |ended B J m S q=>exact b6 (by rcases h.1.status with x|x<;>rw[x]<;>simp) _ _
 |act J m S n=>
  obtain⟨_,_,h⟩:=h;obtain⟨fr,cs,rfl,_⟩:=h.tR;exact b6 (by simp[G]) _ _
 |lY J m S n v=>
  obtain⟨_,_,D,z,rfl,_⟩:=h;exact offersAt_parked_send' _ _ _ _ _ _
 |start J m S k=>exact b6 (by rw[h.2.2.2.2.2.2.status]; simp) _ _
theorem tz{n i:Nat}(hi:i<n)(h:l5 P r (ρ i)):Hr (l5 P) n (ck ρ i r) ρ:=⟨i,hi,by rw[ci]; exact h,λj B=>cj _ _ B⟩
theorem tB{i:Nat}(h:r.sum=(ρ i).sum)(j:Nat):(ck ρ i r j).sum=(ρ j).sum:=by
 by_cases e:j=i
 .subst e; rw[ci]; exact h
 .rw[cj _ _ e]
theorem qT{i:Nat}{g':Goroutine}(Uc:World):∀j x,0<j->j≠i->((gs.map (woken P g g' Uc)).setIfInBounds i g')[j]?=some x->∃y,gs[j]?=some y/\(At P Uc u j y (ρ j)->x=y):=by
 intro j x _ B D;rw[bb (cP B),bu]at D;obtain⟨y,O,rfl⟩:=b0.1 D;exact⟨y,O,λh=>h.woken g g'⟩
theorem A0{i:Nat}{g':Goroutine}(Uc:World):∀j x,0<j->j≠i->(gs.setIfInBounds i g')[j]?=some x->∃y,gs[j]?=some y/\(At P Uc u j y (ρ j)->x=y):=by
 intro j x _ h B;rw[bb (cP h)]at B;exact⟨x,B,λ_=>rfl⟩
theorem Jm{i:Nat}{g':Goroutine}(hi:0<i)(h:gs[0]?=some a):((gs.map (woken P g g' Uc)).setIfInBounds i g')[0]?=some (woken P g g' Uc a):=by
 rw[bb (by omega),bu,h];rfl
theorem OI(g g' a:Goroutine)(w:World):woken P g g' w a=a\/woken P g g' w a=a.again w:=by
 unfold woken;split
 .exact .inr rfl
 .exact .inl rfl
theorem Co.other{i:Nat}(h:Co P jv w0 Pd ρ m wl gs w t)(hi:0<i)(hg:gs[i]?=some g)(ab:g.status=.running)(h0:gs[0]?=some a)(al:∀J mi S n Ul cs Uc es,ρ i=.act J mi S n->bQ P false g w=.comm Ul cs true .send Uc es->bA a J.c false=[]) :
  ∃gs' w' ops Uj,runT P (bB gs w sl) i=(.next (bB gs' w' sl),ops)/\Co P jv w0 Pd Uj m wl gs' w' (t++ops)/\Hr (l5 P) gs.size Uj ρ/\(∀j,(Uj j).sum=(ρ j).sum)/\gs'.size=gs.size/\((gs'[0]?=some a/\∀j,(Uj j).chan=(ρ j).chan)\/gs'[0]?=some (a.again w'))/\(∀J mi S n v,Uj i=.lY J mi S n v->bA a J.c false=[])/\(∀j,j≠i->Uj j=ρ j):=by
 have D:i<gs.size:=(bj.1 hg).1;have ac:(i==0)=false:=by simp; omega
 have U:=h.at_ i g hi hg
 have lv:∀q,Lv P q g->∃q' g',q=q'+1/\(∀w,bQ P false g w=.go g' w #[])/\Lv P q' g':=by
  intro q hq
  cases q with
  |zero=>rw[show g.status=.finished from hq]at ab; cases ab
  |succ q=>
   rcases hq with x|⟨_,g',x,y⟩
   .rw[x]at ab; cases ab
   .exact⟨q,g',rfl,x,y⟩
 have au:w.at w.drawn=w:=rfl
 have aa:∀r:iC,r.chan=(ρ i).chan->∀j,(ck ρ i r j).chan=(ρ j).chan:=λr hr j=>by
  by_cases e:j=i
  .subst e; rw[ci]; exact hr
  .rw[cj _ _ e]
 have zero:∀(g':Goroutine)(Uc:World)(r:iC),r.chan=(ρ i).chan->((((gs.map (woken P g g' Uc)).setIfInBounds i g')[0]?=some a/\∀j,(ck ρ i r j).chan=(ρ j).chan)\/((gs.map (woken P g g' Uc)).setIfInBounds i g')[0]?=some (a.again Uc)):=by
  intro g' Uc r hr;rw[Jm hi h0];rcases OI (P:=P) g g' a Uc with x|x
  .exact .inl ⟨by rw[x],aa r hr⟩
  .exact .inr (by rw[x])
 cases B:ρ i with
 |quit q=>
  rw[B]at U;obtain⟨q',g',rfl,hs,hq⟩:=lv q U;have O:=b7 (P:=P) (sl:=sl) (i:=i) hg (by rw[ac]; exact hs w);have e0:cG i g.frame.fn g.frame.place #[]=#[]:=by rw[bD]; simp
  rw[e0]at O;refine⟨_,w,_,ck ρ i (.quit q'),O,?_,tz D (by rw[B]; exact .quit),tB (by rw[B]; rfl),by simp,zero g' w _ (by rw[B]; rfl),λ_ _ _ _ _ x=>(by rw[ci]at x; cases x),λj hj=>cj _ _ hj⟩;rw[bq];exact h.QZ (gs':=(gs.map (woken P g g' w)).setIfInBounds i g') w.drawn hi D (Uj:=.quit q') (g':=g') hq (by rw[B]; rfl) (by rw[B]; rfl) (by rw[B]; rfl) (by rw[B]; rfl) (by rw[B]; rfl) (by simp) (by simp[D]) (qT (w.at w.drawn))
 |ended hd J mi S q=>
  rw[B]at U;obtain⟨q',g',rfl,hs,hq⟩:=lv q U.1;have O:=b7 (P:=P) (sl:=sl) (i:=i) hg (by rw[ac]; exact hs w);have e0:cG i g.frame.fn g.frame.place #[]=#[]:=by rw[bD]; simp
  rw[e0]at O;refine⟨_,w,_,ck ρ i (.ended hd J mi S q'),O,?_,tz D (by rw[B]; exact .ended),tB (by rw[B]; cases hd<;>rfl),by simp,zero g' w _ (by rw[B]; rfl),λ_ _ _ _ _ x=>(by rw[ci]at x; cases x),λj hj=>cj _ _ hj⟩;rw[bq];exact h.QZ (gs':=(gs.map (woken P g g' w)).setIfInBounds i g') w.drawn hi D (Uj:=.ended hd J mi S q') (g':=g') ⟨hq,U.2⟩ (by rw[B]; rfl) (by rw[B]; rfl) (by rw[B]; rfl) (by rw[B]; rfl) (by rw[B]; cases hd<;>rfl) (by simp) (by simp[D]) (qT (w.at w.drawn))
 |lY J mi S n v=>
  rw[B]at U;obtain⟨_,_,g0,z,rfl,_⟩:=U;cases ab
 |start J mi S k=>
  rw[B]at U;obtain⟨h1,h2,h3,h4,h5,h6,h7⟩:=U;have W:(ρ i).live=some mi:=by rw[B]; rfl
  have step:∀g' d es(r:iC),bQ P false g w=.go g' (w.at d) es->(∀e∈es,qJ mi e)->At P (w.at d) (t++cG i g.frame.fn g.frame.place es) i g' r->r.live=some mi->r.ru=some J->r.chan=some J->r.sum=some (J,0)->l5 P r (.start J mi S k)->
    ∃gs' w' ops Uj,runT P (bB gs w sl) i=(.next (bB gs' w' sl),ops)/\Co P jv w0 Pd Uj m wl gs' w' (t++ops)/\Hr (l5 P) gs.size Uj ρ/\(∀j,(Uj j).sum=(ρ j).sum)/\gs'.size=gs.size/\((gs'[0]?=some a/\∀j,(Uj j).chan=(ρ j).chan)\/gs'[0]?=some (a.again w'))/\(∀J mi S n v,Uj i=.lY J mi S n v->bA a J.c false=[])/\(∀j,j≠i->Uj j=ρ j):=by
   intro g' d es r hs he hr e1 e2 e3 e4 ah;have O:=b7 (P:=P) (sl:=sl) (i:=i) hg (by rw[ac]; exact hs);exact⟨_,_,_,ck ρ i r,O,h.step (gs':=(gs.map (woken P g g' (w.at d))).setIfInBounds i g') hi D W (Ren.Le.refl mi) (ju.at mi w d) he (h6.at d) hr e1 (by rw[B]; exact e2) (by rw[B]; exact e3) (by rw[B]; exact e4) (by simp) (by simp[D]) (qT _),tz D (by rw[B]; exact ah),tB (by rw[B]; exact e4),by simp,zero g' _ r (by rw[B]; exact e3),λ_ _ _ _ _ x=>(by rw[ci]at x; subst x; cases ah),λj hj=>cj _ _ hj⟩
  cases k with
  |zero=>
   obtain⟨fr,cs,d,es,hs,he,Y⟩:=h7.2 w h6;exact step _ d es (.act J mi S 0) hs he ⟨h1,h2,h3,h4,⟨fr,cs,rfl,Y⟩,[],h5,rfl⟩ rfl rfl rfl rfl .go
  |succ k=>
   obtain⟨g',d,es,hs,he,ad⟩:=h7.2 w h6;exact step g' d es (.start J mi S k) hs he ⟨h1,h2,h3,h4,h5,h6.at d,ad⟩ rfl rfl rfl rfl .start
 |act J mi S n=>
  rw[B]at U;obtain⟨h1,⟨s,r,hc⟩,h3⟩:=U;have W:(ρ i).live=some mi:=by rw[B]; rfl
  obtain⟨av,am⟩:=h.wr (iC.pR W);by_cases ad:J.Stop S
  .obtain⟨hn,fr,ps,a',ty,cs,rfl,hm,hd,hq,ap⟩:=h3.stands h1 ad;obtain⟨fr',cs',e,Y⟩:=h3.tR;have hs:=closing (P:=P) (ps:=ps) (w:=w) hm hd hq hc;have O:=b7 (P:=P) (sl:=sl) (i:=i) hg (by rw[ac]; exact hs)
   have aq:∀o,woken P (G fr [ps]) (G {fr with defers:=[]} [ps]) {w with heap:=w.heap.setIfInBounds J.c (.chan 0 #[] true s r false)} o=o.again {w with heap:=w.heap.setIfInBounds J.c (.chan 0 #[] true s r false)}:=by
    intro o;unfold woken;rw[if_pos];simp[mayWake,G,hm]
   refine⟨_,_,_,ck ρ i (.ended false J mi S 2),O,?_,tz D (by rw[B]; exact .close),tB (by rw[B,hn]; rfl),by simp,.inr ?_,λ_ _ _ _ _ x=>(by rw[ci]at x; cases x),λj hj=>cj _ _ hj⟩
   .exact h.close (gs':=(gs.map (woken P (G fr [ps]) (G {fr with defers:=[]} [ps]) {w with heap:=w.heap.setIfInBounds J.c (.chan 0 #[] true s r false)})).setIfInBounds i (G {fr with defers:=[]} [ps])) hi D B ad hn Y.world hc ap rfl (by simp) (by simp[D]) (qT _)
   .rw[Jm hi h0,aq]
  .have an:=h3.BN h1 ad;generalize ag:bQ P false g w=sg at an
   cases an with
   |@go S' Ud Ul Uc es aj ak ai hk he=>
    have O:=b7 (P:=P) (sl:=sl) (i:=i) hg (by rw[ac]; exact ag);obtain⟨fr',cs',e,Y⟩:=ai.tR;exact⟨_,_,_,ck ρ i (.act J Ud S' n),O,h.step (gs':=(gs.map (woken P g Ul Uc)).setIfInBounds i Ul) hi D W ak hk he Y.world ⟨h1,⟨s,r,hk.chan am hc⟩,ai⟩ rfl (by rw[B]; rfl) (by rw[B]; rfl) (by rw[B]; rfl) (by simp) (by simp[D]) (qT _),tz D (by rw[B]; exact .act aj),tB (by rw[B]; rfl),by simp,zero Ul _ _ (by rw[B]; rfl),λ_ _ _ _ _ x=>(by rw[ci]at x; cases x),λj hj=>cj _ _ hj⟩
   |@send S' Ud Ul Uc es v' z' aj ak ae hk he=>
    have af:=hk.chan am hc
    have hp:bZ (gs.setIfInBounds i ph) J.c false=[]:=by
     refine bN λj x hx=>?_;rcases bE gs i j x hx with⟨_,rfl⟩|⟨aw,hx⟩
     .exact bF _ _
     .by_cases hj:j=0
      .subst hj;rw[h0]at hx;cases hx;exact al J mi S n _ _ _ _ B ag
      .exact(h.at_ j x (by omega) hx).offers J.c
    have O:=bO (P:=P) (sl:=sl) (i:=i) hg (by rw[ac]; exact ag) (by
     intro cc ao;simp only[cr,cm,cn,or_false]at ao;subst ao
     exact ways_send_none af (by simp) hp)
    obtain⟨v0,fr',cs',e,Y⟩:=ae.tR;obtain⟨f0,ax,_,_,_,_,_,_,_,ar,_⟩:=Y.tR;refine⟨_,_,_,ck ρ i (.lY J Ud S' n v'),O,h.step (gs':=gs.setIfInBounds i (parked Ul #[bC J.c v' z'] .send)) hi D W ak hk he ar ⟨h1,⟨s,r,af⟩,Ul,z',rfl,ae⟩ rfl (by rw[B]; rfl) (by rw[B]; rfl) (by rw[B]; rfl) (by simp) (by simp[D]) (A0 _),tz D (by rw[B]; exact .lY aj),tB (by rw[B]; rfl),by simp,.inl ⟨?_,aa _ (by rw[B]; rfl)⟩,λ_ _ _ _ _ x=>(by rw[ci]at x; cases x; exact al J mi S n _ _ _ _ B ag),λj hj=>cj _ _ hj⟩;rw[bb (by omega)];exact h0
end
end
section
open Go.Conc
open Go.ConcN (upd upd_same upd_ne)
variable {a:Goroutine} {J:pz} {S:LS} {mi:Ren}
structure ob(P:Program) where
 Up:Machine->bV->Prop
 Fin:Machine->Stepped×Array MemOp->bV->Prop
 back:∀M t,Fin M (stepT P M) t->Up M t
 next:∀M M' ops t,Up M' (t++ops)->Fin M (.next M',ops) t
theorem tb{u:List MemOp}(D:∀op∈u,op.act.touch?=none):∀{t:bV}{said:Bool},¬Race said t->¬Race said (t++u.toArray):=by
 induction u with
 |nil=>intro t said h; simpa using h
 |cons x u O=>
  intro t said h;have:t++(x::u).toArray=(t++#[x])++u.toArray:=by simp
  rw[this];refine O (λop B=>D op (by simp[B])) ?_;refine noRace_append (g:=x.g) h (λop B=>by simp at B; rw[B]) λi a _ op B b hb _=>?_;simp at B;subst B;rw[D op (by simp)]at hb;cases hb
section
variable {P:Program} {jv:Nat->Prop} {w0:World} {Pd:Nat->Prop} {ρ:Nat->iC} {m:Ren} {wl:World} {gs gs':Array Goroutine} {w Uc:World} {t:bV} {sl:Option (Nat×Nat)}
theorem Co.at(h:Co P jv w0 Pd ρ m wl gs w t)(d:Nat):Co P jv w0 Pd ρ m wl gs (w.at d) t:=by
 refine⟨h.main.at d,λi g hi B=>?_,h.out,h.d0,h.dd,h.cc,h.s0,h.ss,h.Ko,h.low,h.hears,h.nt,h.clean,h.fix,h.f0,h.ff,h.cx,h.sz,h.os,h.kn,h.pd.same (λ_=>rfl) rfl,h.len⟩;have:=(h.at_ i g hi B).rely (Uc:=w.at d) (u:=#[]) (λ_ _ _ _ _=>rfl) (λ_ _=>rfl) (c7 _) rfl (by simp);simpa using this
theorem Co.awake(h:Co P jv w0 Pd ρ m wl gs w t)(D:gs[0]?=some a)(O:a.status=.running\/a.status=.blocked\/a.status=.finished):∀g∈gs,bP g:=by
 intro g U;obtain⟨i,hi,rfl⟩:=bn.1 U;rcases cz i with rfl|B
 .have:gs[0]=a:=by simpa[bk hi]using D
  rw[this]; exact awake_of O
 .exact awake_of (h.at_ i _ B (bk hi)).status
theorem turn{Z:ob P}{K:Nat->Option (pz×Nat)}{N:Nat}(B:a.status=.running)
  (hm:∀ρ gs w sl D d t,Co P jv w0 Pd ρ m wl gs (w.at d) t->(∀j,(ρ j).sum=K j)->gs[0]?=some a->gs.size=N->Z.Fin (bB gs w sl) (runT P (bB gs (w.at d) D) 0) t) :
  ∀ρ gs w sl t,Co P jv w0 Pd ρ m wl gs w t->(∀j,(ρ j).sum=K j)->gs[0]?=some a->gs.size=N->Z.Up (bB gs w sl) t:=by
 intro ρ gs w sl t h hK U W;have O:=h.acc;rw[W]at O;revert hK gs w sl t
 induction O with
 |intro ρ _ ih=>
  intro gs w sl t h hK U W;obtain⟨i,g,d,D,hi,hg,ab⟩:=bJ (P:=P) (w:=w) (sl:=sl) (h.awake U (.inl B)) ⟨0,a,U,B⟩;refine Z.back _ _ ?_;rw[ab];rcases cz i with rfl|Y
  .exact hm ρ gs w sl D d t (h.at d) hK U W
  .obtain⟨gs',w',ops,Uj,hr,ac,ad,aa,ae,hz,_,_⟩:=(h.at d).other (sl:=D) Y hi hg U λJ mi S n _ _ _ _ _ _=>b6 (by rw[B]; simp) _ _;rw[hr];refine Z.next _ _ _ _ (ih Uj (W▸ad) gs' w' D (t++ops) ac (λj=>(aa j).trans (hK j)) ?_ (ae.trans W));rcases hz with⟨x,_⟩|x
   .exact x
   .rw[x,bL _ (.inl B)]
theorem Co.Tu{i:Nat}{Ul:Goroutine}{n s r s' r':Nat}{v z:Value}{u:List MemOp}(h:Co P jv w0 Pd ρ m wl gs w t)(hi:0<i)(ac:ρ i=.lY J mi S n v)(ak:gs[i]?=some (parked Ul #[bC J.c v z] .send))(hc:w.heap[J.c]?=some (.chan 0 #[] false s r false))
  (ag:Uc={w with heap:=w.heap.setIfInBounds J.c (.chan 0 #[] false s' r' false)}) (hu:∀op∈u,op.act.touch?=none) (ar:∀op∈u,op.act≠.mark .disable/\op.act≠.mark .enable)
  (au:gs'.size=gs.size) (al:gs'[i]?=some (b8 Ul cQ)) (av:∀j,0<j->j≠i->gs'[j]?=gs[j]?) :
  ∃aa,Co P jv w0 Pd (ck ρ i (.act J aa S (n+1))) m wl gs' Uc (t++u.toArray):=by
 subst ag;have a4:i<gs.size:=(bj.1 ak).1;have am:J.c<w.heap.size:=mG hc;have O:w.heap.size<=(w.heap.setIfInBounds J.c (.chan 0 #[] false s' r' false)).size:=by simp
 have ah:∃a b x s y t,w.heap[J.c]?=some (.chan a b x s y t):=⟨_,_,_,_,_,_,hc⟩;have an:=h.at_ i _ hi ak;rw[ac]at an;obtain⟨aw,_,g0,z0,eg,ao⟩:=an
 have e0:g0=Ul\/b8 g0 cQ=b8 Ul cQ:=by
  obtain⟨v0,fr',cs',e',_⟩:=ao.tR;subst e';refine .inr ?_;have:=congrArg (λg:Goroutine=>b8 g cQ) eg;exact this.symm
 have ae:b8 g0 cQ=b8 Ul cQ:=e0.elim (λe=>by rw[e]) id;obtain⟨aa,a5,hb,hl,ab⟩:=ao.done;have ai:(ρ i).ru=some J:=by rw[ac]; rfl
 have ap:(ρ i).oe=some mi:=by rw[ac]; rfl
 refine⟨aa,?_⟩
 have kj:∀j,(ck ρ i (.act J aa S (n+1)) j).ru=(ρ j).ru:=λj=>by
  by_cases e:j=i
  .subst e; rw[ci,ac]; rfl
  .rw[cj _ _ e]
 have kc:∀j,(ck ρ i (.act J aa S (n+1)) j).chan=(ρ j).chan:=λj=>by
  by_cases e:j=i
  .subst e; rw[ci,ac]; rfl
  .rw[cj _ _ e]
 have kr:∀j m',(ck ρ i (.act J aa S (n+1)) j).oe=some m'->∃U,(ρ j).oe=some U/\m'.blk=U.blk/\m'.loose=U.loose:=λj m' hx=>by
  by_cases e:j=i
  .subst e; rw[ci]at hx; cases hx; exact⟨mi,ap,hb,hl⟩
  .rw[cj _ _ e]at hx; exact⟨m',hx,rfl,rfl⟩
 have kl:∀j m',(ck ρ i (.act J aa S (n+1)) j).live=some m'->∃U,(ρ j).live=some U/\m'.blk=U.blk/\m'.loose=U.loose:=λj m' hx=>by
  by_cases e:j=i
  .subst e; rw[ci]at hx; cases hx; exact⟨mi,by rw[ac]; rfl,hb,hl⟩
  .rw[cj _ _ e]at hx; exact⟨m',hx,rfl,rfl⟩
 have D:∀op∈u.toArray,op∈u:=λop B=>by simpa using B
 refine⟨h.main.rely (nF h.main ah) O rfl,λj x aq hx=>?_,λj hj=>?_,λj m' W=>?_,λj k m1 m2 aj Y h2=>?_,λj k J1 J2 aj Y h2=>h.cc j k J1 J2 aj (by rw[<-kj]; exact Y) (by rw[<-kj]; exact h2),h.s0.mute λop B=>hu op (D op B),λj m' W=>?_,λj J' ad p a ha hb=>?_,λp a b ha hb=>?_,h.hears.append λop B=>ar op (D op B),?_,λsaid=>tb hu (h.clean said),λb hb=>?_,h.f0,λj m' W r b hr hb=>?_,λj J' ad=>h.cx j J' (by rw[<-kj]; exact ad),c8 h.sz O,h.os,h.kn.app (λj m' r b W hx=>?_) (λop B a b ha _ _=>by rw[hu op (D op B)]at ha; cases ha),h.pd.app kj (λc ax _=>bb ((h.pd c ax).2.2.1 i J ai)) (λop B a c ha _ _=>by rw[hu op (D op B)]at ha; cases ha),h.len.same kj⟩
 .by_cases e:j=i
  .subst e;rw[al]at hx;cases hx;rw[ci,<-ae];obtain⟨fr,cs,e,af⟩:=ab.tR;exact⟨aw,⟨s',r',by simp[am]⟩,ab.oe,ab.pU,⟨fr,cs,e,af.rely (nF af.world ah) O rfl⟩,ab.km⟩
  .rw[cj _ _ e];rw[av j aq e]at hx;refine(h.at_ j x aq hx).rely (λm' W=>?_) (λJ' ad=>?_) O rfl λop B _=>hu op (D op B)
   .obtain⟨wl',ay⟩:=h.wr W;exact nF ay ah
   .exact bb (h.cc i j J J' (cP e) ai ad)
 .rw[cj _ _ (by rintro rfl; rcases hj with x|x<;>omega)];exact h.out j (by rw[<-au]; exact hj)
 .obtain⟨U,Y,h2,h3⟩:=kr j m' W;have:=h.d0 j U Y;unfold qe at this⊢;rw[h2,h3];exact this
 .obtain⟨az,a1,a2,a3⟩:=kr j m1 Y;obtain⟨a0,b1,b2,b3⟩:=kr k m2 h2;have:=h.dd j k az a0 aj a1 b1;unfold qe at this⊢;rw[a2,a3,b2,b3];exact this
 .obtain⟨U,Y,h2,h3⟩:=kl j m' W;have:=(h.ss j U Y).mute (u:=u.toArray) λop B=>hu op (D op B);unfold pt at this⊢;rw[h2,h3];exact this
 .rw[kc]at ad;rcases iG ha with⟨_,Y⟩|⟨op,Y,_,h3⟩
  .exact h.Ko j J' ad p a Y hb
  .rw[hu op (D op Y)]at h3; cases h3
 .rcases iG ha with⟨_,Y⟩|⟨op,Y,_,h3⟩
  .exact cy (h.low p a b Y hb) O
  .rw[hu op (D op Y)]at h3; cases h3
 .refine(h.nt.mono λj hj=>?_).app λop B=>.inl (hu op (D op B));by_cases e:j=i
  .subst e; rw[ci]; simp[iC.sum]
  .rw[cj _ _ e]; exact hj
 .obtain⟨Y,h2⟩:=h.fix b hb;refine⟨cy Y O,?_⟩;rw[<-h2];exact bb (by rintro rfl; exact h.cx i J ai hb)
 .obtain⟨U,Y,h2,h3⟩:=kr j m' W;rw[h2]at hr;rw[h3];exact h.ff j U Y r b hr hb
 .by_cases e:j=i
  .subst e;rw[ap]at W;cases W;exact⟨j,aa,r,by rw[ci]; rfl,by rw[hb]; exact hx⟩
  .exact⟨j,m',r,by rw[cj _ _ e]; exact W,hx⟩
theorem Co.hear{i:Nat}{q:Nat}{fn:bS}{pos:String}(h:Co P jv w0 Pd ρ m wl gs w t)(hi:0<i)(D:ρ i=.ended false J mi S q)(ae:gs'.size=gs.size)(af:∀j,0<j->gs'[j]?=gs[j]?) :
  Co P jv w0 Pd (ck ρ i (.ended true J mi S q)) m wl gs' w (t++#[{g:=0,fn,pos,act:=.recvClosed J.c}]):=by
 have W:∀op∈(#[{g:=0,fn,pos,act:=.recvClosed J.c}]:Array MemOp),op.act.touch?=none:=by
  intro op B;simp at B;subst B;rfl
 have key:∀{α:Type}(f:iC->α),f (.ended true J mi S q)=f (ρ i)->∀j,f (ck ρ i (.ended true J mi S q) j)=f (ρ j):=λf hf j=>by
  by_cases e:j=i
  .subst e; rw[ci]; exact hf
  .rw[cj _ _ e]
 have kr:=key iC.oe (by rw[D]; rfl);have kj:=key iC.ru (by rw[D]; rfl);have kl:=key iC.live (by rw[D]; rfl);have kc:=key iC.chan (by rw[D]; rfl);obtain⟨gi,_,ac,ag⟩:=h.get (i:=i) (by rw[D]; simp);have ah:i<gs.size:=(bj.1 ac).1;rw[D]at ag
 have hh:nX (t++#[{g:=0,fn,pos,act:=.recvClosed J.c}]):=h.hears.append λop B=>by
  simp at B;subst B;simp
 have hrel:∀j x,0<j->gs[j]?=some x->At P w (t++#[{g:=0,fn,pos,act:=.recvClosed J.c}]) j x (ρ j):=λj x hj Y=>(h.at_ j x hj Y).rely (λ_ _ _ _ _=>rfl) (λ_ _=>rfl) (c7 _) rfl λop B _=>W op B
 refine⟨h.main,λj x ad Y=>?_,λj hj=>?_,λj m' O=>h.d0 j m' (by rw[<-kr]; exact O),λj k m1 m2 ab U h2=>h.dd j k m1 m2 ab (by rw[<-kr]; exact U) (by rw[<-kr]; exact h2),λj k J1 J2 ab U h2=>h.cc j k J1 J2 ab (by rw[<-kj]; exact U) (by rw[<-kj]; exact h2),h.s0.mute W,λj m' O=>(h.ss j m' (by rw[<-kl]; exact O)).mute W,λj J' aa p a ha hb=>?_,λp a b ha hb=>?_,hh,?_,λsaid=>by
  have:=tb (u:=[{g:=0,fn,pos,act:=.recvClosed J.c}]) (by simpa using W) (h.clean said)
  simpa using this,h.fix,h.f0,λj m' O=>h.ff j m' (by rw[<-kr]; exact O),λj J' aa=>h.cx j J' (by rw[<-kj]; exact aa),h.sz,h.os,h.kn.app (λj m' r b O Y=>⟨j,m',r,by rw[kr]; exact O,Y⟩) (λop B a b ha _ _=>by rw[W op B]at ha; cases ha),h.pd.app kj (λ_ _ _=>rfl) (λop B a c ha _ _=>by rw[W op B]at ha; cases ha),h.len.same kj⟩
 .rw[af j ad]at Y;have:=hrel j x ad Y;by_cases e:j=i
  .subst e;rw[ci];rw[D]at this;exact this
  .rw[cj _ _ e]; exact this
 .rw[cj _ _ (by rintro rfl; rcases hj with x|x<;>omega)];exact h.out j (by rw[<-ae]; exact hj)
 .rw[kc]at aa;rcases iG ha with⟨_,U⟩|⟨op,U,_,h3⟩
  .exact h.Ko j J' aa p a U hb
  .rw[W op U]at h3; cases h3
 .rcases iG ha with⟨_,U⟩|⟨op,U,_,h3⟩
  .exact h.low p a b U hb
  .rw[W op U]at h3; cases h3
 .obtain⟨_,_,_,_,_,pc,y,g1,g2,g3,g4⟩:=hrel i gi (by omega) ac |> λx=>by rw[D]at x; exact x
  have hj:=(h.nt.app (u:=#[{g:=0,fn,pos,act:=.recvClosed J.c}]) λop B=>.inl (W op B)).join hh (j:=i) (r:={g:=0,fn,pos,act:=.recvClosed J.c}) (pr:=t.size) g1 g2 g3 (by simp) rfl rfl g4;refine hj.mono λj Y=>?_;rw[cj _ _ Y.2];exact Y.1
end
end
section
open Go.Conc
open Go.ConcN (upd upd_same upd_ne)
variable {J:pz} {c n:Nat} {r:iC}
structure xS(P:Program)(a:Goroutine)(cases:Array CommCase)(chans:Nat->Option Nat)(K:Nat->Option (pz×Nat)):Prop where
 run:a.status=.running
 step:∀w,bQ P true a w=.comm a cases true .select w #[]
 SF:∀w,bQ P true {parked a cases .select with status:=.running} w=.comm a cases true .select w #[]
 cs:∀(k:Nat)cc,cases[k]?=some cc->∃z,cc=⟨.chan (chans k),none,z⟩
 T8:∀k k' c,k<cases.size->k'<cases.size->chans k=some c->chans k'=some c->k=k'
 own:∀k c,k<cases.size->chans k=some c->∃i J n,K i=some (J,n)/\J.c=c
 some_:∃k c,k<cases.size/\chans k=some c
 flat:∀i J n,K i=some (J,n)->∀v∈J.L,∀(m:Ren)v',VR m v v'->v'=v
section
variable {P:Program} {jv:Nat->Prop} {w0:World} {Pd:Nat->Prop} {ρ:Nat->iC} {m:Ren} {wl:World} {gs gs':Array Goroutine} {w Uc:World} {t:bV} {sl:Option (Nat×Nat)} {a:Goroutine} {cases:Array CommCase} {chans:Nat->Option Nat} {K:Nat->Option (pz×Nat)}
theorem xS.get(h:xS P a cases chans K){k:Nat}(B:k<cases.size):∃z,cases[k]?=some ⟨.chan (chans k),none,z⟩:=by
 obtain⟨z,D⟩:=h.cs k cases[k] (bk B);exact⟨z,by rw[bk B,D]⟩
theorem xS.offers(h:xS P a cases chans K){k:Nat}(Y:k<cases.size)(hc:chans k=some c):bA (parked a cases .select) c false=[k]:=by
 obtain⟨z,hz⟩:=h.get Y
 have B:∀m:Nat,cases.zipIdx.toList[m]?=(cases[m]?).map λx=>(x,m):=by
  intro m;simp
 have:=filter_map_one (id:CommCase×Nat->CommCase×Nat) (λ(O,_)=>O.send.isSome==false&&(match O.chan with|.chan (some r')=>r'==c|_=>false)) cases.zipIdx.toList k (_,k) (by rw[B,hz]; rfl) (by simp[hc]) (λm x hm D=>by
  rw[B]at D
  cases e:cases[m]? with
  |none=>rw[e]at D; cases D
  |some y=>
   rw[e]at D;simp only[b4,cM]at D;subst D;obtain⟨z',rfl⟩:=h.cs m y e;have U:m<cases.size:=(bj.1 e).1;simp only[id]
   cases W:chans m with
   |none=>simp
   |some O=>
    have:O≠c:=by
     rintro rfl;exact hm (h.T8 m k O U Y W hc)
    simp[this])
 simp only[List.map_id]at this;unfold bA;simp only[parked];exact congrArg (cw λx:CommCase×Nat=>x.2) this
theorem xS.FM(h:xS P a cases chans K)(U:∀k,k<cases.size->chans k≠some c):bA (parked a cases .select) c false=[]:=by
 unfold bA;simp only[parked]
 have:(cases.zipIdx.toList.filter λ(B,_)=>B.send.isSome==false&&(match B.chan with|.chan (some r')=>r'==c|_=>false))=[]:=by
  rw[List.filter_eq_nil_iff];rintro⟨cc,k⟩ hm;have e:cases[k]?=some cc:=by simpa using Array.mem_zipIdx_iff_getElem?.1 (bo.1 hm)
  obtain⟨W,rfl⟩:=h.cs k cc e;have D:k<cases.size:=(bj.1 e).1
  cases O:chans k with
  |none=>simp
  |some B=>
   have:B≠c:=by
    rintro rfl;exact U k D O
   simp[this]
 exact congrArg (cw λx:CommCase×Nat=>x.2) this
theorem At.JK{i:Nat}{g:Goroutine}(h:At P w t i g r)(c:Nat):bA g c true=[]\/∃J m S n v,r=.lY J m S n v/\J.c=c/\bA g c true=[0]:=by
 cases r with
 |quit q=>exact .inl (b6 (by rcases Lv.status h with x|x<;>rw[x]<;>simp) _ _)
 |ended B J m S q=>exact .inl (b6 (by rcases h.1.status with x|x<;>rw[x]<;>simp) _ _)
 |act J m S n=>
  obtain⟨_,_,h⟩:=h;obtain⟨fr,cs,rfl,_⟩:=h.tR;exact .inl (b6 (by simp[G]) _ _)
 |lY J m S n v=>
  obtain⟨_,_,D,z,rfl,_⟩:=h;rw[bH];by_cases e:J.c=c
  .exact .inr ⟨_,_,_,_,_,rfl,e,by rw[if_pos e]⟩
  .exact .inl (by rw[if_neg e])
 |start J m S k=>exact .inl (b6 (by rw[h.2.2.2.2.2.2.status]; simp) _ _)
theorem iC.yP(h:r.sum=some (J,n)):r.ru=some J:=by
 cases r with
 |quit q=>cases h
 |ended B D m S q=>cases B<;>first|(cases h; rfl)|cases h
 |act=>cases h; rfl
 |lY=>cases h; rfl
 |start=>cases h; rfl
theorem Co.ways(h:Co P jv w0 Pd ρ m wl gs w t){i:Nat}(U:(ρ i).sum=some (J,n))(z:Value) :
  (∃m S v,ρ i=.lY J m S n v/\bT w (gs.setIfInBounds 0 ph) (b9 J.c z)=[.partner i 0]/\jJ w J.c false)\/(∃m S q,ρ i=.ended false J m S q/\n=J.L.length/\bT w (gs.setIfInBounds 0 ph) (b9 J.c z)=[.closed]/\jJ w J.c true)\/(((∃m S,ρ i=.act J m S n)\/∃m S k,ρ i=.start J m S k)/\bT w (gs.setIfInBounds 0 ph) (b9 J.c z)=[]/\jJ w J.c false):=by
 obtain⟨g,hi,hg,O⟩:=h.get (i:=i) λe=>by rw[e]at U; cases U
 have W:=iC.yP U
 have B:(∀m S n v,ρ i≠.lY J m S n v)->bZ (gs.setIfInBounds 0 ph) J.c true=[]:=by
  intro ac;refine bN λj x hx=>?_;rcases bE gs 0 j x hx with⟨_,rfl⟩|⟨hj,hx⟩
  .exact bF _ _
  .rcases(h.at_ j x (by omega) hx).JK J.c with e|⟨J',m',S',n',v',e,ec,_⟩
   .exact e
   .by_cases ab:j=i
    .subst ab;rw[e]at W;cases W;exact absurd e (ac _ _ _ _)
    .exact absurd ec.symm (h.cc i j J J' (cP ab) W (by rw[e]; rfl))
 cases D:ρ i with
 |quit q=>rw[D]at U; cases U
 |ended hd J' m' S q=>
  rw[D]at U O
  cases hd with
  |true=>cases U
  |false=>
   cases U;obtain⟨_,_,_,_,⟨s,r,Y⟩,_⟩:=O;refine .inr (.inl ⟨m',S,q,rfl,rfl,?_,s,r,Y⟩);simp[bT,b9,Y,B (by rw[D]; simp)]
 |act J' m' S n'=>
  rw[D]at U O;cases U;obtain⟨_,⟨s,r,Y⟩,_⟩:=O;refine .inr (.inr ⟨.inl ⟨m',S,rfl⟩,?_,s,r,Y⟩);simp[bT,b9,Y,B (by rw[D]; simp)]
 |start J' m' S k=>
  rw[D]at U O;cases U;obtain⟨_,⟨s,r,Y⟩,_⟩:=O;refine .inr (.inr ⟨.inr ⟨m',S,k,rfl⟩,?_,s,r,Y⟩);simp[bT,b9,Y,B (by rw[D]; simp)]
 |lY J' m' S n' v=>
  rw[D]at U;cases U;have aa:=O;rw[D]at aa;obtain⟨_,⟨s,r,Y⟩,g0,z0,rfl,_⟩:=aa;refine .inl ⟨m',S,v,rfl,?_,s,r,Y⟩
  have hp:bZ (gs.setIfInBounds 0 ph) J.c true=[(i,0)]:=by
   rw[bM (j:=i) (g:=parked g0 #[bC J.c v z0] .send) (by rw[bb (by omega)]; exact hg) λj x hj hx=>?_]
   .rw[bH,if_pos rfl]; rfl
   .rcases bE gs 0 j x hx with⟨_,rfl⟩|⟨ad,hx⟩
    .exact bF _ _
    .rcases(h.at_ j x (by omega) hx).JK J.c with e|⟨J2,m2,S2,n2,v2,e,ec,_⟩
     .exact e
     .exact absurd ec.symm (h.cc i j J J2 (cP hj) W (by rw[e]; rfl))
  simp[bT,b9,Y,hp]
theorem yn{i k cap s r:Nat}{D:Array Value}{tm:Bool}{v z:Value}{g B:Goroutine}{es:Array Event}(hi:gs[i]?=some g)(h:bQ P (i==0) g w=.comm B #[bC c v z] true .send Uc es)(hc:Uc.heap[c]?=some (.chan cap D false s r tm))(ac:0<i)(h0:gs[0]?=some (parked a cases .select))(hp:bZ (gs.setIfInBounds i ph) c false=[(0,k)])(hk:∃cc,cases[k]?=some cc/\cc.send=none) :
  runT P (bB gs w sl) i=(.next (bB ((gs.setIfInBounds 0 (a.finishComm P cases .select k v true)).setIfInBounds i (b8 B cQ)) {Uc with heap:=Uc.heap.setIfInBounds c (.chan cap D false (s+1) (r+1) tm)} sl),
   cG i g.frame.fn g.frame.place es++[({g:=i,fn:=B.frame.fn,pos:=B.frame.place,act:=.send c s}:MemOp),{g:=0,fn:=a.frame.fn,pos:=a.frame.place,act:=.recv c r cap},{g:=i,fn:=B.frame.fn,pos:=B.frame.place,act:=.sendDone c s},{g:=0,fn:=a.frame.fn,pos:=a.frame.place,act:=.recvDone c r}].toArray):=by
 rw[runT_crowd_comm hi h];have U:(0:Nat)≠i:=by omega
 have O:=stand_get (i:=i) U h0;have W:=bK P (gs.setIfInBounds i ph) O (cs:=cases) (sh:=.select) rfl k v;have Y:(gs.setIfInBounds i ph).getD 0 default=parked a cases .select:=by rw[br,O]; rfl
 obtain⟨cc,aa,ab⟩:=hk;simp[communicate,bT,bC,hc,hp,choose,Sem.run,Question.forced,bind,Sem.bind,pure,bB,W,Y,set_stand2,finishComm_parked,aa,ab,parked];rfl
end
end
section
open Go.Conc
open Go.ConcN (upd upd_same upd_ne)
variable {f f':bS} {c cap r s:Nat} {p p':String}
section
variable {P:Program} {jv:Nat->Prop} {w0:World} {Pd:Nat->Prop} {m:Ren} {wl:World} {a:Goroutine} {cases:Array CommCase} {chans:Nat->Option Nat} {K:Nat->Option (pz×Nat)}
theorem Oz{ρ:Nat->iC}{i:Nat}{r:iC}{x:Option (pz×Nat)}(h:∀j,(ρ j).sum=K j)(B:r.sum=x)(j:Nat):(ck ρ i r j).sum=ck K i x j:=by
 by_cases e:j=i
 .subst e; rw[ci,ci]; exact B
 .rw[cj _ _ e,cj _ _ e]; exact h j
theorem BD{i:Nat}:∀op∈([{g:=i,fn:=f,pos:=p,act:=.send c s},{g:=0,fn:=f',pos:=p',act:=.recv c r cap},{g:=i,fn:=f,pos:=p,act:=.sendDone c s},{g:=0,fn:=f',pos:=p',act:=.recvDone c r}]:List MemOp),op.act.touch?=none:=by
 intro op h;simp only[cm,cn,or_false]at h;rcases h with rfl|rfl|rfl|rfl<;>rfl
theorem zg{i:Nat}:∀op∈([{g:=i,fn:=f,pos:=p,act:=.send c s},{g:=0,fn:=f',pos:=p',act:=.recv c r cap},{g:=i,fn:=f,pos:=p,act:=.sendDone c s},{g:=0,fn:=f',pos:=p',act:=.recvDone c r}]:List MemOp),op.act≠.mark .disable/\op.act≠.mark .enable:=by
 intro op h;simp only[cm,cn,or_false]at h;rcases h with rfl|rfl|rfl|rfl<;>simp
def M7(ρ:Nat->iC)(cases:Array CommCase)(chans:Nat->Option Nat)(K:Nat->Option (pz×Nat)):Prop:=
 ∀k c,k<cases.size->chans k=some c->∃i J n,K i=some (J,n)/\J.c=c/\((∃m S,ρ i=.act J m S n)\/∃m S k,ρ i=.start J m S k)
theorem select{Z:ob P}{N:Nat}(hS:xS P a cases chans K)
  (hv:∀(k i:Nat)J n v,k<cases.size->chans k=some J.c->K i=some (J,n)->J.L[n]?=some v->∀ρ gs w sl t,Co P jv w0 Pd ρ m wl gs w t->(∀j,(ρ j).sum=ck K i (some (J,n+1)) j)->gs[0]?=some (a.finishComm P cases .select k v true)->gs.size=N->Z.Up (bB gs w sl) t)
  (he:∀(k i:Nat)J z,cases[k]?=some (b9 J.c z)->chans k=some J.c->K i=some (J,J.L.length)->∀ρ gs w sl t,Co P jv w0 Pd ρ m wl gs w t->(∀j,(ρ j).sum=ck K i none j)->gs[0]?=some (a.finishComm P cases .select k z false)->gs.size=N->Z.Up (bB gs w sl) t) :
  ∀ρ gs w sl t,Co P jv w0 Pd ρ m wl gs w t->(∀j,(ρ j).sum=K j)->gs[0]?=some a->gs.size=N->Z.Up (bB gs w sl) t:=by
 have key:∀ρ,Acc (Hr (l5 P) N) ρ->∀gs w sl t,Co P jv w0 Pd ρ m wl gs w t->(∀j,(ρ j).sum=K j)->gs.size=N->((∃a',gs[0]?=some a'/\a'.status=.running/\∀w,bQ P true a' w=.comm a cases true .select w #[])\/(gs[0]?=some (parked a cases .select)/\M7 ρ cases chans K))->Z.Up (bB gs w sl) t:=by
  intro ρ aJ
  induction aJ with
  |intro ρ _ ih=>
   have hB:∀gs w sl t,Co P jv w0 Pd ρ m wl gs w t->(∀j,(ρ j).sum=K j)->gs.size=N->gs[0]?=some (parked a cases .select)->M7 ρ cases chans K->Z.Up (bB gs w sl) t:=by
    intro gs w sl t h hK hN h0 hW
    have au:∃(i:Nat)(g:Goroutine),gs[i]?=some g/\g.status=.running:=by
     obtain⟨k,c,O,hc⟩:=hS.some_;obtain⟨i,J,n,D,_,hr⟩:=hW k c O hc;obtain⟨g,hi,hg,ac⟩:=h.get (i:=i) λe=>by rcases hr with⟨_,_,x⟩|⟨_,_,_,x⟩<;>rw[e]at x<;>cases x
     refine⟨i,g,hg,?_⟩;rcases hr with⟨_,_,x⟩|⟨_,_,_,x⟩
     .rw[x]at ac;obtain⟨_,_,ac⟩:=ac;obtain⟨fr,cs,rfl,_⟩:=ac.tR;rfl
     .rw[x]at ac;exact ac.2.2.2.2.2.2.status
    obtain⟨i,g,d,ad,hi,hg,ax⟩:=bJ (P:=P) (w:=w) (sl:=sl) (h.awake h0 (.inr (.inl rfl))) au;refine Z.back _ _ ?_;rw[ax]
    have aa:0<i:=by
     rcases cz i with rfl|aa
     .rw[h0]at hi;cases hi;cases hg
     .exact aa
    have aS:(i==0)=false:=by simp; omega
    have ak:i<gs.size:=(bj.1 hi).1;have B:=h.at d;by_cases ay:∃J mi S n Ul cs Uc es,ρ i=.act J mi S n/\bQ P false g (w.at d)=.comm Ul cs true .send Uc es/\bA (parked a cases .select) J.c false≠[]
    .obtain⟨J,mi,S,n,Ul,cs,Uc,es,ab,an,aT⟩:=ay;have ac:=B.at_ i g aa hi;rw[ab]at ac;obtain⟨av,⟨s,r,hc⟩,a5⟩:=ac
     have aK:¬J.Stop S:=by
      intro a8;obtain⟨hn,fr,ps,a',ty,cs',rfl,hm,hd,hq,be⟩:=a5.stands av a8;rw[closing (P:=P) (ps:=ps) hm hd hq hc]at an;cases an
     have aL:=a5.BN av aK;rw[an]at aL
     cases aL with
     |@send S' Ud _ _ _ v' z' bf aU ae O aV=>
      have az:(ρ i).live=some mi:=by rw[ab]; rfl
      obtain⟨bg,aW⟩:=B.wr (iC.pR az);have ao:=O.chan aW hc
      obtain⟨k,a9,aM⟩:∃k,k<cases.size/\chans k=some J.c:=by
       apply cK;intro ap;exact aT (hS.FM λk O hc=>ap ⟨k,O,hc⟩)
      obtain⟨zk,af⟩:=hS.get a9
      have hp:bZ (gs.setIfInBounds i ph) J.c false=[(0,k)]:=by
       rw[bM (j:=0) (g:=parked a cases .select) (by rw[bb (by omega)]; exact h0) λj x hj Y=>?_]
       .rw[hS.offers a9 aM]; rfl
       .rcases bE gs i j x Y with⟨_,rfl⟩|⟨_,Y⟩
        .exact bF _ _
        .exact(B.at_ j x (by omega) Y).offers J.c
      have aq:=yn (P:=P) (sl:=ad) hi (by rw[aS]; exact an) ao aa h0 hp ⟨_,af,rfl⟩;rw[aq];refine Z.next _ _ _ _ ?_;obtain⟨v0,fr',cs',e,aN⟩:=ae.tR;obtain⟨f0,bh,_,_,_,_,_,_,_,aX,_⟩:=aN.tR
      have h1:Co P jv w0 Pd (ck ρ i (.lY J Ud S' n v')) m wl (gs.setIfInBounds i (parked Ul #[bC J.c v' z'] .send)) Uc (t++cG i g.frame.fn g.frame.place es):=
       B.step (gs':=gs.setIfInBounds i (parked Ul #[bC J.c v' z'] .send)) aa ak az aU O aV aX ⟨av,⟨s,r,ao⟩,Ul,z',rfl,ae⟩ rfl (by rw[ab]; rfl) (by rw[ab]; rfl) (by rw[ab]; rfl) (by simp) (by simp[ak]) (A0 _)
      obtain⟨aY,h2⟩:=h1.Tu (gs':=(gs.setIfInBounds 0 (a.finishComm P cases .select k v' true)).setIfInBounds i (b8 Ul cQ)) (Ul:=Ul) (z:=z') (u:=[({g:=i,fn:=Ul.frame.fn,pos:=Ul.frame.place,act:=.send J.c s}:MemOp),{g:=0,fn:=a.frame.fn,pos:=a.frame.place,act:=.recv J.c r 0},{g:=i,fn:=Ul.frame.fn,pos:=Ul.frame.place,act:=.sendDone J.c s},{g:=0,fn:=a.frame.fn,pos:=a.frame.place,act:=.recvDone J.c r}]) aa (ci _ _ _) (by simp[ak]) ao (s':=s+1) (r':=r+1) rfl BD zg (by simp) (by simp[ak]) (λj hj a4=>by
       rw[bb (cP a4),bb (by omega),bb (cP a4)])
      obtain⟨v1,aO,aA⟩:=ae.value av;have D:K i=some (J,n):=by rw[<-hK i,ab]; rfl
      have ev:v'=v1:=hS.flat i J n D v1 (cv aO) _ _ aA;subst ev;rw[<-Array.append_assoc];refine hv k i J n v' a9 aM D aO _ _ _ ad _ h2 (λj=>?_) (by rw[bb (by omega),bp (by omega)]) (by simp[hN]);by_cases ej:j=i
      .subst ej; rw[ci,ci]; rfl
      .rw[cj _ _ ej,cj _ _ ej,cj _ _ ej]; exact hK j
    .obtain⟨gs',w',ops,Uj,hr,ah,aB,ai,aC,hz,aZ,aD⟩:=B.other (sl:=ad) aa hi hg h0 λJ mi S n Ul cs Uc es h1 h2=>cK λh3=>ay ⟨J,mi,S,n,Ul,cs,Uc,es,h1,h2,h3⟩;rw[hr];refine Z.next _ _ _ _ (ih Uj (hN▸aB) gs' w' ad (t++ops) ah (λj=>(ai j).trans (hK j)) (aC.trans hN) ?_)
     have a6:(∀k c,k<cases.size->chans k=some c->¬jJ w' c true)->M7 Uj cases chans K:=by
      intro aj k c O hc;obtain⟨U,J,n,D,W,aE⟩:=hW k c O hc;refine⟨U,J,n,D,W,?_⟩;rcases ah.ways (i:=U) (J:=J) (n:=n) ((ai U).trans ((hK U).trans D)) cQ with⟨m1,S1,v1,e,_⟩|⟨m1,S1,q1,e,_,_,mL⟩|⟨e,_⟩
      .by_cases ei:U=i
       .subst ei;have:=aZ J m1 S1 n v1 e;rw[W,hS.offers O hc]at this;cases this
       .rw[aD U ei]at e;rcases aE with⟨_,_,x⟩|⟨_,_,_,x⟩<;>rw[e]at x<;>cases x
      .exact absurd (W▸mL) (aj k c O hc)
      .exact e
     have a0:(∀j,(Uj j).chan=(ρ j).chan)->∀k c,k<cases.size->chans k=some c->¬jJ w' c true:=by
      intro aw k c O hc mL;obtain⟨U,J,n,D,W,aE⟩:=hW k c O hc
      have aP:(Uj U).chan=some J:=by
       rw[aw];rcases aE with⟨_,_,x⟩|⟨_,_,_,x⟩<;>rw[x]<;>rfl
      obtain⟨s1,r1,mL⟩:=mL;rcases ah.ways (i:=U) (J:=J) (n:=n) ((ai U).trans ((hK U).trans D)) cQ with⟨m1,S1,v1,e,_,s2,r2,Y⟩|⟨m1,S1,q1,e,_,_,_⟩|⟨e,_,s2,r2,Y⟩
      .rw[W,mL]at Y; cases Y
      .rw[e]at aP; cases aP
      .rw[W,mL]at Y; cases Y
     rcases hz with⟨Y,aw⟩|Y
     .exact .inr ⟨Y,a6 (a0 aw)⟩
     .by_cases mL:∃k c,k<cases.size/\chans k=some c/\jJ w' c true
      .obtain⟨k,c,O,hc,s1,r1,mL⟩:=mL;refine .inl ⟨{parked a cases .select with status:=.running},?_,rfl,hS.SF⟩;rw[Y];obtain⟨zk,af⟩:=hS.get O;rw[hc]at af
       have a1:(cases.any λc:CommCase=>match c.chan with
         |.chan (some r)=>(w'.heap[r]? matches some (.chan _ _ true ..))
         |_=>false)=true:=by
        rw[Array.any_eq_true];refine⟨k,O,?_⟩
        have:cases[k]=⟨.chan (some c),none,zk⟩:=by
         rw[bk O]at af;exact cL af
        simp[this,mL]
       unfold Goroutine.again;simp only[parked];exact congrArg some (if_pos a1)
      .have aj:∀k c,k<cases.size->chans k=some c->¬jJ w' c true:=λk c O hc Y=>mL ⟨k,c,O,hc,Y⟩;refine .inr ⟨?_,a6 aj⟩;rw[Y]
       have a1:(cases.any λc:CommCase=>match c.chan with
         |.chan (some r)=>(w'.heap[r]? matches some (.chan _ _ true ..))
         |_=>false)=false:=by
        rw[Array.any_eq_false];intro k O;obtain⟨zk,af⟩:=hS.get O
        have e:cases[k]=⟨.chan (chans k),none,zk⟩:=by
         rw[bk O]at af;exact cL af
        cases al:chans k with
        |none=>rw[al]at e; simp[e]
        |some c=>
         rw[al]at e;obtain⟨U,J,n,D,W⟩:=hS.own k c O al;have no:=aj k c O al;rcases ah.ways (i:=U) (J:=J) (n:=n) ((ai U).trans ((hK U).trans D)) cQ with⟨_,_,_,_,_,s2,r2,Y⟩|⟨_,_,_,_,_,_,Y⟩|⟨_,_,s2,r2,Y⟩
         .rw[W]at Y; simp[e,Y]
         .exact absurd (W▸Y) no
         .rw[W]at Y; simp[e,Y]
       unfold Goroutine.again;simp only[parked];exact congrArg some (if_neg (by rw[Bool.not_eq_true]; exact a1))
   intro gs w sl t h hK hN ax;rcases ax with⟨a',h0,am,a2⟩|⟨h0,hW⟩
   .obtain⟨i,g,d,ad,hi,hg,ax⟩:=bJ (P:=P) (w:=w) (sl:=sl) (h.awake h0 (.inl am)) ⟨0,a',h0,am⟩;refine Z.back _ _ ?_;rw[ax];have B:=h.at d;rcases cz i with rfl|aa
    .obtain rfl:g=a':=by rw[h0]at hi; exact(cL hi).symm
     have ak:0<gs.size:=(bj.1 hi).1;have an:bQ P (0==0) g (w.at d)=.comm a cases true .select (w.at d) #[]:=a2 (w.at d);have e0:cG 0 g.frame.fn g.frame.place #[]=#[]:=by rw[bD]; simp
     have made:∀cc∈cases,illMade (w.at d) cc=false:=by
      intro cc ag;obtain⟨k,O,rfl⟩:=bn.1 ag;obtain⟨z,hz⟩:=hS.cs k cases[k] (bk O);rw[hz]
      cases al:chans k with
      |none=>rfl
      |some c=>
       obtain⟨U,J,n,D,W⟩:=hS.own k c O al;obtain⟨cl,s,r,Y⟩:=B.is (iC.yP ((hK U).trans D));rw[W]at Y;simp[illMade,Y]
     have one:∀(k:Nat)cc,cases[k]?=some cc->(bT (w.at d) (gs.setIfInBounds 0 ph) cc=[])\/∃i J n,chans k=some J.c/\K i=some (J,n)/\(∃z,cc=b9 J.c z)/\((∃m S v,ρ i=.lY J m S n v/\bT (w.at d) (gs.setIfInBounds 0 ph) cc=[.partner i 0]/\jJ (w.at d) J.c false)\/(∃m S q,ρ i=.ended false J m S q/\n=J.L.length/\bT (w.at d) (gs.setIfInBounds 0 ph) cc=[.closed]/\jJ (w.at d) J.c true)):=by
      intro k cc ag;have O:k<cases.size:=(bj.1 ag).1;obtain⟨z,rfl⟩:=hS.cs k cc ag
      cases al:chans k with
      |none=>exact .inl rfl
      |some c=>
       obtain⟨U,J,n,D,W⟩:=hS.own k c O al;subst W;rcases B.ways ((hK U).trans D) z with⟨m1,S1,v1,x1,x2,x3⟩|⟨m1,S1,q1,x1,x2,x3,x4⟩|⟨_,x2,_⟩
       .exact .inr ⟨U,J,n,rfl,D,⟨z,rfl⟩,.inl ⟨m1,S1,v1,x1,x2,x3⟩⟩
       .exact .inr ⟨U,J,n,rfl,D,⟨z,rfl⟩,.inr ⟨m1,S1,q1,x1,x2,x3,x4⟩⟩
       .exact .inl x2
     by_cases ar:∃(k:Nat)(cc:CommCase),cases[k]?=some cc/\bT (w.at d) (gs.setIfInBounds 0 ph) cc≠[]
     .rcases Bm (P:=P) (sl:=ad) hi an made (λk cc ag=>by
       rcases one k cc ag with x|⟨U,J,n,_,_,⟨z,rfl⟩,⟨m1,S1,v1,_,x2,s,r,x3⟩|⟨m1,S1,q1,_,_,x3,s,r,x4⟩⟩
       .exact .inl x
       .exact .inr (.inr ⟨J.c,z,_,_,_,_,_,_,_,_,rfl,x3,x2⟩)
       .exact .inr (.inl ⟨J.c,z,_,_,_,_,_,rfl,x4,x3⟩)) ar with⟨k,c,z,d',O,hw,aq⟩|⟨k,c,z,d',j,q,cap,s,r,bi,cl,tm,O,aw,hw,aq⟩
      .rcases one k _ O with x|⟨U,J,n,aF,D,⟨z',ez⟩,⟨m1,S1,v1,_,x2,_⟩|⟨m1,S1,q1,ab,hn,_,_⟩⟩
       .rw[x]at hw; cases hw
       .rw[x2]at hw; cases hw
       .have ec:c=J.c:=by simp[b9]at ez; exact ez.1
        subst ec
        have aG:0<U:=by
         obtain⟨_,x,_,_⟩:=B.get (i:=U) (by rw[ab]; simp);exact x
        rw[aq,e0,bm];refine Z.next _ _ _ _ ?_;have hh:=(B.at d').hear (gs':=gs.setIfInBounds 0 (a.finishComm P cases .select k z false)) (fn:=a.frame.fn) (pos:=a.frame.place) aG ab (by simp) (λj hj=>bb (by omega));subst hn;exact he k U J z O aF D _ _ _ ad _ hh (Oz hK rfl) (by simp[ak]) (by simpa using hN)
      .rcases one k _ O with x|⟨U,J,n,aF,D,⟨z',ez⟩,⟨m1,S1,v1,ab,x2,s2,r2,Y⟩|⟨m1,S1,q1,ab,hn,x2,_⟩⟩
       .rw[x]at hw; cases hw
       .have ec:c=J.c:=by simp[b9]at ez; exact ez.1
        subst ec;rw[x2]at hw;obtain⟨rfl,rfl⟩:U=j/\0=q:=by simpa using hw
        have a7:(w.at d).heap[J.c]?=some (.chan 0 #[] false s2 r2 false):=Y;rw[a7]at aw;cases aw;obtain⟨gi,aG,aH,ac⟩:=B.get (i:=U) (by rw[ab]; simp);rw[ab]at ac;obtain⟨av,_,g0,z0,rfl,ae⟩:=ac;have aI:(gs.setIfInBounds 0 ph)[U]?=some (parked g0 #[bC J.c v1 z0] .send):=by rw[bb (by omega)]; exact aH
        have ba:cg (gs.setIfInBounds 0 ph) U 0=v1:=by simp[cg,aI,parked,bC]
        have bc:=bK P (gs.setIfInBounds 0 ph) aI (cs:=#[bC J.c v1 z0]) (sh:=.send) rfl 0 cQ;have bd:(gs.setIfInBounds 0 ph).getD U default=parked g0 #[bC J.c v1 z0] .send:=by rw[br,aI]; rfl
        rw[aq,e0,bm,ba,bc,bd];refine Z.next _ _ _ _ ?_;obtain⟨v2,aQ,aA⟩:=ae.value av;have ev:v1=v2:=hS.flat U J n D v2 (cv aQ) _ _ aA;subst ev
        obtain⟨aY,hh⟩:=(B.at d').Tu (gs':=(((gs.setIfInBounds 0 ph).setIfInBounds U ((parked g0 #[bC J.c v1 z0] .send).finishComm P #[bC J.c v1 z0] .send (0:Nat) cQ (((#[bC J.c v1 z0]:Array CommCase)[0]?.map (·.send.isNone)).getD false))).setIfInBounds 0 (a.finishComm P cases .select k v1 true))) (Ul:=g0) (z:=z0) (u:=[({g:=U,fn:=g0.frame.fn,pos:=g0.frame.place,act:=.send J.c s}:MemOp),{g:=0,fn:=a.frame.fn,pos:=a.frame.place,act:=.recv J.c r 0},{g:=U,fn:=g0.frame.fn,pos:=g0.frame.place,act:=.sendDone J.c s},{g:=0,fn:=a.frame.fn,pos:=a.frame.place,act:=.recvDone J.c r}]) aG ab aH a7 (s':=s+1) (r':=r+1) rfl BD zg (by simp) (by
         rw[bb (by omega),bp (by simpa using(bj.1 aH).1)]
         rfl) (λj hj a4=>by
         rw[bb (by omega),bb (cP a4),bb (by omega)])
        exact hv k U J n v1 (bj.1 O).1 aF D aQ _ _ _ ad _ hh (Oz hK rfl) (by simp[ak]) (by simpa using hN)
       .rw[x2]at hw; cases hw
     .have a3:∀(k:Nat)cc,cases[k]?=some cc->bT (w.at d) (gs.setIfInBounds 0 ph) cc=[]:=λk cc ag=>cK λY=>ar ⟨k,cc,ag,Y⟩
      have aq:=bO (P:=P) (sl:=ad) hi an (λcc ag=>by
       obtain⟨k,O,rfl⟩:=bn.1 ag
       exact⟨made _ (Array.getElem_mem O),a3 k _ (bk O)⟩)
      rw[aq,e0];refine Z.next _ _ _ _ ?_;rw[bq]
      have aR:Co P jv w0 Pd ρ m wl (gs.setIfInBounds 0 (parked a cases .select)) (w.at d) t:=by
       refine⟨B.main,λi g hi hg=>B.at_ i g hi (by rw[bb (by omega)]at hg; exact hg),λi hi=>B.out i (by simpa using hi),B.d0,B.dd,B.cc,B.s0,B.ss,B.Ko,B.low,B.hears,B.nt,B.clean,B.fix,B.f0,B.ff,B.cx,B.sz,B.os,B.kn,B.pd,B.len⟩
      refine hB _ _ _ _ aR hK (by simpa using hN) (by simp[ak]) λk c O hc=>?_;obtain⟨U,J,n,D,W⟩:=hS.own k c O hc;refine⟨U,J,n,D,W,?_⟩;obtain⟨zk,af⟩:=hS.get O;have ap:=a3 k _ af;rw[hc,<-W]at ap;rcases B.ways ((hK U).trans D) zk with⟨_,_,_,_,x2,_⟩|⟨_,_,_,_,_,x3,_⟩|⟨x,_⟩
      .rw[show(⟨.chan (some J.c),none,zk⟩:CommCase)=b9 J.c zk from rfl,x2]at ap; cases ap
      .rw[show(⟨.chan (some J.c),none,zk⟩:CommCase)=b9 J.c zk from rfl,x3]at ap; cases ap
      .exact x
    .obtain⟨gs',w',ops,Uj,hr,ah,aB,ai,aC,hz,_,_⟩:=B.other (sl:=ad) aa hi hg h0 λJ mi S n _ _ _ _ _ _=>b6 (by rw[am]; simp) _ _;rw[hr];refine Z.next _ _ _ _ (ih Uj (hN▸aB) gs' w' ad (t++ops) ah (λj=>(ai j).trans (hK j)) (aC.trans hN) (.inl ⟨a',?_,am,a2⟩));rcases hz with⟨x,_⟩|x
     .exact x
     .rw[x,bL _ (.inl am)]
   .exact hB gs w sl t h hK hN h0 hW
 intro ρ gs w sl t h hK h0 hN;exact key ρ (hN▸h.acc) gs w sl t h hK hN (.inl ⟨a,h0,hS.run,hS.step⟩)
end
end
section
open Go.Conc
open Go.ConcN (upd upd_same upd_ne)
variable {V:List (Nat×Option (List Value))}
section
variable {P:Program} {jv:Nat->Prop} {w0:World} {Pd:Nat->Prop} {ρ:Nat->iC} {m Ud:Ren} {wl Un:World} {gs gs':Array Goroutine} {w Uc:World} {t:bV} {sl:Option (Nat×Nat)}
theorem Co.yC{fn:bS}{pos:String}{es:Array Event}(h:Co P jv w0 Pd ρ m wl gs w t)(ab:m.Le Ud)(Y:ju m Ud w Uc)(he:∀e∈es,qJ Ud e)(D:WR Ud Un Uc)(af:gs'.size=gs.size)
  (ag:∀j x,0<j->gs'[j]?=some x->∃y,gs[j]?=some y/\(At P Uc (t++cG 0 fn pos es) j y (ρ j)->x=y)) :
  Co P jv w0 Pd ρ Ud Un gs' Uc (t++cG 0 fn pos es):=by
 have dj:∀j m',(ρ j).oe=some m'->qe Ud m':=λj m' B=>by
  obtain⟨wl',ah⟩:=h.wr B;exact qe.grow (h.d0 j m' B) ab Y ah
 have O:∀c cl,jJ w c cl->Uc.heap[c]?=w.heap[c]?:=λc cl x=>Y.N0 h.main x
 have hrel:∀j y,0<j->gs[j]?=some y->At P Uc (t++cG 0 fn pos es) j y (ρ j):=by
  intro j y hj hy;refine(h.at_ j y hj hy).rely (λm' B=>Y.leaves (h.d0 j m' B) (h.wr B).choose_spec) (λJ hJ=>?_) Y.size Y.os λop W hg=>absurd (ofEvents_g W) (by rw[hg]; omega);obtain⟨cl,U⟩:=h.is hJ;exact O _ cl U
 have aa:pt t 0 Ud:=h.s0.grow ab h.low Y.news;refine⟨D,λj x ae U=>?_,λj hj=>h.out j (by rw[<-af]; exact hj),dj,h.dd,h.cc,aa.own,λj m' B=>(h.ss j m' B).other (dj j m' (iC.pR B)).symm he,λj J hJ p a ha hb=>?_,h.low.own D Y.size he,Cm h.hears he,h.nt.app λop W=>.inr (.inl (ofEvents_g W)),aa.clean h.clean he,λb hb=>?_,λr b ai hb=>?_,h.ff,h.cx,c8 h.sz Y.size,⟨Y.os.trans h.os.1,Y.output.trans h.os.2⟩,h.kn.app (λj m' r b B U=>⟨j,m',r,B,U⟩) (λop W _ _ _ _ _=>.inl (ofEvents_g W)),h.pd.app (λ_=>rfl) (λc _ ac=>O c _ ac) (λop W a c ha _ ac hb=>?_),h.len⟩
 .obtain⟨y,hy,aj⟩:=ag j x ae U;have:=hrel j y ae hy;rw[aj this]; exact this
 .rcases iG ha with⟨_,h1⟩|⟨op,h1,_,h3⟩
  .exact h.Ko j J hJ p a h1 hb
  .obtain⟨e,ad,rfl⟩:=bG h1
   have hm:a.loc.isMemory=true:=by
    cases hl:a.loc<;>rw[hl]at hb<;>simp[nT]at hb<;>rfl
   obtain⟨b',r',g1,g2,g3⟩:=oU (he e ad) h3 hm;rw[hb]at g1;cases g1;obtain⟨cl,s,y,U⟩:=h.is (iC.vF hJ);have:jJ Uc J.c cl:=⟨s,y,by rw[O _ cl ⟨s,y,U⟩]; exact U⟩;exact D.A3 this g2
 .obtain⟨h1,h2⟩:=h.fix b hb;refine⟨cy h1 Y.size,?_⟩;rw[<-h2];by_cases U:∃r,m.blk r=some b
  .obtain⟨r,U⟩:=U;exact Y.still r b U (h.f0 r b U hb)
  .exact Y.old b h1 λr ak=>U ⟨r,ak⟩
 .rcases Y.news r b ai with x|x
  .exact(ab.loose r b x).2 (h.f0 r b x hb)
  .have:=(h.fix b hb).1;omega
 .obtain⟨e,ad,rfl⟩:=bG W
  have hm:a.loc.isMemory=true:=by
   cases hl:a.loc<;>rw[hl]at hb<;>simp[nT]at hb<;>rfl
  obtain⟨b',r',g1,g2,g3⟩:=oU (he e ad) ha hm;rw[hb]at g1;cases g1;obtain⟨s,y,U⟩:=ac;exact D.A3 (cl:=false) ⟨s,y,by rw[O _ false ⟨s,y,U⟩]; exact U⟩ g2
theorem Co.calm(h:Co P jv w0 Pd ρ m wl gs w t)(B:∀i,(ρ i).sum=none)(m':Ren):pt t 0 m':=by
 intro p a b r D hb _ _
 have hm:a.loc.isMemory=true:=by
  cases O:a.loc<;>rw[O]at hb<;>simp[nT]at hb<;>rfl
 rcases h.nt p a D hm with x|⟨op,_,x⟩
 .exact x
 .exact absurd (B _) x
theorem jX{g g':Goroutine}{u:bV}(Uc:World):∀j x,0<j->((gs.map (woken P g g' Uc)).setIfInBounds 0 g')[j]?=some x->∃y,gs[j]?=some y/\(At P Uc u j y (ρ j)->x=y):=by
 intro j x O B;rw[bb (by omega),bu]at B;obtain⟨y,D,rfl⟩:=b0.1 B;exact⟨y,D,λh=>h.woken g g'⟩
end
structure OF where
 fn:bS
 tm:Array Value
 td:List Item
def jx(fn:bS)(tm:Array Value)(td:List Item):Frame:=⟨fn,tm,td,[],.run,.normal,none⟩
inductive qh(m:Ren)(T:List Frame):List OF->List Frame->Prop
 |nil:qh m T [] T
 |cons {o os tm' l}:iI m o.tm tm'->qh m T os l->qh m T (o::os) (jx o.fn tm' o.td::l)
theorem qh.mono{m Ud:Ren}{T:List Frame}(h:m.Le Ud){os:List OF}{l:List Frame}(x:qh m T os l):qh Ud T os l:=by
 induction x with
 |nil=>exact .nil
 |cons B _ D=>exact .cons (B.mono h) D
structure Env(P:Program) where
 Z:ob P
 jv:Nat->Prop
 w0:World
 T:List Frame
 gl:Nat->Prop
 st:Bool
 jz:bS->Prop
 ok:Oper->Prop
 X:Ren->Prop
 le:∀m Ud:Ren,m.Le Ud->X m->X Ud
structure Rg{P:Program}(E:Env P)(m:Ren):Prop where
 ry:oh P m E.gl E.st
 kL:¬m.kL
 qD:∀r r',m.ch r=some r'->m.nJ r=some (.chan 0 #[] false 0 0 false)
 jz:m.jz=E.jz
 RO:m.ok=E.ok
 x:E.X m
structure QV(m:Ren)(ρ:Nat->iC)(Pd:Nat->Prop)(V:List (Nat×Option (List Value))):Prop where
 all:∀r vs,(r,some vs)∈V->∃i J n,(ρ i).sum=some (J,n)/\m.ch r=some J.c/\n<=J.L.length/\J.L.drop n=vs/\∀v∈J.L,∀(m:Ren)v',VR m v v'->v'=v
 only:∀i J n,(ρ i).sum=some (J,n)->∃r vs,(r,some vs)∈V/\m.ch r=some J.c
 LU:∀r,(r,none)∈V->∃c,m.ch r=some c/\Pd c
section
variable {P:Program} {E:Env P}
theorem Rg.open{m:Ren}(h:Rg E m):Open m:=λr r' B=>⟨_,_,_,_,_,h.qD r r' B⟩
theorem Rg.le{m Ud:Ren}{w Uc:World}(h:Rg E m)(B:m.Le Ud)(D:ju m Ud w Uc):Rg E Ud:=
 ⟨h.ry.mono B,by rw[B.kL]; exact h.kL,λr r' O=>by rw[D.qD h.kL]at O; rw[D.nJ]; exact h.qD r r' O,B.jz.trans h.jz,B.ok.trans h.RO,E.le m Ud B h.x⟩
theorem QV.le{m Ud:Ren}{ρ Uj:Nat->iC}{Pd:Nat->Prop}(h:QV m ρ Pd V)(O:m.Le Ud)(W:∀j,(Uj j).sum=(ρ j).sum):QV Ud Uj Pd V:=by
 refine⟨λr vs U=>?_,λi J n hi=>?_,λr U=>?_⟩
 .obtain⟨i,J,n,B,D,Y⟩:=h.all r vs U;exact⟨i,J,n,by rw[W]; exact B,O.ch _ _ D,Y⟩
 .rw[W]at hi;obtain⟨r,vs,B,D⟩:=h.only i J n hi;exact⟨r,vs,B,O.ch _ _ D⟩
 .obtain⟨c,B,D⟩:=h.LU r U;exact⟨c,O.ch _ _ B,D⟩
def gP(E:Env P)(os:List OF)(wl:World)(V:List (Nat×Option (List Value))):Prop:=
 ∀m(Pd:Nat->Prop)ρ gs w sl t fr' cs',Rg E m->Co P E.jv E.w0 Pd ρ m wl gs w t->QV m ρ Pd V->qh m E.T os (fr'::cs')->gs[0]?=some (G fr' cs')->E.Z.Up (bB gs w sl) t
def PT(E:Env P)(os:List OF)(wl:World)(N:List OF->World->Prop):Prop:=
 ∀m w fr' cs',Rg E m->qh m E.T os (fr'::cs')->WR m wl w->∃Ud h B Uc es D Un,bQ P true (G fr' cs') w=.go (G h B) Uc es/\m.Le Ud/\ju m Ud w Uc/\(∀e∈es,qJ Ud e)/\qh Ud E.T D (h::B)/\WR Ud Un Uc/\N D Un
theorem gP.step{os:List OF}{wl:World}{N:List OF->World->Prop}(h:PT E os wl N)(hn:∀B Un,N B Un->gP E B Un V):gP E os wl V:=by
 intro m Pd ρ gs w sl t fr' cs' W ac ad Y h0;refine turn (Z:=E.Z) (a:=G fr' cs') (K:=λj=>(ρ j).sum) (N:=gs.size) rfl ?_ ρ gs w sl t ac (λ_=>rfl) h0 rfl;intro Uj gs' w' ah aa d t' U hK ab hN;obtain⟨Ud,D,O,Uc,es,B,Un,hs,hl,hk,he,ho,hw,ae⟩:=h m (w'.at d) fr' cs' W Y U.main;have af:=b7 (P:=P) (sl:=aa) (i:=0) ab (show bQ P (0==0) (G fr' cs') (w'.at d)=_ from hs);rw[af];refine E.Z.next _ _ _ _ ?_;have ag:0<gs'.size:=(bj.1 ab).1;exact hn B Un ae Ud Pd Uj _ _ aa _ D O (W.le hl hk) (U.yC (gs':=(gs'.map (woken P (G fr' cs') (G D O) Uc)).setIfInBounds 0 (G D O)) hl hk he hw (by simp) (jX _)) (ad.le hl hK) ho (by simp[ag])
end
end
section
open Go.Conc
variable {ops:Array Oper} {t t':Array Value} {x y:Code} {rest:List Nat} {i id:Nat} {m:Ren}
def jg(h:Option Tmp)(tm:Array Value)(v:Value):Array Value:=match h with|some d=>tm.setIfInBounds d v|none=>tm
def lG(tm:Array Value):Operand->Value:=Act.eval ⟨tm,[]⟩
section
variable {P:Program} {E:Env P} {fn:bS} {tm:Array Value} {os:List OF} {wl:World} {V:List (Nat×Option (List Value))} {k:List Item}
theorem FJ(fn:bS)(tm:Array Value)(td:List Item):(jx fn tm td).eval=lG tm:=by funext x; cases x<;>rfl
theorem lM(fn:bS)(tm:Array Value)(ops:Array Oper)(i:Nat)(rest:List Nat)(k:List Item)(v:Value):(jx fn tm (.inRegion ops (i::rest)::k)).finish v=jx fn (jg ((ops[i]?).bind (·.dst)) tm v) (.inRegion ops rest::k):=by
 cases h:(ops[i]?).bind (·.dst)<;>simp[Frame.finish,jx,jg,h]
theorem iI.jg(h:iI m t t')(d:Option Tmp){v B:Value}(D:VR m v B):iI m (Go.Proofs.YtocbogeoffeolaaGreatDoor.jg d t v) (Go.Proofs.YtocbogeoffeolaaGreatDoor.jg d t' B):=by
 cases d with
 |none=>exact h
 |some d=>exact h.set d D
theorem Jp(h:iI m t t'){gl:Nat->Prop}(B:∀g,gl g->m.blk g=some g)(x:Operand)(D:iH m.jz gl x):VR m (lG t x) (lG t' x):=by
 cases x with
 |tmp i=>exact h.getD i
 |const v=>exact VR.plain D
 |global g=>exact .ptr (.mk (B g D))
 |func f=>exact .Jk (.func f D) (.nil m) (.nil m)
theorem gP.tape{τ:Nat->Question->Nat}(h:gP E os (tp wl τ) V):gP E os wl V:=by
 intro m Pd ρ gs w sl t fr' cs' O B D U W;exact h m Pd ρ gs w sl t fr' cs' O ⟨B.main.tp τ,B.at_,B.out,B.d0,B.dd,B.cc,B.s0,B.ss,B.Ko,B.low,B.hears,B.nt,B.clean,B.fix,B.f0,B.ff,B.cx,B.sz,B.os,B.kn,B.pd,B.len⟩ D U W
theorem gP.ctl{td B:List Item}(h:∀D cs' w,bQ P true (G (jx fn D td) cs') w=.go (G (jx fn D B) cs') w #[])(U:gP E (⟨fn,tm,B⟩::os) wl V):gP E (⟨fn,tm,td⟩::os) wl V:=by
 refine gP.step (N:=λo w=>o=⟨fn,tm,B⟩::os/\w=wl) (λm w fr' cs' hr W Y=>?_) (λo w ⟨h1,h2⟩=>by rw[h1,h2]; exact U)
 cases W with
 |@cons _ _ D l ht O=>exact⟨m,_,_,w,#[],_,wl,h D cs' w,.refl m,.refl m w,by simp,.cons (o:=⟨fn,tm,B⟩) ht O,Y,rfl,rfl⟩
theorem gP.skip(h:gP E (⟨fn,tm,k⟩::os) wl V):gP E (⟨fn,tm,.code .skip::k⟩::os) wl V:=gP.ctl (λ_ _ _=>rfl) h
theorem gP.seq(h:gP E (⟨fn,tm,.code x::.code y::k⟩::os) wl V):gP E (⟨fn,tm,.code (.seq x y)::k⟩::os) wl V:=gP.ctl (λ_ _ _=>rfl) h
theorem gP.block(h:gP E (⟨fn,tm,.code x::.inBlock id::k⟩::os) wl V):gP E (⟨fn,tm,.code (.block id x)::k⟩::os) wl V:=gP.ctl (λ_ _ _=>rfl) h
theorem gP.inBlock(h:gP E (⟨fn,tm,k⟩::os) wl V):gP E (⟨fn,tm,.inBlock id::k⟩::os) wl V:=gP.ctl (λ_ _ _=>rfl) h
theorem gP.loop(h:gP E (⟨fn,tm,.code x::.inLoop x::k⟩::os) wl V):gP E (⟨fn,tm,.code (.loop x)::k⟩::os) wl V:=gP.ctl (λ_ _ _=>rfl) h
theorem gP.inLoop(h:gP E (⟨fn,tm,.code x::.inLoop x::k⟩::os) wl V):gP E (⟨fn,tm,.inLoop x::k⟩::os) wl V:=gP.ctl (λ_ _ _=>rfl) h
theorem gP.exit{k':List Item}(e:exitTo id k=some k')(h:gP E (⟨fn,tm,k'⟩::os) wl V):gP E (⟨fn,tm,.code (.exit id)::k⟩::os) wl V:=
 gP.ctl (λ_ _ _=>by simp[bQ,cF,G,jx,e]) h
theorem gP.region(h:gP E (⟨fn,tm,.inRegion ops (List.range ops.size)::k⟩::os) wl V):gP E (⟨fn,tm,.code (.region id ops false)::k⟩::os) wl V:=
 gP.ctl (λ_ _ _=>by simp[bQ,cF,G,jx]) h
theorem gP.inRegion(h:gP E (⟨fn,tm,k⟩::os) wl V):gP E (⟨fn,tm,.inRegion ops []::k⟩::os) wl V:=gP.ctl (λ_ _ _=>rfl) h
theorem gP.cond{c:Operand}{b:Bool}(U:wj c)(e:lG tm c=.bool b)(h:gP E (⟨fn,tm,.code (if b then x else y)::k⟩::os) wl V):gP E (⟨fn,tm,.code (.cond c x y)::k⟩::os) wl V:=by
 refine gP.step (N:=λo w=>o=⟨fn,tm,.code (if b then x else y)::k⟩::os/\w=wl) (λm w fr' cs' hr Y hw=>?_) (λo w ⟨h1,h2⟩=>by rw[h1,h2]; exact h)
 cases Y with
 |@cons _ _ B l W D=>
  refine⟨m,_,_,w,#[],_,wl,?_,.refl m,.refl m w,by simp,.cons (o:=⟨fn,tm,.code (if b then x else y)::k⟩) W D,hw,rfl,rfl⟩
  have hv:(jx fn B (.code (.cond c x y)::k)).eval c=.bool b:=by
   rw[FJ]
   cases c with
   |tmp i=>
    have:=W.getD i;have e:tm.getD i cQ=.bool b:=e;rw[e]at this;generalize hq:B.getD i cQ=q at this;cases this;exact hq
   |const v=>exact e
   |global g=>exact U.elim
   |func f=>exact U.elim
  have O:Frame.eval ⟨fn,B,.code (.cond c x y)::k,[],.run,.normal,none⟩ c=.bool b:=hv;simp[bQ,cF,G,jx,O]
theorem gP.Q6(h:∀t,gP E (⟨fn,tm,.inRegion ops (cD (P.follows .mixedOrders) ops t)::k⟩::os) wl V):gP E (⟨fn,tm,.code (.region id ops true)::k⟩::os) wl V:=by
 refine gP.step (N:=λo w=>∃t,o=⟨fn,tm,.inRegion ops (cD (P.follows .mixedOrders) ops t)::k⟩::os/\w=wl) (λm w fr' cs' hr O U=>?_) (λo w ⟨t,W,Y⟩=>by rw[W,Y]; exact h t)
 cases O with
 |@cons _ _ aa l ht B=>
  obtain⟨t,d,e⟩:∃t d,(choose (.order fn id)).run P w=.ok t (w.at d):=by
   by_cases D:(Question.order fn id).forced=true
   .exact⟨0,w.drawn,by simp[choose,Sem.run,D,World.at]⟩
   .exact⟨_,w.drawn+1,by simp[choose,Sem.run,D,World.at]; rfl⟩
  refine⟨m,_,_,w.at d,#[],_,wl,?_,.refl m,ju.at m w d,by simp,.cons (o:=⟨fn,tm,.inRegion ops (cD (P.follows .mixedOrders) ops t)::k⟩) ht B,U.at d,t,rfl,rfl⟩;simp[bQ,cF,G,jx,e]
theorem oA{h:Array Value}{o:Oper}{cs':List Frame}{w:World}(hi:ops[i]?=some o)(B:cC o (bR ops h)=true):bQ P true (G (jx fn h (.inRegion ops (i::rest)::k)) cs') w=cE P true (jx fn h (.inRegion ops (i::rest)::k)) cs' none (bU (lG h) o) w:=by
 have D:=FJ fn h (.inRegion ops (i::rest)::k);have:bQ P true (G (jx fn h (.inRegion ops (i::rest)::k)) cs') w=cF P true true (jx fn h (.inRegion ops (i::rest)::k)) cs' none w:=rfl;rw[this,<-D];unfold cF;simp only[jx,hi,b4,b5,B,if_true];unfold bQ.oper;simp only[Frame.oper?,hi]
theorem gP.pass{o:Oper}(hi:ops[i]?=some o)(U:cC o (bR ops tm)=false)(h:gP E (⟨fn,jg o.dst tm cQ,.inRegion ops rest::k⟩::os) wl V):gP E (⟨fn,tm,.inRegion ops (i::rest)::k⟩::os) wl V:=by
 refine gP.step (N:=λo w=>gP E o w V) (λm w fr' cs' hr O hw=>?_) (λo w h=>h)
 cases O with
 |@cons _ _ B l ht W=>
  have hy:cC o (bR ops B)=false:=by rw[show bR ops B=bR ops tm from funext (oB ops ht)]; exact U
  have D:=lM fn B ops i rest k cQ;simp only[hi,bz]at D
  have Y:bQ P true (G (jx fn B (.inRegion ops (i::rest)::k)) cs') w=.go (G (jx fn (jg o.dst B cQ) (.inRegion ops rest::k)) cs') w #[]:=by
   rw[<-D];have:bQ P true (G (jx fn B (.inRegion ops (i::rest)::k)) cs') w=cF P true true (jx fn B (.inRegion ops (i::rest)::k)) cs' none w:=rfl;rw[this];unfold cF;simp only[jx,hi,b4,b5,hy,cI,if_false,G]
  exact⟨m,_,_,w,_,_,wl,Y,.refl m,.refl m w,by simp,.cons (o:=⟨fn,jg o.dst tm cQ,.inRegion ops rest::k⟩) (ht.jg o.dst (.undef m)) W,hw,h⟩
end
end
section
open Go.Conc
variable {S:LS} {Tc:List Frame} {m:Ren} {w:World}
section
variable {P:Program} {E:Env P} {fn:bS} {tm:Array Value} {os:List OF} {wl:World} {V:List (Nat×Option (List Value))} {k:List Item}
def lE(E:Env P)(S:LS)(os:List OF)(V:List (Nat×Option (List Value))):Prop:=
 ∀m(Pd:Nat->Prop)ρ gs w sl t fr' cs' Tc,Rg E m->Co P E.jv E.w0 Pd ρ m S.w gs w t->QV m ρ Pd V->qh m E.T os Tc->iy P m Tc (S.fr::S.cs) (fr'::cs')->gs[0]?=some (G fr' cs')->E.Z.Up (bB gs w sl) t
theorem Co.tape{jv:Nat->Prop}{w0:World}{Pd:Nat->Prop}{ρ:Nat->iC}{gs:Array Goroutine}{t:bV}(h:Co P jv w0 Pd ρ m wl gs w t)(τ:Nat->Question->Nat):Co P jv w0 Pd ρ m (tp wl τ) gs w t:=
 ⟨h.main.tp τ,h.at_,h.out,h.d0,h.dd,h.cc,h.s0,h.ss,h.Ko,h.low,h.hears,h.nt,h.clean,h.fix,h.f0,h.ff,h.cx,h.sz,h.os,h.kn,h.pd,h.len⟩
theorem lE.tape{τ:Nat->Question->Nat}(h:lE E (S.on τ) os V):lE E S os V:=by
 intro m Pd ρ gs w sl t fr' cs' Tc O U B W D Y;exact h m Pd ρ gs w sl t fr' cs' Tc O (U.tape τ) B W D Y
theorem Rg.tR{fr':Frame}{cs':List Frame}(h:Rg E m)(B:iy P m Tc (S.fr::S.cs) (fr'::cs'))(D:WR m S.w w):xP P E.gl E.st m Tc S fr' cs' w:=⟨h.ry,h.kL,h.open,B,D⟩
theorem lE.pU{Stop:LS->Prop}(hB:AF Stop)(hH:ou P Stop S)(hn:∀S',Stop S'->lE E S' os V):lE E S os V:=by
 intro m Pd ρ gs w sl t fr' cs' Tc hr hc Y ho O h0;have ab:=hH.acc hB ⟨_,_,_,_,_,_,_,hr.tR O hc.main⟩;revert m Pd ρ gs w sl t fr' cs' Tc hH
 induction ab with
 |intro S _ ih=>
  intro hH m Pd ρ gs w sl t fr' cs' Tc hr hc Y ho O h0;by_cases D:Stop S
  .exact hn S D m Pd ρ gs w sl t fr' cs' Tc hr hc Y ho O h0
  .refine turn (Z:=E.Z) (a:=G fr' cs') (K:=λj=>(ρ j).sum) (N:=gs.size) rfl ?_ ρ gs w sl t hc (λ_=>rfl) h0 rfl;intro Uj gs' w' al ac d t' U hK ad hN;have W:=hr.tR O U.main;have ae:=W.Tq hB hH D true;generalize ag:bQ P true (G fr' cs') (w'.at d)=sg at ae
   cases ae with
   |@go S' Ud h B Uc es hg hl af hk he=>
    have ah:=b7 (P:=P) (sl:=ac) (i:=0) ad (show bQ P (0==0) (G fr' cs') (w'.at d)=_ from ag);rw[ah];refine E.Z.next _ _ _ _ ?_;have ai:0<gs'.size:=(bj.1 ad).1;exact ih S' hg (hH.own hB ⟨_,_,_,_,_,_,_,W⟩ hg).2 Ud Pd Uj _ _ ac _ h B Tc (hr.le hl hk) (U.yC (gs':=(gs'.map (woken P (G fr' cs') (G h B) Uc)).setIfInBounds 0 (G h B)) hl hk he af.world (by simp) (jX _)) (Y.le hl hK) (ho.mono hl) af.stack (by simp[ai])
   |@send S' Ud h B Uc es r r' v v' z' hg hl hp hk he=>
    exfalso;obtain⟨f0,am,cap,an,km,ak,ao,_,_,aj,hx,aa⟩:=hp.tR;have:=(aj.nJ r _ ((hr.le hl hk).qD r r' hp.ch)).1;rw[hx]at this;cases this;simp at aa
theorem qh.head{T:List Frame}{o:OF}{l:List Frame}(h:qh m T (o::os) l):∃B O,l=jx o.fn B o.td::O/\iI m o.tm B/\qh m T os O:=by
 cases h with
 |cons U D=>exact⟨_,_,rfl,U,D⟩
def wE(E:Env P)(os:List OF):Prop:=os≠[]\/∀ps,E.T=[ps]->ps.mode≠.panicking [bY]
theorem vU(B:wE E os)(h:qh m E.T os Tc):∀ps,Tc=[ps]->ps.mode≠.panicking [bY]:=by
 cases h with
 |nil=>
  rcases B with x|x
  .exact absurd rfl x
  .exact x
 |cons O D=>
  rintro ps e;cases e;simp[jx]
theorem lE.ret{v:Value}{ops:Array Oper}{i:Nat}{rest:List Nat}{o:Oper}(hi:ops[i]?=some o)(an:S.cs=[door P])(hl:S.fr.leaving P S.w (.returned v))(h:gP E (⟨fn,jg o.dst tm v,.inRegion ops rest::k⟩::os) S.w V):lE E S (⟨fn,tm,.inRegion ops (i::rest)::k⟩::os) V:=by
 intro m Pd ρ gs w sl t fr' cs' Tc ao ap aq aa ac h0;refine turn (Z:=E.Z) (a:=G fr' cs') (K:=λj=>(ρ j).sum) (N:=gs.size) rfl ?_ ρ gs w sl t ap (λ_=>rfl) h0 rfl;intro Uj gs' w' ay ai d t' O hK aj hN;obtain⟨hm,hd,hk,f,hf,U⟩:=hl;have hF:=ac.rX;rw[an]at ac;have ad:=vU (E:=E) (.inl (by simp)) aa;obtain⟨D,l',rfl,ht,ar⟩:=aa.head
 obtain⟨rfl,W⟩:cs'=jx fn D (.inRegion ops (i::rest)::k)::l'/\fr'.kind=.normal:=by
  cases ac with
  |one _ _ hb _=>
   refine⟨rfl,?_⟩;rcases hb with⟨x,_⟩|⟨_,ps,e,x⟩
   .exact x
   .exact absurd x (ad ps e)
  |cons _ _ _ hx=>cases hx
 have B:=hF.mode;have Y:=hF.defers;rw[hm]at B;rw[hd]at Y;have ak:=hF.fn;have ae:=hF.tmps;obtain⟨az,af,ag,a0,a1,a2,ah⟩:=fr';simp only at B Y W ak ae;cases B;cases Y;subst W ak;have al:=(oy (P:=P) (fn:=f) ae).run (tp S.w (along S.w (w'.at d))) (w'.at d) #[] (O.main.tp _) (.inl (rm S.w (w'.at d)))
 have au:(cb f S.fr.tmps).run P (tp S.w (along S.w (w'.at d)))=.ok v (tp S.w (along S.w (w'.at d))):=by
  have am:=(oy (P:=P) (fn:=f) ae).loc S.w (w'.at d) O.main;rcases am with⟨x,Uc,e,_⟩|⟨_,_,h3⟩
  .rw[U]at e; cases e
  .have:=h3 (along S.w (w'.at d)) (by rw[U]; intro i a b; simp only[Dk]at b; omega);rw[U]at this;exact this
 rw[au]at al;obtain⟨Ud,v',Uc,Ug,e1,e2,e3,e4,_,e6,e7⟩:=al;rw[bm]at e1;have ab:=lM fn D ops i rest k v';simp only[hi,bz]at ab
 have av:bQ P true (G ⟨S.fr.fn,af,ag,[],.returning,.normal,ah⟩ (jx fn D (.inRegion ops (i::rest)::k)::l')) (w'.at d)=.go (G (jx fn (jg o.dst D v') (.inRegion ops rest::k)) l') Uc (ca P S.fr.fn Ug):=by
  have:bQ P true (G ⟨S.fr.fn,af,ag,[],.returning,.normal,ah⟩ (jx fn D (.inRegion ops (i::rest)::k)::l')) (w'.at d)=bX P true ⟨S.fr.fn,af,ag,[],.returning,.normal,ah⟩ (jx fn D (.inRegion ops (i::rest)::k)::l') none (w'.at d):=rfl;rw[this];unfold bX;simp only[hf,e1];unfold cd;simp only[ab];simp[cN,G]
 have aw:=b7 (P:=P) (sl:=ai) (i:=0) aj (show bQ P (0==0) _ (w'.at d)=_ from av);rw[aw];refine E.Z.next _ _ _ _ ?_;have ax:0<gs'.size:=(bj.1 aj).1;exact(gP.tape (τ:=along S.w (w'.at d)) (wl:=S.w) (λm Pd ρ gs w sl t fr' cs' a b c d e=>h m Pd ρ gs w sl t fr' cs' a (b.tape S.w.tape) c d e)) Ud Pd Uj _ _ ai _ _ _ (ao.le e2 e6) ((O.yC (gs':=(gs'.map (woken P _ _ Uc)).setIfInBounds 0 _) e2 e6 (λe he=>e7 e (bI he)) e4 (by simp) (jX _)).tape S.w.tape) (aq.le e2 hK) (.cons (o:=⟨fn,jg o.dst tm v,.inRegion ops rest::k⟩) ((ht.mono e2).jg o.dst e3) (ar.mono e2)) (by simp[ax])
end
end
section
open Go.Conc
variable {ops:Array Oper} {as:Array Operand} {ts:Array bW} {tm1:Array Value} {c:Code} {jZ:Func} {f f1:bS} {v:Value}
section
variable {P:Program} {E:Env P} {fn:bS} {tm:Array Value} {os:List OF} {wl:World} {V:List (Nat×Option (List Value))} {k:List Item}
theorem FL(P:Program)(O:P.funcs[f]?=some jZ)(hb:jZ.body=some c)(U:jZ.name≠ "runtime.NumGoroutine") (ρ:Operand->Value) (h:ρ (.func f)=.func (.func f) #[] #[]) {o:Oper} (D:o.op=.call {callee:=.value (.func f),args:=as,argTypes:=ts}) (w:World):(bU ρ o).runT P w #[]=(.ok (.enter f (as.map ρ)) w,#[]):=by
 obtain⟨d,op,W,ps,Y,g⟩:=o;simp only at D;subst D;have B:(jZ.name == "runtime.NumGoroutine")=false:=by simpa using U
 have e:bU ρ ⟨d,.call {callee:=.value (.func f),args:=as,argTypes:=ts},W,ps,Y,g⟩=callFunc f ((#[]++as.map ρ)++#[]):=by
  simp only[bU,resolve,h,Deferred.ofValue,invoke];rfl
 rw[e,bq,bm];unfold callFunc;have e2:∀k:Program->Sem Go.Next,(program >>= k).runT P w #[]=(k P).runT P w #[]:=λk=>rfl;rw[e2];simp only[O,B,hb,cI,if_false,Option.isNone_some];rfl
theorem gP.outer{i:Nat}{rest:List Nat}{o:Oper}(hi:ops[i]?=some o)(W:cC o (bR ops tm)=true)(hf:P.funcs[f]?=some jZ)(hb:jZ.body=some c)(hn:jZ.name≠ "runtime.NumGoroutine") (ho:o.op=.call {callee:=.value (.func f),args:=as,argTypes:=ts}) (Y:∀x∈as.toList,iH E.jz E.gl x)
  (h:gP E (⟨f,as.map (lG tm)++bl (jZ.ntmps-as.size) cQ,[.code c]⟩::⟨fn,tm,.inRegion ops (i::rest)::k⟩::os) wl V):gP E (⟨fn,tm,.inRegion ops (i::rest)::k⟩::os) wl V:=by
 refine gP.step (N:=λo w=>gP E o w V) (λm w fr' cs' hr D hw=>?_) (λo w h=>h);have O:=D
 cases D with
 |@cons _ _ B l ht ac=>
  have hy:cC o (bR ops B)=true:=by rw[show bR ops B=bR ops tm from funext (oB ops ht)]; exact W
  have aa:=oA (P:=P) (fn:=fn) (k:=k) (rest:=rest) (cs':=cs') (w:=w) hi hy;have U:=FL P hf hb hn (lG B) rfl ho w;have ha:iI m (as.map (lG tm)) (as.map (lG B)):=ni (jz:=m.jz) (gl:=E.gl) (λx hx=>Jp ht hr.ry.qG x hx) (λx hx=>by rw[hr.jz]; exact Y x hx)
  have ab:cE P true (jx fn B (.inRegion ops (i::rest)::k)) cs' none (bU (lG B) o) w=.go (G (jx f (as.map (lG B)++bl (jZ.ntmps-as.size) cQ) [.code c]) (jx fn B (.inRegion ops (i::rest)::k)::cs')) w #[]:=by
   unfold cE;simp only[if_true,U];simp[cN,G,jx,cO,hf,hb,ca]
  exact⟨m,_,_,w,#[],_,wl,aa.trans ab,.refl m,.refl m w,by simp,.cons (o:=⟨f,as.map (lG tm)++bl (jZ.ntmps-as.size) cQ,[.code c]⟩) (ha.append (.replicate _ (.undef m))) O,hw,h⟩
theorem Kx{m:Ren}{Pd:Nat->Prop}{ρ:Nat->iC}{gs:Array Goroutine}{w:World}{sl:Option (Nat×Nat)}{t:bV}{D:Array Value}{td1:List Item}{O:List Frame}{i:Nat}{rest:List Nat}{o:Oper}{B:Array Value}{f:Func}
  (ad:Rg E m) (ae:Co P E.jv E.w0 Pd ρ m wl gs w t) (af:QV m ρ Pd V) (ag:iI m tm1 D) (ht:iI m tm B) (ah:qh m E.T os O) (hf:P.funcs[f1]?=some f) (hi:ops[i]?=some o) (Y:∀τ,(cb f tm1).run P (tp wl τ)=.ok v (tp wl τ))
  (h0:gs[0]?=some (G ⟨f1,D,td1,[],.returning,.normal,none⟩ (jx fn B (.inRegion ops (i::rest)::k)::O))) (h:gP E (⟨fn,jg o.dst tm v,.inRegion ops rest::k⟩::os) wl V):E.Z.Up (bB gs w sl) t:=by
 refine turn (Z:=E.Z) (a:=G ⟨f1,D,td1,[],.returning,.normal,none⟩ (jx fn B (.inRegion ops (i::rest)::k)::O)) (K:=λj=>(ρ j).sum) (N:=gs.size) rfl ?_ ρ gs w sl t ae (λ_=>rfl) h0 rfl;intro Uj gs' w' al aa d t' U hK ab hN;have ac:=(oy (P:=P) (fn:=f) ag).run (tp wl (along wl (w'.at d))) (w'.at d) #[] (U.main.tp _) (.inl (rm wl (w'.at d)));rw[Y]at ac;obtain⟨Ud,v',Uc,Ug,e1,e2,e3,e4,_,e6,e7⟩:=ac;rw[bm]at e1;have W:=lM fn B ops i rest k v';simp only[hi,bz]at W
 have ai:bQ P true (G ⟨f1,D,td1,[],.returning,.normal,none⟩ (jx fn B (.inRegion ops (i::rest)::k)::O)) (w'.at d)=.go (G (jx fn (jg o.dst B v') (.inRegion ops rest::k)) O) Uc (ca P f1 Ug):=by
  have:bQ P true (G ⟨f1,D,td1,[],.returning,.normal,none⟩ (jx fn B (.inRegion ops (i::rest)::k)::O)) (w'.at d)=bX P true ⟨f1,D,td1,[],.returning,.normal,none⟩ (jx fn B (.inRegion ops (i::rest)::k)::O) none (w'.at d):=rfl;rw[this];unfold bX;simp only[hf,e1];unfold cd;simp only[W];simp[cN,G]
 have aj:=b7 (P:=P) (sl:=aa) (i:=0) ab (show bQ P (0==0) _ (w'.at d)=_ from ai);rw[aj];refine E.Z.next _ _ _ _ ?_;have ak:0<gs'.size:=(bj.1 ab).1;exact h Ud Pd Uj _ _ aa _ _ _ (ad.le e2 e6) ((U.yC (gs':=(gs'.map (woken P _ _ Uc)).setIfInBounds 0 (G (jx fn (jg o.dst B v') (.inRegion ops rest::k)) O)) e2 e6 (λe he=>e7 e (bI he)) e4 (by simp) (jX _)).tape wl.tape) (af.le e2 hK) (.cons (o:=⟨fn,jg o.dst tm v,.inRegion ops rest::k⟩) ((ht.mono e2).jg o.dst e3) (ah.mono e2)) (by simp[ak])
theorem gP.back{td1:List Item}{i:Nat}{rest:List Nat}{o:Oper}{f:Func}(aa:td1=[]\/∃k1,td1=.code .ret::k1)(hf:P.funcs[f1]?=some f)(hi:ops[i]?=some o)(W:∀τ,(cb f tm1).run P (tp wl τ)=.ok v (tp wl τ))
  (h:gP E (⟨fn,jg o.dst tm v,.inRegion ops rest::k⟩::os) wl V):gP E (⟨f1,tm1,td1⟩::⟨fn,tm,.inRegion ops (i::rest)::k⟩::os) wl V:=by
 intro m Pd ρ gs w sl t fr' cs' ab ac ad B h0;refine turn (Z:=E.Z) (a:=G fr' cs') (K:=λj=>(ρ j).sum) (N:=gs.size) rfl ?_ ρ gs w sl t ac (λ_=>rfl) h0 rfl;intro Uj gs' w' ak ae d t' D hK Y hN
 cases B with
 |@cons _ _ O l af B=>
  obtain⟨U,l',rfl,ht,ag⟩:=B.head
  have ah:bQ P true (G (jx f1 O td1) (jx fn U (.inRegion ops (i::rest)::k)::l')) (w'.at d)=.go (G ⟨f1,O,td1,[],.returning,.normal,none⟩ (jx fn U (.inRegion ops (i::rest)::k)::l')) (w'.at d) #[]:=by
   rcases aa with rfl|⟨k1,rfl⟩<;>rfl
  have ai:=b7 (P:=P) (sl:=ae) (i:=0) Y (show bQ P (0==0) _ (w'.at d)=_ from ah);rw[ai];refine E.Z.next _ _ _ _ ?_;have aj:0<gs'.size:=(bj.1 Y).1;exact Kx (td1:=td1) ab (D.yC (gs':=(gs'.map (woken P _ _ (w'.at d))).setIfInBounds 0 (G ⟨f1,O,td1,[],.returning,.normal,none⟩ (jx fn U (.inRegion ops (i::rest)::k)::l'))) (.refl m) (.refl m _) (by simp) D.main (by simp) (jX _)) (ad.le (.refl m) hK) af ht ag hf hi W (by simp[aj]) h
def zU(ok:Oper->Prop):Item->Prop
 |.code c|.inLoop c|.inScope c=>jy ok c
 |.inBlock _=>True
 |.inRegion ops _=>∀o∈ops.toList,ok o
 |_=>False
theorem zU.R{m:Ren}:∀{td:List Item},(∀x∈td,zU m.ok x)->iu (mq m) td td
 |[],_=>.nil
 |x::td,h=>by
  refine .cons ?_ (zU.R λy D=>h y (by simp[D]))
  have B:=h x (by simp)
  cases x with
  |code c=>exact .code c B
  |inLoop c=>exact .inLoop c B
  |inScope c=>exact .inScope c B
  |inBlock i=>exact .inBlock i
  |inRegion ops t=>exact .inRegion ops t B
  |_=>exact B.elim
theorem gP.tail{td:List Item}(W:∀x∈td,zU E.ok x)(B:wE E os)(h:lE E ⟨jx fn tm td,[door P],wl⟩ os V):gP E (⟨fn,tm,td⟩::os) wl V:=by
 intro m Pd ρ gs w sl t fr' cs' D Y aa O h0;obtain⟨ab,l',e,ht,U⟩:=O.head;cases e;exact h m Pd ρ gs w sl t _ _ cs' D Y aa U (iy.one (fr:=jx fn tm td) (fr':=jx fn ab td) ⟨rfl,ht,zU.R (by rw[D.RO]; exact W),.nil,.run,.none⟩ rfl (.inl ⟨rfl,vU B U⟩) rfl) h0
end
section
variable {P:Program} {Post:Value->World->Prop}
def vX(P:Program)(Post:Value->World->Prop)(M:Machine)(t:bV):Prop:=∃N last o w' t',runNT P (N+1) M t=(.ended o w',t')/\runN P N M=.next last/\step P last=.ended o w'/\Good P Post last o w' t'
theorem BV{M:Machine}{r:Stepped}{ops:Array MemOp}(h:stepT P M=(r,ops)):step P M=r:=by unfold step; rw[h]
def ending(P:Program)(Post:Value->World->Prop):ob P where
 Up:=vX P Post
 Fin:=λM r t=>match r with
  |(.next B,ops)=>vX P Post B (t++ops)
  |(.ended o w',ops)=>Good P Post M o w' (t++ops)
 back:=by
  intro M t h
  rcases hs:stepT P M with⟨r,ops⟩
  rw[hs]at h
  cases r with
  |next B=>
   obtain⟨N,last,o,w',t',D,O,U,W⟩:=h
   refine⟨N+1,last,o,w',t',?_,?_,U,W⟩
   .rw[runNT,hs]; exact D
   .simp only[runN,BV hs]; exact O
  |ended o w'=>exact⟨0,M,o,w',t++ops,by rw[runNT,hs],rfl,BV hs,h⟩
 next:=λ_ _ _ _ h=>h
variable {jv:Nat->Prop} {w0:World} {Pd:Nat->Prop} {ρ:Nat->iC} {m:Ren} {wl:World} {gs:Array Goroutine} {w:World} {t:bV}
theorem Co.over(h:Co P jv w0 Pd ρ m wl gs w t)(B:∀i,(ρ i).sum=none):oz t λ_=>False:=h.nt.mono λi hi=>absurd (B i) hi
theorem Co.lv(h:Co P jv w0 Pd ρ m wl gs w t)(U:∀i,(ρ i).sum=none){i:Nat}{g:Goroutine}(hi:0<i)(W:gs[i]?=some g):∃q,Lv P q g:=by
 have D:=h.at_ i g hi W;have O:=U i
 cases B:ρ i with
 |quit q=>rw[B]at D; exact⟨q,D⟩
 |ended Y J m S q=>rw[B]at D; exact⟨q,D.1⟩
 |act=>rw[B]at O; cases O
 |lY=>rw[B]at O; cases O
 |start=>rw[B]at O; cases O
theorem lE.done{E:Env P}(hZ:E.Z=ending P Post)(hT:E.T=[]){S:LS}(am:S.cs=[door P])(hl:S.fr.leaving P S.w (.returned v))(an:P.inits.idxOf? S.fr.fn=none)
  (ae:∀m v' w,Rg E m->VR m v v'->WR m S.w w->(∀b,E.jv b->w.heap[b]?=E.w0.heap[b]?)->(w.os=E.w0.os/\w.output=E.w0.output)->Post v' w):lE E S [] []:=by
 intro m Pd ρ gs w sl t fr' cs' Tc ao ap aq ai af h0
 have hn:∀i,(ρ i).sum=none:=by
  intro i
  cases e:(ρ i).sum with
  |none=>rfl
  |some x=>
   obtain⟨r,vs,Y,_⟩:=aq.only i x.1 x.2 e;cases Y
 refine turn (Z:=E.Z) (a:=G fr' cs') (K:=λj=>(ρ j).sum) (N:=gs.size) rfl ?_ ρ gs w sl t ap (λ_=>rfl) h0 rfl;intro Uj gs' w' ar au d t' D hK av hN;have ag:∀i,(Uj i).sum=none:=λi=>(hK i).trans (hn i);obtain⟨hm,hd,hk,f,hf,O⟩:=hl;have hF:=af.rX;rw[am]at af
 obtain rfl:Tc=[]:=by
  cases ai;exact hT
 obtain⟨rfl,U⟩:cs'=[]/\fr'.kind=.normal:=by
  cases af with
  |one _ _ hb _=>
   refine⟨rfl,?_⟩;rcases hb with⟨x,_⟩|⟨_,ps,e,x⟩
   .exact x
   .cases e
  |cons _ _ _ Y=>cases Y
 have B:=hF.mode;have W:=hF.defers;rw[hm]at B;rw[hd]at W;have aj:=hF.fn;have ah:=hF.tmps;obtain⟨az,aa,ab,a0,a1,a2,ac⟩:=fr';simp only at B W U aj ah;cases B;cases W;subst U aj;have ak:=(oy (P:=P) (fn:=f) ah).run (tp S.w (along S.w (w'.at d))) (w'.at d) #[] (D.main.tp _) (.inl (rm S.w (w'.at d)))
 have aw:(cb f S.fr.tmps).run P (tp S.w (along S.w (w'.at d)))=.ok v (tp S.w (along S.w (w'.at d))):=by
  have al:=(oy (P:=P) (fn:=f) ah).loc S.w (w'.at d) D.main;rcases al with⟨x,Uc,e,_⟩|⟨_,_,h3⟩
  .rw[O]at e; cases e
  .have:=h3 (along S.w (w'.at d)) (by rw[O]; intro i a b; simp only[Dk]at b; omega);rw[O]at this;exact this
 rw[aw]at ak;obtain⟨Ud,v',Uc,Ug,e1,e2,e3,e4,_,e6,e7⟩:=ak;rw[bm]at e1
 have ax:bQ P true (G ⟨S.fr.fn,aa,ab,[],.returning,.normal,ac⟩ []) (w'.at d)=.ended (.done v') Uc (ca P S.fr.fn Ug):=by
  have:bQ P true (G ⟨S.fr.fn,aa,ab,[],.returning,.normal,ac⟩ []) (w'.at d)=bX P true ⟨S.fr.fn,aa,ab,[],.returning,.normal,ac⟩ [] none (w'.at d):=rfl;rw[this];unfold bX;simp only[hf,e1];unfold cd;simp[cN,an]
 have ay:=runT_many_ended (P:=P) (sl:=au) (i:=0) av (show bQ P (0==0) _ (w'.at d)=_ from ax);rw[ay,hZ];have h:=D.yC (gs':=gs') (fn:=S.fr.fn) (pos:=(G (⟨S.fr.fn,aa,ab,[],.returning,.normal,ac⟩:Frame) []).frame.place) e2 e6 (es:=ca P S.fr.fn Ug) (λe he=>e7 e (bI he)) e4 rfl (λj x _ Y=>⟨x,Y,λ_=>rfl⟩);have ad:=ao.le e2 e6;refine⟨v',rfl,ae Ud v' Uc ad e3 (e4.tp S.w.tape) (λb hb=>(h.fix b hb).2) h.os,h.clean,(h.over ag).over,⟨λx Y=>?_,rfl⟩,λj x Y hj=>?_⟩
 .obtain⟨j,hj⟩:=List.mem_iff_getElem?.1 Y;rw[List.getElem?_drop]at hj;obtain⟨q,hq⟩:=h.lv ag (i:=1+j) (by omega) (by simpa[bB]using hj);exact⟨_,hq.Gy.leaves⟩
 .obtain⟨q,hq⟩:=h.lv ag (i:=j) (by omega) Y;refine⟨q,?_⟩
  have e:∀u:bV,nX u->Goroutine.endsWith P (bB gs' w' ar).world q x (u.deaf j u.size)=some 0:=λu hu=>by
   rw[hu.deaf j _];exact hq.Gy.hears _
  exact e _ h.hears
end
end
section
open Go.Conc
open Go.ConcN (upd upd_same upd_ne)
section
variable {P:Program} {jv:Nat->Prop} {w0:World} {Pd:Nat->Prop} {ρ:Nat->iC} {m Uk:Ren} {wl Uo:World} {gs gs':Array Goroutine} {w Uc:World} {t:bV}
theorem L'{h:Array Obj}{o x:Obj}{r:Nat}(B:h[r]?=some x):(h.push o)[r]?=h[r]?:=iW (mG B)
theorem Co.made(h:Co P jv w0 Pd ρ m wl gs w t)(D:Uc={w with heap:=w.heap.push (.chan 0 #[] false 0 0 false)})(aa:WR Uk Uo Uc)(hb:Uk.blk=m.blk)(hl:Uk.loose=m.loose)(ab:gs'.size=gs.size)
  (ac:∀j x,0<j->gs'[j]?=some x->∃y,gs[j]?=some y/\(At P Uc t j y (ρ j)->x=y)):Co P jv w0 (λc=>Pd c\/c=w.heap.size) ρ Uk Uo gs' Uc t:=by
 subst D;have B:w.heap.size<=(w.heap.push (.chan 0 #[] false 0 0 false)).size:=by simp
 have hrel:∀j y,0<j->gs[j]?=some y->At P {w with heap:=w.heap.push (.chan 0 #[] false 0 0 false)} t j y (ρ j):=by
  intro j y hj hy
  have:=(h.at_ j y hj hy).rely (Uc:={w with heap:=w.heap.push (.chan 0 #[] false 0 0 false)}) (u:=#[]) (λm' O r b hb=>by
   obtain⟨wl',ad⟩:=h.wr O
   exact iW (ad.lt hb).2) (λJ hJ=>by
   obtain⟨cl,s,r,U⟩:=h.is hJ
   exact L' U) B rfl (by simp)
  simpa using this
 refine⟨aa,λj x W U=>?_,λj hj=>h.out j (by rw[<-ab]; exact hj),λi m' O=>?_,h.dd,h.cc,?_,h.ss,h.Ko,λp a b ha hb=>cy (h.low p a b ha hb) B,h.hears,h.nt,h.clean,λb hb=>?_,λr b hr hf=>?_,h.ff,h.cx,c8 h.sz B,h.os,h.kn,λc hc=>?_,h.len⟩
 .obtain⟨y,hy,ae⟩:=ac j x W U;have:=hrel j y W hy;rw[ae this]; exact this
 .have:=h.d0 i m' O;unfold qe at this⊢;rw[hb,hl];exact this
 .have:=h.s0;unfold pt at this⊢;rw[hb,hl];exact this
 .obtain⟨Y,h2⟩:=h.fix b hb;exact⟨cy Y B,by rw[<-h2]; exact iW Y⟩
 .rw[hb]at hr;rw[hl];exact h.f0 r b hr hf
 .rcases hc with hc|rfl
  .obtain⟨⟨s,r,Y⟩,h2,h3,h4⟩:=h.pd c hc;exact⟨⟨s,r,lu Y⟩,h2,h3,h4⟩
  .refine⟨⟨0,0,by simp⟩,λp a ha hb=>?_,λi J hJ e=>?_,λhf=>?_⟩
   .have:=h.low p a _ ha hb;omega
   .obtain⟨cl,s,r,U⟩:=h.is hJ;have:=mG U;omega
   .have:=(h.fix _ hf).1;omega
theorem Ks(h:Array Obj)(o:Obj):(h.push o).setIfInBounds h.size o=h.push o:=by
 apply Array.ext_getElem?;intro j;by_cases e:h.size=j
 .subst e; simp
 .rw[bb e]
theorem Co.spawn{Ur Uu:Nat->Prop}{J:pz}{mi:Ren}{S:LS}{k:Nat}{g' child:Goroutine}{a b:MemOp}(h:Co P jv w0 Pd ρ m wl gs w t)(h0:0<gs.size)(hF:∀b,Ur b->jv b)(hP:∀c,Uu c->Pd c/\c≠J.c)(hJ:Pd J.c)
  (ha:a.g=0) (ac:a.act=.go gs.size) (hb:b.g=gs.size) (ad:b.act=.start) (ai:WR Uk Uo w) (ab:∀r q,Uk.blk r=some q->∃r0,m.blk r0=some q/\(m.loose r0->Uk.loose r))
  (af:∀r q,mi.blk r=some q->(∃r0,m.blk r0=some q/\(m.loose r0->mi.loose r))\/(jv q/\(∀r0,m.blk r0≠some q)/\∀j m' r',(ρ j).oe=some m'->m'.blk r'≠some q)) (aj:qe Uk mi) (ak:∀r q,mi.blk r=some q->Ur q->mi.loose r) (ag:∀b,jv b->Ur b\/∃r o,J.mT r b o/\w0.heap[b]?=some o)
  (al:At P w (t++#[a,b]) gs.size child (.start J mi S k)) :
  Co P Ur w0 Uu (ck ρ gs.size (.start J mi S k)) Uk Uo ((gs.setIfInBounds 0 g').push child) w (t++#[a,b]):=by
 have hold:ρ gs.size=.quit 0:=h.out _ (.inr (c7 _))
 have hu:∀op∈(#[a,b]:Array MemOp),op.act.touch?=none:=by
  intro op U;simp only[cr,cm,cn,or_false]at U;rcases U with rfl|rfl
  .rw[ac]; rfl
  .rw[ad]; rfl
 have hh:nX (t++#[a,b]):=h.hears.append λop U=>by
  simp only[cr,cm,cn,or_false]at U;rcases U with rfl|rfl
  .rw[ac]; simp
  .rw[ad]; simp
 obtain⟨ar,am,ah,an⟩:=h.pd J.c hJ
 have di:∀j m',(ρ j).oe=some m'->qe mi m':=by
  intro j m' B r r' q O h2;rcases af r q O with⟨r0,x,y⟩|⟨_,_,x⟩
  .obtain⟨l1,l2⟩:=h.d0 j m' B r0 r' q x h2;exact⟨y l1,l2⟩
  .exact absurd h2 (x j m' r' B)
 have kr:∀j m',(ck ρ gs.size (.start J mi S k) j).oe=some m'->(j=gs.size/\m'=mi)\/(j≠gs.size/\(ρ j).oe=some m'):=λj m' D=>by
  by_cases e:j=gs.size
  .subst e; rw[ci]at D; cases D; exact .inl ⟨rfl,rfl⟩
  .rw[cj _ _ e]at D; exact .inr ⟨e,D⟩
 have kj:∀j J',(ck ρ gs.size (.start J mi S k) j).ru=some J'->(j=gs.size/\J'=J)\/(j≠gs.size/\(ρ j).ru=some J'):=λj J' D=>by
  by_cases e:j=gs.size
  .subst e; rw[ci]at D; cases D; exact .inl ⟨rfl,rfl⟩
  .rw[cj _ _ e]at D; exact .inr ⟨e,D⟩
 refine⟨ai,λj x ao D=>?_,λj hj=>?_,λj m' B=>?_,λj l m1 m2 aa O h2=>?_,λj l J1 J2 aa O h2=>?_,?_,λj m' B=>?_,λj J' W p x D Y=>?_,λp x q D Y=>?_,hh,?_,λsaid=>?_,λq Y=>h.fix q (hF q Y),λr q hr hf=>?_,λj m' B r q hr hf=>?_,λj J' W hf=>?_,h.sz,h.os,?_,λc hc=>?_,λb hb=>?_⟩
 .by_cases e:j=gs.size
  .subst e;rw[ci];have:((gs.setIfInBounds 0 g').push child)[gs.size]?=some child:=by rw[bt]; simp
   rw[this]at D;cases D;exact al
  .rw[cj _ _ e]
   have au:j<gs.size:=by
    have:=(bj.1 D).1;simp at this;omega
   have:gs[j]?=some x:=by
    rw[bt]at D;simp only[Array.size_setIfInBounds]at D;rw[if_neg e,bb (by omega)]at D;exact D
   exact(h.at_ j x ao this).rely (λ_ _ _ _ _=>rfl) (λ_ _=>rfl) (c7 _) rfl λop U _=>hu op U
 .have aa:j≠gs.size:=by
   rcases hj with x|x
   .omega
   .simp at x; omega
  rw[cj _ _ aa];exact h.out j (hj.imp id λx=>by simp at x; omega)
 .rcases kr j m' B with⟨_,em⟩|⟨_,B⟩
  .rw[em]; exact aj
  .intro r r' q O h2;obtain⟨r0,x,y⟩:=ab r q O;obtain⟨l1,l2⟩:=h.d0 j m' B r0 r' q x h2;exact⟨y l1,l2⟩
 .rcases kr j m1 O with⟨ej,em⟩|⟨ej,x1⟩
  .rcases kr l m2 h2 with⟨el,_⟩|⟨_,x2⟩
   .exact absurd (ej.trans el.symm) aa
   .rw[em]; exact di l m2 x2
  .rcases kr l m2 h2 with⟨el,em⟩|⟨_,x2⟩
   .rw[em]; exact(di j m1 x1).symm
   .exact h.dd j l m1 m2 aa x1 x2
 .rcases kj j J1 O with⟨ej,em⟩|⟨ej,x1⟩
  .rcases kj l J2 h2 with⟨el,_⟩|⟨_,x2⟩
   .exact absurd (ej.trans el.symm) aa
   .rw[em]; exact cP (ah l J2 x2)
  .rcases kj l J2 h2 with⟨el,em⟩|⟨_,x2⟩
   .rw[em]; exact ah j J1 x1
   .exact h.cc j l J1 J2 aa x1 x2
 .refine pt.mute (λp x q r D Y hr ae=>?_) hu;obtain⟨r0,y,z⟩:=ab r q hr;exact h.s0 p x q r0 D Y y λl=>ae (z l)
 .by_cases e:j=gs.size
  .subst e;rw[ci]at B;cases B;intro p x q r D Y hr ae;rcases iG D with⟨_,O⟩|⟨op,O,_,h3⟩
   .refine Fz hh ha ac hb ad ?_;rcases af r q hr with⟨r0,y,z⟩|⟨y,_,z⟩
    .exact h.s0 p x q r0 O Y y λl=>ae (z l)
    .rcases h.kn p x q O Y y with v|⟨j',m',r',v1,v2⟩
     .exact v
     .exact absurd v2 (z j' m' r' v1)
   .rw[hu op O]at h3; cases h3
  .rw[cj _ _ e]at B;exact(h.ss j m' B).mute hu
 .rcases iG D with⟨_,O⟩|⟨op,O,_,h3⟩
  .rcases kj j J' (iC.vF W)with⟨_,em⟩|⟨e,_⟩
   .rw[em]at Y; exact am p x O Y
   .rw[cj _ _ e]at W;exact h.Ko j J' W p x O Y
  .rw[hu op O]at h3; cases h3
 .rcases iG D with⟨_,O⟩|⟨op,O,_,h3⟩
  .exact h.low p x q O Y
  .rw[hu op O]at h3; cases h3
 .refine(h.nt.mono λj hj=>?_).app λop U=>.inl (hu op U);by_cases e:j=gs.size
  .subst e; rw[hold]at hj; exact absurd rfl hj
  .rw[cj _ _ e]; exact hj
 .have:=tb (u:=[a,b]) (by simpa using hu) (h.clean said);simpa using this
 .obtain⟨r0,y,z⟩:=ab r q hr;exact z (h.f0 r0 q y (hF q hf))
 .rcases kr j m' B with⟨_,em⟩|⟨_,B⟩
  .rw[em]at hr⊢; exact ak r q hr hf
  .exact h.ff j m' B r q hr (hF q hf)
 .rcases kj j J' W with⟨_,em⟩|⟨_,W⟩
  .rw[em]at hf; exact an (hF _ hf)
  .exact h.cx j J' W (hF _ hf)
 .intro p x q D Y hf;have hk:Kn jv (ck ρ gs.size (.start J mi S k)) (t++#[a,b]):=h.kn.app (λj m' r q B Y=>⟨j,m',r,by rw[cj _ _ (by rintro rfl; rw[hold]at B; cases B)]; exact B,Y⟩) λop U x q D _ _=>by rw[hu op U]at D; cases D
  exact hk p x q D Y (hF q hf)
 .obtain⟨ap,aq⟩:=hP c hc;obtain⟨g1,g2,g3,g4⟩:=h.pd c ap;refine⟨g1,λp x D Y=>?_,λj J' W=>?_,λhf=>g4 (hF c hf)⟩
  .rcases iG D with⟨_,O⟩|⟨op,O,_,h3⟩
   .exact g2 p x O Y
   .rw[hu op O]at h3; cases h3
  .rcases kj j J' W with⟨_,em⟩|⟨_,W⟩
   .rw[em]; exact cP aq
   .exact g3 j J' W
 .rcases h.len b hb with x|⟨j,J',r,o,x1,x2⟩|z
  .rcases ag b x with y|⟨r,o,y1,y2⟩
   .exact .inl y
   .exact .inr (.inl ⟨gs.size,J,r,o,by rw[ci]; rfl,y1,y2⟩)
  .exact .inr (.inl ⟨j,J',r,o,by rw[cj _ _ (by rintro rfl; rw[hold]at x1; cases x1)]; exact x1,x2⟩)
  .exact .inr (.inr z)
end
end
section
open Go.Conc
open Go.ConcN (upd upd_same upd_ne)
variable {ops:Array Oper}
def nk:Obj:=.chan 0 #[] false 0 0 false
section
variable {P:Program} {E:Env P} {fn:bS} {tm:Array Value} {os:List OF} {wl:World} {V:List (Nat×Option (List Value))} {k:List Item}
theorem gP.makeChan{i:Nat}{rest:List Nat}{o:Oper}(hi:ops[i]?=some o)(ah:cC o (bR ops tm)=true)
  (ai:∀(B:Array Value)(w:World),(bU (lG B) o).runT P w #[]=(.ok (.value (.chan (some w.heap.size))) {w with heap:=w.heap.push (.chan 0 #[] false 0 0 false)},#[]))
  (h:gP E (⟨fn,jg o.dst tm (.chan (some wl.heap.size)),.inRegion ops rest::k⟩::os) {wl with heap:=wl.heap.push nk} ((wl.heap.size,none)::V)):gP E (⟨fn,tm,.inRegion ops (i::rest)::k⟩::os) wl V:=by
 intro m Pd ρ gs w sl t fr' cs' O aj ak ad h0;refine turn (Z:=E.Z) (a:=G fr' cs') (K:=λj=>(ρ j).sum) (N:=gs.size) rfl ?_ ρ gs w sl t aj (λ_=>rfl) h0 rfl;intro Uj gs' w' au ae d t' aa hK af hN
 cases ad with
 |@cons _ _ B l ht al=>
  have hy:cC o (bR ops B)=true:=by rw[show bR ops B=bR ops tm from funext (oB ops ht)]; exact ah
  have am:=oA (P:=P) (fn:=fn) (k:=k) (rest:=rest) (cs':=cs') (w:=w'.at d) hi hy;have ab:=lM fn B ops i rest k (.chan (some (w'.at d).heap.size));simp only[hi,bz]at ab
  have an:cE P true (jx fn B (.inRegion ops (i::rest)::k)) cs' none (bU (lG B) o) (w'.at d)=.go (G (jx fn (jg o.dst B (.chan (some (w'.at d).heap.size))) (.inRegion ops rest::k)) cs') {w'.at d with heap:=(w'.at d).heap.push (.chan 0 #[] false 0 0 false)} #[]:=by
   unfold cE;simp only[if_true,ai,ab];simp[cN,G,jx,ca]
  have ao:=b7 (P:=P) (sl:=ae) (i:=0) af (show bQ P (0==0) _ (w'.at d)=_ from am.trans an);have e0:∀f p,cG 0 f p #[]=#[]:=λf p=>by rw[bD]; simp
  rw[ao,e0];refine E.Z.next _ _ _ _ ?_;rw[bq];have ap:0<gs'.size:=(bj.1 af).1;have U:=aa.main;let Ud:=m.uD wl.heap.size (w'.at d).heap.size U.qj U.oO;let Uk:=Ud.put wl.heap.size nk;have D:m.Le Uk:=(Ren.yI U.qj U.oO).trans (Ren.qE Ud _ _)
  have aq:WR Uk {wl with heap:=wl.heap.push nk} {w'.at d with heap:=(w'.at d).heap.push (.chan 0 #[] false 0 0 false)}:=by
   have:=(U.Nm nk (.chan 0 #[] false 0 0 false)).put (r:=wl.heap.size) (o:=nk) ⟨_,_,_,_,_,_,rfl⟩ ⟨0,#[],false,0,0,false,by simp[nk]⟩;have e:({wl with heap:=wl.heap.push nk}:World)={({wl with heap:=wl.heap.push nk}:World)with heap:=(wl.heap.push nk).setIfInBounds wl.heap.size nk}:=by rw[Ks]
   rw[e];exact this
  have ac:Uk.ch wl.heap.size=some (w'.at d).heap.size:=by simp[Uk,Ud,Ren.put,Ren.uD]
  have Y:Rg E Uk:=by
   refine⟨O.ry.mono D,by rw[D.kL]; exact O.kL,λr r' hr=>?_,D.jz.trans O.jz,D.ok.trans O.RO,E.le m Uk D O.x⟩;by_cases e:r=wl.heap.size
   .subst e; simp[Uk,Ren.put,nk]
   .have ar:m.ch r=some r':=by simpa[Uk,Ud,Ren.put,Ren.uD,e]using hr
    simpa[Uk,Ud,Ren.put,Ren.uD,e]using O.qD r r' ar
  have ag:=aa.made (Uk:=Uk) (gs':=(gs'.map (woken P (G (jx fn B (.inRegion ops (i::rest)::k)) cs') (G (jx fn (jg o.dst B (.chan (some (w'.at d).heap.size))) (.inRegion ops rest::k)) cs') {w'.at d with heap:=(w'.at d).heap.push (.chan 0 #[] false 0 0 false)})).setIfInBounds 0 (G (jx fn (jg o.dst B (.chan (some (w'.at d).heap.size))) (.inRegion ops rest::k)) cs')) rfl aq rfl rfl (by simp) (jX _);have W:=ak.le D hK;refine h Uk _ Uj _ _ ae _ _ _ Y ag ⟨λr vs hr=>?_,λi J n hi=>?_,λr hr=>?_⟩ (.cons (o:=⟨fn,jg o.dst tm (.chan (some wl.heap.size)),.inRegion ops rest::k⟩) ((ht.mono D).jg o.dst (.chan ac)) (al.mono D)) (by simp[ap])
  .exact W.all r vs (by simpa using hr)
  .obtain⟨r,vs,x,y⟩:=W.only i J n hi;exact⟨r,vs,by simp[x],y⟩
  .simp only[cm,Prod.mk.injEq,and_true]at hr;rcases hr with rfl|hr
   .exact⟨_,ac,.inr rfl⟩
   .obtain⟨c,x,y⟩:=W.LU r hr;exact⟨c,x,.inl y⟩
structure Sends(E Uf:Env P)(f:bS)(caps:Array Value)(os Ut:List OF)(wl Uo:World)(rc:Nat)(L:List Value):Prop where
 z:Uf.Z=E.Z
 t:Uf.T=E.T
 w:Uf.w0=E.w0
 fix:∀b,Uf.jv b->E.jv b
 flat:∀v∈L,∀(m:Ren)v',VR m v v'->v'=v
 go:∀m caps' w c,Rg E m->iI m caps caps'->WR m wl w->m.ch rc=some c->jJ w c false->(∀b,E.jv b->w.heap[b]?=E.w0.heap[b]?)->∃(J:pz)(mi:Ren)(S:LS)(k:Nat)(Uk:Ren),J.c=c/\J.L=L/\J.Ok P/\J.Ren mi/\ou P J.Stop S/\Holds S J.r []/\WR mi S.w w/\sN P J mi S k (nL P ⟨.fn (.func f) caps',#[]⟩)/\
  Rg Uf Uk/\WR Uk Uo w/\Uk.ch=m.ch/\(∀l,qh m E.T os l->qh Uk E.T Ut l)/\(∀r q,Uk.blk r=some q->∃r0,m.blk r0=some q/\(m.loose r0->Uk.loose r))/\
  (∀r q,mi.blk r=some q->(∃r0,m.blk r0=some q/\(m.loose r0->mi.loose r))\/(E.jv q/\(∀r0,m.blk r0≠some q)/\¬Uf.jv q))/\qe Uk mi/\(∀r q,mi.blk r=some q->Uf.jv q->mi.loose r)/\(∀b,E.jv b->Uf.jv b\/∃r o,J.mT r b o/\E.w0.heap[b]?=some o)
theorem DK(P:Program)(f:bS)(cx:Array Operand)(ρ:Operand->Value){o:Oper}(h:o.op=.makeFunc (.func f) #[] cx)(w:World):(bU ρ o).runT P w #[]=(.ok (.value (.func (.func f) #[] (cx.map ρ))) w,#[]):=by
 obtain⟨d,op,B,ps,D,g⟩:=o;simp only at h;subst h;have e:bU ρ ⟨d,.makeFunc (.func f) #[] cx,B,ps,D,g⟩=(Instr.makeFunc (.func f) ((#[]:Array Operand).map ρ) (cx.map ρ) >>= λv=>pure (.value v)):=rfl;have O:(#[]:Array Operand).map ρ=#[]:=by simp
 rw[e,O];rfl
theorem R8(P:Program)(f:bS)(q:Tmp)(cap:Array Value)(ρ:Operand->Value){o:Oper}(h:o.op=.go {callee:=.value (.tmp q),args:=#[],argTypes:=#[]})(B:ρ (.tmp q)=.func (.func f) #[] cap)(w:World):(bU ρ o).runT P w #[]=(.ok (.spawn ⟨.fn (.func f) cap,#[]⟩) w,#[]):=by
 obtain⟨d,op,D,ps,O,g⟩:=o;simp only at h;subst h;have U:(#[]:Array Operand).map ρ=#[]:=by simp
 have e:bU ρ ⟨d,.go {callee:=.value (.tmp q),args:=#[],argTypes:=#[]},D,ps,O,g⟩=(Deferred.ofValue (ρ (.tmp q)) ((#[]:Array Operand).map ρ) >>= λd=>pure (.spawn d)):=rfl;rw[e,U,B];rfl
theorem gP.go{Uf:Env P}{i j:Nat}{rest:List Nat}{oi oj:Oper}{f:bS}{q:Tmp}{cx:Array Operand}{Ut:List OF}{Uo:World}{rc:Nat}{L:List Value}{Uv:List (Nat×Option (List Value))}(hi:ops[i]?=some oi)(hj:ops[j]?=some oj)(gi:oi.guard=none)(gj:oj.guard=none)(a':oi.op=.makeFunc (.func f) #[] cx)(aA:oi.dst=some q)(aB:oj.op=.go {callee:=.value (.tmp q),args:=#[],argTypes:=#[]})(aC:oj.dst=none)(aD:∀x∈cx.toList,iH E.jz E.gl x)(aE:q<tm.size)
  (hS:Sends E Uf f (cx.map (lG tm)) (⟨fn,tm.setIfInBounds q (.tuple #[]),.inRegion ops rest::k⟩::os) Ut wl Uo rc L) (al:∀q,E.jv q->¬Uf.jv q->∀m Pd ρ gs w t,Rg E m->Co P E.jv E.w0 Pd ρ m wl gs w t->QV m ρ Pd V->∀j m' r',(ρ j).oe=some m'->m'.blk r'≠some q)
  (hV:(rc,none)∈V) (W:∀x∈Uv,x=(rc,some L)\/(x∈V/\x≠(rc,none))) (am:(rc,some L)∈Uv) (an:∀r vs,(r,some vs)∈V->(r,some vs)∈Uv)
  (h:gP Uf Ut Uo Uv):gP E (⟨fn,tm,.inRegion ops (i::j::rest)::k⟩::os) wl V:=by
 intro m Pd ρ gs w sl t fr' cs' ae aF Y aa h0;refine turn (Z:=E.Z) (a:=G fr' cs') (K:=λj=>(ρ j).sum) (N:=gs.size) rfl ?_ ρ gs w sl t aF (λ_=>rfl) h0 rfl;intro az ao w1 aS ai d1 t1 ab aG ap aT
 cases aa with
 |@cons _ _ B l ht aH=>
  have aI:∀ac:Array Value,cC oi (bR ops ac)=true:=λ_=>by simp[cC,gi]
  have aJ:∀ac:Array Value,cC oj (bR ops ac)=true:=λ_=>by simp[cC,gj]
  have aq:=oA (P:=P) (fn:=fn) (k:=k) (rest:=j::rest) (cs':=cs') (w:=w1.at d1) hi (aI B);have O:=lM fn B ops i (j::rest) k (.func (.func f) #[] (cx.map (lG B)));simp only[hi,bz,aA,jg]at O
  have ar:cE P true (jx fn B (.inRegion ops (i::j::rest)::k)) cs' none (bU (lG B) oi) (w1.at d1)=.go (G (jx fn (B.setIfInBounds q (.func (.func f) #[] (cx.map (lG B)))) (.inRegion ops (j::rest)::k)) cs') (w1.at d1) #[]:=by
   unfold cE;simp only[if_true,DK P f cx (lG B) a',O];simp[cN,G,jx,ca]
  have af:=b7 (P:=P) (sl:=ai) (i:=0) ap (show bQ P (0==0) _ (w1.at d1)=_ from aq.trans ar);rw[af];refine E.Z.next _ _ _ _ ?_;have a0:0<ao.size:=(bj.1 ap).1;refine turn (Z:=E.Z) (a:=G (jx fn (B.setIfInBounds q (.func (.func f) #[] (cx.map (lG B)))) (.inRegion ops (j::rest)::k)) cs') (K:=λj=>(az j).sum) (N:=ao.size) rfl ?_ az _ _ ai _ (ab.yC (gs':=(ao.map (woken P _ _ (w1.at d1))).setIfInBounds 0 (G (jx fn (B.setIfInBounds q (.func (.func f) #[] (cx.map (lG B)))) (.inRegion ops (j::rest)::k)) cs')) (.refl m) (.refl m _) (by simp) ab.main (by simp) (jX _)) (λ_=>rfl) (by simp[a0]) (by simp);clear af ap ab;intro Uj gs' w' aU a1 d0 t' D aK a2 hN;have hK:∀j,(Uj j).sum=(ρ j).sum:=λj=>(aK j).trans (aG j);have aq:=oA (P:=P) (fn:=fn) (k:=k) (rest:=rest) (cs':=cs') (w:=w'.at d0) hj (aJ (B.setIfInBounds q (.func (.func f) #[] (cx.map (lG B)))));have aL:q<B.size:=by rw[<-ht.size]; exact aE
  have aM:lG (B.setIfInBounds q (.func (.func f) #[] (cx.map (lG B)))) (.tmp q)=.func (.func f) #[] (cx.map (lG B)):=by
   show(B.setIfInBounds q _).getD q cQ=_;rw[br,bp aL];rfl
  have a3:=R8 P f q (cx.map (lG B)) (lG (B.setIfInBounds q (.func (.func f) #[] (cx.map (lG B))))) aB aM (w'.at d0);have au:iI m (cx.map (lG tm)) (cx.map (lG B)):=ni (jz:=m.jz) (gl:=E.gl) (λx hx=>Jp ht ae.ry.qG x hx) (λx hx=>by rw[ae.jz]; exact aD x hx);have O:=lM fn (B.setIfInBounds q (.func (.func f) #[] (cx.map (lG B)))) ops j rest k cQ;simp only[hj,bz,aC,jg]at O
  have ar:cE P true (jx fn (B.setIfInBounds q (.func (.func f) #[] (cx.map (lG B)))) (.inRegion ops (j::rest)::k)) cs' none (bU (lG (B.setIfInBounds q (.func (.func f) #[] (cx.map (lG B))))) oj) (w'.at d0)=.spawn (G (jx fn (B.setIfInBounds q (.func (.func f) #[] (cx.map (lG B)))) (.inRegion ops rest::k)) cs') (nL P ⟨.fn (.func f) (cx.map (lG B)),#[]⟩) (w'.at d0) #[]:=by
   unfold cE;simp only[if_true,a3,O,Bool.and_false,Bool.false_and,cI,if_false];simp[cN,G,jx,ca,nL]
  have af:=runT_crowd_spawn (P:=P) (sl:=a1) (i:=0) a2 (show bQ P (0==0) _ (w'.at d0)=_ from aq.trans ar);have e0:∀f p,cG 0 f p #[]=#[]:=λf p=>by rw[bD]; simp
  rw[af,e0];refine E.Z.next _ _ _ _ ?_;have a4:0<gs'.size:=(bj.1 a2).1;obtain⟨c,ag,a5⟩:=Y.LU rc hV;obtain⟨aj,aV,aW,aX⟩:=D.pd c a5;have aa:qh m E.T (⟨fn,tm.setIfInBounds q (.tuple #[]),.inRegion ops rest::k⟩::os) (jx fn (B.setIfInBounds q (.func (.func f) #[] (cx.map (lG B)))) (.inRegion ops rest::k)::cs'):=.cons (o:=⟨fn,tm.setIfInBounds q (.tuple #[]),.inRegion ops rest::k⟩) (ht.set q (.jC _ trivial)) aH;obtain⟨J,mi,S,ks,Uk,rfl,a6,aN,a7,av,aw,aO,ad,ah,ax,U,ay,a8,aP,aQ,aR,a9⟩:=hS.go m (cx.map (lG B)) (w'.at d0) c ae au D.main ag aj λb hb=>(D.fix b hb).2
  have ak:=D.spawn (Ur:=Uf.jv) (Uu:=λc=>Pd c/\c≠J.c) (g':=G (jx fn (B.setIfInBounds q (.func (.func f) #[] (cx.map (lG B)))) (.inRegion ops rest::k)) cs') (child:=nL P ⟨.fn (.func f) (cx.map (lG B)),#[]⟩) (J:=J) (mi:=mi) (S:=S) (k:=ks)
   (a:={g:=0,fn:=(G (jx fn (B.setIfInBounds q (.func (.func f) #[] (cx.map (lG B)))) (.inRegion ops (j::rest)::k)) cs').frame.fn,pos:=(G (jx fn (B.setIfInBounds q (.func (.func f) #[] (cx.map (lG B)))) (.inRegion ops (j::rest)::k)) cs').frame.place,act:=.go gs'.size}) (b:={g:=gs'.size,fn:=(nL P ⟨.fn (.func f) (cx.map (lG B)),#[]⟩).frame.fn,pos:=(G (jx fn (B.setIfInBounds q (.func (.func f) #[] (cx.map (lG B)))) (.inRegion ops (j::rest)::k)) cs').frame.place,act:=.start}) a4 hS.fix (λc hc=>hc) a5 rfl rfl rfl rfl ax a8 (λr q hr=>?_) aQ aR a9 ⟨aN,aj,a7,av,aw,aO,ad⟩
  .rw[<-hS.z];rw[<-hS.w]at ak;have hold:Uj gs'.size=.quit 0:=D.out _ (.inr (c7 _))
   refine h Uk _ _ _ _ a1 _ _ _ ah ak ⟨λr vs hr=>?_,λj J' n hj=>?_,λr hr=>?_⟩ (by rw[hS.t]; exact ay _ aa) (by
    rw[bt,if_neg (by simp; omega)]
    simp[a4])
   .rcases W _ hr with x|⟨x,_⟩
    .cases x;refine⟨gs'.size,J,0,by rw[ci]; rfl,by rw[U]; exact ag,Nat.zero_le _,by rw[a6]; rfl,by rw[a6]; exact hS.flat⟩
    .obtain⟨j,J',n,x1,x2,x3⟩:=Y.all r vs x
     have hj:j≠gs'.size:=by
      rintro rfl;rw[<-hK,hold]at x1;cases x1
     exact⟨j,J',n,by rw[cj _ _ hj,hK]; exact x1,by rw[U]; exact x2,x3⟩
   .by_cases e:j=gs'.size
    .subst e;rw[ci]at hj;cases hj;exact⟨rc,L,am,by rw[U]; exact ag⟩
    .rw[cj _ _ e,hK]at hj;obtain⟨r,vs,x,y⟩:=Y.only j J' n hj;exact⟨r,vs,an r vs x,by rw[U]; exact y⟩
   .rcases W _ hr with x|⟨x,y⟩
    .cases x
    .obtain⟨c,x1,x2⟩:=Y.LU r x;refine⟨c,by rw[U]; exact x1,x2,?_⟩;rintro rfl;have:=m.wD _ _ _ x1 ag;subst this;exact y rfl
  .rcases aP r q hr with x|⟨x1,x2,x3⟩
   .exact .inl x
   .exact .inr ⟨x1,x2,al q x1 x3 m Pd Uj gs' (w'.at d0) t' ae D (Y.le (.refl m) hK)⟩
end
end
section
open Go.Conc
open Go.ConcN (upd upd_same upd_ne)
variable {v z:Value}
inductive Flat:Value->Prop
 |bool (b):Flat (.bool b)
 |int (k n):Flat (.int k n)
 |string (s):Flat (.string s)
 |agg {c:Array Value}:(∀i(h:i<c.size),Flat c[i])->Flat (.agg c)
theorem Flat.refl(h:Flat v)(m:Ren):VR m v v:=by
 induction h with
 |bool b=>exact .bool b
 |int k n=>exact .int k n
 |string s=>exact .string s
 |agg _ B=>exact .agg rfl λi h _=>B i h
theorem Flat.eq(h:Flat v):∀(m:Ren)D,VR m v D->D=v:=by
 induction h with
 |bool b=>intro m D B; cases B; rfl
 |int k n=>intro m D B; cases B; rfl
 |string s=>intro m D B; cases B; rfl
 |@agg c _ U=>
  intro m D B
  cases B with
  |@agg _ c' W hi=>
   congr 1;refine bv W.symm λi Y O=>?_;exact U i O m _ (hi i O Y)
def yr(z:Value)(k:Nat)(v:Value)(ok:Bool):Value:=
 .tuple #[goInt k,.bool ok,if k=0 then v else z,if k=1 then v else z,if k=2 then v else z,if k=3 then v else z,if k=4 then v else z,if k=5 then v else z,if k=6 then v else z]
theorem QB(z:Value)(c0 c1 c2 c3 c4 c5 h:Value)(k:Nat)(v:Value)(ok:Bool):cf #[⟨c0,none,z⟩,⟨c1,none,z⟩,⟨c2,none,z⟩,⟨c3,none,z⟩,⟨c4,none,z⟩,⟨c5,none,z⟩,⟨h,none,z⟩] .select (k:Int) v ok=yr z k v ok:=by
 have B:((0:Int)=(k:Int))=(k=0):=by rw[eq_iff_iff]; omega
 have D:((1:Int)=(k:Int))=(k=1):=by rw[eq_iff_iff]; omega
 have O:((2:Int)=(k:Int))=(k=2):=by rw[eq_iff_iff]; omega
 have U:((3:Int)=(k:Int))=(k=3):=by rw[eq_iff_iff]; omega
 have W:((4:Int)=(k:Int))=(k=4):=by rw[eq_iff_iff]; omega
 have Y:((5:Int)=(k:Int))=(k=5):=by rw[eq_iff_iff]; omega
 have e6:((6:Int)=(k:Int))=(k=6):=by rw[eq_iff_iff]; omega
 simp[cf,yr,List.zipIdx,B,D,O,U,W,Y,e6]
theorem OA(h:Flat z)(B:Flat v)(k:Nat)(ok:Bool)(m:Ren):VR m (yr z k v ok) (yr z k v ok):=by
 have one:∀n,VR m (if k=n then v else z) (if k=n then v else z):=λn=>by
  split
  .exact B.refl m
  .exact h.refl m
 refine VR.nO (iu.cons (.int _ _) (.cons (.bool ok) (.cons (one 0) (.cons (one 1) (.cons (one 2) (.cons (one 3) (.cons (one 4) (.cons (one 5) (.cons (one 6) .nil)))))))))
def tK(V:List (Nat×Option (List Value)))(r:Nat)(vs:List Value):List (Nat×Option (List Value)):=V.map λx=>if x.1=r then(r,some vs)else x
def uo(V:List (Nat×Option (List Value)))(r:Nat):List (Nat×Option (List Value)):=V.filter λx=>x.1≠r
section
variable {P:Program} {E:Env P} {fn:bS} {tm:Array Value} {os:List OF} {wl:World} {V:List (Nat×Option (List Value))} {k:List Item}
theorem gP.select{ops:Array Oper}{i:Nat}{rest:List Nat}{o:Oper}{x0 x1 x2 x3 x4 x5 x6:Tmp}{cl:Nat->Option Nat}(hi:ops[i]?=some o)(a1:cC o (bR ops tm)=true)
  (ar:∀(O:Array Value)(w:World),(bU (lG O) o).runT P w #[]=(.ok (.comm #[⟨O.getD x0 cQ,none,z⟩,⟨O.getD x1 cQ,none,z⟩,⟨O.getD x2 cQ,none,z⟩,⟨O.getD x3 cQ,none,z⟩,⟨O.getD x4 cQ,none,z⟩,⟨O.getD x5 cQ,none,z⟩,⟨O.getD x6 cQ,none,z⟩] true .select) w,#[]))
  (hz:Flat z) (c0:tm.getD x0 cQ=.chan (cl 0)) (c1:tm.getD x1 cQ=.chan (cl 1)) (c2:tm.getD x2 cQ=.chan (cl 2)) (c3:tm.getD x3 cQ=.chan (cl 3)) (c4:tm.getD x4 cQ=.chan (cl 4)) (c5:tm.getD x5 cQ=.chan (cl 5)) (c6:tm.getD x6 cQ=.chan (cl 6))
  (mL:∀k r,k<7->cl k=some r->∃vs,(r,some vs)∈V) (yf:∀k k' r,k<7->k'<7->cl k=some r->cl k'=some r->k=k') (al:∃k r,k<7/\cl k=some r) (kg:(V.map Prod.fst).Nodup) (ae:∀r vs,(r,some vs)∈V->∀v∈vs,Flat v)
  (hv:∀k' r v vs,k'<7->cl k'=some r->(r,some (v::vs))∈V->gP E (⟨fn,jg o.dst tm (yr z k' v true),.inRegion ops rest::k⟩::os) wl (tK V r vs))
  (he:∀k' r,k'<7->cl k'=some r->(r,some [])∈V->gP E (⟨fn,jg o.dst tm (yr z k' z false),.inRegion ops rest::k⟩::os) wl (uo V r)) :
  gP E (⟨fn,tm,.inRegion ops (i::rest)::k⟩::os) wl V:=by
 intro m Pd ρ gs w sl t fr' cs' au av W aw h0
 have a2:∀r a b,(r,a)∈V->(r,b)∈V->a=b:=by
  intro r a b ha hb;clear W hv he mL ae
  induction V with
  |nil=>cases ha
  |cons y V ih=>
   simp only[List.map_cons,List.nodup_cons]at kg;have af:∀q,(r,q)∈V->y.1≠r:=λq hq e=>kg.1 (e▸cq.2 ⟨(r,q),hq,rfl⟩);rcases cm.1 ha with ea|ha
   .rcases cm.1 hb with eb|hb
    .rw[<-ea]at eb; cases eb; rfl
    .exact absurd (by rw[<-ea]) (af b hb)
   .rcases cm.1 hb with eb|hb
    .exact absurd (by rw[<-eb]) (af a ha)
    .exact ih kg.2 ha hb
 cases aw with
 |@cons _ _ O l ht ax=>
  have hy:cC o (bR ops O)=true:=by rw[show bR ops O=bR ops tm from funext (oB ops ht)]; exact a1
  have nJ:∀x c,tm.getD x cQ=.chan c->O.getD x cQ=.chan (c.bind m.ch):=by
   intro x c hc;have hx:=ht.getD x;simp only at hx;rw[hc]at hx;generalize hq:O.getD x cQ=q at hx
   cases hx with
   |lO=>rfl
   |chan hb=>simp[hb]
  have d0:=nJ x0 _ c0;have d1:=nJ x1 _ c1;have d2:=nJ x2 _ c2;have d3:=nJ x3 _ c3;have d4:=nJ x4 _ c4;have d5:=nJ x5 _ c5;have d6:=nJ x6 _ c6;let chans:Nat->Option Nat:=λk=>(cl k).bind m.ch;let h:Array CommCase:=#[⟨.chan (chans 0),none,z⟩,⟨.chan (chans 1),none,z⟩,⟨.chan (chans 2),none,z⟩,⟨.chan (chans 3),none,z⟩,⟨.chan (chans 4),none,z⟩,⟨.chan (chans 5),none,z⟩,⟨.chan (chans 6),none,z⟩];have a7:h.size=7:=rfl
  have ay:∀w,(bU (lG O) o).runT P w #[]=(.ok (.comm h true .select) w,#[]):=by
   intro w;rw[ar,d0,d1,d2,d3,d4,d5,d6]
  have ag:∀w,bQ P true (G (jx fn O (.inRegion ops (i::rest)::k)) cs') w=.comm (G (jx fn O (.inRegion ops (i::rest)::k)) cs') h true .select w #[]:=by
   intro w;rw[oA (P:=P) (fn:=fn) (k:=k) (rest:=rest) (cs':=cs') (w:=w) hi hy];unfold cE;simp only[if_true,ay];simp[cN,G,jx,ca]
  have B:∀k c,k<7->chans k=some c->∃r vs j J n,cl k=some r/\(r,some vs)∈V/\(ρ j).sum=some (J,n)/\m.ch r=some J.c/\J.c=c/\n<=J.L.length/\J.L.drop n=vs/\∀v∈J.L,∀(m:Ren)v',VR m v v'->v'=v:=by
   intro k c hk hc;simp only[chans]at hc
   cases e:cl k with
   |none=>rw[e]at hc; cases hc
   |some r=>
    rw[e]at hc;simp only[bz]at hc;obtain⟨vs,Y⟩:=mL k r hk e;obtain⟨j,J,n,g1,g2,g3,g4,g5⟩:=W.all r vs Y;refine⟨r,vs,j,J,n,rfl,Y,g1,g2,?_,g3,g4,g5⟩;rw[g2]at hc;exact cL hc
  have ah:∀(j j':Nat)J n J' n',(ρ j).sum=some (J,n)->(ρ j').sum=some (J',n')->J.c=J'.c->j=j':=by
   intro j j' J n J' n' h1 U hc;apply cK;intro ab;exact av.cc j j' J J' ab (iC.yP h1) (iC.yP U) hc
  have hS:xS P (G (jx fn O (.inRegion ops (i::rest)::k)) cs') h chans (λj=>(ρ j).sum):=by
   refine⟨rfl,ag,ag,λk cc aa=>?_,λk k' c hk az h1 U=>?_,λk c hk hc=>?_,?_,λj J n hj v hv=>?_⟩
   .have hk:k<7:=(bj.1 aa).1;refine⟨z,?_⟩
    match k,hk with
    |0,_=>simpa[h]using aa.symm
    |1,_=>simpa[h]using aa.symm
    |2,_=>simpa[h]using aa.symm
    |3,_=>simpa[h]using aa.symm
    |4,_=>simpa[h]using aa.symm
    |5,_=>simpa[h]using aa.symm
    |6,_=>simpa[h]using aa.symm
   .obtain⟨r,vs,j,J,n,e1,_,_,e2,e3,_⟩:=B k c hk h1;obtain⟨r',vs',j',J',n',a3,_,_,a4,a5,_⟩:=B k' c az U;have:r=r':=m.wD _ _ _ e2 (by rw[a4,a5,e3]);subst this;exact yf k k' r hk az e1 a3
   .obtain⟨r,vs,j,J,n,_,_,e,_,e3,_⟩:=B k c hk hc;exact⟨j,J,n,e,e3⟩
   .obtain⟨k,r,hk,hr⟩:=al;obtain⟨vs,Y⟩:=mL k r hk hr;obtain⟨j,J,n,g1,g2,_⟩:=W.all r vs Y;exact⟨k,J.c,hk,by simp[chans,hr,g2]⟩
   .obtain⟨r,vs,Y,g2⟩:=W.only j J n hj;obtain⟨j',J',n',am,a0,_,_,g5⟩:=W.all r vs Y;rw[g2]at a0;have:=ah j j' J n J' n' hj am (cL a0);subst this;rw[hj]at am;cases am;exact g5 v hv
  have ak:∀(k':Nat)v ok,(G (jx fn O (.inRegion ops (i::rest)::k)) cs').finishComm P h .select (k':Int) v ok=G (jx fn (jg o.dst O (yr z k' v ok)) (.inRegion ops rest::k)) cs':=by
   intro k' v ok;have e:=lM fn O ops i rest k (yr z k' v ok);simp only[hi,bz]at e;show({(G (jx fn O (.inRegion ops (i::rest)::k)) cs')with frame:=(jx fn O (.inRegion ops (i::rest)::k)).finish (cf h .select (k':Int) v ok),status:=.running,offers:=none}:Goroutine)=_;rw[QB,e];rfl
  refine Go.Proofs.YtocbogeoffeolaaGreatDoor.select (Z:=E.Z) (N:=gs.size) hS ?_ ?_ ρ gs w sl t av (λ_=>rfl) h0 rfl
  .intro k' j J n v hk hc hj hn Uj gs' w' an t' ai hK aj hN;obtain⟨r,vs,j',J',n',e1,e2,e3,e4,e5,e6,e7,e8⟩:=B k' J.c hk hc;have:=ah j j' J n J' n' hj e3 e5.symm;subst this;rw[hj]at e3;cases e3
   have Y:vs=v::J.L.drop (n+1):=by
    rw[<-e7];obtain⟨ao,rfl⟩:=cu.1 hn;exact List.drop_eq_getElem_cons ao
   subst Y;rw[ak]at aj;have a6:=ae r _ e2;refine hv k' r v (J.L.drop (n+1)) hk e1 e2 m Pd Uj gs' w' an t' _ _ au ai ⟨λr2 ac U=>?_,λj2 J2 n2 U=>?_,λr2 U=>?_⟩ (.cons (o:=⟨fn,jg o.dst tm (yr z k' v true),.inRegion ops rest::k⟩) (ht.jg o.dst (OA hz (a6 v (by simp)) k' true m)) ax) aj
   .simp only[tK,cq]at U;obtain⟨y,ap,ad⟩:=U;split at ad
    .cases ad
     have ao:n<J.L.length:=by
      have:=(cu.1 hn).1;exact this
     exact⟨j,J,n+1,by rw[hK,ci],e4,ao,rfl,e8⟩
    .rename_i ab;subst ad;obtain⟨j2,J2,n2,g1,g2,g3⟩:=W.all r2 ac ap
     have aq:j2≠j:=by
      rintro rfl;rw[hj]at g1;cases g1;exact ab (m.wD _ _ _ g2 e4)
     exact⟨j2,J2,n2,by rw[hK,cj _ _ aq]; exact g1,g2,g3⟩
   .rw[hK]at U;by_cases e:j2=j
    .subst e;rw[ci]at U;cases U;refine⟨r,J.L.drop (n+1),?_,e4⟩;simp only[tK,cq];exact⟨_,e2,by simp⟩
    .rw[cj _ _ e]at U;obtain⟨r2,ac,g1,g2⟩:=W.only j2 J2 n2 U
     have ab:r2≠r:=by
      rintro rfl;rw[e4]at g2;exact e (ah j2 j J2 n2 J n U hj (cL g2).symm)
     refine⟨r2,ac,?_,g2⟩;simp only[tK,cq];exact⟨_,g1,by simp[ab]⟩
   .simp only[tK,cq]at U;obtain⟨y,ap,ad⟩:=U;split at ad
    .cases ad
    .subst ad;exact W.LU r2 ap
  .intro k' j J z' D hc hj Uj gs' w' an t' ai hK aj hN;have hk:k'<7:=(bj.1 D).1;obtain⟨r,vs,j',J',n',e1,e2,e3,e4,e5,e6,e7,e8⟩:=B k' J.c hk hc;have:=ah j j' J _ J' n' hj e3 e5.symm;subst this;rw[hj]at e3;cases e3;have Y:vs=[]:=by rw[<-e7]; simp
   subst Y
   have ez:z'=z:=by
    obtain⟨z2,a8⟩:=hS.cs k' _ D;have a9:(b9 J.c z').zero=z':=rfl
    match k',hk,D with
    |0,_,D=>simp[h,b9]at D; exact D.2.symm
    |1,_,D=>simp[h,b9]at D; exact D.2.symm
    |2,_,D=>simp[h,b9]at D; exact D.2.symm
    |3,_,D=>simp[h,b9]at D; exact D.2.symm
    |4,_,D=>simp[h,b9]at D; exact D.2.symm
    |5,_,D=>simp[h,b9]at D; exact D.2.symm
    |6,_,D=>simp[h,b9]at D; exact D.2.symm
   subst ez;rw[ak]at aj;refine he k' r hk e1 e2 m Pd Uj gs' w' an t' _ _ au ai ⟨λr2 ac U=>?_,λj2 J2 n2 U=>?_,λr2 U=>?_⟩ (.cons (o:=⟨fn,jg o.dst tm (yr z' k' z' false),.inRegion ops rest::k⟩) (ht.jg o.dst (OA hz hz k' false m)) ax) aj
   .simp only[uo,ct,decide_eq_true_eq]at U;obtain⟨j2,J2,n2,g1,g2,g3⟩:=W.all r2 ac U.1
    have aq:j2≠j:=by
     rintro rfl;rw[hj]at g1;cases g1;exact U.2 (m.wD _ _ _ g2 e4)
    exact⟨j2,J2,n2,by rw[hK,cj _ _ aq]; exact g1,g2,g3⟩
   .rw[hK]at U
    have e:j2≠j:=by
     rintro rfl;rw[ci]at U;cases U
    rw[cj _ _ e]at U;obtain⟨r2,ac,g1,g2⟩:=W.only j2 J2 n2 U
    have ab:r2≠r:=by
     rintro rfl;rw[e4]at g2;exact e (ah j2 j J2 n2 J _ U hj (cL g2).symm)
    refine⟨r2,ac,?_,g2⟩;simp only[uo,ct,decide_eq_true_eq];exact⟨g1,ab⟩
   .simp only[uo,ct,decide_eq_true_eq]at U;exact W.LU r2 U.1
end
end
section
open Go.Conc
open Go.ConcN (upd upd_same upd_ne)
def vE:iC->iC
 |.ended _ _ _ _ q=>.quit q
 |r=>r
section
variable {P:Program} {jv Fix':Nat->Prop} {w0 w0':World} {Pd:Nat->Prop} {ρ:Nat->iC} {m m':Ren} {wl wl':World} {gs:Array Goroutine} {w:World} {t:bV}
theorem wV{i:Nat}(h:(ρ i).sum=none):∃q,vE (ρ i)=.quit q:=by
 cases e:ρ i with
 |quit q=>exact⟨q,rfl⟩
 |ended B J m S q=>exact⟨q,rfl⟩
 |act=>rw[e]at h; cases h
 |lY=>rw[e]at h; cases h
 |start=>rw[e]at h; cases h
theorem Co.NF(h:Co P jv w0 Pd ρ m wl gs w t)(Y:∀i,(ρ i).sum=none)(hw:WR m' wl' w)(aa:∀b,Fix' b->b<w.heap.size/\w.heap[b]?=w0'.heap[b]?)(hf:∀r b,m'.blk r=some b->Fix' b->m'.loose r)(ac:w0'.heap.size<=w.heap.size)(ad:w.os=w0'.os/\w.output=w0'.output)(ab:∀b,b<w0'.heap.size->Fix' b\/w0'.heap[b]?=some qM) :
  Co P Fix' w0' (λ_=>False) (λi=>vE (ρ i)) m' wl' gs w t:=by
 have hq:∀i,∃q,vE (ρ i)=.quit q:=λi=>wV (Y i)
 have no:∀{α:Type}(f:iC->Option α),(∀q,f (.quit q)=none)->∀i x,f (vE (ρ i))=some x->False:=λf hf i x hx=>by
  obtain⟨q,e⟩:=hq i;rw[e,hf]at hx;cases hx
 refine⟨hw,λi g hi hg=>?_,λi hi=>?_,λi U B=>(no iC.oe (λ_=>rfl) i U B).elim,λi j U m2 _ B _=>(no iC.oe (λ_=>rfl) i U B).elim,λi j J1 J2 _ B _=>(no iC.ru (λ_=>rfl) i J1 B).elim,h.calm Y m',λi U B=>(no iC.live (λ_=>rfl) i U B).elim,λi J B=>(no iC.chan (λ_=>rfl) i J B).elim,h.low,h.hears,h.nt.mono λi hi=>absurd (Y i) hi,h.clean,aa,hf,λi U B=>(no iC.oe (λ_=>rfl) i U B).elim,λi J B=>(no iC.ru (λ_=>rfl) i J B).elim,ac,ad,λp a b ha hb _=>.inl (h.calm Y {m' with blk:=λr=>if r=b then some b else none,qG:=?_,inj:=?_,loose:=λ_=>False} p a b b ha hb (by simp) λx=>x.elim),λc hc=>hc.elim,λb hb=>(ab b hb).imp id .inr⟩
 .have D:=h.at_ i g hi hg;have O:=Y i;show At P w t i g (vE (ρ i))
  cases e:ρ i with
  |quit q=>rw[e]at D; exact D
  |ended hd J m S q=>rw[e]at D; exact D.1
  |act=>rw[e]at O; cases O
  |lY=>rw[e]at O; cases O
  |start=>rw[e]at O; cases O
 .show vE (ρ i)=_;rw[h.out i hi];rfl
 .intro r r' W;split at W
  .cases W; rename_i e; rw[e]
  .cases W
 .intro r s q W O;split at W
  .split at O
   .rename_i e1 e2; rw[e1,e2]
   .cases O
  .cases W
theorem Co.old(h:Co P jv w0 Pd ρ m wl gs w t)(hn:∀i,(ρ i).sum=none)(U:∀b,w0.heap[b]?=some qM->jv b):∀b,b<w0.heap.size->w.heap[b]?=w0.heap[b]?:=by
 intro b hb;rcases h.len b hb with x|⟨i,J,r,o,x1,x2,x3⟩|z
 .exact(h.fix b x).2
 rotate_left
 .exact(h.fix b (U b z)).2
 .obtain⟨g,hi,hg,D⟩:=h.get (i:=i) λe=>by rw[e]at x1; cases x1
  have B:=hn i
  cases e:ρ i with
  |quit q=>rw[e]at x1; cases x1
  |act=>rw[e]at B; cases B
  |lY=>rw[e]at B; cases B
  |start=>rw[e]at B; cases B
  |ended hd J' mi S q=>
   rw[e]at x1 D;cases x1;obtain⟨_,O,⟨W,Y⟩,aa,_⟩:=D;obtain⟨h1,h2⟩:=Y.back S W r b o x2;obtain⟨o1,o2,g1,g2,g3⟩:=aa.obj r b (O.mT r b o x2);rw[h1]at g1;cases g1;rw[h2 mi o2 g3]at g2;rw[g2,x3]
theorem Co.fresh(h:Co P jv w0 Pd ρ m wl gs w t)(D:∀b,w0.heap[b]?=some qM->jv b){r b:Nat}(O:m.blk r=some b)(U:¬m.loose r):w0.heap.size<=b:=by
 apply cK;intro hb;rcases h.len b (by omega)with x|⟨i,J,r',o,x1,x2,x3⟩|z
 .exact U (h.f0 r b O x)
 rotate_left
 .exact U (h.f0 r b O (D b z))
 .obtain⟨g,hi,hg,W⟩:=h.get (i:=i) λe=>by rw[e]at x1; cases x1
  obtain⟨Y,B⟩:∃Y,(ρ i).oe=some Y:=by
   cases e:ρ i with
   |quit q=>rw[e]at x1; cases x1
   |act J m S n=>exact⟨m,rfl⟩
   |lY J m S n v=>exact⟨m,rfl⟩
   |start J m S k=>exact⟨m,rfl⟩
   |ended hd J m S q=>exact⟨m,rfl⟩
  exact U (h.d0 i Y B r r' b O ((W.T4 B x1).mT r' b o x2)).1
theorem WR.OC(h:WR m wl w){b:Nat}{c:Array Value}{e:bW}{f:Nat×Nat}(hb:∀s,m.blk s≠some b)(Y:wl.heap.size<m.G↔b<m.G)(ho:w.heap[b]?=some (.cells c e f))(hc:∀v∈c.toList,Flat v) :
  WR (m.ext wl.heap.size b h.jP hb Y) {wl with heap:=wl.heap.push (.cells c e f)} w:=by
 have aa:=Ren.xg h.jP hb Y;have ac:OR (m.ext wl.heap.size b h.jP hb Y) (.cells c e f) (.cells c e f):=.cells e f f (iI.refl λv hv=>(hc v hv).refl _)
 have key:∀r r',(m.ext wl.heap.size b h.jP hb Y).blk r=some r'->(r=wl.heap.size/\r'=b)\/(r≠wl.heap.size/\m.blk r=some r'):=by
  intro r r' B;by_cases e:r=wl.heap.size
  .subst e; simp[Ren.ext]at B; exact .inl ⟨rfl,B.symm⟩
  .simp[Ren.ext,e]at B; exact .inr ⟨e,B⟩
 have lo:∀r,(m.ext wl.heap.size b h.jP hb Y).loose r->r≠wl.heap.size/\m.loose r:=by
  intro r B;by_cases e:r=wl.heap.size
  .subst e; simp[Ren.ext]at B
  .simp[Ren.ext,e]at B; exact⟨e,B⟩
 have pu:∀r,r<wl.heap.size->(wl.heap.push (.cells c e f))[r]?=wl.heap[r]?:=λr B=>iW B;refine⟨λr r' B=>?_,λr r' c1 U f1 c2 e2 f2 B h1 h2 hn=>?_,λr r' c1 U f1 c2 e2 f2 B h1 h2 hl=>?_,λr r' B=>?_,?_,h.J5,h.os,λr o B=>?_,λr r' B hl=>?_,λr B=>?_,λr i v hv=>?_⟩
 .rcases key r r' B with⟨rfl,rfl⟩|⟨_,B⟩
  .exact⟨_,_,by simp,ho,ac⟩
  .obtain⟨o,o',W,g2,g3⟩:=h.obj r r' B;exact⟨o,o',lu W,g2,g3.mono aa⟩
 .rcases key r r' B with⟨rfl,rfl⟩|⟨D,B⟩
  .rw[ho]at h2;cases h2;simp at h1;exact h1.2.2
  .have O:=(h.lt B).1;refine h.fz r r' c1 U f1 c2 e2 f2 B (by rw[<-pu r O]; exact h1) h2 λx=>hn ?_;simp[Ren.ext,D,x]
 .rcases key r r' B with⟨rfl,rfl⟩|⟨D,B⟩
  .exact absurd rfl (lo _ hl).1
  .have O:=(h.lt B).1;exact h.all r r' c1 U f1 c2 e2 f2 B (by rw[<-pu r O]; exact h1) h2 (lo _ hl).2
 .have:=h.M4 r r' B;exact⟨by simp; omega,this.2⟩
 .have:=h.M2;show m.G<=(wl.heap.push _).size;simp; omega
 .obtain⟨W,g2⟩:=h.nJ r o B;exact⟨lu W,g2⟩
 .rcases key r r' B with⟨rfl,rfl⟩|⟨D,B⟩
  .exact absurd rfl (lo _ hl).1
  .obtain⟨c1,U,f1,g⟩:=h.lk r r' B (lo _ hl).2;exact⟨c1,U,f1,lu g⟩
 .obtain⟨W,c1,U,f1,g⟩:=h.dead r B;have O:=mG g;refine⟨?_,c1,U,f1,lu g⟩;have D:r≠wl.heap.size:=by omega
  simp[Ren.ext,D,W]
 .obtain⟨r',ab,hp⟩:=h.tI r i v hv;exact⟨r',aa.blk _ _ ab,λc e f c' e' f' x W=>hp c e f c' e' f' x (by rw[<-pu r (h.lt ab).1]; exact W)⟩
end
end
section
open Go.Conc
open Go.ConcN (upd upd_same upd_ne)
variable {ops:Array Oper} {f:bS} {R0:Nat->Nat->Prop} {R1:Nat->Option Nat->Nat->Nat->Array Value->bW->Nat×Nat->Prop} {m:Ren}
section
variable {P:Program} {E:Env P} {fn:bS} {tm:Array Value} {os:List OF} {wl:World} {k:List Item}
theorem Rg.OC(h:Rg E m){r b:Nat}(D:m.blk r=none)(O:∀s,m.blk s≠some b)(U:r<m.G↔b<m.G):Rg E (m.ext r b D O U):=by
 have B:=Ren.xg D O U;exact⟨h.ry.mono B,by rw[B.kL]; exact h.kL,λs s' W=>h.qD s s' W,B.jz.trans h.jz,B.ok.trans h.RO,E.le m _ B h.x⟩
theorem Ie{c B:Array Value}(h:iI m c B)(D:∀v∈c.toList,Flat v):B=c:=by
 refine bv h.size.symm λi O U=>?_;have:=h.idx i U O;exact(D c[i] (by simp)).eq m _ this
structure Fi(P:Program)(Uf:Env P)(jZ:Func)(tm1:Array Value)(wl2:World)(R0:Nat->Nat->Prop)(R1:Nat->Option Nat->Nat->Nat->Array Value->bW->Nat×Nat->Prop):Prop where
 ux:∃v1,(∀τ,(cb jZ tm1).run P (tp wl2 τ)=.ok v1 (tp wl2 τ))/\((∃l cp,v1=.slice none l cp/\R0 l cp)\/∃b1 off spot l cp cs e f,v1=.slice (some ⟨b1,off,spot⟩) l cp/\wl2.heap[b1]?=some (.cells cs e f)/\(∀v∈cs.toList,Flat v)/\(∀m,Rg Uf m->¬m.loose b1)/\R1 off spot l cp cs e f)
 TO:∀b,Uf.w0.heap[b]?=some qM->Uf.jv b
theorem LJ{Uf:Env P}{jZ:Func}{i:Nat}{rest:List Nat}{o:Oper}{m0:Ren}{h:Array Value}{U:List Frame}{tm1:Array Value}{td1:List Item}{W:World}
  (an:∀b,b<E.w0.heap.size->E.jv b\/E.w0.heap[b]?=some qM) (O:∀b,E.jv b->b<Uf.w0.heap.size/\Uf.w0.heap[b]?=E.w0.heap[b]?) (aw:∀r b,m0.blk r=some b->E.jv b->m0.loose r) (ax:E.w0.heap.size<=Uf.w0.heap.size) (ah:Uf.w0.os=E.w0.os/\Uf.w0.output=E.w0.output) (hZ:Uf.Z=E.Z) (hT:Uf.T=jx fn h (.inRegion ops (i::rest)::k)::U) (ai:Rg E m0) (ad:WR m0 wl Uf.w0) (ht:iI m0 tm h) (ay:qh m0 E.T os U) (hf:P.funcs[f]?=some jZ) (hi:ops[i]?=some o) (aB:td1=[]\/∃k1,td1=.code .ret::k1) (hR:Fi P Uf jZ tm1 W R0 R1)
  (aC:∀l cp,R0 l cp->gP E (⟨fn,jg o.dst tm (.slice none l cp),.inRegion ops rest::k⟩::os) wl [])
  (aD:∀off spot l cp cs e f,R1 off spot l cp cs e f->(∀v∈cs.toList,Flat v)->gP E (⟨fn,jg o.dst tm (.slice (some ⟨wl.heap.size,off,spot⟩) l cp),.inRegion ops rest::k⟩::os) {wl with heap:=wl.heap.push (.cells cs e f)} []) :
  gP Uf [⟨f,tm1,td1⟩] W []:=by
 intro m Pd ρ gs w sl t fr' cs' aE aF aG ae h0
 have hn:∀i,(ρ i).sum=none:=by
  intro i
  cases e:(ρ i).sum with
  |none=>rfl
  |some x=>
   obtain⟨r,vs,hx,_⟩:=aG.only i x.1 x.2 e;cases hx
 refine turn (Z:=Uf.Z) (a:=G fr' cs') (K:=λj=>(ρ j).sum) (N:=gs.size) rfl ?_ ρ gs w sl t aF (λ_=>rfl) h0 rfl;intro Uj gs' w' aU az d t' af hK ag hN
 cases ae with
 |@cons _ _ D l aH ae=>
  cases ae;rw[hT]at ag
  have aI:bQ P true (G (jx f D td1) (jx fn h (.inRegion ops (i::rest)::k)::U)) (w'.at d)=.go (G ⟨f,D,td1,[],.returning,.normal,none⟩ (jx fn h (.inRegion ops (i::rest)::k)::U)) (w'.at d) #[]:=by
   rcases aB with rfl|⟨k1,rfl⟩<;>rfl
  have a0:=b7 (P:=P) (sl:=az) (i:=0) ag (show bQ P (0==0) _ (w'.at d)=_ from aI);rw[a0];refine Uf.Z.next _ _ _ _ ?_;have aJ:0<gs'.size:=(bj.1 ag).1;refine turn (Z:=Uf.Z) (a:=G ⟨f,D,td1,[],.returning,.normal,none⟩ (jx fn h (.inRegion ops (i::rest)::k)::U)) (K:=λj=>(Uj j).sum) (N:=gs'.size) rfl ?_ Uj _ _ az _ (af.yC (gs':=(gs'.map (woken P _ _ (w'.at d))).setIfInBounds 0 (G ⟨f,D,td1,[],.returning,.normal,none⟩ (jx fn h (.inRegion ops (i::rest)::k)::U))) (.refl m) (.refl m _) (by simp) af.main (by simp) (jX _)) (λ_=>rfl) (by simp[aJ]) (by simp);clear af a0 ag;intro ao a1 w2 aV ap d2 t2 aj aK a2 aW;obtain⟨v1,a3,aq⟩:=hR.ux;have a4:=(oy (P:=P) (fn:=jZ) aH).run (tp W (along W (w2.at d2))) (w2.at d2) #[] (aj.main.tp _) (.inl (rm W (w2.at d2)));rw[a3]at a4;obtain⟨Ud,v',Uc,Ug,e1,e2,e3,e4,_,e6,e7⟩:=a4;rw[bm]at e1;have ak:=lM fn h ops i rest k v';simp only[hi,bz]at ak
  have a5:bQ P true (G ⟨f,D,td1,[],.returning,.normal,none⟩ (jx fn h (.inRegion ops (i::rest)::k)::U)) (w2.at d2)=.go (G (jx fn (jg o.dst h v') (.inRegion ops rest::k)) U) Uc (ca P f Ug):=by
   have:bQ P true (G ⟨f,D,td1,[],.returning,.normal,none⟩ (jx fn h (.inRegion ops (i::rest)::k)::U)) (w2.at d2)=bX P true ⟨f,D,td1,[],.returning,.normal,none⟩ (jx fn h (.inRegion ops (i::rest)::k)::U) none (w2.at d2):=rfl;rw[this];unfold bX;simp only[hf,e1];unfold cd;simp only[ak];simp[cN,G]
  have a6:=b7 (P:=P) (sl:=ap) (i:=0) a2 (show bQ P (0==0) _ (w2.at d2)=_ from a5);rw[a6];refine Uf.Z.next _ _ _ _ ?_;rw[hZ];have al:0<a1.size:=(bj.1 a2).1;have B:=aj.yC (gs':=(a1.map (woken P (G ⟨f,D,td1,[],.returning,.normal,none⟩ (jx fn h (.inRegion ops (i::rest)::k)::U)) (G (jx fn (jg o.dst h v') (.inRegion ops rest::k)) U) Uc)).setIfInBounds 0 (G (jx fn (jg o.dst h v') (.inRegion ops rest::k)) U)) (fn:=(G (⟨f,D,td1,[],.returning,.normal,none⟩:Frame) (jx fn h (.inRegion ops (i::rest)::k)::U)).frame.fn) (pos:=(G (⟨f,D,td1,[],.returning,.normal,none⟩:Frame) (jx fn h (.inRegion ops (i::rest)::k)::U)).frame.place) (es:=ca P f Ug) e2 e6 (λe he=>e7 e (bI he)) e4 (by simp) (jX _);have ar:∀i,(ao i).sum=none:=λi=>(aK i).trans ((hK i).trans (hn i));have hold:=B.old ar hR.TO;have Y:WR m0 wl Uc:=ad.rely (λr b hb=>hold b (ad.lt hb).2) B.sz B.os.1;have aa:=aE.le e2 e6;have calm:∀m' wl',WR m' wl' Uc->(∀r b,m'.blk r=some b->E.jv b->m'.loose r)->Co P E.jv E.w0 (λ_=>False) (λi=>vE (ao i)) m' wl' _ Uc _:=λm' wl' hw hf=>B.NF ar hw (λb hb=>⟨cy (O b hb).1 B.sz,(hold b (O b hb).1).trans (O b hb).2⟩) hf (c8 ax B.sz) ⟨B.os.1.trans ah.1,B.os.2.trans ah.2⟩ an
  have qD:∀m',QV m' (λi=>vE (ao i)) (λ_=>False) []:=λm'=>by
   refine⟨λr vs hr=>(by cases hr),λj J n hj=>?_,λr hr=>(by cases hr)⟩;obtain⟨q,e⟩:=wV (ar j);rw[e]at hj;cases hj
  rcases aq with⟨l,cp,rfl,aL⟩|⟨b1,off,spot,l,cp,cs,ty,fz,rfl,aM,au,ab,aN⟩
  .cases e3 with
   |jq=>
    exact aC l cp aL m0 _ _ _ _ ap _ _ _ ai (calm m0 wl Y aw) (qD m0) (.cons (o:=⟨fn,jg o.dst tm (.slice none l cp),.inRegion ops rest::k⟩) (ht.jg o.dst (.jq l cp)) ay) (by simp[al])
  .cases e3 with
   |@slice _ a' _ _ ha=>
    cases ha with
    |@mk _ b' _ _ av=>
     obtain⟨o1,o2,g1,g2,g3⟩:=e4.obj b1 b' av;have am:(tp W (along W (w2.at d2))).heap[b1]?=some (.cells cs ty fz):=aM;rw[am]at g1;cases g1
     cases g3 with
     |@cells _ cs' _ _ a7 aO=>
      have aP:=Ie aO au;subst aP;have aQ:a7=fz:=e4.fz b1 b' _ _ _ _ _ _ av am g2 (ab Ud aa);subst aQ;have aA:Uf.w0.heap.size<=b':=B.fresh hR.TO av (ab Ud aa)
      have ac:∀s,m0.blk s≠some b':=λs hs=>by
       have:=(ad.lt hs).2;omega
      have hG:wl.heap.size<m0.G↔b'<m0.G:=by
       have h1:=ad.M2;have h2:=ad.J5;constructor<;>intro x<;>omega
      have aR:=Y.OC ac hG g2 au;have a8:=Ren.xg Y.jP ac hG
      have aS:∀r b,(m0.ext wl.heap.size b' Y.jP ac hG).blk r=some b->E.jv b->(m0.ext wl.heap.size b' Y.jP ac hG).loose r:=λr b hr hF=>by
       by_cases e:r=wl.heap.size
       .subst e;simp[Ren.ext]at hr;have:=(O b hF).1;omega
       .have aT:m0.blk r=some b:=by simpa[Ren.ext,e]using hr
        have:=aw r b aT hF;simpa[Ren.ext,e]using this
      have a9:(m0.ext wl.heap.size b' Y.jP ac hG).blk wl.heap.size=some b':=by simp[Ren.ext]
      exact aD off spot l cp cs' ty a7 aN au _ _ _ _ _ ap _ _ _ (ai.OC Y.jP ac hG) (calm _ _ aR aS) (qD _) (.cons (o:=⟨fn,jg o.dst tm (.slice (some ⟨wl.heap.size,off,spot⟩) l cp),.inRegion ops rest::k⟩) ((ht.mono a8).jg o.dst (.slice l cp (.mk a9))) (ay.mono a8)) (by simp[al])
theorem gP.phase{i:Nat}{rest:List Nat}{o:Oper}{jZ:Func}{c:Code}{as:Array Operand}{ts:Array bW}
  (ab:∀b,b<E.w0.heap.size->E.jv b\/E.w0.heap[b]?=some qM) (hi:ops[i]?=some o) (ap:cC o (bR ops tm)=true) (hf:P.funcs[f]?=some jZ) (hb:jZ.body=some c) (hn:jZ.name≠ "runtime.NumGoroutine") (ho:o.op=.call {callee:=.value (.func f),args:=as,argTypes:=ts}) (aq:∀x∈as.toList,iH E.jz E.gl x)
  (hph:∀m w af T,Rg E m->WR m wl w->iI m (as.map (lG tm)) af->(∀ps,T=[ps]->ps.mode≠.panicking [bY])->∃(B:Env P)(tm1:Array Value)(m1:Ren)(O:World),B.Z=E.Z/\B.T=T/\B.w0=w/\(∀b,B.jv b↔b<w.heap.size)/\Rg B m1/\WR m1 O w/\(∀r b,m1.blk r=some b->m1.loose r)/\iI m1 tm1 (af++bl (jZ.ntmps-as.size) cQ)/\
    ((∀(Uf:Env P)ac U ad,Uf.Z=E.Z->Uf.T=T->Uf.w0=w->(U=[]\/∃k2,U=.code .ret::k2)->Fi P Uf jZ ac ad R0 R1->gP Uf [⟨f,ac,U⟩] ad [])->gP B [⟨f,tm1,[.code c]⟩] O []))
  (ar:∀l cp,R0 l cp->gP E (⟨fn,jg o.dst tm (.slice none l cp),.inRegion ops rest::k⟩::os) wl [])
  (au:∀off spot l cp cs e f,R1 off spot l cp cs e f->(∀v∈cs.toList,Flat v)->gP E (⟨fn,jg o.dst tm (.slice (some ⟨wl.heap.size,off,spot⟩) l cp),.inRegion ops rest::k⟩::os) {wl with heap:=wl.heap.push (.cells cs e f)} []) :
  gP E (⟨fn,tm,.inRegion ops (i::rest)::k⟩::os) wl []:=by
 intro m Pd ρ gs w sl t fr' cs' W av aw aa h0
 have ax:∀i,(ρ i).sum=none:=by
  intro i
  cases e:(ρ i).sum with
  |none=>rfl
  |some x=>
   obtain⟨r,vs,hx,_⟩:=aw.only i x.1 x.2 e;cases hx
 refine turn (Z:=E.Z) (a:=G fr' cs') (K:=λj=>(ρ j).sum) (N:=gs.size) rfl ?_ ρ gs w sl t av (λ_=>rfl) h0 rfl;intro Uj gs' w' a' ag d t' D hK ah hN;have ay:=aa
 cases aa with
 |@cons _ _ h l ht az=>
  have hy:cC o (bR ops h)=true:=by rw[show bR ops h=bR ops tm from funext (oB ops ht)]; exact ap
  have a0:=oA (P:=P) (fn:=fn) (k:=k) (rest:=rest) (cs':=cs') (w:=w'.at d) hi hy;have ai:=FL P hf hb hn (lG h) rfl ho (w'.at d);have ha:iI m (as.map (lG tm)) (as.map (lG h)):=ni (jz:=m.jz) (gl:=E.gl) (λx hx=>Jp ht W.ry.qG x hx) (λx hx=>by rw[W.jz]; exact aq x hx)
  have a1:cE P true (jx fn h (.inRegion ops (i::rest)::k)) cs' none (bU (lG h) o) (w'.at d)=.go (G (jx f (as.map (lG h)++bl (jZ.ntmps-as.size) cQ) [.code c]) (jx fn h (.inRegion ops (i::rest)::k)::cs')) (w'.at d) #[]:=by
   unfold cE;simp only[if_true,ai];simp[cN,G,jx,cO,hf,hb,ca]
  have a2:=b7 (P:=P) (sl:=ag) (i:=0) ah (show bQ P (0==0) _ (w'.at d)=_ from a0.trans a1);rw[a2];refine E.Z.next _ _ _ _ ?_;have a3:0<gs'.size:=(bj.1 ah).1
  have ae:∀ps,(jx fn h (.inRegion ops (i::rest)::k)::cs')=[ps]->ps.mode≠.panicking [bY]:=by
   rintro ps e;cases e;simp[jx]
  obtain⟨B,tm1,m1,O,a4,a5,Y,aj,a6,ak,a7,a8,al⟩:=hph m (w'.at d) (as.map (lG h)) (jx fn h (.inRegion ops (i::rest)::k)::cs') W D.main ha ae;have am:∀i,(Uj i).sum=none:=λi=>(hK i).trans (ax i);have an:=D.yC (gs':=(gs'.map (woken P (G (jx fn h (.inRegion ops (i::rest)::k)) cs') (G (jx f (as.map (lG h)++bl (jZ.ntmps-as.size) cQ) [.code c]) (jx fn h (.inRegion ops (i::rest)::k)::cs')) (w'.at d))).setIfInBounds 0 (G (jx f (as.map (lG h)++bl (jZ.ntmps-as.size) cQ) [.code c]) (jx fn h (.inRegion ops (i::rest)::k)::cs'))) (fn:=(G (jx fn h (.inRegion ops (i::rest)::k)) cs').frame.fn) (pos:=(G (jx fn h (.inRegion ops (i::rest)::k)) cs').frame.place) (es:=#[]) (.refl m) (.refl m _) (by simp) D.main (by simp) (jX _);have ao:Co P B.jv B.w0 (λ_=>False) (λi=>vE (Uj i)) m1 O _ (w'.at d) _:=an.NF am ak (λb hb=>by rw[Y]; exact⟨(aj b).1 hb,rfl⟩) (λr b hr _=>a7 r b hr) (by rw[Y]; exact c7 _) (by rw[Y]; exact⟨rfl,rfl⟩) (λb hb=>.inl ((aj b).2 (by rw[Y]at hb; exact hb)));rw[<-a4];refine al ?_ m1 _ _ _ _ ag _ _ _ a6 ao ⟨λr vs hr=>(by cases hr),λj J n hj=>?_,λr hr=>(by cases hr)⟩ (.cons (o:=⟨f,tm1,[.code c]⟩) a8 (by rw[a5]; exact .nil)) (by simp[a3])
  .intro Uf ac U ad z2 T2 W2 a9 hR;exact LJ ab (λb hb=>by rw[W2]; exact D.fix b hb) D.f0 (by rw[W2]; exact D.sz) (by rw[W2]; exact D.os) z2 T2 W (by rw[W2]; exact D.main) ht az hf hi a9 hR ar au
  .obtain⟨q,e⟩:=wV (am j);rw[e]at hj;cases hj
end
end
section
open Go.Conc
variable {T:Tables} {d:TypeDesc} {t:bW} {info:bW->Option TypeInfo} {i:TypeInfo} {v:Value}
def NV:Value->Bool
 |.bool _|.int _ _|.string _|.pointer none|.slice none _ _|.map none|.chan none|.nilFunc|.nilIface=>true
 |_=>false
theorem CX(h:NV v=true):Plain v:=by
 unfold NV at h;split at h<;>first|trivial|cases h
def QT(jz gl:Nat->Bool):Operand->Bool
 |.tmp _=>true
 |.const v=>NV v
 |.global g=>gl g
 |.func f=>jz f
theorem Nq{jz gl:Nat->Bool}{x:Operand}(h:QT jz gl x=true):iH (λf=>jz f=true) (λg=>gl g=true) x:=by
 cases x with
 |tmp t=>trivial
 |const v=>exact CX h
 |global g=>exact h
 |func f=>exact h
def Gp:Operand->Bool
 |.tmp _=>true
 |.const v=>NV v
 |_=>false
def NK(P:Program)(st:Bool)(h:Array bW)(n:Nat):Builtin->Bool
 |.append|.clear|.copy|.max|.min|.recover=>true
 |.cap|.len=>(h[0]?).all (qm P)
 |.unsafeString=>st&&n==2
 |_=>false
def RN(P:Program)(st:Bool)(t:bW):Bool:=match P.underlying t with
 |some (.map k _)=>s7 P 10000 k&&(st || qg P Op.maxDepth k)
 |_=>true
def T5(P:Program)(st:Bool)(t:bW)(y:Operand):Bool:=st || qg P Op.maxDepth t || (isNil y&&match P.underlying t with|some (.pointer _)|some (.interface _)|none=>true|_=>false)
def Ke(P:Program)(jz gl:Nat->Bool)(st:Bool)(op:Op):Bool:=
 op.operands.all (QT jz gl)&&match op with
 |.move _|.assign _|.pick ..|.alloc _|.box ..|.build ..|.buildSlice ..|.load ..|.store ..|.nilCheck _|.unOp ..|.makeInterface ..|.makeMap ..|.makeSlice ..|.slice ..|.fieldAddr ..|.field ..
 |.indexAddr ..|.index ..|.entryStore ..|.range ..|.next ..|.entry _|.extract ..|.panic _|.send .. => true
 |.binOp o t _ y _=>(match o with|.eql|.neq=>T5 P st t y|_=>true)
 |.convert s d _=>Dm P s d
 |.makeFunc (.func f) _ _=>jz f
 |.lookup t ..|.mapUpdate t ..|.mapEntry t .. => RN P st t
 |.typeAssert _ _ _ ok=>ok
 |.call c=>(match c.callee with
  |.value _=>true
  |.builtin b=>NK P st c.argTypes c.args.size b
  |.invoke .. => false)
 |.defer c=>(match c.callee with
  |.value _=>true
  |_=>false)
 |_=>false
def mM(ok:Oper->Bool):Code->Bool
 |.skip|.exit _|.label _|.goto _|.ret=>true
 |.region _ ops _=>ops.all ok
 |.seq a b=>mM ok a&&mM ok b
 |.cond c a b=>Gp c&&mM ok a&&mM ok b
 |.block _ c|.loop c|.scope c=>mM ok c
 |.rangeFunc f _ a b=>Gp f&&mM ok a&&mM ok b
 |.refuse _=>false
section
variable {P:Program} {jz gl:Nat->Bool} {st:Bool}
theorem Q3(h:RN P st t=true):ND P st t:=by
 intro k e B;unfold RN at h;rw[B]at h;simp only[cH,cJ]at h;exact h
theorem RU{y:Operand}(h:T5 P st t y=true):SJ P st t y:=by
 unfold T5 at h;simp only[cJ,cH]at h;rcases h with(h|h)|⟨D,B⟩
 .exact .inl h
 .exact .inr (.inl h)
 .refine .inr (.inr ⟨D,λd O=>?_⟩);rw[O]at B;cases d<;>first|exact .inl ⟨_,rfl⟩|exact .inr ⟨_,rfl⟩|cases B
theorem Ed{op:Op}(h:Ke P jz gl st op=true):OkOp P (λf=>jz f=true) (λg=>gl g=true) st op:=by
 unfold Ke at h;rw[cH]at h;obtain⟨O,B⟩:=h;refine⟨λx U=>Nq ?_,?_⟩
 .rw[bs]at O;rw[bo]at U;obtain⟨i,hi,rfl⟩:=bn.1 U;exact O i hi
 .cases op with
  |binOp o t x y s=>
   simp only at B⊢;rintro(rfl|rfl)<;>exact RU B
  |convert s d x=>exact B
  |makeFunc f a b=>cases f<;>first|exact B|cases B
  |lookup|mapUpdate|mapEntry=>exact Q3 B
  |typeAssert=>exact B
  |call c=>
   obtain⟨ce,as,ts⟩:=c
   cases ce with
   |value x=>trivial
   |invoke=>cases B
   |builtin b=>
    simp only at B⊢;refine⟨?_,by rintro rfl; cases B⟩;cases b<;>first|trivial|cases B|skip
    .intro t D;have B:(ts[0]?).all (qm P)=true:=B;rw[D]at B;exact B
    .intro t D;have B:(ts[0]?).all (qm P)=true:=B;rw[D]at B;exact B
    .have B:(st&&as.size==2)=true:=B;show st=true/\as.size=2;simpa using B
  |defer c=>
   obtain⟨ce,as,ts⟩:=c;cases ce<;>first|trivial|cases B
  |_=>first|trivial|cases B
theorem qS{ok:Oper->Bool}:∀{c:Code},mM ok c=true->jy (λo=>ok o=true) c:=by
 have B:∀{x:Operand},Gp x=true->wj x:=fun {x} h=>by
  cases x with
  |tmp t=>trivial
  |const v=>exact CX h
  |global g=>cases h
  |func f=>cases h
 intro c
 induction c with
 |skip|exit|label|goto|ret=>intro _; trivial
 |region i ops d=>
  intro h o W;have h:ops.all ok=true:=h;rw[bs]at h;rw[bo]at W;obtain⟨i,hi,rfl⟩:=bn.1 W;exact h i hi
 |seq a b D O=>
  intro h;have h:(mM ok a&&mM ok b)=true:=h;rw[cH]at h;exact⟨D h.1,O h.2⟩
 |cond x a b D O=>
  intro h;have h:(Gp x&&mM ok a&&mM ok b)=true:=h;simp only[cH]at h;exact⟨B h.1.1,D h.1.2,O h.2⟩
 |block i c U=>exact λh=>U h
 |loop c U=>exact λh=>U h
 |scope c U=>exact λh=>U h
 |rangeFunc f ps a b D O=>
  intro h;have h:(Gp f&&mM ok a&&mM ok b)=true:=h;simp only[cH]at h;exact⟨B h.1.1,D h.1.2,O h.2⟩
 |refuse=>intro h; cases h
end
def Fp:Nat->Value->Bool
 |0,_=>false
 |n+1,v=>match v with
  |.agg c=>c.all (Fp n)
  |.tuple c=>c.all (Fp n)
  |v=>NV v
theorem zR:∀{n:Nat}{v:Value},Fp n v=true->∀m,VR m v v
 |n+1,v,h,m=>by
  unfold Fp at h;split at h
  .rename_i c;rw[bs]at h;exact .agg rfl λi hi _=>zR (h i hi) m
  .rename_i c;rw[bs]at h;exact .tuple rfl λi hi _=>zR (h i hi) m
  .exact VR.plain (CX h)
theorem Cq{U B:Type}{I:B->Prop}{f:U->B->Option (ForInStep B)}(W:∀a s r,f a s=some r->I s->∃s',(r=.yield s'\/r=.done s')/\I s'):∀(l:List U){s s':B},I s->forIn l s f=some s'->I s'
 |[],s,s',h,e=>by simp at e; exact e▸h
 |a::l,s,s',h,e=>by
  rw[List.forIn_cons]at e
  cases D:f a s with
  |none=>rw[D]at e; cases e
  |some r=>
   rw[D]at e
   obtain⟨s1,O|O,Y⟩:=W a s r D h
   .subst O; exact Cq W l Y e
   .subst O;have:some s1=some s':=e;cases this;exact Y
def ow(v:Value):Prop:=∀m,VR m v v
theorem ow.cells(h:ow v):∀x∈v.cells.toList,ow x:=by
 intro x B m;have D:=(h m).cells;rw[bo]at B;obtain⟨i,hi,rfl⟩:=bn.1 B;exact D.idx i hi hi
theorem ow.agg{c:Array Value}(h:∀x∈c.toList,ow x):ow (.agg c):=λm=>.agg rfl λi hi _=>h c[i] (by simp) m
theorem vN(aa:∀t i v,info t=some i->i.zero=some v->ow v){fs:Array Field}(h:cA info fs=some i)(hv:i.zero=some v):ow v:=by
 unfold cA at h;simp only[bx,bw]at h;obtain⟨st,O,D⟩:=h;rw[<-Array.forIn_toList]at O
 have hI:=Cq (I:=λs:Array Field×Nat×Nat×Nat×Nat×Bool×Bool×Option (Array Value)×String=>∀zs,s.2.2.2.2.2.2.2.1=some zs->∀x∈zs.toList,ow x) (λa s r U hs=>by
  cases hi:info a.type with
  |none=>rw[hi]at U; cases U
  |some j=>
   have W:∀zs,(s.2.2.2.2.2.2.2.1.bind λz1=>j.zero.bind λz2=>pure (z1++z2.cells))=some zs->∀x∈zs.toList,ow x:=by
    intro zs B;rw[bw]at B;obtain⟨z1,e1,B⟩:=B;rw[bw]at B;obtain⟨z2,e2,B⟩:=B;cases B;intro x hx;rw[Array.toList_append,List.mem_append]at hx;exact hx.elim (hs z1 e1 x) ((aa a.type j z2 hi e2).cells x)
   have Y:∀zs,(none:Option (Array Value))=some zs->∀x∈zs.toList,ow x:=λzs B=>by cases B
   have key:∀zs,(if s.2.1+j.size > Made.mostCells then none else s.2.2.2.2.2.2.2.1.bind λz1=>j.zero.bind λz2=>pure (z1++z2.cells))=some zs->∀x∈zs.toList,ow x:=by
    intro zs B;split at B
    .cases B
    .exact W zs B
   rw[hi]at U;simp only[bz]at U
   repeat' split at U
   all_goals first
    |(cases U; done)
    |(simp only[bw]at U
      obtain⟨tg,_,U⟩:=U
      cases U
      first|exact⟨_,.inl rfl,Y⟩|exact⟨_,.inl rfl,W⟩|exact⟨_,.inl rfl,key⟩)
    |(cases U; first|exact⟨_,.inl rfl,Y⟩|exact⟨_,.inl rfl,W⟩|exact⟨_,.inl rfl,key⟩)) fs.toList (s:=(#[],0,0,1,0,false,true,some #[],"struct {")) (by
   intro zs B x hx;cases B
   simp at hx) O
 have B:∃zs,st.2.2.2.2.2.2.2.1=some zs/\v=.agg zs:=by
  split at D
  .cases D;simp only[b0]at hv;obtain⟨zs,h1,h2⟩:=hv;exact⟨zs,h1,h2.symm⟩
  .cases D;simp only[b0]at hv;obtain⟨zs,h1,h2⟩:=hv;exact⟨zs,h1,h2.symm⟩
 obtain⟨zs,h1,rfl⟩:=B;exact .agg (hI zs h1)
theorem G4(O:∀t i v,info t=some i->i.zero=some v->ow v)(h:c9 info d=some i)(D:i.zero=some v):ow v:=by
 have B:∀(d:TypeDesc)(s:String)(z:Value)(c:Bool)(n:Nat),(Made.word d s z c n).zero=some v->Plain z->ow v:=by
  intro d s z c n e W;cases e;exact λm=>VR.plain W
 cases d with
 |struct fs=>exact vN O h D
 |pointer e=>
  simp only[c9,bx,bw]at h;obtain⟨j,_,h⟩:=h;split at h
  .cases h
  .split at h
   .cases h
   .simp only[bw]at h;obtain⟨s,_,h⟩:=h;cases h;exact B _ _ _ _ _ D trivial
  .simp only[bw]at h;obtain⟨s,_,h⟩:=h;cases h;exact B _ _ _ _ _ D trivial
 |slice e=>
  simp only[c9,bx,bw]at h;obtain⟨_,_,_,_,h⟩:=h;cases h;exact B _ _ _ _ _ D trivial
 |map k e=>
  simp only[c9,bx,bw]at h;obtain⟨_,_,_,_,_,_,_,_,h⟩:=h;cases h;exact B _ _ _ _ _ D trivial
 |chan dr e=>
  simp only[c9,bx,bw]at h;obtain⟨_,_,_,_,h⟩:=h;cases h;exact B _ _ _ _ _ D trivial
 |func ps rs b=>
  simp only[c9,bx,bw]at h;obtain⟨_,_,h⟩:=h;cases h;exact B _ _ _ _ _ D trivial
 |array n e=>
  simp only[c9,bx,bw]at h;obtain⟨j,Y,_,_,h⟩:=h;cases h;simp only at D;split at D
  .cases D
  .split at D
   .cases D;exact .agg (by simp)
   .rw[b0]at D;obtain⟨z,h1,rfl⟩:=D;refine .agg λx U=>?_;have W:=(O e j z Y h1).cells;simp only[bo,Array.mem_flatten,Array.mem_replicate]at U;obtain⟨xs,⟨_,rfl⟩,U⟩:=U;exact W x (bo.2 U)
 |_=>cases h
theorem xR(B:∀(t:Nat)(i:TypeInfo)v,T.types[t]?=some i->i.zero=some v->ow v):∀(f:Nat)t i v,cB T f t=some i->i.zero=some v->ow v
 |0,_,_,_,h,_=>by cases h
 |f+1,t,i,v,h,D=>by
  unfold cB at h
  split at h
  .exact B t i v h D
  .rw[bw]at h
   obtain⟨d,_,h⟩:=h
   exact G4 (xR B f) h D
theorem AQ(h:c9 info d=some i):i.methods=#[]:=by
 cases d with
 |struct D=>
  have h:cA info D=some i:=h;unfold cA at h;simp only[bx,bw]at h;obtain⟨st,B,h⟩:=h;split at h <;>(cases h; rfl)
 |pointer e=>
  simp only[c9,bx,bw]at h;obtain⟨j,_,h⟩:=h;split at h
  .cases h
  .split at h
   .cases h
   .simp only[bw]at h;obtain⟨s,_,h⟩:=h;cases h;rfl
  .simp only[bw]at h;obtain⟨s,_,h⟩:=h;cases h;rfl
 |slice e=>
  simp only[c9,bx,bw]at h;obtain⟨_,_,_,_,h⟩:=h;cases h;rfl
 |map k e=>
  simp only[c9,bx,bw]at h;obtain⟨_,_,_,_,_,_,_,_,h⟩:=h;cases h;rfl
 |chan O e=>
  simp only[c9,bx,bw]at h;obtain⟨_,_,_,_,h⟩:=h;cases h;rfl
 |func ps rs b=>
  simp only[c9,bx,bw]at h;obtain⟨_,_,h⟩:=h;cases h;rfl
 |array n e=>
  simp only[c9,bx,bw]at h;obtain⟨j,U,_,_,h⟩:=h;cases h;rfl
 |_=>cases h
theorem H7(B:∀(t:Nat)(i:TypeInfo),T.types[t]?=some i->i.methods.find? (·.name == "")=none):∀(f:Nat)t i,cB T f t=some i->i.methods.find? (·.name == "")=none
 |0,_,_,h=>by cases h
 |f+1,t,i,h=>by
  unfold cB at h
  split at h
  .exact B t i h
  .rw[bw]at h
   obtain⟨d,_,h⟩:=h
   rw[AQ h];rfl
end
section
open Go.Conc
theorem uP(p:Nat)(a:Touch):touchAt #[] p≠some a:=by simp[touchAt,bV.act?]
theorem Hx{P:Program}{E:Env P}{Post:Value->World->Prop}{f:bS}{jZ:Func}{c:Code}{args B:Array Value}{W wl:World}{m:Ren}(hZ:E.Z=ending P Post)(O:∀b,E.jv b->b<W.heap.size/\W.heap[b]?=E.w0.heap[b]?)(aa:∀r b,m.blk r=some b->E.jv b->m.loose r)(U:∀b,b<E.w0.heap.size->E.jv b\/E.w0.heap[b]?=some qM)(ab:E.w0.heap.size<=W.heap.size)(ac:W.os=E.w0.os/\W.output=E.w0.output)(hT:E.T=[])(hf:P.funcs[f]?=some jZ)(hb:jZ.body=some c)(ad:Rg E m)(hw:WR m wl W)(D:iI m B args)
  (h:gP E [⟨f,B++bl (jZ.ntmps-B.size) cQ,[.code c]⟩] wl []):vX P Post (solo (G (cO P f args .normal) []) W) #[]:=by
 have hE:cO P f args .normal=jx f (args++bl (jZ.ntmps-args.size) cQ) [.code c]:=by simp[cO,jx,hf,hb]
 have ae:Co P E.jv E.w0 (λ_=>False) (λ_=>.quit 0) m wl #[G (cO P f args .normal) []] W #[]:=by
  refine⟨hw,λi g hi hg=>?_,λ_ _=>rfl,λi m' hm=>(by cases hm),λi j m1 m2 _ hm _=>(by cases hm),λi j J1 J2 _ Y _=>(by cases Y),λp a b r D=>absurd D (uP p a),λi m' hm=>(by cases hm),λi J Y=>(by cases Y),λp a b D=>absurd D (uP p a),λop af=>(by simp at af),λp a D=>absurd D (uP p a),past_nil.clean,O,aa,λi m' hm=>(by cases hm),λi J Y=>(by cases Y),ab,ac,λp a b D=>absurd D (uP p a),λc hc=>hc.elim,λb hb=>(U b hb).imp id .inr⟩;have:i<1:=by simpa using(bj.1 hg).1
  omega
 have:=h m (λ_=>False) (λ_=>.quit 0) #[G (cO P f args .normal) []] W none #[] (cO P f args .normal) [] ad ae ⟨λr vs hr=>(by cases hr),λi J n hi=>(by cases hi),λr hr=>(by cases hr)⟩ (by rw[hE,hT]; exact .cons (o:=⟨f,B++bl (jZ.ntmps-B.size) cQ,[.code c]⟩) (by rw[<-D.size]; exact D.append (.replicate _ (.undef m))) .nil) rfl;rw[hZ]at this;exact this
end
end Go.Proofs.YtocbogeoffeolaaGreatDoor
