import Derived.Test.YtocbogeoffeolaaGreatDoorRefAF
import Derived.Test.YtocbogeoffeolaaGreatDoorChecked
set_option linter.all false
set_option maxHeartbeats 8000000
set_option maxRecDepth 1000000
open Option renaming bind_eq_some_iff->a1,bind_eq_bind->a2,bind_some->bd,map_eq_some_iff->be,getD_some->bf,map_some->bg
open Array renaming getElem?_eq_some_iff->bh,replicate->bi,all_eq_true->bj,mem_toList_iff->bk,getElem?_setIfInBounds_ne->bl,mem_iff_getElem->bm,getElem?_push->bn,empty_append->bo,ext->bp
open Go renaming yielded->bq,stepG->br,FuncId->bs,execOp->bt,TypeId->bu,unwind->bv,goexitEntry->bw,seen->bx,Trace->bz,results->b0,doReturn->b2,commResult->b3
open Go.Made renaming reckon->b4,reckonStruct->b5,infoAt->b6
open Go.Region renaming wanted->b7,schedule->b8
open List renaming mem_cons->b9,mem_map->bA,mem_filter->bB,getElem?_eq_some_iff->bC,not_mem_nil->bD,mem_toArray->bE,range->bF
open Go.stepG renaming apply->bG,exec->bH
open Bool renaming and_eq_true->bI,or_eq_true->bJ,false_eq_true->bK
open Go.Conc renaming runT_crowd_go->bL,mem_ofEvents->bM,rcase->bN,mem_seen->bO,crowd->bP,ofEvents_eq->bQ
open Go.ConcN renaming upd_ne->bR,upd_same->bS
open Nat renaming lt_of_lt_of_le->bT,le_refl->bU,le_trans->bV
open Go.GStep renaming after->bW
open Classical renaming byContradiction->bX
open Go.MemOp renaming ofEvents->bY
open Go.Frame renaming enter->bZ
open Option.some renaming inj->ca
open Go renaming undef->cb
namespace Go.Proofs.YtocbogeoffeolaaGreatDoor
open Go.Proofs.Tryz
section
open Go.Conc
open Go.ConcN (upd upd_same upd_ne)
variable {V:List (Nat×Option (List Value))}
section
variable {P:Program} {jl:Nat->Prop} {w0:World} {Pd:Nat->Prop} {ρ:Nat->iw} {m gE:Ren} {wl uN:World} {gs gs':Array Goroutine} {w w₁:World} {t:bz} {sl:Option (Nat×Nat)}
theorem Co.yZ{fn:bs}{pos:String}{es:Array Event}(h:Co P jl w0 Pd ρ m wl gs w t)(ac:m.Le gE)(hk:jj m gE w w₁)(he:∀e∈es,qY gE e)(O:WR gE uN w₁)(ag:gs'.size=gs.size)
  (ah:∀j x,0<j->gs'[j]?=some x->∃y,gs[j]?=some y/\(At P w₁ (t++bY 0 fn pos es) j y (ρ j)->x=y)) :
  Co P jl w0 Pd ρ gE uN gs' w₁ (t++bY 0 fn pos es):=by
 have dj:∀j m',(ρ j).pA=some m'->qy gE m':=λj m' B=>by
  obtain⟨wl',ai⟩:=h.wr B;exact qy.grow (h.d0 j m' B) ac hk ai
 have U:∀c cl,j8 w c cl->w₁.heap[c]?=w.heap[c]?:=λc cl x=>hk.Q2 h.main x
 have hrel:∀j y,0<j->gs[j]?=some y->At P w₁ (t++bY 0 fn pos es) j y (ρ j):=by
  intro j y hj hy;refine(h.at_ j y hj hy).rely (λm' B=>hk.leaves (h.d0 j m' B) (h.wr B).choose_spec) (λJ hJ=>?_) hk.size hk.os λop aa hg=>absurd (ofEvents_g aa) (by omega);obtain⟨cl,Y⟩:=h.is hJ;exact U _ cl Y
 have ab:=h.s0.grow ac h.low hk.news;refine⟨O,λj x af Y=>?_,λj hj=>h.out j (by rw[<-ag]; exact hj),dj,h.dd,h.cc,ab.own,λj m' B=>(h.ss j m' B).other (dj j m' (iw.qu B)).symm he,λj J hJ p a ha hb=>?_,h.low.own O hk.size he,Dq h.hears he,h.nh.app λop aa=>.inr (.inl (ofEvents_g aa)),ab.clean h.clean he,λb hb=>?_,λr b aj hb=>?_,h.ff,h.cx,bV h.sz hk.size,⟨hk.os.trans h.os.1,hk.output.trans h.os.2⟩,h.kn.app (λj m' r b B Y=>⟨j,m',r,B,Y⟩) (λop aa _ _ _ _ _=>.inl (ofEvents_g aa)),h.pd.app (λ_=>rfl) (λc _ ad=>U c _ ad) (λop aa a c ha _ ad hb=>?_),h.len⟩
 .obtain⟨y,hy,ak⟩:=ah j x af Y;have:=hrel j y af hy;rw[ak this]; exact this
 .rcases ii ha with⟨_,h1⟩|⟨op,h1,_,h3⟩
  .exact h.MJ j J hJ p a h1 hb
  .obtain⟨e,ae,rfl⟩:=bM h1
   have hm:a.loc.isMemory=true:=by
    cases hl:a.loc<;>rw[hl]at hb<;>simp[nB]at hb<;>rfl
   obtain⟨b',r',g1,g2,g3⟩:=oI (he e ae) h3 hm;rw[hb]at g1;cases g1;obtain⟨cl,s,y,Y⟩:=h.is (iw.wB hJ);have:j8 w₁ _ cl:=⟨s,y,by rw[U _ cl ⟨s,y,Y⟩]; exact Y⟩;exact O.Bo this g2
 .obtain⟨h1,h2⟩:=h.fix b hb;refine⟨bT h1 hk.size,?_⟩;rw[<-h2];by_cases Y:∃r,m.blk r=some b
  .obtain⟨r,Y⟩:=Y;exact hk.still r b Y (h.f0 r b Y hb)
  .exact hk.old b h1 λr al=>Y ⟨r,al⟩
 .rcases hk.news r b aj with x|x
  .exact(ac.loose r b x).2 (h.f0 r b x hb)
  .have:=(h.fix b hb).1;omega
 .obtain⟨e,ae,rfl⟩:=bM aa
  have hm:a.loc.isMemory=true:=by
   cases hl:a.loc<;>rw[hl]at hb<;>simp[nB]at hb<;>rfl
  obtain⟨b',r',g1,g2,g3⟩:=oI (he e ae) ha hm;rw[hb]at g1;cases g1;obtain⟨s,y,Y⟩:=ad;exact O.Bo (cl:=false) ⟨s,y,by rw[U _ false ⟨s,y,Y⟩]; exact Y⟩ g2
theorem Co.calm(h:Co P jl w0 Pd ρ m wl gs w t)(B:∀i,(ρ i).sum=none)(m':Ren):pP t 0 m':=by
 intro p a b r O hb _ _
 have hm:a.loc.isMemory=true:=by
  cases U:a.loc<;>rw[U]at hb<;>simp[nB]at hb<;>rfl
 rcases h.nh p a O hm with x|⟨op,_,x⟩
 .exact x
 .exact absurd (B _) x
theorem jT{g g':Goroutine}{u:bz}(w₁:World):∀j x,0<j->((gs.map (woken P g g' w₁)).setIfInBounds 0 g')[j]?=some x->∃y,gs[j]?=some y/\(At P w₁ u j y (ρ j)->x=y):=by
 intro j x U B;rw[bl (by omega),Array.getElem?_map]at B;obtain⟨y,O,rfl⟩:=be.1 B;exact⟨y,O,λh=>h.woken g g'⟩
end
structure OF where
 fn:bs
 tm:Array Value
 td:List Item
def j0(fn:bs)(tm:Array Value)(td:List Item):Frame:=⟨fn,tm,td,[],.run,.normal,none⟩
inductive qx(m:Ren)(T:List Frame):List OF->List Frame->Prop
 |nil:qx m T [] T
 |cons {o os tm' l}:io m o.tm tm'->qx m T os l->qx m T (o::os) (j0 o.fn tm' o.td::l)
theorem qx.mono{m gE:Ren}{T:List Frame}(h:m.Le gE){os:List OF}{l:List Frame}(x:qx m T os l):qx gE T os l:=by
 induction x with
 |nil=>exact .nil
 |cons B _ O=>exact .cons (B.mono h) O
structure Env(P:Program) where
 Z:lQ P
 jl:Nat->Prop
 w0:World
 T:List Frame
 gl:Nat->Prop
 st:Bool
 je:bs->Prop
 ok:Oper->Prop
 X:Ren->Prop
 le:∀m gE:Ren,m.Le gE->X m->X gE
structure Rg{P:Program}(E:Env P)(m:Ren):Prop where
 rL:nW P m E.gl E.st
 kK:¬m.kK
 oY:∀r r',m.ch r=some r'->m.n5 r=some (.chan 0 #[] false 0 0 false)
 je:m.je=E.je
 Tq:m.ok=E.ok
 x:E.X m
structure SX(m:Ren)(ρ:Nat->iw)(Pd:Nat->Prop)(V:List (Nat×Option (List Value))):Prop where
 all:∀r vs,(r,some vs)∈V->∃i J n,(ρ i).sum=some (J,n)/\m.ch r=some J.c/\n<=J.L.length/\J.L.drop n=vs/\∀v∈J.L,∀(m:Ren)v',VR m v v'->v'=v
 only:∀i J n,(ρ i).sum=some (J,n)->∃r vs,(r,some vs)∈V/\m.ch r=some J.c
 NV:∀r,(r,none)∈V->∃c,m.ch r=some c/\Pd c
section
variable {P:Program} {E:Env P}
theorem Rg.open{m:Ren}(h:Rg E m):Open m:=λr r' B=>⟨_,_,_,_,_,h.oY r r' B⟩
theorem Rg.le{m gE:Ren}{w w₁:World}(h:Rg E m)(B:m.Le gE)(O:jj m gE w w₁):Rg E gE:=
 ⟨h.rL.mono B,by rw[B.kK]; exact h.kK,λr r' U=>by rw[O.oY h.kK]at U; rw[O.n5]; exact h.oY r r' U,B.je.trans h.je,B.ok.trans h.Tq,E.le m gE B h.x⟩
theorem SX.le{m gE:Ren}{ρ ρ':Nat->iw}{Pd:Nat->Prop}(h:SX m ρ Pd V)(U:m.Le gE)(hs:∀j,(ρ' j).sum=(ρ j).sum):SX gE ρ' Pd V:=by
 refine⟨λr vs Y=>?_,λi J n hi=>?_,λr Y=>?_⟩
 .obtain⟨i,J,n,B,O,h3⟩:=h.all r vs Y;exact⟨i,J,n,by rw[hs]; exact B,U.ch _ _ O,h3⟩
 .rw[hs]at hi;obtain⟨r,vs,B,O⟩:=h.only i J n hi;exact⟨r,vs,B,U.ch _ _ O⟩
 .obtain⟨c,B,O⟩:=h.NV r Y;exact⟨c,U.ch _ _ B,O⟩
def gp(E:Env P)(os:List OF)(wl:World)(V:List (Nat×Option (List Value))):Prop:=
 ∀m(Pd:Nat->Prop)ρ gs w sl t fr' cs',Rg E m->Co P E.jl E.w0 Pd ρ m wl gs w t->SX m ρ Pd V->qx m E.T os (fr'::cs')->gs[0]?=some (G fr' cs')->E.Z.Up (bP gs w sl) t
def SF(E:Env P)(os:List OF)(wl:World)(N:List OF->World->Prop):Prop:=
 ∀m w fr' cs',Rg E m->qx m E.T os (fr'::cs')->WR m wl w->∃gE B O w₁ es U uN,br P true (G fr' cs') w=.go (G B O) w₁ es/\m.Le gE/\jj m gE w w₁/\(∀e∈es,qY gE e)/\qx gE E.T U (B::O)/\WR gE uN w₁/\N U uN
theorem gp.step{os:List OF}{wl:World}{N:List OF->World->Prop}(h:SF E os wl N)(hn:∀B uN,N B uN->gp E B uN V):gp E os wl V:=by
 intro m Pd ρ gs w sl t fr' cs' aa ae af ab h0;refine turn (Z:=E.Z) (a:=G fr' cs') (K:=λj=>(ρ j).sum) (N:=gs.size) rfl ?_ ρ gs w sl t ae (λ_=>rfl) h0 rfl;intro ρ' gs' w' aj ac d t' O hK ad hN;obtain⟨gE,U,Y,w₁,es,B,uN,hs,hl,hk,he,ho,hw,ag⟩:=h m _ fr' cs' aa ab O.main;have ah:=bL (P:=P) (sl:=ac) (i:=0) ad (show br P .. = _ from hs);rw[ah];refine E.Z.next _ _ _ _ ?_;have ai:=(bh.1 ad).1;exact hn B uN ag gE Pd ρ' _ _ ac _ U Y (aa.le hl hk) (O.yZ (gs':=(gs'.map _).setIfInBounds 0 _) hl hk he hw (by simp) (jT _)) (af.le hl hK) ho (by simp[ai])
end
end
section
open Go.Conc
variable {ops:Array Oper} {t t':Array Value} {x y:Code} {rest:List Nat} {i id:Nat} {m:Ren}
def iF(B:Option Tmp)(tm:Array Value)(v:Value):Array Value:=match B with|some d=>tm.setIfInBounds d v|none=>tm
def ll(tm:Array Value):Operand->Value:=Act.eval ⟨tm,[]⟩
section
variable {P:Program} {E:Env P} {fn:bs} {tm:Array Value} {os:List OF} {wl:World} {V:List (Nat×Option (List Value))} {k:List Item}
theorem P5(fn:bs)(tm:Array Value)(td:List Item):(j0 fn tm td).eval=ll tm:=by funext x; cases x<;>rfl
theorem lD(fn:bs)(tm:Array Value)(ops:Array Oper)(i:Nat)(rest:List Nat)(k:List Item)(v:Value):(j0 fn tm (.inRegion ops (i::rest)::k)).finish v=j0 fn (iF ((ops[i]?).bind (·.dst)) tm v) (.inRegion ops rest::k):=by
 cases h:(ops[i]?).bind _<;>simp[Frame.finish,j0,iF,h]
theorem io.iF(h:io m t t')(d:Option Tmp){v B:Value}(O:VR m v B):io m (Go.Proofs.YtocbogeoffeolaaGreatDoor.iF d t v) (Go.Proofs.YtocbogeoffeolaaGreatDoor.iF d t' B):=by
 cases d with
 |none=>exact h
 |some d=>exact h.set d O
theorem Lx(h:io m t t'){gl:Nat->Prop}(B:∀g,gl g->m.blk g=some g)(x:Operand)(O:gR m.je gl x):VR m (ll t x) (ll t' x):=by
 cases x with
 |tmp i=>exact h.getD i
 |const v=>exact VR.plain O
 |global g=>exact .ptr (.mk (B g O))
 |func f=>exact .Lh (.func f O) (.nil m) (.nil m)
theorem gp.tape{τ:Nat->Question->Nat}(h:gp E os (tp wl τ) V):gp E os wl V:=by
 intro m Pd ρ gs w sl t fr' cs' U B O Y h0;exact h m Pd ρ gs w sl t fr' cs' U ⟨B.main.tp τ,B.at_,B.out,B.d0,B.dd,B.cc,B.s0,B.ss,B.MJ,B.low,B.hears,B.nh,B.clean,B.fix,B.f0,B.ff,B.cx,B.sz,B.os,B.kn,B.pd,B.len⟩ O Y h0
theorem gp.ctl{td B:List Item}(h:∀O cs' w,br P true (G (j0 fn O td) cs') w=.go (G (j0 fn O B) cs') w #[])(Y:gp E (⟨fn,tm,B⟩::os) wl V):gp E (⟨fn,tm,td⟩::os) wl V:=by
 refine gp.step (N:=λo w=>o=⟨fn,tm,B⟩::os/\w=wl) (λm w fr' cs' hr ho hw=>?_) (λo w ⟨h1,h2⟩=>by rw[h1,h2]; exact Y)
 cases ho with
 |@cons _ _ O l ht U=>exact⟨m,_,_,w,#[],_,wl,h O cs' w,.refl m,.refl m w,by simp,.cons (o:=⟨fn,tm,B⟩) ht U,hw,rfl,rfl⟩
theorem gp.skip(h:gp E (⟨fn,tm,k⟩::os) wl V):gp E (⟨fn,tm,.code .skip::k⟩::os) wl V:=gp.ctl (λ_ _ _=>rfl) h
theorem gp.seq(h:gp E (⟨fn,tm,.code x::.code y::k⟩::os) wl V):gp E (⟨fn,tm,.code (.seq x y)::k⟩::os) wl V:=gp.ctl (λ_ _ _=>rfl) h
theorem gp.block(h:gp E (⟨fn,tm,.code x::.inBlock id::k⟩::os) wl V):gp E (⟨fn,tm,.code (.block id x)::k⟩::os) wl V:=gp.ctl (λ_ _ _=>rfl) h
theorem gp.inBlock(h:gp E (⟨fn,tm,k⟩::os) wl V):gp E (⟨fn,tm,.inBlock id::k⟩::os) wl V:=gp.ctl (λ_ _ _=>rfl) h
theorem gp.loop(h:gp E (⟨fn,tm,.code x::.inLoop x::k⟩::os) wl V):gp E (⟨fn,tm,.code (.loop x)::k⟩::os) wl V:=gp.ctl (λ_ _ _=>rfl) h
theorem gp.inLoop(h:gp E (⟨fn,tm,.code x::.inLoop x::k⟩::os) wl V):gp E (⟨fn,tm,.inLoop x::k⟩::os) wl V:=gp.ctl (λ_ _ _=>rfl) h
theorem gp.exit{k':List Item}(e:exitTo id k=some k')(h:gp E (⟨fn,tm,k'⟩::os) wl V):gp E (⟨fn,tm,.code (.exit id)::k⟩::os) wl V:=
 gp.ctl (λ_ _ _=>by simp[br,bH,G,j0,e]) h
theorem gp.region(h:gp E (⟨fn,tm,.inRegion ops (bF ops.size)::k⟩::os) wl V):gp E (⟨fn,tm,.code (.region id ops false)::k⟩::os) wl V:=
 gp.ctl (λ_ _ _=>by simp[br,bH,G,j0]) h
theorem gp.inRegion(h:gp E (⟨fn,tm,k⟩::os) wl V):gp E (⟨fn,tm,.inRegion ops []::k⟩::os) wl V:=gp.ctl (λ_ _ _=>rfl) h
theorem gp.cond{c:Operand}{b:Bool}(Y:xq c)(e:ll tm c=.bool b)(h:gp E (⟨fn,tm,.code (if b then x else y)::k⟩::os) wl V):gp E (⟨fn,tm,.code (.cond c x y)::k⟩::os) wl V:=by
 refine gp.step (N:=λo w=>o=⟨fn,tm,.code (if b then x else y)::k⟩::os/\w=wl) (λm w fr' cs' hr ho hw=>?_) (λo w ⟨h1,h2⟩=>by rw[h1,h2]; exact h)
 cases ho with
 |@cons _ _ B l ht O=>
  refine⟨m,_,_,w,#[],_,wl,?_,.refl m,.refl m w,by simp,.cons (o:=⟨fn,tm,.code (if b then x else y)::k⟩) ht O,hw,rfl,rfl⟩
  have hv:(j0 fn B (.code (.cond c x y)::k)).eval c=.bool b:=by
   cases c with
   |tmp i=>
    have:=ht.getD i;have e:tm.getD i cb=.bool b:=e;rw[e]at this;generalize hq:B.getD i cb=q at this;cases this;exact hq
   |const v=>exact e
   |global g=>exact Y.elim
   |func f=>exact Y.elim
  have U:Frame.eval ⟨fn,B,.code _::k,[],.run,.normal,none⟩ c=.bool b:=hv;simp[br,bH,G,j0,U]
theorem gp.RP(h:∀t,gp E (⟨fn,tm,.inRegion ops (b8 (P.follows .mixedOrders) ops t)::k⟩::os) wl V):gp E (⟨fn,tm,.code (.region id ops true)::k⟩::os) wl V:=by
 refine gp.step (N:=λo w=>∃t,o=⟨fn,tm,.inRegion ops (b8 (P.follows .mixedOrders) ops t)::k⟩::os/\w=wl) (λm w fr' cs' hr O U=>?_) (λo w ⟨t,Y,h2⟩=>by rw[Y,h2]; exact h t)
 cases O with
 |@cons _ _ aa l ht B=>
  obtain⟨t,d,e⟩:∃t d,(choose (.order fn id)).run P w=.ok t (w.at d):=by
   by_cases hf:(Question.order fn id).forced=true
   .exact⟨0,w.drawn,by simp[choose,Sem.run,hf,World.at]⟩
   .exact⟨_,w.drawn+1,by rfl⟩
  refine⟨m,_,_,w.at d,#[],_,wl,?_,.refl m,jj.at m w d,by simp,.cons (o:=⟨fn,tm,.inRegion ops _::k⟩) ht B,U.at d,t,rfl,rfl⟩;simp[br,bH,G,j0,e]
theorem ol{B:Array Value}{o:Oper}{cs':List Frame}{w:World}(hi:ops[i]?=some o)(O:b7 o (bq ops B)=true):br P true (G (j0 fn B (.inRegion ops (i::rest)::k)) cs') w=bG P true (j0 fn B (.inRegion ops (i::rest)::k)) cs' none (bt (ll B) o) w:=by
 have U:=P5 fn B (.inRegion ops (i::rest)::k);have:br P true (G (j0 fn B (.inRegion ops (i::rest)::k)) cs') w=bH P true true (j0 fn B (.inRegion ops (i::rest)::k)) cs' none w:=rfl;rw[this,<-U];unfold bH;simp only[j0,hi,bg,bf,O,if_true];unfold br.oper;simp only[Frame.oper?,hi]
theorem gp.pass{o:Oper}(hi:ops[i]?=some o)(Y:b7 o (bq ops tm)=false)(h:gp E (⟨fn,iF o.dst tm cb,.inRegion ops rest::k⟩::os) wl V):gp E (⟨fn,tm,.inRegion ops (i::rest)::k⟩::os) wl V:=by
 refine gp.step (N:=λo w=>gp E o w V) (λm w fr' cs' hr U hw=>?_) (λo w h=>h)
 cases U with
 |@cons _ _ B l ht aa=>
  have hy:b7 o (bq ops B)=false:=by rw[show bq ops B=bq ops tm from funext (ou ops ht)]; exact Y
  have O:=lD fn B ops i rest k cb;simp only[hi,bd]at O
  have ab:br P true (G (j0 fn B (.inRegion ops (i::rest)::k)) cs') w=.go (G (j0 fn (iF o.dst B cb) (.inRegion ops rest::k)) cs') w #[]:=by
   rw[<-O];have:br P true (G (j0 fn B (.inRegion ops (i::rest)::k)) cs') w=bH P true true (j0 fn B (.inRegion ops (i::rest)::k)) cs' none w:=rfl;rw[this];unfold bH;simp only[j0,hi,bg,bf,hy,bK,if_false,G]
  exact⟨m,_,_,w,_,_,wl,ab,.refl m,.refl m w,by simp,.cons (o:=⟨fn,iF _ tm cb,.inRegion ops rest::k⟩) (ht.iF _ (.undef m)) aa,hw,h⟩
end
end
section
open Go.Conc
variable {S:LS} {Tc:List Frame} {m:Ren} {w:World}
section
variable {P:Program} {E:Env P} {fn:bs} {tm:Array Value} {os:List OF} {wl:World} {V:List (Nat×Option (List Value))} {k:List Item}
def lz(E:Env P)(S:LS)(os:List OF)(V:List (Nat×Option (List Value))):Prop:=
 ∀m(Pd:Nat->Prop)ρ gs w sl t fr' cs' Tc,Rg E m->Co P E.jl E.w0 Pd ρ m S.w gs w t->SX m ρ Pd V->qx m E.T os Tc->gX P m Tc (S.fr::S.cs) (fr'::cs')->gs[0]?=some (G fr' cs')->E.Z.Up (bP gs w sl) t
theorem Co.tape{jl:Nat->Prop}{w0:World}{Pd:Nat->Prop}{ρ:Nat->iw}{gs:Array Goroutine}{t:bz}(B:Co P jl w0 Pd ρ m wl gs w t)(τ:Nat->Question->Nat):Co P jl w0 Pd ρ m (tp wl τ) gs w t:=
 ⟨B.main.tp τ,B.at_,B.out,B.d0,B.dd,B.cc,B.s0,B.ss,B.MJ,B.low,B.hears,B.nh,B.clean,B.fix,B.f0,B.ff,B.cx,B.sz,B.os,B.kn,B.pd,B.len⟩
theorem lz.tape{τ:Nat->Question->Nat}(h:lz E (S.on τ) os V):lz E S os V:=by
 intro m Pd ρ gs w sl t fr' cs' Tc U Y B ho O h0;exact h m Pd ρ gs w sl t fr' cs' Tc U (Y.tape τ) B ho O h0
theorem Rg.uv{fr':Frame}{cs':List Frame}(h:Rg E m)(B:gX P m Tc (S.fr::S.cs) (fr'::cs'))(O:WR m S.w w):yD P E.gl E.st m Tc S fr' cs' w:=⟨h.rL,h.kK,h.open,B,O⟩
theorem lz.pW{Stop:LS->Prop}(hB:As Stop)(hH:oc P Stop S)(hn:∀S',Stop S'->lz E S' os V):lz E S os V:=by
 intro m Pd ρ gs w sl t fr' cs' Tc hr hc ac ho Y h0;have ae:=hH.acc hB ⟨_,_,_,_,_,_,_,hr.uv Y hc.main⟩;revert m Pd ρ gs w sl t fr' cs' Tc hH
 induction ae with
 |intro S _ ih=>
  intro hH m Pd ρ gs w sl t fr' cs' Tc hr hc ac ho Y h0;by_cases B:Stop S
  .exact hn S B m Pd ρ gs w sl t fr' cs' Tc hr hc ac ho Y h0
  .refine turn (Z:=E.Z) (a:=G fr' cs') (K:=λj=>(ρ j).sum) (N:=gs.size) rfl ?_ ρ gs w sl t hc (λ_=>rfl) h0 rfl;intro ρ' gs' w' ao af d t' aa hK ag hN;have ab:=hr.uv Y aa.main;have ah:=ab.Uu hB hH B true;generalize aj:br P true .. = sg at ah
   cases ah with
   |@go S' gE O U w₁ es hg hl ai hk he=>
    have ak:=bL (P:=P) (sl:=af) (i:=0) ag (show br P .. = _ from aj);rw[ak];refine E.Z.next _ _ _ _ ?_;have al:=(bh.1 ag).1;exact ih S' hg (hH.own hB ⟨_,_,_,_,_,_,_,ab⟩ hg).2 gE Pd ρ' _ _ af _ O U Tc (hr.le hl hk) (aa.yZ (gs':=(gs'.map _).setIfInBounds 0 _) hl hk he ai.world (by simp) (jT _)) (ac.le hl hK) (ho.mono hl) ai.stack (by simp[al])
   |@send S' gE O U w₁ es r r' v v' z' hg hl hp hk he=>
    obtain⟨f0,ap,cap,aq,jU,an,ar,_,_,am,hx,ad⟩:=hp.uv;have:=(am.n5 r _ ((hr.le hl hk).oY r r' hp.ch)).1;rw[hx]at this;cases this;simp at ad
theorem qx.head{T:List Frame}{o:OF}{l:List Frame}(h:qx m T (o::os) l):∃B U,l=j0 o.fn B o.td::U/\io m o.tm B/\qx m T os U:=by
 cases h with
 |cons Y O=>exact⟨_,_,rfl,Y,O⟩
def xv(E:Env P)(os:List OF):Prop:=os≠[]\/∀ps,E.T=[ps]->ps.mode≠.panicking [bw]
theorem vZ(B:xv E os)(h:qx m E.T os Tc):∀ps,Tc=[ps]->ps.mode≠.panicking [bw]:=by
 cases h with
 |nil=>
  rcases B with x|x
  .exact absurd rfl x
  .exact x
 |cons U O=>
  rintro ps e;cases e;simp[j0]
theorem lz.ret{v:Value}{ops:Array Oper}{i:Nat}{rest:List Nat}{o:Oper}(hi:ops[i]?=some o)(ao:S.cs=[door P])(hl:S.fr.leaving P S.w (.returned v))(h:gp E (⟨fn,iF o.dst tm v,.inRegion ops rest::k⟩::os) S.w V):lz E S (⟨fn,tm,.inRegion ops (i::rest)::k⟩::os) V:=by
 intro m Pd ρ gs w sl t fr' cs' Tc ap aq ar aa ad h0;refine turn (Z:=E.Z) (a:=G fr' cs') (K:=λj=>(ρ j).sum) (N:=gs.size) rfl ?_ ρ gs w sl t aq (λ_=>rfl) h0 rfl;intro ρ' gs' w' a0 aj d t' B hK ak hN;obtain⟨hm,hd,hk,f,hf,O⟩:=hl;have hF:=ad.rX;rw[ao]at ad;have ae:=vZ (E:=E) (.inl (by simp)) aa;obtain⟨U,l',rfl,ht,au⟩:=aa.head
 obtain⟨rfl,af⟩:cs'=j0 fn U _::l'/\fr'.kind=.normal:=by
  cases ad with
  |one _ _ hb _=>
   refine⟨rfl,?_⟩;rcases hb with⟨x,_⟩|⟨_,ps,e,x⟩
   .exact x
   .exact absurd x (ae ps e)
  |cons _ _ _ hx=>cases hx
 have Y:=hF.mode;have ab:=hF.defers;rw[hm]at Y;rw[hd]at ab;have av:=hF.fn;have al:=hF.tmps;obtain⟨a3,ag,ah,a4,a5,a6,ai⟩:=fr';cases Y;cases ab;subst af av;have am:=(o9 (P:=P) (fn:=f) al).run _ _ #[] (B.main.tp _) (.inl (r9 _ _))
 have aw:(b0 f S.fr.tmps).run P (tp S.w (along S.w (w'.at d)))=.ok v (tp S.w (along S.w (w'.at d))):=by
  have an:=(o9 (P:=P) (fn:=f) al).loc _ _ B.main;rcases an with⟨x,w₁,e,_⟩|⟨_,_,h3⟩
  .rw[O]at e; cases e
  .have:=h3 (along S.w (w'.at d)) (by rw[O]; intro i a b; simp only[DM]at b; omega);rw[O]at this;exact this
 rw[aw]at am;obtain⟨gE,v',w₁,es₁,e1,e2,e3,e4,_,e6,e7⟩:=am;have ac:=lD fn U ops i rest k v';simp only[hi,bd]at ac
 have ax:br P true (G ⟨S.fr.fn,ag,ah,[],.returning,.normal,ai⟩ (j0 fn U (.inRegion ops (i::rest)::k)::l')) (w'.at d)=.go (G (j0 fn (iF o.dst U v') (.inRegion ops rest::k)) l') w₁ (bx P S.fr.fn es₁):=by
  have:br P true (G ⟨S.fr.fn,ag,ah,[],.returning,.normal,ai⟩ (j0 fn U (.inRegion ops (i::rest)::k)::l')) (w'.at d)=bv P true ⟨S.fr.fn,ag,ah,[],.returning,.normal,ai⟩ _ none _:=rfl;rw[this];unfold bv;simp only[hf,e1];unfold b2;simp only[ac];simp[bW,G]
 have ay:=bL (P:=P) (sl:=aj) (i:=0) ak (show br P _ _ _=_ from ax);rw[ay];refine E.Z.next _ _ _ _ ?_;have az:=(bh.1 ak).1;exact(gp.tape (τ:=along S.w (w'.at d)) (wl:=S.w) (λm Pd ρ gs w sl t fr' cs' a b c d e=>h m Pd ρ gs w sl t fr' cs' a (b.tape _) c d e)) gE Pd ρ' _ _ aj _ _ _ (ap.le e2 e6) ((B.yZ (gs':=(gs'.map _).setIfInBounds 0 _) e2 e6 (λe he=>e7 e (bO he)) e4 (by simp) (jT _)).tape _) (ar.le e2 hK) (.cons (o:=⟨fn,iF _ tm v,.inRegion ops rest::k⟩) ((ht.mono e2).iF _ e3) (au.mono e2)) (by simp[az])
end
end
section
open Go.Conc
variable {ops:Array Oper} {ars:Array Operand} {ts:Array bu} {tm1:Array Value} {c:Code} {jQ:Func} {f f1:bs} {v:Value}
section
variable {P:Program} {E:Env P} {fn:bs} {tm:Array Value} {os:List OF} {wl:World} {V:List (Nat×Option (List Value))} {k:List Item}
theorem FU(P:Program)(U:P.funcs[f]?=some jQ)(hb:jQ.body=some c)(Y:jQ.name≠ "runtime.NumGoroutine") (ρ:Operand->Value) (B:ρ (.func f)=.func (.func f) #[] #[]) {o:Oper} (ho:o.op=.call {callee:=.value (.func f),args:=ars,argTypes:=ts}) (w:World):(bt ρ o).runT P w #[]=(.ok (.enter f (ars.map ρ)) w,#[]):=by
 obtain⟨d,op,ty,ps,af,g⟩:=o;subst ho;have O:(jQ.name == "runtime.NumGoroutine")=false:=by simpa using Y
 have e:bt ρ ⟨d,.call {callee:=.value (.func f),args:=ars,argTypes:=ts},ty,ps,af,g⟩=callFunc f ((#[]++ars.map ρ)++#[]):=by
  simp only[bt,resolve,B,Deferred.ofValue,invoke];rfl
 rw[e,bo];unfold callFunc;have e2:∀k:Program->Sem Go.Next,(program >>= k).runT P w #[]=(k P).runT P w _:=λk=>rfl;rw[e2];simp only[U,O,hb,bK,if_false,Option.isNone_some];rfl
theorem gp.outer{i:Nat}{rest:List Nat}{o:Oper}(hi:ops[i]?=some o)(aa:b7 o (bq ops tm)=true)(hf:P.funcs[f]?=some jQ)(hb:jQ.body=some c)(hn:jQ.name≠ "runtime.NumGoroutine") (ho:o.op=.call {callee:=.value (.func f),args:=ars,argTypes:=ts}) (ab:∀x∈ars.toList,gR E.je E.gl x)
  (h:gp E (⟨f,ars.map (ll tm)++bi (jQ.ntmps-ars.size) cb,[.code c]⟩::⟨fn,tm,.inRegion ops (i::rest)::k⟩::os) wl V):gp E (⟨fn,tm,.inRegion ops (i::rest)::k⟩::os) wl V:=by
 refine gp.step (N:=λo w=>gp E o w V) (λm w fr' cs' hr O hw=>?_) (λo w h=>h);have U:=O
 cases O with
 |@cons _ _ B l ht ae=>
  have hy:b7 o (bq ops B)=true:=by rw[show bq ops B=bq ops tm from funext (ou ops ht)]; exact aa
  have ac:=ol (P:=P) (fn:=fn) (k:=k) (rest:=rest) (cs':=cs') (w:=w) hi hy;have Y:=FU P hf hb hn (ll B) rfl ho w;have ha:=mW (je:=m.je) (gl:=E.gl) (λx hx=>Lx ht hr.rL.qT x hx) (λx hx=>by rw[hr.je]; exact ab x hx)
  have ad:bG P true (j0 fn B (.inRegion ops (i::rest)::k)) cs' none (bt (ll B) o) w=.go (G (j0 f (ars.map (ll B)++bi (jQ.ntmps-ars.size) cb) [.code c]) (j0 fn B (.inRegion ops (i::rest)::k)::cs')) w #[]:=by
   unfold bG;simp only[if_true,Y];simp[bW,G,j0,bZ,hf,hb,bx]
  exact⟨m,_,_,w,#[],_,wl,ac.trans ad,.refl m,.refl m w,by simp,.cons (o:=⟨f,ars.map _++bi _ cb,[.code c]⟩) (ha.append (.replicate _ (.undef m))) U,hw,h⟩
theorem M3{m:Ren}{Pd:Nat->Prop}{ρ:Nat->iw}{gs:Array Goroutine}{w:World}{sl:Option (Nat×Nat)}{t:bz}{O:Array Value}{td1:List Item}{l':List Frame}{i:Nat}{rest:List Nat}{o:Oper}{B:Array Value}{f:Func}
  (ae:Rg E m) (af:Co P E.jl E.w0 Pd ρ m wl gs w t) (ag:SX m ρ Pd V) (ah:io m tm1 O) (ht:io m tm B) (ai:qx m E.T os l') (hf:P.funcs[f1]?=some f) (hi:ops[i]?=some o) (aa:∀τ,(b0 f tm1).run P (tp wl τ)=.ok v (tp wl τ))
  (h0:gs[0]?=some (G ⟨f1,O,td1,[],.returning,.normal,none⟩ (j0 fn B (.inRegion ops (i::rest)::k)::l'))) (h:gp E (⟨fn,iF o.dst tm v,.inRegion ops rest::k⟩::os) wl V):E.Z.Up (bP gs w sl) t:=by
 refine turn (Z:=E.Z) (a:=G ..) (K:=λj=>(ρ j).sum) (N:=gs.size) rfl ?_ ρ gs w sl t af (λ_=>rfl) h0 rfl;intro ρ' gs' w' am ab d t' U hK ac hN;have ad:=(o9 (P:=P) (fn:=f) ah).run _ _ #[] (U.main.tp _) (.inl (r9 wl _));rw[aa]at ad;obtain⟨gE,v',w₁,es₁,e1,e2,e3,e4,_,e6,e7⟩:=ad;have Y:=lD fn B ops i rest k v';simp only[hi,bd]at Y
 have aj:br P true (G ⟨f1,O,td1,[],.returning,.normal,none⟩ (j0 fn B (.inRegion ops (i::rest)::k)::l')) (w'.at d)=.go (G (j0 fn (iF o.dst B v') (.inRegion ops rest::k)) l') w₁ (bx P f1 es₁):=by
  have:br P true (G ⟨f1,O,td1,[],.returning,.normal,none⟩ (j0 fn B (.inRegion ops (i::rest)::k)::l')) (w'.at d)=bv P true ⟨f1,O,td1,[],.returning,.normal,none⟩ _ none _:=rfl;rw[this];unfold bv;simp only[hf,e1];unfold b2;simp only[Y];simp[bW,G]
 have ak:=bL (P:=P) (sl:=ab) (i:=0) ac (show br P .. = _ from aj);rw[ak];refine E.Z.next _ _ _ _ ?_;have al:=(bh.1 ac).1;exact h gE Pd ρ' _ _ ab _ _ _ (ae.le e2 e6) ((U.yZ (gs':=(gs'.map _).setIfInBounds 0 _) e2 e6 (λe he=>e7 e (bO he)) e4 (by simp) (jT _)).tape _) (ag.le e2 hK) (.cons (o:=⟨fn,iF _ tm v,.inRegion ops rest::k⟩) ((ht.mono e2).iF _ e3) (ai.mono e2)) (by simp[al])
theorem gp.back{td1:List Item}{i:Nat}{rest:List Nat}{o:Oper}{f:Func}(ac:td1=[]\/∃k1,td1=.code .ret::k1)(hf:P.funcs[f1]?=some f)(hi:ops[i]?=some o)(U:∀τ,(b0 f tm1).run P (tp wl τ)=.ok v (tp wl τ))
  (h:gp E (⟨fn,iF o.dst tm v,.inRegion ops rest::k⟩::os) wl V):gp E (⟨f1,tm1,td1⟩::⟨fn,tm,.inRegion ops (i::rest)::k⟩::os) wl V:=by
 intro m Pd ρ gs w sl t fr' cs' ad ae af B h0;refine turn (Z:=E.Z) (a:=G fr' cs') (K:=λj=>(ρ j).sum) (N:=gs.size) rfl ?_ ρ gs w sl t ae (λ_=>rfl) h0 rfl;intro ρ' gs' w' am ag d t' O hK Y hN
 cases B with
 |@cons _ _ aa l ah B=>
  obtain⟨ab,l',rfl,ht,ai⟩:=B.head
  have aj:br P true (G (j0 f1 aa td1) (j0 fn ab (.inRegion ops (i::rest)::k)::l')) (w'.at d)=.go (G ⟨f1,aa,td1,[],.returning,.normal,none⟩ (j0 fn ab (.inRegion ops (i::rest)::k)::l')) (w'.at d) #[]:=by
   rcases ac with rfl|⟨k1,rfl⟩<;>rfl
  have ak:=bL (P:=P) (sl:=ag) (i:=0) Y (show br P .. = _ from aj);rw[ak];refine E.Z.next _ _ _ _ ?_;have al:=(bh.1 Y).1;exact M3 (td1:=td1) ad (O.yZ (gs':=(gs'.map _).setIfInBounds 0 _) (.refl m) (.refl m _) (by simp) O.main (by simp) (jT _)) (af.le (.refl m) hK) ah ht ai hf hi U (by simp[al]) h
def BM(ok:Oper->Prop):Item->Prop
 |.code c|.inLoop c|.inScope c=>jn ok c
 |.inBlock _=>True
 |.inRegion ops _=>∀o∈ops.toList,ok o
 |_=>False
theorem BM.R{m:Ren}:∀{td:List Item},(∀x∈td,BM m.ok x)->gW (ml m) td td
 |[],_=>.nil
 |x::td,h=>by
  refine .cons ?_ (BM.R λy O=>h y (by simp[O]))
  have B:=h x (by simp)
  cases x with
  |code c=>exact .code c B
  |inLoop c=>exact .inLoop c B
  |inScope c=>exact .inScope c B
  |inBlock i=>exact .inBlock i
  |inRegion ops t=>exact .inRegion ops t B
  |_=>exact B.elim
theorem gp.tail{td:List Item}(aa:∀x∈td,BM E.ok x)(B:xv E os)(h:lz E ⟨j0 fn tm td,[door P],wl⟩ os V):gp E (⟨fn,tm,td⟩::os) wl V:=by
 intro m Pd ρ gs w sl t fr' cs' O ab ac U h0;obtain⟨ad,l',e,ht,Y⟩:=U.head;cases e;exact h m Pd ρ gs w sl t _ _ cs' O ab ac Y (gX.one (fr:=j0 fn tm td) (fr':=j0 fn ad td) ⟨rfl,ht,BM.R (by rw[O.Tq]; exact aa),.nil,.run,.none⟩ rfl (.inl ⟨rfl,vZ B Y⟩) rfl) h0
end
section
variable {P:Program} {Post:Value->World->Prop}
def wM(P:Program)(Post:Value->World->Prop)(M:Machine)(t:bz):Prop:=∃N last o w' t',runNT P (N+1) M t=(.ended o w',t')/\runN P N M=.next last/\step P last=.ended o w'/\Good P Post last o w' t'
theorem Dj{M:Machine}{r:Stepped}{ops:Array MemOp}(h:stepT P M=(r,ops)):step P M=r:=by unfold step; rw[h]
def ending(P:Program)(Post:Value->World->Prop):lQ P where
 Up:=wM P Post
 Fin:=λM r t=>match r with
  |(.next B,ops)=>wM P Post B (t++ops)
  |(.ended o w',ops)=>Good P Post M o w' (t++ops)
 back:=by
  intro M t h
  rcases hs:stepT P M with⟨r,ops⟩
  rw[hs]at h
  cases r with
  |next B=>
   obtain⟨N,last,o,w',t',O,U,Y,h4⟩:=h
   refine⟨N+1,last,o,w',t',?_,?_,Y,h4⟩
   .rw[runNT,hs]; exact O
   .simp only[runN,Dj hs]; exact U
  |ended o w'=>exact⟨0,M,o,w',t++ops,by rw[runNT,hs],rfl,Dj hs,h⟩
 next:=λ_ _ _ _ h=>h
variable {jl:Nat->Prop} {w0:World} {Pd:Nat->Prop} {ρ:Nat->iw} {m:Ren} {wl:World} {gs:Array Goroutine} {w:World} {t:bz}
theorem Co.over(h:Co P jl w0 Pd ρ m wl gs w t)(B:∀i,(ρ i).sum=none):om t λ_=>False:=h.nh.mono λi hi=>absurd (B i) hi
theorem Co.lv(h:Co P jl w0 Pd ρ m wl gs w t)(Y:∀i,(ρ i).sum=none){i:Nat}{g:Goroutine}(hi:0<i)(hg:gs[i]?=some g):∃q,Lv P q g:=by
 have O:=h.at_ i g hi hg;have U:=Y i
 cases B:ρ i with
 |quit q=>rw[B]at O; exact⟨q,O⟩
 |ended hd J m S q=>rw[B]at O; exact⟨q,O.1⟩
 |act=>rw[B]at U; cases U
 |lO=>rw[B]at U; cases U
 |start=>rw[B]at U; cases U
theorem lz.done{E:Env P}(hZ:E.Z=ending P Post)(hT:E.T=[]){S:LS}(an:S.cs=[door P])(hl:S.fr.leaving P S.w (.returned v))(ao:P.inits.idxOf? S.fr.fn=none)
  (af:∀m v' w,Rg E m->VR m v v'->WR m S.w w->(∀b,E.jl b->w.heap[b]?=E.w0.heap[b]?)->(w.os=E.w0.os/\w.output=E.w0.output)->Post v' w):lz E S [] []:=by
 intro m Pd ρ gs w sl t fr' cs' Tc ap aq ar aj ag h0
 have hn:∀i,(ρ i).sum=none:=by
  intro i
  cases e:(ρ i).sum with
  |none=>rfl
  |some x=>
   obtain⟨r,vs,hx,_⟩:=ar.only i x.1 x.2 e;cases hx
 refine turn (Z:=E.Z) (a:=G fr' cs') (K:=λj=>(ρ j).sum) (N:=gs.size) rfl ?_ ρ gs w sl t aq (λ_=>rfl) h0 rfl;intro ρ' gs' w' au av d t' O hK aw hN;have ah:∀i,(ρ' i).sum=none:=λi=>(hK i).trans (hn i);obtain⟨hm,hd,hk,f,hf,U⟩:=hl;have hF:=ag.rX;rw[an]at ag
 obtain rfl:Tc=[]:=by
  cases aj;exact hT
 obtain⟨rfl,ai⟩:cs'=[]/\fr'.kind=.normal:=by
  cases ag with
  |one _ _ hb _=>
   refine⟨rfl,?_⟩;rcases hb with⟨x,_⟩|⟨_,ps,e,x⟩
   .exact x
   .cases e
  |cons _ _ _ hx=>cases hx
 have Y:=hF.mode;have ae:=hF.defers;rw[hm]at Y;rw[hd]at ae;have ax:=hF.fn;have ak:=hF.tmps;obtain⟨a3,aa,ab,a4,a5,a6,ac⟩:=fr';cases Y;cases ae;subst ai ax;have al:=(o9 (P:=P) (fn:=f) ak).run _ _ #[] (O.main.tp _) (.inl (r9 _ _))
 have ay:(b0 f S.fr.tmps).run P (tp S.w (along S.w (w'.at d)))=.ok v (tp S.w (along S.w (w'.at d))):=by
  have am:=(o9 (P:=P) (fn:=f) ak).loc _ _ O.main;rcases am with⟨x,w₁,e,_⟩|⟨_,_,h3⟩
  .rw[U]at e; cases e
  .have:=h3 (along S.w (w'.at d)) (by rw[U]; intro i a b; simp only[DM]at b; omega);rw[U]at this;exact this
 rw[ay]at al;obtain⟨gE,v',w₁,es₁,e1,e2,e3,e4,_,e6,e7⟩:=al
 have az:br P true (G ⟨S.fr.fn,aa,ab,[],.returning,.normal,ac⟩ []) (w'.at d)=.ended (.done v') w₁ (bx P S.fr.fn es₁):=by
  have:br P true (G ⟨S.fr.fn,aa,ab,[],.returning,.normal,ac⟩ []) (w'.at d)=bv P true ⟨S.fr.fn,aa,ab,[],.returning,.normal,ac⟩ [] none _:=rfl;rw[this];unfold bv;simp only[hf,e1];unfold b2;simp[bW,ao]
 have a0:=runT_many_ended (P:=P) (sl:=av) (i:=0) aw (show br P _ _ _=_ from az);rw[a0,hZ];have B:=O.yZ (gs':=gs') (fn:=S.fr.fn) (pos:=(G (⟨S.fr.fn,aa,ab,[],.returning,.normal,ac⟩) []).frame.place) e2 e6 (es:=bx P S.fr.fn es₁) (λe he=>e7 e (bO he)) e4 rfl (λj x _ hx=>⟨x,hx,λ_=>rfl⟩);have ad:=ap.le e2 e6;refine⟨v',rfl,af gE v' w₁ ad e3 (e4.tp _) (λb hb=>(B.fix b hb).2) B.os,B.clean,(B.over ah).over,⟨λx hx=>?_,rfl⟩,λj x hx hj=>?_⟩
 .obtain⟨j,hj⟩:=List.mem_iff_getElem?.1 hx;rw[List.getElem?_drop]at hj;obtain⟨q,hq⟩:=B.lv ah (i:=1+j) (by omega) (by simpa[bP]using hj);exact⟨_,hq.Hc.leaves⟩
 .obtain⟨q,hq⟩:=B.lv ah (i:=j) (by omega) hx;refine⟨q,?_⟩
  have e:∀u,nF u->Goroutine.endsWith P (bP gs' w' au).world q x (u.deaf j u.size)=some 0:=λu hu=>by
   rw[hu.deaf j _];exact hq.Hc.hears _
  exact e _ B.hears
end
end
section
open Go.Conc
open Go.ConcN (upd upd_same upd_ne)
section
variable {P:Program} {jl:Nat->Prop} {w0:World} {Pd:Nat->Prop} {ρ:Nat->iw} {m m₂:Ren} {wl wl₂:World} {gs gs':Array Goroutine} {w w₁:World} {t:bz}
theorem NX{h:Array Obj}{o x:Obj}{r:Nat}(B:h[r]?=some x):(h.push o)[r]?=h[r]?:=iM (mF B)
theorem Co.made(h:Co P jl w0 Pd ρ m wl gs w t)(O:w₁={w with heap:=w.heap.push (.chan 0 #[] false 0 0 false)})(ab:WR m₂ wl₂ w₁)(hb:m₂.blk=m.blk)(hl:m₂.loose=m.loose)(ac:gs'.size=gs.size)
  (ad:∀j x,0<j->gs'[j]?=some x->∃y,gs[j]?=some y/\(At P w₁ t j y (ρ j)->x=y)):Co P jl w0 (λc=>Pd c\/c=w.heap.size) ρ m₂ wl₂ gs' w₁ t:=by
 subst O;have B:w.heap.size<=(w.heap.push (.chan 0 #[] false 0 0 false)).size:=by simp
 have hrel:∀j y,0<j->gs[j]?=some y->At P {w with heap:=w.heap.push (.chan 0 #[] false 0 0 false)} t j y (ρ j):=by
  intro j y hj hy
  have:=(h.at_ j y hj hy).rely (w₁:={w with heap:=w.heap.push _}) (u:=#[]) (λm' U r b hb=>by
   obtain⟨wl',ae⟩:=h.wr U
   exact iM (ae.lt hb).2) (λJ hJ=>by
   obtain⟨cl,s,r,Y⟩:=h.is hJ
   exact NX Y) B rfl (by simp)
  simpa using this
 refine⟨ab,λj x aa Y=>?_,λj hj=>h.out j (by rw[<-ac]; exact hj),λi m' U=>?_,h.dd,h.cc,?_,h.ss,h.MJ,λp a b ha hb=>bT (h.low p a b ha hb) B,h.hears,h.nh,h.clean,λb hb=>?_,λr b hr hf=>?_,h.ff,h.cx,bV h.sz B,h.os,h.kn,λc hc=>?_,h.len⟩
 .obtain⟨y,hy,af⟩:=ad j x aa Y;have:=hrel j y aa hy;rw[af this]; exact this
 .have:=h.d0 i m' U;unfold qy at this⊢;rw[hb,hl];exact this
 .have:=h.s0;unfold pP at this⊢;rw[hb,hl];exact this
 .obtain⟨h1,h2⟩:=h.fix b hb;exact⟨bT h1 B,by rw[<-h2]; exact iM h1⟩
 .rw[hb]at hr;rw[hl];exact h.f0 r b hr hf
 .rcases hc with hc|rfl
  .obtain⟨⟨s,r,h1⟩,h2,h3,h4⟩:=h.pd c hc;exact⟨⟨s,r,kY h1⟩,h2,h3,h4⟩
  .refine⟨⟨0,0,by simp⟩,λp a ha hb=>?_,λi J hJ e=>?_,λhf=>?_⟩
   .have:=h.low p a _ ha hb;omega
   .obtain⟨cl,s,r,Y⟩:=h.is hJ;have:=mF Y;omega
   .have:=(h.fix _ hf).1;omega
theorem Nk(h:Array Obj)(o:Obj):(h.push o).setIfInBounds h.size o=h.push o:=by
 apply Array.ext_getElem?;intro j;by_cases e:h.size=j
 .subst e; simp
 .rw[bl e]
theorem Co.spawn{Fix₂ Pd₂:Nat->Prop}{J:pC}{mi:Ren}{S:LS}{k:Nat}{g' child:Goroutine}{a b:MemOp}(h:Co P jl w0 Pd ρ m wl gs w t)(h0:0<gs.size)(hF:∀b,Fix₂ b->jl b)(hP:∀c,Pd₂ c->Pd c/\c≠J.c)(hJ:Pd J.c)
  (ha:a.g=0) (ad:a.act=.go gs.size) (hb:b.g=gs.size) (ae:b.act=.start) (aj:WR m₂ wl₂ w) (ac:∀r q,m₂.blk r=some q->∃r0,m.blk r0=some q/\(m.loose r0->m₂.loose r))
  (ag:∀r q,mi.blk r=some q->(∃r0,m.blk r0=some q/\(m.loose r0->mi.loose r))\/(jl q/\(∀r0,m.blk r0≠some q)/\∀j m' r',(ρ j).pA=some m'->m'.blk r'≠some q)) (ak:qy m₂ mi) (al:∀r q,mi.blk r=some q->Fix₂ q->mi.loose r) (ah:∀b,jl b->Fix₂ b\/∃r o,J.nH r b o/\w0.heap[b]?=some o)
  (am:At P w (t++#[a,b]) gs.size child (.start J mi S k)) :
  Co P Fix₂ w0 Pd₂ (upd ρ gs.size (.start J mi S k)) m₂ wl₂ ((gs.setIfInBounds 0 g').push child) w (t++#[a,b]):=by
 have hold:ρ gs.size=.quit 0:=h.out _ (.inr (bU _))
 have hu:∀op∈(#[a,b]:Array MemOp),op.act.touch?=none:=by
  intro op Y;simp only[bE,b9,bD,or_false]at Y;rcases Y with rfl|rfl
  .rw[ad]; rfl
  .rw[ae]; rfl
 have hh:nF (t++#[a,b]):=h.hears.append λop Y=>by
  simp only[bE,b9,bD,or_false]at Y;rcases Y with rfl|rfl
  .rw[ad]; simp
  .rw[ae]; simp
 obtain⟨au,an,ai,ao⟩:=h.pd J.c hJ
 have di:∀j m',(ρ j).pA=some m'->qy mi m':=by
  intro j m' B r r' q U h2;rcases ag r q U with⟨r0,x,y⟩|⟨_,_,x⟩
  .obtain⟨l1,l2⟩:=h.d0 j m' B r0 r' q x h2;exact⟨y l1,l2⟩
  .exact absurd h2 (x j m' r' B)
 have kr:∀j m',(upd ρ gs.size (.start J mi S k) j).pA=some m'->(j=gs.size/\m'=mi)\/(j≠gs.size/\(ρ j).pA=some m'):=λj m' O=>by
  by_cases e:j=gs.size
  .subst e; rw[bS]at O; cases O; exact .inl ⟨rfl,rfl⟩
  .rw[bR _ _ e]at O; exact .inr ⟨e,O⟩
 have kj:∀j J',(upd ρ gs.size (.start J mi S k) j).u9=some J'->(j=gs.size/\J'=J)\/(j≠gs.size/\(ρ j).u9=some J'):=λj J' O=>by
  by_cases e:j=gs.size
  .subst e; rw[bS]at O; cases O; exact .inl ⟨rfl,rfl⟩
  .rw[bR _ _ e]at O; exact .inr ⟨e,O⟩
 refine⟨aj,λj x ap O=>?_,λj hj=>?_,λj m' B=>?_,λj l m1 m2 ab U h2=>?_,λj l J1 J2 ab U h2=>?_,?_,λj m' B=>?_,λj J' aa p x O hq=>?_,λp x q O hq=>?_,hh,?_,λsaid=>?_,λq hq=>h.fix q (hF q hq),λr q hr hf=>?_,λj m' B r q hr hf=>?_,λj J' aa hf=>?_,h.sz,h.os,?_,λc hc=>?_,λb hb=>?_⟩
 .by_cases e:j=gs.size
  .subst e;rw[bS];have:((gs.setIfInBounds 0 g').push child)[gs.size]?=some child:=by rw[bn]; simp
   rw[this]at O;cases O;exact am
  .rw[bR _ _ e]
   have av:j<gs.size:=by
    have:=(bh.1 O).1;simp at this;omega
   have:gs[j]?=some x:=by
    rw[bn]at O;simp only[Array.size_setIfInBounds]at O;rw[if_neg e,bl (by omega)]at O;exact O
   exact(h.at_ j x ap this).rely (λ_ _ _ _ _=>rfl) (λ_ _=>rfl) (bU _) rfl λop Y _=>hu op Y
 .have ab:j≠gs.size:=by
   rcases hj with x|x
   .omega
   .simp at x; omega
  rw[bR _ _ ab];exact h.out j (hj.imp id λx=>by simp at x; omega)
 .rcases kr j m' B with⟨_,em⟩|⟨_,B⟩
  .rw[em]; exact ak
  .intro r r' q U h2;obtain⟨r0,x,y⟩:=ac r q U;obtain⟨l1,l2⟩:=h.d0 j m' B r0 r' q x h2;exact⟨y l1,l2⟩
 .rcases kr j m1 U with⟨ej,em⟩|⟨ej,x1⟩
  .rcases kr l m2 h2 with⟨el,_⟩|⟨_,x2⟩
   .exact absurd (ej.trans el.symm) ab
   .rw[em]; exact di l m2 x2
  .rcases kr l m2 h2 with⟨el,em⟩|⟨_,x2⟩
   .rw[em]; exact(di j m1 x1).symm
   .exact h.dd j l m1 m2 ab x1 x2
 .rcases kj j J1 U with⟨ej,em⟩|⟨ej,x1⟩
  .rcases kj l J2 h2 with⟨el,_⟩|⟨_,x2⟩
   .exact absurd (ej.trans el.symm) ab
   .rw[em]; exact Ne.symm (ai l J2 x2)
  .rcases kj l J2 h2 with⟨el,em⟩|⟨_,x2⟩
   .rw[em]; exact ai j J1 x1
   .exact h.cc j l J1 J2 ab x1 x2
 .refine pP.mute (λp x q r O hq hr af=>?_) hu;obtain⟨r0,y,z⟩:=ac r q hr;exact h.s0 p x q r0 O hq y λl=>af (z l)
 .by_cases e:j=gs.size
  .subst e;rw[bS]at B;cases B;intro p x q r O hq hr af;rcases ii O with⟨_,U⟩|⟨op,U,_,h3⟩
   .refine FK hh ha ad hb ae ?_;rcases ag r q hr with⟨r0,y,z⟩|⟨y,_,z⟩
    .exact h.s0 p x q r0 U hq y λl=>af (z l)
    .rcases h.kn p x q U hq y with v|⟨j',m',r',v1,v2⟩
     .exact v
     .exact absurd v2 (z j' m' r' v1)
   .rw[hu op U]at h3; cases h3
  .rw[bR _ _ e]at B;exact(h.ss j m' B).mute hu
 .rcases ii O with⟨_,U⟩|⟨op,U,_,h3⟩
  .rcases kj j J' (iw.wB aa)with⟨_,em⟩|⟨e,_⟩
   .rw[em]at hq; exact an p x U hq
   .rw[bR _ _ e]at aa;exact h.MJ j J' aa p x U hq
  .rw[hu op U]at h3; cases h3
 .rcases ii O with⟨_,U⟩|⟨op,U,_,h3⟩
  .exact h.low p x q U hq
  .rw[hu op U]at h3; cases h3
 .refine(h.nh.mono λj hj=>?_).app λop Y=>.inl (hu op Y);by_cases e:j=gs.size
  .subst e; rw[hold]at hj; exact absurd rfl hj
  .rw[bR _ _ e]; exact hj
 .have:=tM (u:=[a,b]) (by simpa using hu) (h.clean said);simpa using this
 .obtain⟨r0,y,z⟩:=ac r q hr;exact z (h.f0 r0 q y (hF q hf))
 .rcases kr j m' B with⟨_,em⟩|⟨_,B⟩
  .rw[em]at hr⊢; exact al r q hr hf
  .exact h.ff j m' B r q hr (hF q hf)
 .rcases kj j J' aa with⟨_,em⟩|⟨_,aa⟩
  .rw[em]at hf; exact ao (hF _ hf)
  .exact h.cx j J' aa (hF _ hf)
 .intro p x q O hq hf;have hk:Kn jl (upd ρ _ (.start J mi S k)) _:=h.kn.app (λj m' r q B hq=>⟨j,m',r,by rw[bR _ _ (by rintro rfl; rw[hold]at B; cases B)]; exact B,hq⟩) λop Y x q O _ _=>by rw[hu op Y]at O; cases O
  exact hk p x q O hq (hF q hf)
 .obtain⟨aq,ar⟩:=hP c hc;obtain⟨g1,g2,g3,g4⟩:=h.pd c aq;refine⟨g1,λp x O hq=>?_,λj J' aa=>?_,λhf=>g4 (hF c hf)⟩
  .rcases ii O with⟨_,U⟩|⟨op,U,_,h3⟩
   .exact g2 p x U hq
   .rw[hu op U]at h3; cases h3
  .rcases kj j J' aa with⟨_,em⟩|⟨_,aa⟩
   .rw[em]; exact Ne.symm ar
   .exact g3 j J' aa
 .rcases h.len b hb with x|⟨j,J',r,o,x1,x2⟩|z
  .rcases ah b x with y|⟨r,o,y1,y2⟩
   .exact .inl y
   .exact .inr (.inl ⟨gs.size,J,r,o,by rw[bS]; rfl,y1,y2⟩)
  .exact .inr (.inl ⟨j,J',r,o,by rw[bR _ _ (by rintro rfl; rw[hold]at x1; cases x1)]; exact x1,x2⟩)
  .exact .inr (.inr z)
end
end
section
open Go.Conc
open Go.ConcN (upd upd_same upd_ne)
variable {ops:Array Oper}
def lS:Obj:=.chan 0 #[] false 0 0 false
section
variable {P:Program} {E:Env P} {fn:bs} {tm:Array Value} {os:List OF} {wl:World} {V:List (Nat×Option (List Value))} {k:List Item}
theorem gp.makeChan{i:Nat}{rest:List Nat}{o:Oper}(hi:ops[i]?=some o)(aj:b7 o (bq ops tm)=true)
  (ak:∀(B:Array Value)(w:World),(bt (ll B) o).runT P w #[]=(.ok (.value (.chan (some w.heap.size))) {w with heap:=w.heap.push (.chan 0 #[] false 0 0 false)},#[]))
  (h:gp E (⟨fn,iF o.dst tm (.chan (some wl.heap.size)),.inRegion ops rest::k⟩::os) {wl with heap:=wl.heap.push lS} ((wl.heap.size,none)::V)):gp E (⟨fn,tm,.inRegion ops (i::rest)::k⟩::os) wl V:=by
 intro m Pd ρ gs w sl t fr' cs' U al am af h0;refine turn (Z:=E.Z) (a:=G fr' cs') (K:=λj=>(ρ j).sum) (N:=gs.size) rfl ?_ ρ gs w sl t al (λ_=>rfl) h0 rfl;intro ρ' gs' w' aw ag d t' ab hK ah hN
 cases af with
 |@cons _ _ B l ht an=>
  have hy:b7 o (bq ops B)=true:=by rw[show bq ops B=bq ops tm from funext (ou ops ht)]; exact aj
  have ao:=ol (P:=P) (fn:=fn) (k:=k) (rest:=rest) (cs':=cs') (w:=w'.at d) hi hy;have ac:=lD fn B ops i rest k (.chan (some (w'.at d).heap.size));simp only[hi,bd]at ac
  have ap:bG P true (j0 fn B (.inRegion ops (i::rest)::k)) cs' none (bt (ll B) o) (w'.at d)=.go (G (j0 fn (iF o.dst B (.chan (some (w'.at d).heap.size))) (.inRegion ops rest::k)) cs') {w'.at d with heap:=(w'.at d).heap.push (.chan 0 #[] false 0 0 false)} #[]:=by
   unfold bG;simp only[if_true,ak,ac];simp[bW,G,j0,bx]
  have aq:=bL (P:=P) (sl:=ag) (i:=0) ah (show br P (0==0) _ (w'.at d)=_ from ao.trans ap);have e0:∀f p,bY 0 f p #[]=#[]:=λf p=>by rw[bQ]; simp
  rw[aq,e0];refine E.Z.next _ _ _ _ ?_;have ar:=(bh.1 ah).1;have ae:=ab.main;let gE:=m.vj _ _ ae.sL ae.qn;let m₂:=gE.put wl.heap.size lS;have O:m.Le m₂:=(Ren.zD _ _).trans (Ren.qS gE ..)
  have au:WR m₂ {wl with heap:=wl.heap.push lS} {w'.at d with heap:=(w'.at d).heap.push (.chan 0 #[] false 0 0 false)}:=by
   have:=(ae.Po lS (.chan 0 #[] false 0 0 false)).put (r:=wl.heap.size) (o:=lS) ⟨_,_,_,_,_,_,rfl⟩ ⟨0,#[],false,0,0,false,by simp[lS]⟩;have e:({wl with heap:=wl.heap.push lS})={({wl with heap:=wl.heap.push lS})with heap:=(wl.heap.push lS).setIfInBounds wl.heap.size lS}:=by rw[Nk]
   rw[e];exact this
  have ad:m₂.ch wl.heap.size=some (w'.at d).heap.size:=by simp[m₂,gE,Ren.put,Ren.vj]
  have aa:Rg E m₂:=by
   refine⟨U.rL.mono O,by exact U.kK,λr r' hr=>?_,O.je.trans U.je,O.ok.trans U.Tq,E.le m m₂ O U.x⟩;by_cases e:r=wl.heap.size
   .subst e; simp[m₂,Ren.put,lS]
   .have av:=by simpa[m₂,gE,Ren.put,Ren.vj,e]using hr
    simpa[m₂,gE,Ren.put,Ren.vj,e]using U.oY r r' av
  have ai:=ab.made (m₂:=m₂) (gs':=(gs'.map (woken P (G (j0 fn B (.inRegion ops (i::rest)::k)) cs') (G (j0 fn (iF o.dst B (.chan (some (w'.at d).heap.size))) (.inRegion ops rest::k)) cs') _)).setIfInBounds 0 _) rfl au rfl rfl (by simp) (jT _);have Y:=am.le O hK;refine h m₂ _ ρ' _ _ ag _ _ _ aa ai ⟨λr vs hr=>?_,λi J n hi=>?_,λr hr=>?_⟩ (.cons (o:=⟨fn,iF _ tm _,.inRegion ops rest::k⟩) ((ht.mono O).iF _ (.chan ad)) (an.mono O)) (by simp[ar])
  .exact Y.all r vs (by simpa using hr)
  .obtain⟨r,vs,x,y⟩:=Y.only i J n hi;exact⟨r,vs,by simp[x],y⟩
  .simp only[b9,Prod.mk.injEq,and_true]at hr;rcases hr with rfl|hr
   .exact⟨_,ad,.inr rfl⟩
   .obtain⟨c,x,y⟩:=Y.NV r hr;exact⟨c,x,.inl y⟩
structure Sends(E E₂:Env P)(f:bs)(caps:Array Value)(os os₂:List OF)(wl wl₂:World)(rc:Nat)(L:List Value):Prop where
 z:E₂.Z=E.Z
 t:E₂.T=E.T
 w:E₂.w0=E.w0
 fix:∀b,E₂.jl b->E.jl b
 flat:∀v∈L,∀(m:Ren)v',VR m v v'->v'=v
 go:∀m caps' w c,Rg E m->io m caps caps'->WR m wl w->m.ch rc=some c->j8 w c false->(∀b,E.jl b->w.heap[b]?=E.w0.heap[b]?)->∃(J:pC)(mi:Ren)(S:LS)(k:Nat)(m₂:Ren),J.c=c/\J.L=L/\J.Ok P/\J.Ren mi/\oc P J.Stop S/\Holds S J.r []/\WR mi S.w w/\tO P J mi S k (nC P ⟨.fn (.func f) caps',#[]⟩)/\
  Rg E₂ m₂/\WR m₂ wl₂ w/\m₂.ch=m.ch/\(∀l,qx m E.T os l->qx m₂ E.T os₂ l)/\(∀r q,m₂.blk r=some q->∃r0,m.blk r0=some q/\(m.loose r0->m₂.loose r))/\
  (∀r q,mi.blk r=some q->(∃r0,m.blk r0=some q/\(m.loose r0->mi.loose r))\/(E.jl q/\(∀r0,m.blk r0≠some q)/\¬E₂.jl q))/\qy m₂ mi/\(∀r q,mi.blk r=some q->E₂.jl q->mi.loose r)/\(∀b,E.jl b->E₂.jl b\/∃r o,J.nH r b o/\E.w0.heap[b]?=some o)
theorem E4(P:Program)(f:bs)(cx:Array Operand)(ρ:Operand->Value){o:Oper}(B:o.op=.makeFunc (.func f) #[] cx)(w:World):(bt ρ o).runT P w #[]=(.ok (.value (.func (.func f) #[] (cx.map ρ))) w,#[]):=by
 obtain⟨d,op,O,ps,U,g⟩:=o;subst B;have e:bt ρ ⟨d,.makeFunc (.func f) #[] cx,O,ps,U,g⟩=(Instr.makeFunc .. >>= λv=>pure _):=rfl;have Y:(#[]).map ρ=#[]:=by simp
 rw[e,Y];rfl
theorem Ts(P:Program)(f:bs)(q:Tmp)(cap:Array Value)(ρ:Operand->Value){o:Oper}(B:o.op=.go {callee:=.value (.tmp q),args:=#[],argTypes:=#[]})(O:ρ (.tmp q)=.func (.func f) #[] cap)(w:World):(bt ρ o).runT P w #[]=(.ok (.spawn ⟨.fn (.func f) cap,#[]⟩) w,#[]):=by
 obtain⟨d,op,U,ps,Y,g⟩:=o;subst B;have e2:(#[]).map ρ=#[]:=by simp
 have e:bt ρ ⟨d,.go {callee:=.value (.tmp q),args:=#[],argTypes:=#[]},U,ps,Y,g⟩=(Deferred.ofValue .. >>= λd=>pure _):=rfl;rw[e,e2,O];rfl
theorem gp.go{E₂:Env P}{i j:Nat}{rest:List Nat}{oi oj:Oper}{f:bs}{q:Tmp}{cx:Array Operand}{os₂:List OF}{wl₂:World}{rc:Nat}{L:List Value}{V₂:List (Nat×Option (List Value))}(hi:ops[i]?=some oi)(hj:ops[j]?=some oj)(gi:oi.guard=none)(gj:oj.guard=none)(aD:oi.op=.makeFunc (.func f) #[] cx)(aE:oi.dst=some q)(aF:oj.op=.go {callee:=.value (.tmp q),args:=#[],argTypes:=#[]})(aG:oj.dst=none)(aH:∀x∈cx.toList,gR E.je E.gl x)(aI:q<tm.size)
  (hS:Sends E E₂ f (cx.map (ll tm)) (⟨fn,tm.setIfInBounds q (.tuple #[]),.inRegion ops rest::k⟩::os) os₂ wl wl₂ rc L) (an:∀q,E.jl q->¬E₂.jl q->∀m Pd ρ gs w t,Rg E m->Co P E.jl E.w0 Pd ρ m wl gs w t->SX m ρ Pd V->∀j m' r',(ρ j).pA=some m'->m'.blk r'≠some q)
  (hV:(rc,none)∈V) (aa:∀x∈V₂,x=(rc,some L)\/(x∈V/\x≠(rc,none))) (ao:(rc,some L)∈V₂) (ap:∀r vs,(r,some vs)∈V->(r,some vs)∈V₂)
  (h:gp E₂ os₂ wl₂ V₂):gp E (⟨fn,tm,.inRegion ops (i::j::rest)::k⟩::os) wl V:=by
 intro m Pd ρ gs w sl t fr' cs' ag aJ ab ac h0;refine turn (Z:=E.Z) (a:=G fr' cs') (K:=λj=>(ρ j).sum) (N:=gs.size) rfl ?_ ρ gs w sl t aJ (λ_=>rfl) h0 rfl;intro a3 aq w1 aW ak d1 t1 ad aK ar aX
 cases ac with
 |@cons _ _ B l ht aL=>
  have aM:∀ae:Array Value,b7 oi (bq ops ae)=true:=λ_=>by simp[b7,gi]
  have aN:∀ae:Array Value,b7 oj (bq ops ae)=true:=λ_=>by simp[b7,gj]
  have au:=ol (P:=P) (fn:=fn) (k:=k) (rest:=j::rest) (cs':=cs') (w:=w1.at d1) hi (aM B);have U:=lD fn B ops i (j::rest) k (.func (.func f) #[] (cx.map (ll B)));simp only[hi,bd,aE,iF]at U
  have av:bG P true (j0 fn B (.inRegion ops (i::j::rest)::k)) cs' none (bt (ll B) oi) (w1.at d1)=.go (G (j0 fn (B.setIfInBounds q (.func (.func f) #[] (cx.map (ll B)))) (.inRegion ops (j::rest)::k)) cs') (w1.at d1) #[]:=by
   unfold bG;simp only[if_true,E4 P f cx (ll B) aD,U];simp[bW,G,j0,bx]
  have ah:=bL (P:=P) (sl:=ak) (i:=0) ar (show br P (0==0) _ (w1.at d1)=_ from au.trans av);rw[ah];refine E.Z.next _ _ _ _ ?_;have a4:0<aq.size:=(bh.1 ar).1;refine turn (Z:=E.Z) (a:=G (j0 fn (B.setIfInBounds q (.func (.func f) #[] (cx.map (ll B)))) (.inRegion ops (j::rest)::k)) cs') (K:=λj=>(a3 j).sum) (N:=aq.size) rfl ?_ a3 _ _ ak _ (ad.yZ (gs':=(aq.map (woken P _ _ (w1.at d1))).setIfInBounds 0 (G (j0 fn (B.setIfInBounds q (.func (.func f) #[] (cx.map (ll B)))) (.inRegion ops (j::rest)::k)) cs')) (.refl m) (.refl m _) (by simp) ad.main (by simp) (jT _)) (λ_=>rfl) (by simp[a4]) (by simp);clear ah ar ad;intro ρ' gs' w' aY a5 d0 t' O aO a6 hN;have hK:∀j,(ρ' j).sum=(ρ j).sum:=λj=>(aO j).trans (aK j);have au:=ol (P:=P) (fn:=fn) (k:=k) (rest:=rest) (cs':=cs') (w:=w'.at d0) hj (aN (B.setIfInBounds q (.func (.func f) #[] (cx.map (ll B)))));have aP:q<B.size:=by rw[<-ht.size]; exact aI
  have aQ:ll (B.setIfInBounds q (.func (.func f) #[] (cx.map (ll B)))) (.tmp q)=.func (.func f) #[] (cx.map (ll B)):=by
   show(B.setIfInBounds q _).getD q cb=_;rw[Array.getD_eq_getD_getElem?,Array.getElem?_setIfInBounds_self_of_lt aP];rfl
  have a7:=Ts P f q (cx.map (ll B)) (ll (B.setIfInBounds q (.func (.func f) #[] (cx.map (ll B))))) aF aQ (w'.at d0);have aw:io m (cx.map (ll tm)) (cx.map (ll B)):=mW (je:=m.je) (gl:=E.gl) (λx hx=>Lx ht ag.rL.qT x hx) (λx hx=>by rw[ag.je]; exact aH x hx);have U:=lD fn (B.setIfInBounds q (.func (.func f) #[] (cx.map (ll B)))) ops j rest k cb;simp only[hj,bd,aG,iF]at U
  have av:bG P true (j0 fn (B.setIfInBounds q (.func (.func f) #[] (cx.map (ll B)))) (.inRegion ops (j::rest)::k)) cs' none (bt (ll (B.setIfInBounds q (.func (.func f) #[] (cx.map (ll B))))) oj) (w'.at d0)=.spawn (G (j0 fn (B.setIfInBounds q (.func (.func f) #[] (cx.map (ll B)))) (.inRegion ops rest::k)) cs') (nC P ⟨.fn (.func f) (cx.map (ll B)),#[]⟩) (w'.at d0) #[]:=by
   unfold bG;simp only[if_true,a7,U,Bool.and_false,Bool.false_and,bK,if_false];simp[bW,G,j0,bx,nC]
  have ah:=runT_crowd_spawn (P:=P) (sl:=a5) (i:=0) a6 (show br P (0==0) _ (w'.at d0)=_ from au.trans av);have e0:∀f p,bY 0 f p #[]=#[]:=λf p=>by rw[bQ]; simp
  rw[ah,e0];refine E.Z.next _ _ _ _ ?_;have a8:0<gs'.size:=(bh.1 a6).1;obtain⟨c,ai,a9⟩:=ab.NV rc hV;obtain⟨al,aZ,ba,bc⟩:=O.pd c a9;have ac:qx m E.T (⟨fn,tm.setIfInBounds q (.tuple #[]),.inRegion ops rest::k⟩::os) (j0 fn (B.setIfInBounds q (.func (.func f) #[] (cx.map (ll B)))) (.inRegion ops rest::k)::cs'):=.cons (o:=⟨fn,tm.setIfInBounds q (.tuple #[]),.inRegion ops rest::k⟩) (ht.set q (.jw _ trivial)) aL;obtain⟨J,mi,S,ks,m₂,rfl,a',aR,aA,ax,ay,aS,af,aj,az,Y,a0,aB,aT,aU,aV,aC⟩:=hS.go m (cx.map (ll B)) (w'.at d0) c ag aw O.main ai al λb hb=>(O.fix b hb).2
  have am:=O.spawn (Fix₂:=E₂.jl) (Pd₂:=λc=>Pd c/\c≠J.c) (g':=G (j0 fn (B.setIfInBounds q (.func (.func f) #[] (cx.map (ll B)))) (.inRegion ops rest::k)) cs') (child:=nC P ⟨.fn (.func f) (cx.map (ll B)),#[]⟩) (J:=J) (mi:=mi) (S:=S) (k:=ks)
   (a:={g:=0,fn:=(G (j0 fn (B.setIfInBounds q (.func (.func f) #[] (cx.map (ll B)))) (.inRegion ops (j::rest)::k)) cs').frame.fn,pos:=(G (j0 fn (B.setIfInBounds q (.func (.func f) #[] (cx.map (ll B)))) (.inRegion ops (j::rest)::k)) cs').frame.place,act:=.go gs'.size}) (b:={g:=gs'.size,fn:=(nC P ⟨.fn (.func f) (cx.map (ll B)),#[]⟩).frame.fn,pos:=(G (j0 fn (B.setIfInBounds q (.func (.func f) #[] (cx.map (ll B)))) (.inRegion ops (j::rest)::k)) cs').frame.place,act:=.start}) a8 hS.fix (λc hc=>hc) a9 rfl rfl rfl rfl az aB (λr q hr=>?_) aU aV aC ⟨aR,al,aA,ax,ay,aS,af⟩
  .rw[<-hS.z];rw[<-hS.w]at am;have hold:ρ' gs'.size=.quit 0:=O.out _ (.inr (bU _))
   refine h m₂ _ _ _ _ a5 _ _ _ aj am ⟨λr vs hr=>?_,λj J' n hj=>?_,λr hr=>?_⟩ (by rw[hS.t]; exact a0 _ ac) (by
    rw[bn,if_neg (by simp; omega)]
    simp[a8])
   .rcases aa _ hr with x|⟨x,_⟩
    .cases x;refine⟨gs'.size,J,0,by rw[bS]; rfl,by rw[Y]; exact ai,Nat.zero_le _,by rw[a']; rfl,by rw[a']; exact hS.flat⟩
    .obtain⟨j,J',n,x1,x2,x3⟩:=ab.all r vs x
     have hj:j≠gs'.size:=by
      rintro rfl;rw[<-hK,hold]at x1;cases x1
     exact⟨j,J',n,by rw[bR _ _ hj,hK]; exact x1,by rw[Y]; exact x2,x3⟩
   .by_cases e:j=gs'.size
    .subst e;rw[bS]at hj;cases hj;exact⟨rc,L,ao,by rw[Y]; exact ai⟩
    .rw[bR _ _ e,hK]at hj;obtain⟨r,vs,x,y⟩:=ab.only j J' n hj;exact⟨r,vs,ap r vs x,by rw[Y]; exact y⟩
   .rcases aa _ hr with x|⟨x,y⟩
    .cases x
    .obtain⟨c,x1,x2⟩:=ab.NV r x;refine⟨c,by rw[Y]; exact x1,x2,?_⟩;rintro rfl;have:=m.xH _ _ _ x1 ai;subst this;exact y rfl
  .rcases aT r q hr with x|⟨x1,x2,x3⟩
   .exact .inl x
   .exact .inr ⟨x1,x2,an q x1 x3 m Pd ρ' gs' _ t' ag O (ab.le (.refl m) hK)⟩
end
end
section
open Go.Conc
open Go.ConcN (upd upd_same upd_ne)
variable {v z:Value}
inductive Flat:Value->Prop
 |bool (b):Flat (.bool b)
 |int (k n):Flat (.int k n)
 |string (s):Flat (.string s)
 |agg {c:Array Value}:(∀i(h:i<c.size),Flat c[i])->Flat (.agg c)
theorem Flat.refl(h:Flat v)(m:Ren):VR m v v:=by
 induction h with
 |bool b=>exact .bool b
 |int k n=>exact .int k n
 |string s=>exact .string s
 |agg _ B=>exact .agg rfl λi h _=>B i h
theorem Flat.eq(h:Flat v):∀(m:Ren)O,VR m v O->O=v:=by
 induction h with
 |bool b=>intro m O B; cases B; rfl
 |int k n=>intro m O B; cases B; rfl
 |string s=>intro m O B; cases B; rfl
 |@agg c _ Y=>
  intro m O B
  cases B with
  |@agg _ c' hs hi=>
   congr 1;refine bp hs.symm λi h1 U=>?_;exact Y i U m _ (hi i U h1)
def yQ(z:Value)(k:Nat)(v:Value)(ok:Bool):Value:=
 .tuple #[goInt k,.bool ok,if k=0 then v else z,if k=1 then v else z,if k=2 then v else z,if k=3 then v else z,if k=4 then v else z,if k=5 then v else z,if k=6 then v else z]
theorem Sc(z:Value)(c0 c1 c2 c3 c4 c5 B:Value)(k:Nat)(v:Value)(ok:Bool):b3 #[⟨c0,none,z⟩,⟨c1,none,z⟩,⟨c2,none,z⟩,⟨c3,none,z⟩,⟨c4,none,z⟩,⟨c5,none,z⟩,⟨B,none,z⟩] .select (k:Int) v ok=yQ z k v ok:=by
 have O:((0:Int)=k)=(k=0):=by rw[eq_iff_iff]; omega
 have U:((1:Int)=k)=(k=1):=by rw[eq_iff_iff]; omega
 have Y:((2:Int)=k)=(k=2):=by rw[eq_iff_iff]; omega
 have e3:((3:Int)=k)=(k=3):=by rw[eq_iff_iff]; omega
 have e4:((4:Int)=k)=(k=4):=by rw[eq_iff_iff]; omega
 have e5:((5:Int)=k)=(k=5):=by rw[eq_iff_iff]; omega
 have e6:((6:Int)=k)=(k=6):=by rw[eq_iff_iff]; omega
 simp[b3,yQ,List.zipIdx,O,U,Y,e3,e4,e5,e6]
theorem Qb(B:Flat z)(O:Flat v)(k:Nat)(ok:Bool)(m:Ren):VR m (yQ z k v ok) (yQ z k v ok):=by
 have one:∀n,VR m (if k=n then v else z) (if k=n then v else z):=λn=>by
  split
  .exact O.refl m
  .exact B.refl m
 refine VR.nA (gW.cons (.int ..) (.cons (.bool ok) (.cons (one 0) (.cons (one 1) (.cons (one 2) (.cons (one 3) (.cons (one 4) (.cons (one 5) (.cons (one 6) .nil)))))))))
def ux(V:List (Nat×Option (List Value)))(r:Nat)(vs:List Value):List (Nat×Option (List Value)):=V.map λx=>if x.1=r then(r,some vs)else x
def vU(V:List (Nat×Option (List Value)))(r:Nat):List (Nat×Option (List Value)):=V.filter λx=>x.1≠r
section
variable {P:Program} {E:Env P} {fn:bs} {tm:Array Value} {os:List OF} {wl:World} {V:List (Nat×Option (List Value))} {k:List Item}
theorem gp.select{ops:Array Oper}{i:Nat}{rest:List Nat}{o:Oper}{x0 x1 x2 x3 x4 x5 x6:Tmp}{cl:Nat->Option Nat}(hi:ops[i]?=some o)(a6:b7 o (bq ops tm)=true)
  (aw:∀(aa:Array Value)(w:World),(bt (ll aa) o).runT P w #[]=(.ok (.comm #[⟨aa.getD x0 cb,none,z⟩,⟨aa.getD x1 cb,none,z⟩,⟨aa.getD x2 cb,none,z⟩,⟨aa.getD x3 cb,none,z⟩,⟨aa.getD x4 cb,none,z⟩,⟨aa.getD x5 cb,none,z⟩,⟨aa.getD x6 cb,none,z⟩] true .select) w,#[]))
  (hz:Flat z) (c0:tm.getD x0 cb=.chan (cl 0)) (c1:tm.getD x1 cb=.chan (cl 1)) (c2:tm.getD x2 cb=.chan (cl 2)) (c3:tm.getD x3 cb=.chan (cl 3)) (c4:tm.getD x4 cb=.chan (cl 4)) (c5:tm.getD x5 cb=.chan (cl 5)) (c6:tm.getD x6 cb=.chan (cl 6))
  (mP:∀k r,k<7->cl k=some r->∃vs,(r,some vs)∈V) (uw:∀k k' r,k<7->k'<7->cl k=some r->cl k'=some r->k=k') (ao:∃k r,k<7/\cl k=some r) (jo:(V.map Prod.fst).Nodup) (ah:∀r vs,(r,some vs)∈V->∀v∈vs,Flat v)
  (hv:∀k' r v vs,k'<7->cl k'=some r->(r,some (v::vs))∈V->gp E (⟨fn,iF o.dst tm (yQ z k' v true),.inRegion ops rest::k⟩::os) wl (ux V r vs))
  (he:∀k' r,k'<7->cl k'=some r->(r,some [])∈V->gp E (⟨fn,iF o.dst tm (yQ z k' z false),.inRegion ops rest::k⟩::os) wl (vU V r)) :
  gp E (⟨fn,tm,.inRegion ops (i::rest)::k⟩::os) wl V:=by
 intro m Pd ρ gs w sl t fr' cs' ax ay ab az h0
 have a7:∀r a b,(r,a)∈V->(r,b)∈V->a=b:=by
  intro r a b ha hb;clear ab hv he mP ah
  induction V with
  |nil=>cases ha
  |cons y V ih=>
   simp only[List.map_cons,List.nodup_cons]at jo;have ai:∀q,(r,q)∈V->y.1≠r:=λq hq e=>jo.1 (e▸bA.2 ⟨(r,q),hq,rfl⟩);rcases b9.1 ha with ea|ha
   .rcases b9.1 hb with eb|hb
    .rw[<-ea]at eb; cases eb; rfl
    .exact absurd (by rw[<-ea]) (ai b hb)
   .rcases b9.1 hb with eb|hb
    .exact absurd (by rw[<-eb]) (ai a ha)
    .exact ih jo.2 ha hb
 cases az with
 |@cons _ _ aa l ht a0=>
  have hy:b7 o (bq ops aa)=true:=by rw[show bq ops aa=bq ops tm from funext (ou ops ht)]; exact a6
  have n5:∀x c,tm.getD x cb=.chan c->aa.getD x cb=.chan (c.bind m.ch):=by
   intro x c hc;have hx:=ht.getD x;simp only at hx;rw[hc]at hx;generalize hq:aa.getD x cb=q at hx
   cases hx with
   |lF=>rfl
   |chan hb=>simp[hb]
  have d0:=n5 x0 _ c0;have d1:=n5 x1 _ c1;have d2:=n5 x2 _ c2;have d3:=n5 x3 _ c3;have d4:=n5 x4 _ c4;have d5:=n5 x5 _ c5;have d6:=n5 x6 _ c6;let Y:Nat->Option Nat:=λk=>(cl k).bind m.ch;let B:Array CommCase:=#[⟨.chan (Y 0),none,z⟩,⟨.chan (Y 1),none,z⟩,⟨.chan (Y 2),none,z⟩,⟨.chan (Y 3),none,z⟩,⟨.chan (Y 4),none,z⟩,⟨.chan (Y 5),none,z⟩,⟨.chan (Y 6),none,z⟩];have aB:B.size=7:=rfl
  have a3:∀w,(bt (ll aa) o).runT P w #[]=(.ok (.comm B true .select) w,#[]):=by
   intro w;rw[aw,d0,d1,d2,d3,d4,d5,d6]
  have aj:∀w,br P true (G (j0 fn aa (.inRegion ops (i::rest)::k)) cs') w=.comm (G (j0 fn aa (.inRegion ops (i::rest)::k)) cs') B true .select w #[]:=by
   intro w;rw[ol (P:=P) (fn:=fn) (k:=k) (rest:=rest) (cs':=cs') (w:=w) hi hy];unfold bG;simp only[if_true,a3];simp[bW,G,j0,bx]
  have O:∀k c,k<7->Y k=some c->∃r vs j J n,cl k=some r/\(r,some vs)∈V/\(ρ j).sum=some (J,n)/\m.ch r=some J.c/\J.c=c/\n<=J.L.length/\J.L.drop n=vs/\∀v∈J.L,∀(m:Ren)v',VR m v v'->v'=v:=by
   intro k c hk hc;simp only[Y]at hc
   cases e:cl k with
   |none=>rw[e]at hc; cases hc
   |some r=>
    rw[e]at hc;simp only[bd]at hc;obtain⟨vs,ac⟩:=mP k r hk e;obtain⟨j,J,n,g1,g2,g3,g4,g5⟩:=ab.all r vs ac;refine⟨r,vs,j,J,n,rfl,ac,g1,g2,?_,g3,g4,g5⟩;rw[g2]at hc;exact ca hc
  have ak:∀(j j':Nat)J n J' n',(ρ j).sum=some (J,n)->(ρ j').sum=some (J',n')->J.c=J'.c->j=j':=by
   intro j j' J n J' n' h1 h2 hc;apply bX;intro ae;exact ay.cc j j' J J' ae (iw.zH h1) (iw.zH h2) hc
  have hS:yL P (G (j0 fn aa (.inRegion ops (i::rest)::k)) cs') B Y (λj=>(ρ j).sum):=by
   refine⟨rfl,aj,aj,λk cc ad=>?_,λk k' c hk a4 h1 h2=>?_,λk c hk hc=>?_,?_,λj J n hj v hv=>?_⟩
   .have hk:k<7:=(bh.1 ad).1;refine⟨z,?_⟩
    match k,hk with
    |0,_=>simpa[B]using ad.symm
    |1,_=>simpa[B]using ad.symm
    |2,_=>simpa[B]using ad.symm
    |3,_=>simpa[B]using ad.symm
    |4,_=>simpa[B]using ad.symm
    |5,_=>simpa[B]using ad.symm
    |6,_=>simpa[B]using ad.symm
   .obtain⟨r,vs,j,J,n,e1,_,_,e2,e3,_⟩:=O k c hk h1;obtain⟨r',vs',j',J',n',a8,_,_,a9,a',_⟩:=O k' c a4 h2;have:r=r':=m.xH _ _ _ e2 (by rw[a9,a',e3]);subst this;exact uw k k' r hk a4 e1 a8
   .obtain⟨r,vs,j,J,n,_,_,e,_,e3,_⟩:=O k c hk hc;exact⟨j,J,n,e,e3⟩
   .obtain⟨k,r,hk,hr⟩:=ao;obtain⟨vs,ac⟩:=mP k r hk hr;obtain⟨j,J,n,g1,g2,_⟩:=ab.all r vs ac;exact⟨k,J.c,hk,by simp[Y,hr,g2]⟩
   .obtain⟨r,vs,ac,g2⟩:=ab.only j J n hj;obtain⟨j',J',n',ap,a5,_,_,g5⟩:=ab.all r vs ac;rw[g2]at a5;have:=ak j j' J n J' n' hj ap (ca a5);subst this;rw[hj]at ap;cases ap;exact g5 v hv
  have an:∀(k':Nat)v ok,(G (j0 fn aa (.inRegion ops (i::rest)::k)) cs').finishComm P B .select (k':Int) v ok=G (j0 fn (iF o.dst aa (yQ z k' v ok)) (.inRegion ops rest::k)) cs':=by
   intro k' v ok;have e:=lD fn aa ops i rest k (yQ z k' v ok);simp only[hi,bd]at e;show({(G (j0 fn aa (.inRegion ops (i::rest)::k)) cs')with frame:=(j0 fn aa (.inRegion ops (i::rest)::k)).finish (b3 B .select (k':Int) v ok),status:=.running,offers:=none}:Goroutine)=_;rw[Sc,e];rfl
  refine Go.Proofs.YtocbogeoffeolaaGreatDoor.select (Z:=E.Z) (N:=gs.size) hS ?_ ?_ ρ gs w sl t ay (λ_=>rfl) h0 rfl
  .intro k' j J n v hk hc hj hn ρ' gs' w' aq t' al hK am hN;obtain⟨r,vs,j',J',n',e1,e2,e3,e4,e5,e6,e7,e8⟩:=O k' J.c hk hc;have:=ak j j' J n J' n' hj e3 e5.symm;subst this;rw[hj]at e3;cases e3
   have ac:vs=v::J.L.drop (n+1):=by
    rw[<-e7];obtain⟨ar,rfl⟩:=bC.1 hn;exact List.drop_eq_getElem_cons ar
   subst ac;rw[an]at am;have aA:=ah r _ e2;refine hv k' r v (J.L.drop (n+1)) hk e1 e2 m Pd ρ' gs' w' aq t' _ _ ax al ⟨λr2 af h2=>?_,λj2 J2 n2 h2=>?_,λr2 h2=>?_⟩ (.cons (o:=⟨fn,iF o.dst tm (yQ z k' v true),.inRegion ops rest::k⟩) (ht.iF o.dst (Qb hz (aA v (by simp)) k' true m)) a0) am
   .simp only[ux,bA]at h2;obtain⟨y,au,ag⟩:=h2;split at ag
    .cases ag
     have ar:n<J.L.length:=by
      have:=(bC.1 hn).1;exact this
     exact⟨j,J,n+1,by rw[hK,bS],e4,ar,rfl,e8⟩
    .rename_i ae;subst ag;obtain⟨j2,J2,n2,g1,g2,g3⟩:=ab.all r2 af au
     have av:j2≠j:=by
      rintro rfl;rw[hj]at g1;cases g1;exact ae (m.xH _ _ _ g2 e4)
     exact⟨j2,J2,n2,by rw[hK,bR _ _ av]; exact g1,g2,g3⟩
   .rw[hK]at h2;by_cases e:j2=j
    .subst e;rw[bS]at h2;cases h2;refine⟨r,J.L.drop (n+1),?_,e4⟩;simp only[ux,bA];exact⟨_,e2,by simp⟩
    .rw[bR _ _ e]at h2;obtain⟨r2,af,g1,g2⟩:=ab.only j2 J2 n2 h2
     have ae:r2≠r:=by
      rintro rfl;rw[e4]at g2;exact e (ak j2 j J2 n2 J n h2 hj (ca g2).symm)
     refine⟨r2,af,?_,g2⟩;simp only[ux,bA];exact⟨_,g1,by simp[ae]⟩
   .simp only[ux,bA]at h2;obtain⟨y,au,ag⟩:=h2;split at ag
    .cases ag
    .subst ag;exact ab.NV r2 au
  .intro k' j J z' U hc hj ρ' gs' w' aq t' al hK am hN;have hk:k'<7:=(bh.1 U).1;obtain⟨r,vs,j',J',n',e1,e2,e3,e4,e5,e6,e7,e8⟩:=O k' J.c hk hc;have:=ak j j' J _ J' n' hj e3 e5.symm;subst this;rw[hj]at e3;cases e3;have ac:vs=[]:=by rw[<-e7]; simp
   subst ac
   have ez:z'=z:=by
    obtain⟨z2,aC⟩:=hS.cs k' _ U;have aD:(bN J.c z').zero=z':=rfl
    match k',hk,U with
    |0,_,U=>simp[B,bN]at U; exact U.2.symm
    |1,_,U=>simp[B,bN]at U; exact U.2.symm
    |2,_,U=>simp[B,bN]at U; exact U.2.symm
    |3,_,U=>simp[B,bN]at U; exact U.2.symm
    |4,_,U=>simp[B,bN]at U; exact U.2.symm
    |5,_,U=>simp[B,bN]at U; exact U.2.symm
    |6,_,U=>simp[B,bN]at U; exact U.2.symm
   subst ez;rw[an]at am;refine he k' r hk e1 e2 m Pd ρ' gs' w' aq t' _ _ ax al ⟨λr2 af h2=>?_,λj2 J2 n2 h2=>?_,λr2 h2=>?_⟩ (.cons (o:=⟨fn,iF o.dst tm (yQ z' k' z' false),.inRegion ops rest::k⟩) (ht.iF o.dst (Qb hz hz k' false m)) a0) am
   .simp only[vU,bB,decide_eq_true_eq]at h2;obtain⟨j2,J2,n2,g1,g2,g3⟩:=ab.all r2 af h2.1
    have av:j2≠j:=by
     rintro rfl;rw[hj]at g1;cases g1;exact h2.2 (m.xH _ _ _ g2 e4)
    exact⟨j2,J2,n2,by rw[hK,bR _ _ av]; exact g1,g2,g3⟩
   .rw[hK]at h2
    have e:j2≠j:=by
     rintro rfl;rw[bS]at h2;cases h2
    rw[bR _ _ e]at h2;obtain⟨r2,af,g1,g2⟩:=ab.only j2 J2 n2 h2
    have ae:r2≠r:=by
     rintro rfl;rw[e4]at g2;exact e (ak j2 j J2 n2 J _ h2 hj (ca g2).symm)
    refine⟨r2,af,?_,g2⟩;simp only[vU,bB,decide_eq_true_eq];exact⟨g1,ae⟩
   .simp only[vU,bB,decide_eq_true_eq]at h2;exact ab.NV r2 h2.1
end
end
section
open Go.Conc
open Go.ConcN (upd upd_same upd_ne)
def Hp:iw->iw
 |.ended _ _ _ _ q=>.quit q
 |r=>r
section
variable {P:Program} {jl Fix':Nat->Prop} {w0 w0':World} {Pd:Nat->Prop} {ρ:Nat->iw} {m m':Ren} {wl wl':World} {gs:Array Goroutine} {w:World} {t:bz}
theorem xC{i:Nat}(B:(ρ i).sum=none):∃q,Hp (ρ i)=.quit q:=by
 cases e:ρ i with
 |quit q=>exact⟨q,rfl⟩
 |ended O J m S q=>exact⟨q,rfl⟩
 |act=>rw[e]at B; cases B
 |lO=>rw[e]at B; cases B
 |start=>rw[e]at B; cases B
theorem Co.QK(h:Co P jl w0 Pd ρ m wl gs w t)(hn:∀i,(ρ i).sum=none)(hw:WR m' wl' w)(aa:∀b,Fix' b->b<w.heap.size/\w.heap[b]?=w0'.heap[b]?)(hf:∀r b,m'.blk r=some b->Fix' b->m'.loose r)(ac:w0'.heap.size<=w.heap.size)(ad:w.os=w0'.os/\w.output=w0'.output)(ab:∀b,b<w0'.heap.size->Fix' b\/w0'.heap[b]?=some rD) :
  Co P Fix' w0' (λ_=>False) (λi=>Hp (ρ i)) m' wl' gs w t:=by
 have hq:=λi=>xC (hn i)
 have no:∀{α:Type}(f:iw->Option α),(∀q,f _=none)->∀i x,f (Hp _)=some x->False:=λf hf i x hx=>by
  obtain⟨q,e⟩:=hq i;rw[e,hf]at hx;cases hx
 refine⟨hw,λi g hi hg=>?_,λi hi=>?_,λi Y B=>(no _ (λ_=>rfl) i Y B).elim,λi j Y m2 _ B _=>(no _ (λ_=>rfl) i Y B).elim,λi j J1 J2 _ B _=>(no _ (λ_=>rfl) i J1 B).elim,h.calm hn m',λi Y B=>(no _ (λ_=>rfl) i Y B).elim,λi J B=>(no _ (λ_=>rfl) i J B).elim,h.low,h.hears,h.nh.mono λi hi=>absurd (hn i) hi,h.clean,aa,hf,λi Y B=>(no _ (λ_=>rfl) i Y B).elim,λi J B=>(no _ (λ_=>rfl) i J B).elim,ac,ad,λp a b ha hb _=>.inl (h.calm hn {m' with blk:=λr=>if r=b then some b else none,qT:=?_,inj:=?_,loose:=λ_=>False} p a b b ha hb (by simp) nofun),nofun,λb hb=>(ab b hb).imp id .inr⟩
 .have O:=h.at_ i g hi hg;have U:=hn i
  cases e:ρ i with
  |quit q=>rw[e]at O; exact O
  |ended hd J m S q=>rw[e]at O; exact O.1
  |act=>rw[e]at U; cases U
  |lO=>rw[e]at U; cases U
  |start=>rw[e]at U; cases U
 .rw[h.out i hi];rfl
 .intro r r' hr;split at hr
  .cases hr; rename_i e; rw[e]
  .cases hr
 .intro r s q hr U;split at hr
  .split at U
   .rename_i e1 e2; rw[e1,e2]
   .cases U
  .cases hr
theorem Co.old(h:Co P jl w0 Pd ρ m wl gs w t)(hn:∀i,(ρ i).sum=none)(Y:∀b,w0.heap[b]?=some rD->jl b):∀b,b<w0.heap.size->w.heap[b]?=w0.heap[b]?:=by
 intro b hb;rcases h.len b hb with x|⟨i,J,r,o,x1,x2,x3⟩|z
 .exact(h.fix b x).2
 rotate_left
 .exact(h.fix b (Y b z)).2
 .obtain⟨g,hi,hg,O⟩:=h.get (i:=i) λe=>by rw[e]at x1; cases x1
  have B:=hn i
  cases e:ρ i with
  |quit q=>rw[e]at x1; cases x1
  |act=>rw[e]at B; cases B
  |lO=>rw[e]at B; cases B
  |start=>rw[e]at B; cases B
  |ended hd J' mi S q=>
   rw[e]at x1 O;cases x1;obtain⟨_,U,⟨aa,ab⟩,ac,_⟩:=O;obtain⟨h1,h2⟩:=ab.back S aa r b o x2;obtain⟨o1,o2,g1,g2,g3⟩:=ac.obj r b (U.nH r b o x2);rw[h1]at g1;cases g1;rw[h2 mi o2 g3]at g2;rw[g2,x3]
theorem Co.fresh(h:Co P jl w0 Pd ρ m wl gs w t)(O:∀b,w0.heap[b]?=some rD->jl b){r b:Nat}(U:m.blk r=some b)(Y:¬m.loose r):w0.heap.size<=b:=by
 apply bX;intro hb;rcases h.len b (by omega)with x|⟨i,J,r',o,x1,x2,x3⟩|z
 .exact Y (h.f0 r b U x)
 rotate_left
 .exact Y (h.f0 r b U (O b z))
 .obtain⟨g,hi,hg,aa⟩:=h.get (i:=i) λe=>by rw[e]at x1; cases x1
  obtain⟨m1,B⟩:∃m1,(ρ i).pA=some m1:=by
   cases e:ρ i with
   |quit q=>rw[e]at x1; cases x1
   |act J m S n=>exact⟨m,rfl⟩
   |lO J m S n v=>exact⟨m,rfl⟩
   |start J m S k=>exact⟨m,rfl⟩
   |ended hd J m S q=>exact⟨m,rfl⟩
  exact Y (h.d0 i m1 B r r' b U ((aa.V8 B x1).nH r' b o x2)).1
theorem WR.QM(h:WR m wl w){b:Nat}{c:Array Value}{e:bu}{f:Nat×Nat}(hb:∀s,m.blk s≠some b)(hG:wl.heap.size<m.G↔b<m.G)(ho:w.heap[b]?=some (.cells c e f))(hc:∀v∈c.toList,Flat v) :
  WR (m.ext wl.heap.size b h.jW hb hG) {wl with heap:=wl.heap.push (.cells c e f)} w:=by
 have aa:=Ren.xr h.jW hb hG;have ac:OR (m.ext _ b h.jW hb hG) _ _:=.cells e f f (io.refl λv hv=>(hc v hv).refl _)
 have key:∀r r',(m.ext _ b h.jW hb hG).blk r=some r'->(r=wl.heap.size/\r'=b)\/(r≠wl.heap.size/\m.blk r=some r'):=by
  intro r r' B;by_cases e:r=wl.heap.size
  .subst e; simp[Ren.ext]at B; exact .inl ⟨rfl,B.symm⟩
  .simp[Ren.ext,e]at B; exact .inr ⟨e,B⟩
 have lo:∀r,(m.ext _ b h.jW hb hG).loose r->r≠wl.heap.size/\m.loose r:=by
  intro r B;by_cases e:r=wl.heap.size
  .subst e; simp[Ren.ext]at B
  .simp[Ren.ext,e]at B; exact⟨e,B⟩
 have pu:∀r,r<wl.heap.size->(wl.heap.push (.cells c e f))[r]?=wl.heap[r]?:=λr B=>iM B;refine⟨λr r' B=>?_,λr r' c1 Y f1 c2 e2 f2 B h1 h2 hn=>?_,λr r' c1 Y f1 c2 e2 f2 B h1 h2 hl=>?_,λr r' B=>?_,?_,h.LR,h.os,λr o B=>?_,λr r' B hl=>?_,λr B=>?_,λr i v hv=>?_⟩
 .rcases key r r' B with⟨rfl,rfl⟩|⟨_,B⟩
  .exact⟨_,_,by simp,ho,ac⟩
  .obtain⟨o,o',g1,g2,g3⟩:=h.obj r r' B;exact⟨o,o',kY g1,g2,g3.mono aa⟩
 .rcases key r r' B with⟨rfl,rfl⟩|⟨O,B⟩
  .rw[ho]at h2;cases h2;simp at h1;exact h1.2.2
  .have U:=(h.lt B).1;refine h.fz r r' c1 Y f1 c2 e2 f2 B (by rw[<-pu r U]; exact h1) h2 λx=>hn ?_;simp[Ren.ext,O,x]
 .rcases key r r' B with⟨rfl,rfl⟩|⟨O,B⟩
  .exact absurd rfl (lo _ hl).1
  .have U:=(h.lt B).1;exact h.all r r' c1 Y f1 c2 e2 f2 B (by rw[<-pu r U]; exact h1) h2 (lo _ hl).2
 .have:=h.NY r r' B;exact⟨by simp; omega,this.2⟩
 .have:=h.Od;show m.G<=(wl.heap.push _).size;simp; omega
 .obtain⟨g1,g2⟩:=h.n5 r o B;exact⟨kY g1,g2⟩
 .rcases key r r' B with⟨rfl,rfl⟩|⟨O,B⟩
  .exact absurd rfl (lo _ hl).1
  .obtain⟨c1,Y,f1,g⟩:=h.lk r r' B (lo _ hl).2;exact⟨c1,Y,f1,kY g⟩
 .obtain⟨g1,c1,Y,f1,g⟩:=h.dead r B;have U:=mF g;refine⟨?_,c1,Y,f1,kY g⟩;have O:r≠wl.heap.size:=by omega
  simp[Ren.ext,O,g1]
 .obtain⟨r',ab,hp⟩:=h.ur r i v hv;exact⟨r',aa.blk _ _ ab,λc e f c' e' f' x g1=>hp c e f c' e' f' x (by rw[<-pu r (h.lt ab).1]; exact g1)⟩
end
end
section
open Go.Conc
open Go.ConcN (upd upd_same upd_ne)
variable {ops:Array Oper} {f:bs} {R0:Nat->Nat->Prop} {R1:Nat->Option Nat->Nat->Nat->Array Value->bu->Nat×Nat->Prop} {m:Ren}
section
variable {P:Program} {E:Env P} {fn:bs} {tm:Array Value} {os:List OF} {wl:World} {k:List Item}
theorem Rg.QM(h:Rg E m){r b:Nat}(O:m.blk r=none)(U:∀s,m.blk s≠some b)(Y:r<m.G↔b<m.G):Rg E (m.ext r b O U Y):=by
 have B:=Ren.xr O U Y;exact⟨h.rL.mono B,h.kK,λs s' hs=>h.oY s s' hs,B.je.trans h.je,B.ok.trans h.Tq,E.le m _ B h.x⟩
theorem Kl{c B:Array Value}(h:io m c B)(O:∀v∈c.toList,Flat v):B=c:=by
 refine bp h.size.symm λi U Y=>?_;have:=h.idx i Y U;exact(O _ (by simp)).eq m _ this
structure CK(P:Program)(E₂:Env P)(jQ:Func)(tm1:Array Value)(wl2:World)(R0:Nat->Nat->Prop)(R1:Nat->Option Nat->Nat->Nat->Array Value->bu->Nat×Nat->Prop):Prop where
 uS:∃v1,(∀τ,(b0 jQ tm1).run P (tp wl2 τ)=.ok v1 (tp wl2 τ))/\((∃l cp,v1=.slice none l cp/\R0 l cp)\/∃b1 off spot l cp cs e f,v1=.slice (some ⟨b1,off,spot⟩) l cp/\wl2.heap[b1]?=some (.cells cs e f)/\(∀v∈cs.toList,Flat v)/\(∀m,Rg E₂ m->¬m.loose b1)/\R1 off spot l cp cs e f)
 VN:∀b,E₂.w0.heap[b]?=some rD->E₂.jl b
theorem Nx{E₂:Env P}{jQ:Func}{i:Nat}{rest:List Nat}{o:Oper}{m0:Ren}{B:Array Value}{l':List Frame}{tm1:Array Value}{td1:List Item}{aa:World}
  (ap:∀b,b<E.w0.heap.size->E.jl b\/E.w0.heap[b]?=some rD) (Y:∀b,E.jl b->b<E₂.w0.heap.size/\E₂.w0.heap[b]?=E.w0.heap[b]?) (ay:∀r b,m0.blk r=some b->E.jl b->m0.loose r) (az:E.w0.heap.size<=E₂.w0.heap.size) (aj:E₂.w0.os=E.w0.os/\E₂.w0.output=E.w0.output) (hZ:E₂.Z=E.Z) (hT:E₂.T=j0 fn B (.inRegion ops (i::rest)::k)::l') (ak:Rg E m0) (af:WR m0 wl E₂.w0) (ht:io m0 tm B) (a0:qx m0 E.T os l') (hf:P.funcs[f]?=some jQ) (hi:ops[i]?=some o) (aF:td1=[]\/∃k1,td1=.code .ret::k1) (hR:CK P E₂ jQ tm1 aa R0 R1)
  (aG:∀l cp,R0 l cp->gp E (⟨fn,iF o.dst tm (.slice none l cp),.inRegion ops rest::k⟩::os) wl [])
  (aH:∀off spot l cp cs e f,R1 off spot l cp cs e f->(∀v∈cs.toList,Flat v)->gp E (⟨fn,iF o.dst tm (.slice (some ⟨wl.heap.size,off,spot⟩) l cp),.inRegion ops rest::k⟩::os) {wl with heap:=wl.heap.push (.cells cs e f)} []) :
  gp E₂ [⟨f,tm1,td1⟩] aa []:=by
 intro m Pd ρ gs w sl t fr' cs' aI aJ aK ag h0
 have hn:∀i,(ρ i).sum=none:=by
  intro i
  cases e:(ρ i).sum with
  |none=>rfl
  |some x=>
   obtain⟨r,vs,hx,_⟩:=aK.only i x.1 x.2 e;cases hx
 refine turn (Z:=E₂.Z) (a:=G fr' cs') (K:=λj=>(ρ j).sum) (N:=gs.size) rfl ?_ ρ gs w sl t aJ (λ_=>rfl) h0 rfl;intro ρ' gs' w' aY a3 d t' ah hK ai hN
 cases ag with
 |@cons _ _ U l aL ag=>
  cases ag;rw[hT]at ai
  have aM:br P true (G (j0 f U td1) (j0 fn B (.inRegion ops (i::rest)::k)::l')) (w'.at d)=.go (G ⟨f,U,td1,[],.returning,.normal,none⟩ (j0 fn B (.inRegion ops (i::rest)::k)::l')) (w'.at d) #[]:=by
   rcases aF with rfl|⟨k1,rfl⟩<;>rfl
  have a4:=bL (P:=P) (sl:=a3) (i:=0) ai (show br P (0==0) _ (w'.at d)=_ from aM);rw[a4];refine E₂.Z.next _ _ _ _ ?_;have aN:0<gs'.size:=(bh.1 ai).1;refine turn (Z:=E₂.Z) (a:=G ⟨f,U,td1,[],.returning,.normal,none⟩ (j0 fn B (.inRegion ops (i::rest)::k)::l')) (K:=λj=>(ρ' j).sum) (N:=gs'.size) rfl ?_ ρ' _ _ a3 _ (ah.yZ (gs':=(gs'.map (woken P _ _ (w'.at d))).setIfInBounds 0 (G ⟨f,U,td1,[],.returning,.normal,none⟩ (j0 fn B (.inRegion ops (i::rest)::k)::l'))) (.refl m) (.refl m _) (by simp) ah.main (by simp) (jT _)) (λ_=>rfl) (by simp[aN]) (by simp);clear ah a4 ai;intro aq a5 w2 aZ ar d2 t2 al aO a6 ba;obtain⟨v1,a7,au⟩:=hR.uS;have a8:=(o9 (P:=P) (fn:=jQ) aL).run (tp aa (along aa (w2.at d2))) (w2.at d2) #[] (al.main.tp _) (.inl (r9 aa (w2.at d2)));rw[a7]at a8;obtain⟨gE,v',w₁,es₁,e1,e2,e3,e4,_,e6,e7⟩:=a8;rw[bo]at e1;have am:=lD fn B ops i rest k v';simp only[hi,bd]at am
  have a9:br P true (G ⟨f,U,td1,[],.returning,.normal,none⟩ (j0 fn B (.inRegion ops (i::rest)::k)::l')) (w2.at d2)=.go (G (j0 fn (iF o.dst B v') (.inRegion ops rest::k)) l') w₁ (bx P f es₁):=by
   have:br P true (G ⟨f,U,td1,[],.returning,.normal,none⟩ (j0 fn B (.inRegion ops (i::rest)::k)::l')) (w2.at d2)=bv P true ⟨f,U,td1,[],.returning,.normal,none⟩ (j0 fn B (.inRegion ops (i::rest)::k)::l') none (w2.at d2):=rfl;rw[this];unfold bv;simp only[hf,e1];unfold b2;simp only[am];simp[bW,G]
  have aA:=bL (P:=P) (sl:=ar) (i:=0) a6 (show br P (0==0) _ (w2.at d2)=_ from a9);rw[aA];refine E₂.Z.next _ _ _ _ ?_;rw[hZ];have an:0<a5.size:=(bh.1 a6).1;have O:=al.yZ (gs':=(a5.map (woken P (G ⟨f,U,td1,[],.returning,.normal,none⟩ (j0 fn B (.inRegion ops (i::rest)::k)::l')) (G (j0 fn (iF o.dst B v') (.inRegion ops rest::k)) l') w₁)).setIfInBounds 0 (G (j0 fn (iF o.dst B v') (.inRegion ops rest::k)) l')) (fn:=(G (⟨f,U,td1,[],.returning,.normal,none⟩:Frame) (j0 fn B (.inRegion ops (i::rest)::k)::l')).frame.fn) (pos:=(G (⟨f,U,td1,[],.returning,.normal,none⟩:Frame) (j0 fn B (.inRegion ops (i::rest)::k)::l')).frame.place) (es:=bx P f es₁) e2 e6 (λe he=>e7 e (bO he)) e4 (by simp) (jT _);have av:∀i,(aq i).sum=none:=λi=>(aO i).trans ((hK i).trans (hn i));have hold:=O.old av hR.VN;have ad:WR m0 wl w₁:=af.rely (λr b hb=>hold b (af.lt hb).2) O.sz O.os.1;have ab:=aI.le e2 e6;have calm:∀m' wl',WR m' wl' w₁->(∀r b,m'.blk r=some b->E.jl b->m'.loose r)->Co P E.jl E.w0 (λ_=>False) (λi=>Hp (aq i)) m' wl' _ w₁ _:=λm' wl' hw hf=>O.QK av hw (λb hb=>⟨bT (Y b hb).1 O.sz,(hold b (Y b hb).1).trans (Y b hb).2⟩) hf (bV az O.sz) ⟨O.os.1.trans aj.1,O.os.2.trans aj.2⟩ ap
  have oY:∀m',SX m' (λi=>Hp (aq i)) (λ_=>False) []:=λm'=>by
   refine⟨λr vs hr=>(by cases hr),λj J n hj=>?_,λr hr=>(by cases hr)⟩;obtain⟨q,e⟩:=xC (av j);rw[e]at hj;cases hj
  rcases au with⟨l,cp,rfl,aP⟩|⟨b1,off,spot,l,cp,cs,ty,fz,rfl,aQ,aw,ac,aR⟩
  .cases e3 with
   |jg=>
    exact aG l cp aP m0 _ _ _ _ ar _ _ _ ak (calm m0 wl ad ay) (oY m0) (.cons (o:=⟨fn,iF o.dst tm (.slice none l cp),.inRegion ops rest::k⟩) (ht.iF o.dst (.jg l cp)) a0) (by simp[an])
  .cases e3 with
   |@slice _ a' _ _ ha=>
    cases ha with
    |@mk _ b' _ _ ax=>
     obtain⟨o1,o2,g1,g2,g3⟩:=e4.obj b1 b' ax;have ao:(tp aa (along aa (w2.at d2))).heap[b1]?=some (.cells cs ty fz):=aQ;rw[ao]at g1;cases g1
     cases g3 with
     |@cells _ cs' _ _ aB aS=>
      have aT:=Kl aS aw;subst aT;have aU:aB=fz:=e4.fz b1 b' _ _ _ _ _ _ ax ao g2 (ac gE ab);subst aU;have aE:E₂.w0.heap.size<=b':=O.fresh hR.VN ax (ac gE ab)
      have ae:∀s,m0.blk s≠some b':=λs hs=>by
       have:=(af.lt hs).2;omega
      have hG:wl.heap.size<m0.G↔b'<m0.G:=by
       have h1:=af.Od;have h2:=af.LR;constructor<;>intro x<;>omega
      have aV:=ad.QM ae hG g2 aw;have aC:=Ren.xr ad.jW ae hG
      have aW:∀r b,(m0.ext wl.heap.size b' ad.jW ae hG).blk r=some b->E.jl b->(m0.ext wl.heap.size b' ad.jW ae hG).loose r:=λr b hr hF=>by
       by_cases e:r=wl.heap.size
       .subst e;simp[Ren.ext]at hr;have:=(Y b hF).1;omega
       .have aX:=by simpa[Ren.ext,e]using hr
        have:=ay r b aX hF;simpa[Ren.ext,e]using this
      have aD:(m0.ext _ b' ad.jW ae hG).blk wl.heap.size=some b':=by simp[Ren.ext]
      exact aH off spot l cp cs' ty aB aR aw _ _ _ _ _ ar _ _ _ (ak.QM _ ae hG) (calm _ _ aV aW) (oY _) (.cons (o:=⟨fn,iF _ tm _,.inRegion ops rest::k⟩) ((ht.mono aC).iF _ (.slice l cp (.mk aD))) (a0.mono aC)) (by simp[an])
theorem gp.phase{i:Nat}{rest:List Nat}{o:Oper}{jQ:Func}{c:Code}{arq:Array Operand}{ts:Array bu}
  (ae:∀b,b<E.w0.heap.size->E.jl b\/E.w0.heap[b]?=some rD) (hi:ops[i]?=some o) (au:b7 o (bq ops tm)=true) (hf:P.funcs[f]?=some jQ) (hb:jQ.body=some c) (hn:jQ.name≠ "runtime.NumGoroutine") (ho:o.op=.call {callee:=.value (.func f),args:=arq,argTypes:=ts}) (av:∀x∈arq.toList,gR E.je E.gl x)
  (hph:∀m w ai T,Rg E m->WR m wl w->io m (arq.map (ll tm)) ai->(∀ps,T=[ps]->ps.mode≠.panicking [bw])->∃(O:Env P)(tm1:Array Value)(m1:Ren)(Y:World),O.Z=E.Z/\O.T=T/\O.w0=w/\(∀b,O.jl b↔b<w.heap.size)/\Rg O m1/\WR m1 Y w/\(∀r b,m1.blk r=some b->m1.loose r)/\io m1 tm1 (ai++bi (jQ.ntmps-arq.size) cb)/\
    ((∀(E₂:Env P)af aa ag,E₂.Z=E.Z->E₂.T=T->E₂.w0=w->(aa=[]\/∃k2,aa=.code .ret::k2)->CK P E₂ jQ af ag R0 R1->gp E₂ [⟨f,af,aa⟩] ag [])->gp O [⟨f,tm1,[.code c]⟩] Y []))
  (aw:∀l cp,R0 l cp->gp E (⟨fn,iF o.dst tm (.slice none l cp),.inRegion ops rest::k⟩::os) wl [])
  (ax:∀off spot l cp cs e f,R1 off spot l cp cs e f->(∀v∈cs.toList,Flat v)->gp E (⟨fn,iF o.dst tm (.slice (some ⟨wl.heap.size,off,spot⟩) l cp),.inRegion ops rest::k⟩::os) {wl with heap:=wl.heap.push (.cells cs e f)} []) :
  gp E (⟨fn,tm,.inRegion ops (i::rest)::k⟩::os) wl []:=by
 intro m Pd ρ gs w sl t fr' cs' ab ay az ad h0
 have a0:∀i,(ρ i).sum=none:=by
  intro i
  cases e:(ρ i).sum with
  |none=>rfl
  |some x=>
   obtain⟨r,vs,hx,_⟩:=az.only i x.1 x.2 e;cases hx
 refine turn (Z:=E.Z) (a:=G fr' cs') (K:=λj=>(ρ j).sum) (N:=gs.size) rfl ?_ ρ gs w sl t ay (λ_=>rfl) h0 rfl;intro ρ' gs' w' aE aj d t' U hK ak hN;have a3:=ad
 cases ad with
 |@cons _ _ B l ht a4=>
  have hy:b7 o (bq ops B)=true:=by rw[show bq ops B=bq ops tm from funext (ou ops ht)]; exact au
  have a5:=ol (P:=P) (fn:=fn) (k:=k) (rest:=rest) (cs':=cs') (w:=w'.at d) hi hy;have al:=FU P hf hb hn (ll B) rfl ho (w'.at d);have ha:io m (arq.map (ll tm)) (arq.map (ll B)):=mW (je:=m.je) (gl:=E.gl) (λx hx=>Lx ht ab.rL.qT x hx) (λx hx=>by rw[ab.je]; exact av x hx)
  have a6:bG P true (j0 fn B (.inRegion ops (i::rest)::k)) cs' none (bt (ll B) o) (w'.at d)=.go (G (j0 f (arq.map (ll B)++bi (jQ.ntmps-arq.size) cb) [.code c]) (j0 fn B (.inRegion ops (i::rest)::k)::cs')) (w'.at d) #[]:=by
   unfold bG;simp only[if_true,al];simp[bW,G,j0,bZ,hf,hb,bx]
  have a7:=bL (P:=P) (sl:=aj) (i:=0) ak (show br P (0==0) _ (w'.at d)=_ from a5.trans a6);rw[a7];refine E.Z.next _ _ _ _ ?_;have a8:0<gs'.size:=(bh.1 ak).1
  have ah:∀ps,(j0 fn B (.inRegion ops (i::rest)::k)::cs')=[ps]->ps.mode≠.panicking [bw]:=by
   rintro ps e;cases e;simp[j0]
  obtain⟨O,tm1,m1,Y,a9,a',ac,am,aA,an,aB,aC,ao⟩:=hph m (w'.at d) (arq.map (ll B)) (j0 fn B (.inRegion ops (i::rest)::k)::cs') ab U.main ha ah;have ap:∀i,(ρ' i).sum=none:=λi=>(hK i).trans (a0 i);have aq:=U.yZ (gs':=(gs'.map (woken P (G (j0 fn B (.inRegion ops (i::rest)::k)) cs') (G (j0 f (arq.map (ll B)++bi (jQ.ntmps-arq.size) cb) [.code c]) (j0 fn B (.inRegion ops (i::rest)::k)::cs')) _)).setIfInBounds 0 _) (fn:=(G (j0 fn B (.inRegion ops (i::rest)::k)) cs').frame.fn) (pos:=(G (j0 fn B (.inRegion ops (i::rest)::k)) cs').frame.place) (es:=#[]) (.refl m) (.refl m _) (by simp) U.main (by simp) (jT _);have ar:Co P _ O.w0 _ _ m1 Y _ _ _:=aq.QK ap an (λb hb=>by rw[ac]; exact⟨(am b).1 hb,rfl⟩) (λr b hr _=>aB r b hr) (by rw[ac]; exact bU _) (by rw[ac]; exact⟨rfl,rfl⟩) (λb hb=>.inl ((am b).2 (by rw[ac]at hb; exact hb)));rw[<-a9];refine ao ?_ m1 _ _ _ _ aj _ _ _ aA ar ⟨λr vs hr=>(by cases hr),λj J n hj=>?_,λr hr=>(by cases hr)⟩ (.cons (o:=⟨f,tm1,[.code c]⟩) aC (by rw[a']; exact .nil)) (by simp[a8])
  .intro E₂ af aa ag z2 T2 W2 aD hR;exact Nx ae (λb hb=>by rw[W2]; exact U.fix b hb) U.f0 (by rw[W2]; exact U.sz) (by rw[W2]; exact U.os) z2 T2 ab (by rw[W2]; exact U.main) ht a4 hf hi aD hR aw ax
  .obtain⟨q,e⟩:=xC (ap j);rw[e]at hj;cases hj
end
end
section
open Go.Conc
variable {T:Tables} {d:TypeDesc} {t:bu} {info:bu->Option TypeInfo} {i:TypeInfo} {v:Value}
def PL:Value->Bool
 |.bool _|.int _ _|.string _|.pointer none|.slice none _ _|.map none|.chan none|.nilFunc|.nilIface=>true
 |_=>false
theorem Eo(h:PL v=true):Plain v:=by
 unfold PL at h;split at h<;>first|trivial|cases h
def SZ(je gl:Nat->Bool):Operand->Bool
 |.tmp _=>true
 |.const v=>PL v
 |.global g=>gl g
 |.func f=>je f
theorem P3{je gl:Nat->Bool}{x:Operand}(h:SZ je gl x=true):gR (λf=>je f=true) (λg=>gl g=true) x:=by
 cases x with
 |tmp t=>trivial
 |const v=>exact Eo h
 |global g=>exact h
 |func f=>exact h
def H8:Operand->Bool
 |.tmp _=>true
 |.const v=>PL v
 |_=>false
def PR(P:Program)(st:Bool)(B:Array bu)(n:Nat):Builtin->Bool
 |.append|.clear|.copy|.max|.min|.recover=>true
 |.cap|.len=>(B[0]?).all (tU P)
 |.unsafeString=>st&&n==2
 |_=>false
def Uh(P:Program)(st:Bool)(t:bu):Bool:=match P.underlying t with
 |some (.map k _)=>sQ P 10000 k&&(st || qw P Op.maxDepth k)
 |_=>true
def Vy(P:Program)(st:Bool)(t:bu)(y:Operand):Bool:=st || qw P Op.maxDepth t || (isNil y&&match P.underlying t with|some (.pointer _)|some (.interface _)|none=>true|_=>false)
def Fx(P:Program)(je gl:Nat->Bool)(st:Bool)(op:Op):Bool:=
 op.operands.all (SZ je gl)&&match op with
 |.move _|.assign _|.pick ..|.alloc _|.box ..|.build ..|.buildSlice ..|.load ..|.store ..|.nilCheck _|.unOp ..|.makeInterface ..|.makeMap ..|.makeSlice ..|.slice ..|.fieldAddr ..|.field ..
 |.indexAddr ..|.index ..|.entryStore ..|.range ..|.next ..|.entry _|.extract ..|.panic _|.send .. => true
 |.binOp o t _ y _=>(match o with|.eql|.neq=>Vy P st t y|_=>true)
 |.convert s d _=>E8 P s d
 |.makeFunc (.func f) _ _=>je f
 |.lookup t ..|.mapUpdate t ..|.mapEntry t .. => Uh P st t
 |.typeAssert _ _ _ ok=>ok
 |.call c=>(match c.callee with
  |.value _=>true
  |.builtin b=>PR P st c.argTypes c.args.size b
  |.invoke .. => false)
 |.defer c=>(match c.callee with
  |.value _=>true
  |_=>false)
 |_=>false
def my(ok:Oper->Bool):Code->Bool
 |.skip|.exit _|.label _|.goto _|.ret=>true
 |.region _ ops _=>ops.all ok
 |.seq a b=>my ok a&&my ok b
 |.cond c a b=>H8 c&&my ok a&&my ok b
 |.block _ c|.loop c|.scope c=>my ok c
 |.rangeFunc f _ a b=>H8 f&&my ok a&&my ok b
 |.refuse _=>false
section
variable {P:Program} {je gl:Nat->Bool} {st:Bool}
theorem Rh(h:Uh P st t=true):Pt P st t:=by
 intro k e B;unfold Uh at h;rw[B]at h;simp only[bI,bJ]at h;exact h
theorem T3{y:Operand}(h:Vy P st t y=true):UR P st t y:=by
 unfold Vy at h;simp only[bJ,bI]at h;rcases h with(h|h)|⟨O,B⟩
 .exact .inl h
 .exact .inr (.inl h)
 .refine .inr (.inr ⟨O,λd U=>?_⟩);rw[U]at B;cases d<;>first|exact .inl ⟨_,rfl⟩|exact .inr ⟨_,rfl⟩|cases B
theorem xK{op:Op}(h:Fx P je gl st op=true):OkOp P (λf=>je f=true) (λg=>gl g=true) st op:=by
 unfold Fx at h;rw[bI]at h;obtain⟨U,B⟩:=h;refine⟨λx Y=>P3 ?_,?_⟩
 .rw[bj]at U;rw[bk]at Y;obtain⟨i,hi,rfl⟩:=bm.1 Y;exact U i hi
 .cases op with
  |binOp o t x y s=>
   rintro(rfl|rfl)<;>exact T3 B
  |convert s d x=>exact B
  |makeFunc f a b=>cases f<;>first|exact B|cases B
  |lookup|mapUpdate|mapEntry=>exact Rh B
  |typeAssert=>exact B
  |call c=>
   obtain⟨ce,arq,ts⟩:=c
   cases ce with
   |value x=>trivial
   |invoke=>cases B
   |builtin b=>
    refine⟨?_,by rintro rfl; cases B⟩;cases b<;>first|trivial|cases B|skip
    .intro t O;have B:(ts[0]?).all _=true:=B;rw[O]at B;exact B
    .intro t O;have B:(ts[0]?).all _=true:=B;rw[O]at B;exact B
    .have B:(st&&arq.size==2)=true:=B;show st=true/\arq.size=2;simpa using B
  |defer c=>
   obtain⟨ce,arq,ts⟩:=c;cases ce<;>first|trivial|cases B
  |_=>first|trivial|cases B
theorem pN{ok:Oper->Bool}:∀{c:Code},my ok c=true->jn (λo=>ok o=true) c:=by
 have B:∀{x:Operand},H8 x=true->xq x:=fun {x} h=>by
  cases x with
  |tmp t=>trivial
  |const v=>exact Eo h
  |global g=>cases h
  |func f=>cases h
 intro c
 induction c with
 |skip|exit|label|goto|ret=>intro _; trivial
 |region i ops d=>
  intro h o ho;have h:ops.all ok=true:=h;rw[bj]at h;rw[bk]at ho;obtain⟨i,hi,rfl⟩:=bm.1 ho;exact h i hi
 |seq a b O U=>
  intro h;have h:(my ok a&&my ok b)=true:=h;rw[bI]at h;exact⟨O h.1,U h.2⟩
 |cond x a b O U=>
  intro h;have h:(H8 x&&my ok a&&my ok b)=true:=h;simp only[bI]at h;exact⟨B h.1.1,O h.1.2,U h.2⟩
 |block i c Y=>exact λh=>Y h
 |loop c Y=>exact λh=>Y h
 |scope c Y=>exact λh=>Y h
 |rangeFunc f ps a b O U=>
  intro h;have h:(H8 f&&my ok a&&my ok b)=true:=h;simp only[bI]at h;exact⟨B h.1.1,O h.1.2,U h.2⟩
 |refuse=>intro h; cases h
end
def Hm:Nat->Value->Bool
 |0,_=>false
 |n+1,v=>match v with
  |.agg c=>c.all (Hm n)
  |.tuple c=>c.all (Hm n)
  |v=>PL v
theorem B4:∀{n:Nat}{v:Value},Hm n v=true->∀m,VR m v v
 |n+1,v,h,m=>by
  unfold Hm at h;split at h
  .rw[bj]at h;exact .agg rfl λi hi _=>B4 (h i hi) m
  .rw[bj]at h;exact .tuple rfl λi hi _=>B4 (h i hi) m
  .exact VR.plain (Eo h)
theorem CZ{Y B:Type}{I:B->Prop}{f:Y->B->Option (ForInStep B)}(hf:∀a s r,f a s=some r->I s->∃s',(r=.yield s'\/r=.done s')/\I s'):∀(l:List Y){s s':B},I s->forIn l s f=some s'->I s'
 |[],s,s',h,e=>by simp at e; exact e▸h
 |a::l,s,s',h,e=>by
  rw[List.forIn_cons]at e
  cases O:f a s with
  |none=>rw[O]at e; cases e
  |some r=>
   rw[O]at e
   obtain⟨s1,U|U,h2⟩:=hf a s r O h
   .subst U; exact CZ hf l h2 e
   .subst U;have:=e;cases this;exact h2
def oe(v:Value):Prop:=∀m,VR m v v
theorem oe.cells(h:oe v):∀x∈v.cells.toList,oe x:=by
 intro x B m;have O:=(h m).cells;rw[bk]at B;obtain⟨i,hi,rfl⟩:=bm.1 B;exact O.idx i hi hi
theorem oe.agg{c:Array Value}(h:∀x∈c.toList,oe x):oe (.agg c):=λm=>.agg rfl λi hi _=>h _ (by simp) m
theorem vO(ac:∀t i v,info t=some i->i.zero=some v->oe v){fs:Array Field}(h:b5 info fs=some i)(hv:i.zero=some v):oe v:=by
 unfold b5 at h;simp only[a2,a1]at h;obtain⟨st,U,O⟩:=h;rw[<-Array.forIn_toList]at U
 have hI:=CZ (I:=λs:Array Field×Nat×Nat×Nat×Nat×Bool×Bool×Option (Array Value)×String=>∀zs,s.2.2.2.2.2.2.2.1=some zs->∀x∈zs.toList,oe x) (λa s r Y hs=>by
  cases hi:info a.type with
  |none=>rw[hi]at Y; cases Y
  |some j=>
   have aa:∀zs,(s.2.2.2.2.2.2.2.1.bind λz1=>j.zero.bind λz2=>pure (z1++z2.cells))=some zs->∀x∈zs.toList,oe x:=by
    intro zs B;rw[a1]at B;obtain⟨z1,e1,B⟩:=B;rw[a1]at B;obtain⟨z2,e2,B⟩:=B;cases B;intro x hx;rw[Array.toList_append,List.mem_append]at hx;exact hx.elim (hs z1 e1 x) ((ac a.type j z2 hi e2).cells x)
   have ab:∀zs,(none:Option (Array Value))=some zs->∀x∈zs.toList,oe x:=λzs B=>by cases B
   have key:∀zs,(if s.2.1+j.size > Made.mostCells then none else s.2.2.2.2.2.2.2.1.bind λz1=>j.zero.bind λz2=>pure (z1++z2.cells))=some zs->∀x∈zs.toList,oe x:=by
    intro zs B;split at B
    .cases B
    .exact aa zs B
   rw[hi]at Y;simp only[bd]at Y
   repeat' split at Y
   all_goals first
    |(cases Y; done)
    |(simp only[a1]at Y
      obtain⟨tg,_,Y⟩:=Y
      cases Y
      first|exact⟨_,.inl rfl,ab⟩|exact⟨_,.inl rfl,aa⟩|exact⟨_,.inl rfl,key⟩)
    |(cases Y; first|exact⟨_,.inl rfl,ab⟩|exact⟨_,.inl rfl,aa⟩|exact⟨_,.inl rfl,key⟩)) fs.toList (s:=(#[],0,0,1,0,false,true,some #[],"struct {")) (by
   intro zs B x hx;cases B
   simp at hx) U
 have B:∃zs,st.2.2.2.2.2.2.2.1=some zs/\v=.agg zs:=by
  split at O
  .cases O;simp only[be]at hv;obtain⟨zs,h1,h2⟩:=hv;exact⟨zs,h1,h2.symm⟩
  .cases O;simp only[be]at hv;obtain⟨zs,h1,h2⟩:=hv;exact⟨zs,h1,h2.symm⟩
 obtain⟨zs,h1,rfl⟩:=B;exact .agg (hI zs h1)
theorem I8(U:∀t i v,info t=some i->i.zero=some v->oe v)(h:b4 info d=some i)(O:i.zero=some v):oe v:=by
 have B:∀(d:TypeDesc)(s:String)(z:Value)(c:Bool)(n:Nat),(Made.word d s z c n).zero=some v->Plain z->oe v:=by
  intro d s z c n e hz;cases e;exact λm=>VR.plain hz
 cases d with
 |struct fs=>exact vO U h O
 |pointer e=>
  simp only[b4,a2,a1]at h;obtain⟨j,_,h⟩:=h;split at h
  .cases h
  .split at h
   .cases h
   .simp only[a1]at h;obtain⟨s,_,h⟩:=h;cases h;exact B _ _ _ _ _ O trivial
  .simp only[a1]at h;obtain⟨s,_,h⟩:=h;cases h;exact B _ _ _ _ _ O trivial
 |slice e=>
  simp only[b4,a2,a1]at h;obtain⟨_,_,_,_,h⟩:=h;cases h;exact B _ _ _ _ _ O trivial
 |map k e=>
  simp only[b4,a2,a1]at h;obtain⟨_,_,_,_,_,_,_,_,h⟩:=h;cases h;exact B _ _ _ _ _ O trivial
 |chan dr e=>
  simp only[b4,a2,a1]at h;obtain⟨_,_,_,_,h⟩:=h;cases h;exact B _ _ _ _ _ O trivial
 |func ps rs b=>
  simp only[b4,a2,a1]at h;obtain⟨_,_,h⟩:=h;cases h;exact B _ _ _ _ _ O trivial
 |array n e=>
  simp only[b4,a2,a1]at h;obtain⟨j,hj,_,_,h⟩:=h;cases h;split at O
  .cases O
  .split at O
   .cases O;exact .agg (by simp)
   .rw[be]at O;obtain⟨z,h1,rfl⟩:=O;refine .agg λx Y=>?_;have hz:=(U e j z hj h1).cells;simp only[bk,Array.mem_flatten,Array.mem_replicate]at Y;obtain⟨xs,⟨_,rfl⟩,Y⟩:=Y;exact hz x (bk.2 Y)
 |_=>cases h
theorem yA(B:∀(t:Nat)(i:TypeInfo)v,T.types[t]?=some i->i.zero=some v->oe v):∀(f:Nat)t i v,b6 T f t=some i->i.zero=some v->oe v
 |0,_,_,_,h,_=>by cases h
 |f+1,t,i,v,h,O=>by
  unfold b6 at h
  split at h
  .exact B t i v h O
  .rw[a1]at h
   obtain⟨d,_,h⟩:=h
   exact I8 (yA B f) h O
theorem zW(h:b4 info d=some i):i.methods=#[]:=by
 cases d with
 |struct O=>
  have h:b5 info O=some i:=h;unfold b5 at h;simp only[a2,a1]at h;obtain⟨st,B,h⟩:=h;split at h <;>(cases h; rfl)
 |pointer e=>
  simp only[b4,a2,a1]at h;obtain⟨j,_,h⟩:=h;split at h
  .cases h
  .split at h
   .cases h
   .simp only[a1]at h;obtain⟨s,_,h⟩:=h;cases h;rfl
  .simp only[a1]at h;obtain⟨s,_,h⟩:=h;cases h;rfl
 |slice e=>
  simp only[b4,a2,a1]at h;obtain⟨_,_,_,_,h⟩:=h;cases h;rfl
 |map k e=>
  simp only[b4,a2,a1]at h;obtain⟨_,_,_,_,_,_,_,_,h⟩:=h;cases h;rfl
 |chan U e=>
  simp only[b4,a2,a1]at h;obtain⟨_,_,_,_,h⟩:=h;cases h;rfl
 |func ps rs b=>
  simp only[b4,a2,a1]at h;obtain⟨_,_,h⟩:=h;cases h;rfl
 |array n e=>
  simp only[b4,a2,a1]at h;obtain⟨j,Y,_,_,h⟩:=h;cases h;rfl
 |_=>cases h
theorem Kh(B:∀(t:Nat)(i:TypeInfo),T.types[t]?=some i->i.methods.find? (·.name == "")=none):∀(f:Nat)t i,b6 T f t=some i->i.methods.find? (·.name == "")=none
 |0,_,_,h=>by cases h
 |f+1,t,i,h=>by
  unfold b6 at h
  split at h
  .exact B t i h
  .rw[a1]at h
   obtain⟨d,_,h⟩:=h
   rw[zW h];rfl
end
section
open Go.Conc
theorem vP(p:Nat)(a:Touch):touchAt #[] p≠some a:=by simp[touchAt,bz.act?]
theorem KG{P:Program}{E:Env P}{Post:Value->World->Prop}{f:bs}{jQ:Func}{c:Code}{args B:Array Value}{W wl:World}{m:Ren}(hZ:E.Z=ending P Post)(U:∀b,E.jl b->b<W.heap.size/\W.heap[b]?=E.w0.heap[b]?)(aa:∀r b,m.blk r=some b->E.jl b->m.loose r)(Y:∀b,b<E.w0.heap.size->E.jl b\/E.w0.heap[b]?=some rD)(ab:E.w0.heap.size<=W.heap.size)(ac:W.os=E.w0.os/\W.output=E.w0.output)(hT:E.T=[])(hf:P.funcs[f]?=some jQ)(hb:jQ.body=some c)(ad:Rg E m)(hw:WR m wl W)(O:io m B args)
  (h:gp E [⟨f,B++bi (jQ.ntmps-B.size) cb,[.code c]⟩] wl []):wM P Post (solo (G (bZ P f args .normal) []) W) #[]:=by
 have hE:bZ P f args .normal=j0 f (args++bi (jQ.ntmps-args.size) cb) [.code c]:=by simp[bZ,j0,hf,hb]
 have ae:Co P E.jl E.w0 (λ_=>False) (λ_=>.quit 0) m wl #[G (bZ P f args .normal) []] W #[]:=by
  refine⟨hw,λi g hi hg=>?_,λ_ _=>rfl,λi m' hm=>(by cases hm),λi j m1 m2 _ hm _=>(by cases hm),λi j J1 J2 _ hJ _=>(by cases hJ),λp a b r O=>absurd O (vP p a),λi m' hm=>(by cases hm),λi J hJ=>(by cases hJ),λp a b O=>absurd O (vP p a),λop af=>(by simp at af),λp a O=>absurd O (vP p a),past_nil.clean,U,aa,λi m' hm=>(by cases hm),λi J hJ=>(by cases hJ),ab,ac,λp a b O=>absurd O (vP p a),nofun,λb hb=>(Y b hb).imp id .inr⟩;have:=by simpa using(bh.1 hg).1
  omega
 have:=h m _ _ _ W none _ _ [] ad ae ⟨λr vs hr=>(by cases hr),λi J n hi=>(by cases hi),λr hr=>(by cases hr)⟩ (by rw[hE,hT]; exact .cons (o:=⟨f,B++bi _ cb,[.code c]⟩) (by rw[<-O.size]; exact O.append (.replicate _ (.undef m))) .nil) rfl;rw[hZ]at this;exact this
end
section
open Go.Conc
variable {st:Bool} {f n:Nat} {je gl:Nat->Bool} {P:Program} {m:Ren}
def OY(M:Nat)(n:Nat):Bool:=M.testBit n
def Ub(P:Program)(je gl:Nat->Bool)(st:Bool)(f:Nat):Bool:=match P.funcs[f]? with
 |some fn=>fn.name != "runtime.NumGoroutine" && (match fn.body with
  |some c=>my (λo=>Fx P je gl st o.op) c
  |none=>false)
 |none=>false
def Ou(P:Program)(je gl:Nat->Bool)(st:Bool):Oper->Prop:=λo=>Fx P je gl st o.op=true
theorem SL(h:Ub P je gl st f=true)(hm:m.ok=Ou P je gl st):pV P m f:=by
 unfold Ub at h
 cases O:P.funcs[f]? with
 |none=>rw[O]at h; cases h
 |some fn=>
  rw[O]at h;simp only[bI]at h;obtain⟨U,B⟩:=h;refine⟨fn,O,by simpa using U,?_⟩
  cases hb:fn.body with
  |none=>rw[hb]at B; cases B
  |some c=>
   rw[hb]at B;exact .inl ⟨c,rfl,by rw[hm]; exact pN B⟩
def Oy(P:Program)(je gl:Nat->Bool)(st:Bool)(ex:Nat->Bool)(n:Nat):Bool:=(bF n).all λf=>!je f || ex f || Ub P je gl st f
theorem EW{ex:Nat->Bool}(h:Oy P je gl st ex n=true)(U:∀f,je f=true->f<n)(hm:m.ok=Ou P je gl st)(B:∀f,ex f=true->je f=true->pV P m f):∀f,je f=true->pV P m f:=by
 intro f O;unfold Oy at h;rw[List.all_eq_true]at h;have:=h f (by simpa using U f O);simp only[O,Bool.not_true,Bool.false_or,bJ]at this;rcases this with x|x
 .exact B f x O
 .exact SL x hm
def Tj(P:Program):Bool:=P.toTables.types.all λi=>match i.zero with
 |some v=>Hm 40 v
 |none=>true
def SP(P:Program):Bool:=P.toTables.types.all λi=>(i.methods.find? (·.name == "")).isNone
theorem Qk(h:Tj P=true)(hmb:SP P=true):oO P:=by
 have U:∀(t:Nat)(i:TypeInfo)v,P.toTables.types[t]?=some i->i.zero=some v->oe v:=by
  intro t i v ht O m;unfold Tj at h;rw[bj]at h;obtain⟨B,rfl⟩:=bh.1 ht;have:=h t B;rw[O]at this;exact B4 this m
 have Y:∀(t:Nat)(i:TypeInfo),P.toTables.types[t]?=some i->i.methods.find? (·.name == "")=none:=by
  intro t i ht;unfold SP at hmb;rw[bj]at hmb;obtain⟨B,rfl⟩:=bh.1 ht;simpa using hmb t B
 refine⟨λt i v ht O m=>?_,λt i ht=>?_⟩
 .have ht:P.toTables.info? t=some i:=ht;unfold Tables.info? at ht;split at ht
  .exact U t i v ht O m
  .exact yA U _ t i v ht O m
 .have ht:P.toTables.info? t=some i:=ht;unfold Tables.info? at ht;split at ht
  .exact Y t i ht
  .exact Kh Y _ t i ht
def UB:Nat:=16296291696013673141605707346198838935449560434141168097322037386652118454261163305065086976
def SR:Nat:=1001570083691504317195401104025185627287091139835923004101470451620903362718842486784
def VI:Nat:=7237005590390986380874373471172107595023005440485116358029236060886847717376
def uu:Nat->Bool:=OY UB
def vW:Nat->Bool:=OY SR
def Oa:Nat->Bool:=OY VI
def sf(g:Nat):Bool:=g==0 || g==2 || g==3 || g==4
def DQ(_:Nat):Bool:=false
theorem PZ:oO prog:=Qk (by kernel_rfl) (by kernel_rfl)
theorem TV:Oy prog uu sf true (λf=>f==100 || f==232) 304=true:=by kernel_rfl
theorem sendAll:Oy prog vW DQ false (λ_=>false) 304=true:=by kernel_rfl
theorem UW:Oy prog Oa DQ false (λ_=>false) 304=true:=by kernel_rfl
theorem follows:prog.follows .rangeFuncRecover=true:=by kernel_rfl
theorem zP:prog.globals.size=5:=by kernel_rfl
theorem vo{M:Nat}(B:M >>> n=0)(h:M.testBit f=true):f<n:=by
 apply bX;intro O;have e:(M >>> n).testBit (f-n)=M.testBit f:=by rw[Nat.testBit_shiftRight,Nat.add_sub_of_le (Nat.le_of_not_lt O)]
 rw[B,h,Nat.zero_testBit]at e;cases e
theorem TK(f:Nat)(h:uu f=true):f<304:=vo (M:=UB) (by kernel_rfl) h
theorem R8(f:Nat)(h:vW f=true):f<304:=vo (M:=SR) (by kernel_rfl) h
theorem Vb(f:Nat)(h:Oa f=true):f<304:=vo (M:=VI) (by kernel_rfl) h
end
section
open Go.Conc
theorem EP{P:Program}{je gl:Nat->Bool}{st:Bool}{m:Ren}(B:m.ok=Ou P je gl st)(O:m.je=λf=>je f=true)(hE:wN P m)(U:st=true->jS m)(hg:∀g,gl g=true->m.blk g=some g):nW P m (λg=>gl g=true) st:=
 ⟨hE,U,λh=>h.elim,hg,λo Y=>by rw[B]at Y; rw[O]; exact xK Y⟩
theorem NH:Extern.findNext f100=none:=by kernel_rfl
theorem NR:Extern.findNext f232=none:=by kernel_rfl
theorem Me:Extern.find f100=some (Extern.SlicesOverlaps.overlaps f100.params f100.resultTypes):=by kernel_rfl
theorem Mo:Extern.find f232=some Extern.BytealgCompare.compare:=by kernel_rfl
section
variable {m:Ren}
theorem call100(B:jS m):pV prog m 100:=
 ⟨f100,by kernel_rfl,by simp[f100],.inr ⟨by kernel_rfl,NH,_,Me,λm' a Y O U=>Jo (B.mono O) U⟩⟩
theorem call232:pV prog m 232:=
 ⟨f232,by kernel_rfl,by simp[f232],.inr ⟨by kernel_rfl,NR,_,Mo,λm' a O U B=>Mc B⟩⟩
theorem TP(B:m.ok=Ou prog uu sf true)(O:m.je=λf=>uu f=true)(hG:m.G=5)(U:jS m)(hg:∀g,sf g=true->m.blk g=some g):nW prog m (λg=>sf g=true) true:=
 EP B O ⟨PZ,by rw[hG,zP],λf Y=>by
  rw[O]at Y;refine EW TV TK B (λf he _=>?_) f Y;simp only[bJ,beq_iff_eq]at he;rcases he with rfl|rfl
  .exact call100 U
  .exact call232,follows⟩ (λ_=>U) hg
theorem Sf(B:m.ok=Ou prog vW DQ false)(O:m.je=λf=>vW f=true)(Y:m.G=5):nW prog m (λg=>DQ g=true) false:=
 EP B O ⟨PZ,by rw[Y,zP],λf U=>by
  rw[O]at U
  exact EW sendAll R8 B (λf he _=>by cases he) f U,follows⟩ (λh=>by cases h) (λg hg=>by cases hg)
theorem UX(B:m.ok=Ou prog Oa DQ false)(O:m.je=λf=>Oa f=true)(Y:m.G=5):nW prog m (λg=>DQ g=true) false:=
 EP B O ⟨PZ,by rw[Y,zP],λf U=>by
  rw[O]at U
  exact EW UW Vb B (λf he _=>by cases he) f U,follows⟩ (λh=>by cases h) (λg hg=>by cases hg)
end
end
end Go.Proofs.YtocbogeoffeolaaGreatDoor
