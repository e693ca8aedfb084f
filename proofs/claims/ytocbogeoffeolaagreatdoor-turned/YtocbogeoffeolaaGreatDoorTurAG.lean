import Derived.Test.YtocbogeoffeolaaGreatDoorTurAF
import Derived.Test.YtocbogeoffeolaaGreatDoorChecked
set_option linter.all false
set_option maxHeartbeats 8000000
set_option maxRecDepth 1000000
open Option renaming bind_eq_some_iff->a1,bind_eq_bind->a2,bind_some->bc,map_eq_some_iff->bd,getD_some->be,map_some->bf
open Array renaming getElem?_eq_some_iff->bg,replicate->bh,all_eq_true->bi,mem_toList_iff->bj,getElem?_setIfInBounds_ne->bk,mem_iff_getElem->bl,getElem?_push->bm,empty_append->bn,ext->bo
open Go renaming yielded->bp,stepG->bq,FuncId->br,execOp->bs,TypeId->bt,unwind->bu,goexitEntry->bv,seen->bw,Trace->bx,results->bz,doReturn->b0,commResult->b2
open Go.Made renaming reckon->b3,reckonStruct->b4,infoAt->b5
open Go.Region renaming wanted->b6,schedule->b7
open List renaming mem_cons->b8,mem_map->b9,mem_filter->bA,getElem?_eq_some_iff->bB,not_mem_nil->bC,mem_toArray->bD,range->bE
open Go.stepG renaming apply->bF,exec->bG
open Bool renaming and_eq_true->bH,or_eq_true->bI,false_eq_true->bJ
open Go.Conc renaming runT_crowd_go->bK,mem_ofEvents->bL,rcase->bM,mem_seen->bN,crowd->bO,ofEvents_eq->bP
open Go.ConcN renaming upd_ne->bQ,upd_same->bR
open Nat renaming lt_of_lt_of_le->bS,le_refl->bT,le_trans->bU
open Go.GStep renaming after->bV
open Classical renaming byContradiction->bW
open Go.MemOp renaming ofEvents->bX
open Go.Frame renaming enter->bY
open Option.some renaming inj->bZ
open Go renaming undef->ca
namespace Go.Proofs.YtocbogeoffeolaaGreatDoor
open Go.Proofs.Tryz
section
open Go.Conc
open Go.ConcN (upd upd_same upd_ne)
variable {V:List (Nat×Option (List Value))}
section
variable {P:Program} {fx:Nat->Prop} {w0:World} {Pd:Nat->Prop} {ρ:Nat->ey} {m dx:Ren} {wl rV:World} {gs gs':Array Goroutine} {w w₁:World} {t:bx} {sl:Option (Nat×Nat)}
theorem Co.wk{fn:br}{pos:String}{es:Array Event}(h:Co P fx w0 Pd ρ m wl gs w t)(ab:m.Le dx)(hk:fv m dx w w₁)(he:∀e∈es,oy dx e)(O:WR dx rV w₁)(af:gs'.size=gs.size)
  (ag:∀j x,0<j->gs'[j]?=some x->∃y,gs[j]?=some y/\(At P w₁ (t++bX 0 fn pos es) j y (ρ j)->x=y)) :
  Co P fx w0 Pd ρ dx rV gs' w₁ (t++bX 0 fn pos es):=by
 have dj:∀j m',(ρ j).mC=some m'->nD dx m':=λj m' B=>by
  obtain⟨wl',ah⟩:=h.wr B;exact nD.grow (h.d0 j m' B) ab hk ah
 have U:∀c cl,fS w c cl->w₁.heap[c]?=w.heap[c]?:=λc cl x=>hk.OA h.main x
 have hrel:∀j y,0<j->gs[j]?=some y->At P w₁ (t++bX 0 fn pos es) j y (ρ j):=by
  intro j y hj hy;refine(h.at_ j y hj hy).rely (λm' B=>hk.leaves (h.d0 j m' B) (h.wr B).choose_spec) (λJ hJ=>?_) hk.size hk.os λop Y hg=>absurd (ofEvents_g Y) (by omega);obtain⟨cl,W⟩:=h.is hJ;exact U _ cl W
 have aa:=h.s0.grow ab h.low hk.news;refine⟨O,λj x ae W=>?_,λj hj=>h.out j (by rw[<-af]; exact hj),dj,h.dd,h.cc,aa.own,λj m' B=>(h.ss j m' B).other (dj j m' (ey.ns B)).symm he,λj J hJ p a ha hb=>?_,h.low.own O hk.size he,A7 h.hears he,h.jX.app λop Y=>.inr (.inl (ofEvents_g Y)),aa.clean h.clean he,λb hb=>?_,λr b ai hb=>?_,h.ff,h.cx,bU h.sz hk.size,⟨hk.os.trans h.os.1,hk.output.trans h.os.2⟩,h.kn.app (λj m' r b B W=>⟨j,m',r,B,W⟩) (λop Y _ _ _ _ _=>.inl (ofEvents_g Y)),h.pd.app (λ_=>rfl) (λc _ ac=>U c _ ac) (λop Y a c ha _ ac hb=>?_),h.len⟩
 .obtain⟨y,hy,aj⟩:=ag j x ae W;have:=hrel j y ae hy;rw[aj this]; exact this
 .rcases dW ha with⟨_,h1⟩|⟨op,h1,_,h3⟩
  .exact h.L0 j J hJ p a h1 hb
  .obtain⟨e,ad,rfl⟩:=bL h1
   have hm:a.loc.isMemory=true:=by
    cases hl:a.loc<;>rw[hl]at hb<;>simp[kS]at hb<;>rfl
   obtain⟨b',r',g1,g2,g3⟩:=lU (he e ad) h3 hm;rw[hb]at g1;cases g1;obtain⟨cl,s,y,W⟩:=h.is (ey.tO hJ);have:fS w₁ _ cl:=⟨s,y,by rw[U _ cl ⟨s,y,W⟩]; exact W⟩;exact O.zy this g2
 .obtain⟨h1,h2⟩:=h.fix b hb;refine⟨bS h1 hk.size,?_⟩;rw[<-h2];by_cases W:∃r,m.blk r=some b
  .obtain⟨r,W⟩:=W;exact hk.still r b W (h.f0 r b W hb)
  .exact hk.old b h1 λr ak=>W ⟨r,ak⟩
 .rcases hk.news r b ai with x|x
  .exact(ab.loose r b x).2 (h.f0 r b x hb)
  .have:=(h.fix b hb).1;omega
 .obtain⟨e,ad,rfl⟩:=bL Y
  have hm:a.loc.isMemory=true:=by
   cases hl:a.loc<;>rw[hl]at hb<;>simp[kS]at hb<;>rfl
  obtain⟨b',r',g1,g2,g3⟩:=lU (he e ad) ha hm;rw[hb]at g1;cases g1;obtain⟨s,y,W⟩:=ac;exact O.zy (cl:=false) ⟨s,y,by rw[U _ false ⟨s,y,W⟩]; exact W⟩ g2
theorem Co.calm(h:Co P fx w0 Pd ρ m wl gs w t)(B:∀i,(ρ i).sum=none)(m':Ren):n4 t 0 m':=by
 intro p a b r O hb _ _
 have hm:a.loc.isMemory=true:=by
  cases U:a.loc<;>rw[U]at hb<;>simp[kS]at hb<;>rfl
 rcases h.jX p a O hm with x|⟨op,_,x⟩
 .exact x
 .exact absurd (B _) x
theorem gz{g g':Goroutine}{u:bx}(w₁:World):∀j x,0<j->((gs.map (woken P g g' w₁)).setIfInBounds 0 g')[j]?=some x->∃y,gs[j]?=some y/\(At P w₁ u j y (ρ j)->x=y):=by
 intro j x U B;rw[bk (by omega),Array.getElem?_map]at B;obtain⟨y,O,rfl⟩:=bd.1 B;exact⟨y,O,λh=>h.woken g g'⟩
end
structure OF where
 fn:br
 tm:Array Value
 td:List Item
def fL(fn:br)(tm:Array Value)(td:List Item):Frame:=⟨fn,tm,td,[],.run,.normal,none⟩
inductive nF(m:Ren)(T:List Frame):List OF->List Frame->Prop
 |nil:nF m T [] T
 |cons {o os tm' l}:ed m o.tm tm'->nF m T os l->nF m T (o::os) (fL o.fn tm' o.td::l)
theorem nF.mono{m dx:Ren}{T:List Frame}(h:m.Le dx){os:List OF}{l:List Frame}(x:nF m T os l):nF dx T os l:=by
 induction x with
 |nil=>exact .nil
 |cons B _ O=>exact .cons (B.mono h) O
structure Env(P:Program) where
 Z:j8 P
 fx:Nat->Prop
 w0:World
 T:List Frame
 gl:Nat->Prop
 st:Bool
 fq:br->Prop
 ok:Oper->Prop
 X:Ren->Prop
 le:∀m dx:Ren,m.Le dx->X m->X dx
structure Rg{P:Program}(E:Env P)(m:Ren):Prop where
 pg:l5 P m E.gl E.st
 ic:¬m.ic
 ml:∀r r',m.ch r=some r'->m.kD r=some (.chan 0 #[] false 0 0 false)
 fq:m.fq=E.fq
 QS:m.ok=E.ok
 x:E.X m
structure QL(m:Ren)(ρ:Nat->ey)(Pd:Nat->Prop)(V:List (Nat×Option (List Value))):Prop where
 all:∀r vs,(r,some vs)∈V->∃i J n,(ρ i).sum=some (J,n)/\m.ch r=some J.c/\n<=J.L.length/\J.L.drop n=vs/\∀v∈J.L,∀(m:Ren)v',VR m v v'->v'=v
 only:∀i J n,(ρ i).sum=some (J,n)->∃r vs,(r,some vs)∈V/\m.ch r=some J.c
 LQ:∀r,(r,none)∈V->∃c,m.ch r=some c/\Pd c
section
variable {P:Program} {E:Env P}
theorem Rg.open{m:Ren}(h:Rg E m):Open m:=λr r' B=>⟨_,_,_,_,_,h.ml r r' B⟩
theorem Rg.le{m dx:Ren}{w w₁:World}(h:Rg E m)(B:m.Le dx)(O:fv m dx w w₁):Rg E dx:=
 ⟨h.pg.mono B,by rw[B.ic]; exact h.ic,λr r' U=>by rw[O.ml h.ic]at U; rw[O.kD]; exact h.ml r r' U,B.fq.trans h.fq,B.ok.trans h.QS,E.le m dx B h.x⟩
theorem QL.le{m dx:Ren}{ρ ρ':Nat->ey}{Pd:Nat->Prop}(h:QL m ρ Pd V)(U:m.Le dx)(Y:∀j,(ρ' j).sum=(ρ j).sum):QL dx ρ' Pd V:=by
 refine⟨λr vs W=>?_,λi J n hi=>?_,λr W=>?_⟩
 .obtain⟨i,J,n,B,O,h3⟩:=h.all r vs W;exact⟨i,J,n,by rw[Y]; exact B,U.ch _ _ O,h3⟩
 .rw[Y]at hi;obtain⟨r,vs,B,O⟩:=h.only i J n hi;exact⟨r,vs,B,U.ch _ _ O⟩
 .obtain⟨c,B,O⟩:=h.LQ r W;exact⟨c,U.ch _ _ B,O⟩
def dl(E:Env P)(os:List OF)(wl:World)(V:List (Nat×Option (List Value))):Prop:=
 ∀m(Pd:Nat->Prop)ρ gs w sl t fr' cs',Rg E m->Co P E.fx E.w0 Pd ρ m wl gs w t->QL m ρ Pd V->nF m E.T os (fr'::cs')->gs[0]?=some (G fr' cs')->E.Z.Up (bO gs w sl) t
def Qr(E:Env P)(os:List OF)(wl:World)(N:List OF->World->Prop):Prop:=
 ∀m w fr' cs',Rg E m->nF m E.T os (fr'::cs')->WR m wl w->∃dx B O w₁ es U rV,bq P true (G fr' cs') w=.go (G B O) w₁ es/\m.Le dx/\fv m dx w w₁/\(∀e∈es,oy dx e)/\nF dx E.T U (B::O)/\WR dx rV w₁/\N U rV
theorem dl.step{os:List OF}{wl:World}{N:List OF->World->Prop}(h:Qr E os wl N)(hn:∀B rV,N B rV->dl E B rV V):dl E os wl V:=by
 intro m Pd ρ gs w sl t fr' cs' Y ad ae aa h0;refine turn (Z:=E.Z) (a:=G fr' cs') (K:=λj=>(ρ j).sum) (N:=gs.size) rfl ?_ ρ gs w sl t ad (λ_=>rfl) h0 rfl;intro ρ' gs' w' ai ab d t' O hK ac hN;obtain⟨dx,U,W,w₁,es,B,rV,hs,hl,hk,he,ho,hw,af⟩:=h m _ fr' cs' Y aa O.main;have ag:=bK (P:=P) (sl:=ab) (i:=0) ac (show bq P .. = _ from hs);rw[ag];refine E.Z.next _ _ _ _ ?_;have ah:=(bg.1 ac).1;exact hn B rV af dx Pd ρ' _ _ ab _ U W (Y.le hl hk) (O.wk (gs':=(gs'.map _).setIfInBounds 0 _) hl hk he hw (by simp) (gz _)) (ae.le hl hK) ho (by simp[ah])
end
end
section
open Go.Conc
variable {ops:Array Oper} {t t':Array Value} {x y:Code} {rest:List Nat} {i id:Nat} {m:Ren}
def eN(B:Option Tmp)(tm:Array Value)(v:Value):Array Value:=match B with|some d=>tm.setIfInBounds d v|none=>tm
def iI(tm:Array Value):Operand->Value:=Act.eval ⟨tm,[]⟩
section
variable {P:Program} {E:Env P} {fn:br} {tm:Array Value} {os:List OF} {wl:World} {V:List (Nat×Option (List Value))} {k:List Item}
theorem NC(fn:br)(tm:Array Value)(td:List Item):(fL fn tm td).eval=iI tm:=by funext x; cases x<;>rfl
theorem iQ(fn:br)(tm:Array Value)(ops:Array Oper)(i:Nat)(rest:List Nat)(k:List Item)(v:Value):(fL fn tm (.inRegion ops (i::rest)::k)).finish v=fL fn (eN ((ops[i]?).bind (·.dst)) tm v) (.inRegion ops rest::k):=by
 cases h:(ops[i]?).bind _<;>simp[Frame.finish,fL,eN,h]
theorem ed.eN(h:ed m t t')(d:Option Tmp){v B:Value}(O:VR m v B):ed m (Go.Proofs.YtocbogeoffeolaaGreatDoor.eN d t v) (Go.Proofs.YtocbogeoffeolaaGreatDoor.eN d t' B):=by
 cases d with
 |none=>exact h
 |some d=>exact h.set d O
theorem Jc(h:ed m t t'){gl:Nat->Prop}(B:∀g,gl g->m.blk g=some g)(x:Operand)(O:dN m.fq gl x):VR m (iI t x) (iI t' x):=by
 cases x with
 |tmp i=>exact h.getD i
 |const v=>exact VR.plain O
 |global g=>exact .ptr (.mk (B g O))
 |func f=>exact .Jt (.func f O) (.nil m) (.nil m)
theorem dl.tape{τ:Nat->Question->Nat}(h:dl E os (tp wl τ) V):dl E os wl V:=by
 intro m Pd ρ gs w sl t fr' cs' U B O W Y;exact h m Pd ρ gs w sl t fr' cs' U ⟨B.main.tp τ,B.at_,B.out,B.d0,B.dd,B.cc,B.s0,B.ss,B.L0,B.low,B.hears,B.jX,B.clean,B.fix,B.f0,B.ff,B.cx,B.sz,B.os,B.kn,B.pd,B.len⟩ O W Y
theorem dl.ctl{td B:List Item}(h:∀O cs' w,bq P true (G (fL fn O td) cs') w=.go (G (fL fn O B) cs') w #[])(W:dl E (⟨fn,tm,B⟩::os) wl V):dl E (⟨fn,tm,td⟩::os) wl V:=by
 refine dl.step (N:=λo w=>o=⟨fn,tm,B⟩::os/\w=wl) (λm w fr' cs' hr Y hw=>?_) (λo w ⟨h1,h2⟩=>by rw[h1,h2]; exact W)
 cases Y with
 |@cons _ _ O l ht U=>exact⟨m,_,_,w,#[],_,wl,h O cs' w,.refl m,.refl m w,by simp,.cons (o:=⟨fn,tm,B⟩) ht U,hw,rfl,rfl⟩
theorem dl.skip(h:dl E (⟨fn,tm,k⟩::os) wl V):dl E (⟨fn,tm,.code .skip::k⟩::os) wl V:=dl.ctl (λ_ _ _=>rfl) h
theorem dl.seq(h:dl E (⟨fn,tm,.code x::.code y::k⟩::os) wl V):dl E (⟨fn,tm,.code (.seq x y)::k⟩::os) wl V:=dl.ctl (λ_ _ _=>rfl) h
theorem dl.block(h:dl E (⟨fn,tm,.code x::.inBlock id::k⟩::os) wl V):dl E (⟨fn,tm,.code (.block id x)::k⟩::os) wl V:=dl.ctl (λ_ _ _=>rfl) h
theorem dl.inBlock(h:dl E (⟨fn,tm,k⟩::os) wl V):dl E (⟨fn,tm,.inBlock id::k⟩::os) wl V:=dl.ctl (λ_ _ _=>rfl) h
theorem dl.loop(h:dl E (⟨fn,tm,.code x::.inLoop x::k⟩::os) wl V):dl E (⟨fn,tm,.code (.loop x)::k⟩::os) wl V:=dl.ctl (λ_ _ _=>rfl) h
theorem dl.inLoop(h:dl E (⟨fn,tm,.code x::.inLoop x::k⟩::os) wl V):dl E (⟨fn,tm,.inLoop x::k⟩::os) wl V:=dl.ctl (λ_ _ _=>rfl) h
theorem dl.exit{k':List Item}(e:exitTo id k=some k')(h:dl E (⟨fn,tm,k'⟩::os) wl V):dl E (⟨fn,tm,.code (.exit id)::k⟩::os) wl V:=
 dl.ctl (λ_ _ _=>by simp[bq,bG,G,fL,e]) h
theorem dl.region(h:dl E (⟨fn,tm,.inRegion ops (bE ops.size)::k⟩::os) wl V):dl E (⟨fn,tm,.code (.region id ops false)::k⟩::os) wl V:=
 dl.ctl (λ_ _ _=>by simp[bq,bG,G,fL]) h
theorem dl.inRegion(h:dl E (⟨fn,tm,k⟩::os) wl V):dl E (⟨fn,tm,.inRegion ops []::k⟩::os) wl V:=dl.ctl (λ_ _ _=>rfl) h
theorem dl.cond{c:Operand}{b:Bool}(W:uE c)(e:iI tm c=.bool b)(h:dl E (⟨fn,tm,.code (if b then x else y)::k⟩::os) wl V):dl E (⟨fn,tm,.code (.cond c x y)::k⟩::os) wl V:=by
 refine dl.step (N:=λo w=>o=⟨fn,tm,.code (if b then x else y)::k⟩::os/\w=wl) (λm w fr' cs' hr ho hw=>?_) (λo w ⟨h1,h2⟩=>by rw[h1,h2]; exact h)
 cases ho with
 |@cons _ _ B l Y O=>
  refine⟨m,_,_,w,#[],_,wl,?_,.refl m,.refl m w,by simp,.cons (o:=⟨fn,tm,.code (if b then x else y)::k⟩) Y O,hw,rfl,rfl⟩
  have hv:(fL fn B (.code (.cond c x y)::k)).eval c=.bool b:=by
   cases c with
   |tmp i=>
    have:=Y.getD i;have e:tm.getD i ca=.bool b:=e;rw[e]at this;generalize hq:B.getD i ca=q at this;cases this;exact hq
   |const v=>exact e
   |global g=>exact W.elim
   |func f=>exact W.elim
  have U:Frame.eval ⟨fn,B,.code _::k,[],.run,.normal,none⟩ c=.bool b:=hv;simp[bq,bG,G,fL,U]
theorem dl.PS(h:∀t,dl E (⟨fn,tm,.inRegion ops (b7 (P.follows .mixedOrders) ops t)::k⟩::os) wl V):dl E (⟨fn,tm,.code (.region id ops true)::k⟩::os) wl V:=by
 refine dl.step (N:=λo w=>∃t,o=⟨fn,tm,.inRegion ops (b7 (P.follows .mixedOrders) ops t)::k⟩::os/\w=wl) (λm w fr' cs' hr O U=>?_) (λo w ⟨t,W,Y⟩=>by rw[W,Y]; exact h t)
 cases O with
 |@cons _ _ aa l ht B=>
  obtain⟨t,d,e⟩:∃t d,(choose (.order fn id)).run P w=.ok t (w.at d):=by
   by_cases hf:(Question.order fn id).forced=true
   .exact⟨0,w.drawn,by simp[choose,Sem.run,hf,World.at]⟩
   .exact⟨_,w.drawn+1,by rfl⟩
  refine⟨m,_,_,w.at d,#[],_,wl,?_,.refl m,fv.at m w d,by simp,.cons (o:=⟨fn,tm,.inRegion ops _::k⟩) ht B,U.at d,t,rfl,rfl⟩;simp[bq,bG,G,fL,e]
theorem lI{B:Array Value}{o:Oper}{cs':List Frame}{w:World}(hi:ops[i]?=some o)(O:b6 o (bp ops B)=true):bq P true (G (fL fn B (.inRegion ops (i::rest)::k)) cs') w=bF P true (fL fn B (.inRegion ops (i::rest)::k)) cs' none (bs (iI B) o) w:=by
 have U:=NC fn B (.inRegion ops (i::rest)::k);have:bq P true (G (fL fn B (.inRegion ops (i::rest)::k)) cs') w=bG P true true (fL fn B (.inRegion ops (i::rest)::k)) cs' none w:=rfl;rw[this,<-U];unfold bG;simp only[fL,hi,bf,be,O,if_true];unfold bq.oper;simp only[Frame.oper?,hi]
theorem dl.pass{o:Oper}(hi:ops[i]?=some o)(W:b6 o (bp ops tm)=false)(h:dl E (⟨fn,eN o.dst tm ca,.inRegion ops rest::k⟩::os) wl V):dl E (⟨fn,tm,.inRegion ops (i::rest)::k⟩::os) wl V:=by
 refine dl.step (N:=λo w=>dl E o w V) (λm w fr' cs' hr U hw=>?_) (λo w h=>h)
 cases U with
 |@cons _ _ B l ht Y=>
  have hy:b6 o (bp ops B)=false:=by rw[show bp ops B=bp ops tm from funext (lK ops ht)]; exact W
  have O:=iQ fn B ops i rest k ca;simp only[hi,bc]at O
  have aa:bq P true (G (fL fn B (.inRegion ops (i::rest)::k)) cs') w=.go (G (fL fn (eN o.dst B ca) (.inRegion ops rest::k)) cs') w #[]:=by
   rw[<-O];have:bq P true (G (fL fn B (.inRegion ops (i::rest)::k)) cs') w=bG P true true (fL fn B (.inRegion ops (i::rest)::k)) cs' none w:=rfl;rw[this];unfold bG;simp only[fL,hi,bf,be,hy,bJ,if_false,G]
  exact⟨m,_,_,w,_,_,wl,aa,.refl m,.refl m w,by simp,.cons (o:=⟨fn,eN _ tm ca,.inRegion ops rest::k⟩) (ht.eN _ (.undef m)) Y,hw,h⟩
end
end
section
open Go.Conc
variable {S:LS} {Tc:List Frame} {m:Ren} {w:World}
section
variable {P:Program} {E:Env P} {fn:br} {tm:Array Value} {os:List OF} {wl:World} {V:List (Nat×Option (List Value))} {k:List Item}
def iK(E:Env P)(S:LS)(os:List OF)(V:List (Nat×Option (List Value))):Prop:=
 ∀m(Pd:Nat->Prop)ρ gs w sl t fr' cs' Tc,Rg E m->Co P E.fx E.w0 Pd ρ m S.w gs w t->QL m ρ Pd V->nF m E.T os Tc->dQ P m Tc (S.fr::S.cs) (fr'::cs')->gs[0]?=some (G fr' cs')->E.Z.Up (bO gs w sl) t
theorem Co.tape{fx:Nat->Prop}{w0:World}{Pd:Nat->Prop}{ρ:Nat->ey}{gs:Array Goroutine}{t:bx}(B:Co P fx w0 Pd ρ m wl gs w t)(τ:Nat->Question->Nat):Co P fx w0 Pd ρ m (tp wl τ) gs w t:=
 ⟨B.main.tp τ,B.at_,B.out,B.d0,B.dd,B.cc,B.s0,B.ss,B.L0,B.low,B.hears,B.jX,B.clean,B.fix,B.f0,B.ff,B.cx,B.sz,B.os,B.kn,B.pd,B.len⟩
theorem iK.tape{τ:Nat->Question->Nat}(h:iK E (S.on τ) os V):iK E S os V:=by
 intro m Pd ρ gs w sl t fr' cs' Tc U W B Y O h0;exact h m Pd ρ gs w sl t fr' cs' Tc U (W.tape τ) B Y O h0
theorem Rg.rD{fr':Frame}{cs':List Frame}(h:Rg E m)(B:dQ P m Tc (S.fr::S.cs) (fr'::cs'))(O:WR m S.w w):uW P E.gl E.st m Tc S fr' cs' w:=⟨h.pg,h.ic,h.open,B,O⟩
theorem iK.nj{Stop:LS->Prop}(hB:yi Stop)(hH:lA P Stop S)(hn:∀S',Stop S'->iK E S' os V):iK E S os V:=by
 intro m Pd ρ gs w sl t fr' cs' Tc hr hc ab ho W h0;have ad:=hH.acc hB ⟨_,_,_,_,_,_,_,hr.rD W hc.main⟩;revert m Pd ρ gs w sl t fr' cs' Tc hH
 induction ad with
 |intro S _ ih=>
  intro hH m Pd ρ gs w sl t fr' cs' Tc hr hc ab ho W h0;by_cases B:Stop S
  .exact hn S B m Pd ρ gs w sl t fr' cs' Tc hr hc ab ho W h0
  .refine turn (Z:=E.Z) (a:=G fr' cs') (K:=λj=>(ρ j).sum) (N:=gs.size) rfl ?_ ρ gs w sl t hc (λ_=>rfl) h0 rfl;intro ρ' gs' w' an ae d t' Y hK af hN;have aa:=hr.rD W Y.main;have ag:=aa.SR hB hH B true;generalize ai:bq P true .. = sg at ag
   cases ag with
   |@go S' dx O U w₁ es hg hl ah hk he=>
    have aj:=bK (P:=P) (sl:=ae) (i:=0) af (show bq P .. = _ from ai);rw[aj];refine E.Z.next _ _ _ _ ?_;have ak:=(bg.1 af).1;exact ih S' hg (hH.own hB ⟨_,_,_,_,_,_,_,aa⟩ hg).2 dx Pd ρ' _ _ ae _ O U Tc (hr.le hl hk) (Y.wk (gs':=(gs'.map _).setIfInBounds 0 _) hl hk he ah.world (by simp) (gz _)) (ab.le hl hK) (ho.mono hl) ah.stack (by simp[ak])
   |@send S' dx O U w₁ es r r' v v' z' hg hl hp hk he=>
    obtain⟨f0,ao,cap,ap,gD,am,aq,_,_,al,hx,ac⟩:=hp.rD;have:=(al.kD r _ ((hr.le hl hk).ml r r' hp.ch)).1;rw[hx]at this;cases this;simp at ac
theorem nF.head{T:List Frame}{o:OF}{l:List Frame}(h:nF m T (o::os) l):∃B U,l=fL o.fn B o.td::U/\ed m o.tm B/\nF m T os U:=by
 cases h with
 |cons W O=>exact⟨_,_,rfl,W,O⟩
def uq(E:Env P)(os:List OF):Prop:=os≠[]\/∀ps,E.T=[ps]->ps.mode≠.panicking [bv]
theorem tz(B:uq E os)(h:nF m E.T os Tc):∀ps,Tc=[ps]->ps.mode≠.panicking [bv]:=by
 cases h with
 |nil=>
  rcases B with x|x
  .exact absurd rfl x
  .exact x
 |cons U O=>
  rintro ps e;cases e;simp[fL]
theorem iK.ret{v:Value}{ops:Array Oper}{i:Nat}{rest:List Nat}{o:Oper}(hi:ops[i]?=some o)(an:S.cs=[door P])(hl:S.fr.leaving P S.w (.returned v))(h:dl E (⟨fn,eN o.dst tm v,.inRegion ops rest::k⟩::os) S.w V):iK E S (⟨fn,tm,.inRegion ops (i::rest)::k⟩::os) V:=by
 intro m Pd ρ gs w sl t fr' cs' Tc ao ap aq Y ac h0;refine turn (Z:=E.Z) (a:=G fr' cs') (K:=λj=>(ρ j).sum) (N:=gs.size) rfl ?_ ρ gs w sl t ap (λ_=>rfl) h0 rfl;intro ρ' gs' w' az ai d t' B hK aj hN;obtain⟨hm,hd,hk,f,hf,O⟩:=hl;have hF:=ac.pR;rw[an]at ac;have ad:=tz (E:=E) (.inl (by simp)) Y;obtain⟨U,l',rfl,ht,ar⟩:=Y.head
 obtain⟨rfl,ae⟩:cs'=fL fn U _::l'/\fr'.kind=.normal:=by
  cases ac with
  |one _ _ hb _=>
   refine⟨rfl,?_⟩;rcases hb with⟨x,_⟩|⟨_,ps,e,x⟩
   .exact x
   .exact absurd x (ad ps e)
  |cons _ _ _ hx=>cases hx
 have W:=hF.mode;have aa:=hF.defers;rw[hm]at W;rw[hd]at aa;have au:=hF.fn;have ak:=hF.tmps;obtain⟨a0,af,ag,a3,a4,a5,ah⟩:=fr';cases W;cases aa;subst ae au;have al:=(lD (P:=P) (fn:=f) ak).run _ _ #[] (B.main.tp _) (.inl (oU _ _))
 have av:(bz f S.fr.tmps).run P (tp S.w (along S.w (w'.at d)))=.ok v (tp S.w (along S.w (w'.at d))):=by
  have am:=(lD (P:=P) (fn:=f) ak).loc _ _ B.main;rcases am with⟨x,w₁,e,_⟩|⟨_,_,h3⟩
  .rw[O]at e; cases e
  .have:=h3 (along S.w (w'.at d)) (by rw[O]; intro i a b; simp only[Cn]at b; omega);rw[O]at this;exact this
 rw[av]at al;obtain⟨dx,v',w₁,es₁,e1,e2,e3,e4,_,e6,e7⟩:=al;have ab:=iQ fn U ops i rest k v';simp only[hi,bc]at ab
 have aw:bq P true (G ⟨S.fr.fn,af,ag,[],.returning,.normal,ah⟩ (fL fn U (.inRegion ops (i::rest)::k)::l')) (w'.at d)=.go (G (fL fn (eN o.dst U v') (.inRegion ops rest::k)) l') w₁ (bw P S.fr.fn es₁):=by
  have:bq P true (G ⟨S.fr.fn,af,ag,[],.returning,.normal,ah⟩ (fL fn U (.inRegion ops (i::rest)::k)::l')) (w'.at d)=bu P true ⟨S.fr.fn,af,ag,[],.returning,.normal,ah⟩ _ none _:=rfl;rw[this];unfold bu;simp only[hf,e1];unfold b0;simp only[ab];simp[bV,G]
 have ax:=bK (P:=P) (sl:=ai) (i:=0) aj (show bq P _ _ _=_ from aw);rw[ax];refine E.Z.next _ _ _ _ ?_;have ay:=(bg.1 aj).1;exact(dl.tape (τ:=along S.w (w'.at d)) (wl:=S.w) (λm Pd ρ gs w sl t fr' cs' a b c d e=>h m Pd ρ gs w sl t fr' cs' a (b.tape _) c d e)) dx Pd ρ' _ _ ai _ _ _ (ao.le e2 e6) ((B.wk (gs':=(gs'.map _).setIfInBounds 0 _) e2 e6 (λe he=>e7 e (bN he)) e4 (by simp) (gz _)).tape _) (aq.le e2 hK) (.cons (o:=⟨fn,eN _ tm v,.inRegion ops rest::k⟩) ((ht.mono e2).eN _ e3) (ar.mono e2)) (by simp[ay])
end
end
section
open Go.Conc
variable {ops:Array Oper} {arq:Array Operand} {ts:Array bt} {tm1:Array Value} {c:Code} {gH:Func} {f f1:br} {v:Value}
section
variable {P:Program} {E:Env P} {fn:br} {tm:Array Value} {os:List OF} {wl:World} {V:List (Nat×Option (List Value))} {k:List Item}
theorem F6(P:Program)(U:P.funcs[f]?=some gH)(hb:gH.body=some c)(W:gH.name≠ "runtime.NumGoroutine") (ρ:Operand->Value) (B:ρ (.func f)=.func (.func f) #[] #[]) {o:Oper} (Y:o.op=.call {callee:=.value (.func f),args:=arq,argTypes:=ts}) (w:World):(bs ρ o).runT P w #[]=(.ok (.enter f (arq.map ρ)) w,#[]):=by
 obtain⟨d,op,ty,ps,af,g⟩:=o;subst Y;have O:(gH.name == "runtime.NumGoroutine")=false:=by simpa using W
 have e:bs ρ ⟨d,.call {callee:=.value (.func f),args:=arq,argTypes:=ts},ty,ps,af,g⟩=callFunc f ((#[]++arq.map ρ)++#[]):=by
  simp only[bs,resolve,B,Deferred.ofValue,invoke];rfl
 rw[e,bn];unfold callFunc;have e2:∀k:Program->Sem Go.Next,(program >>= k).runT P w #[]=(k P).runT P w _:=λk=>rfl;rw[e2];simp only[U,O,hb,bJ,if_false,Option.isNone_some];rfl
theorem dl.outer{i:Nat}{rest:List Nat}{o:Oper}(hi:ops[i]?=some o)(Y:b6 o (bp ops tm)=true)(hf:P.funcs[f]?=some gH)(hb:gH.body=some c)(hn:gH.name≠ "runtime.NumGoroutine") (ho:o.op=.call {callee:=.value (.func f),args:=arq,argTypes:=ts}) (aa:∀x∈arq.toList,dN E.fq E.gl x)
  (h:dl E (⟨f,arq.map (iI tm)++bh (gH.ntmps-arq.size) ca,[.code c]⟩::⟨fn,tm,.inRegion ops (i::rest)::k⟩::os) wl V):dl E (⟨fn,tm,.inRegion ops (i::rest)::k⟩::os) wl V:=by
 refine dl.step (N:=λo w=>dl E o w V) (λm w fr' cs' hr O hw=>?_) (λo w h=>h);have U:=O
 cases O with
 |@cons _ _ B l ht ad=>
  have hy:b6 o (bp ops B)=true:=by rw[show bp ops B=bp ops tm from funext (lK ops ht)]; exact Y
  have ab:=lI (P:=P) (fn:=fn) (k:=k) (rest:=rest) (cs':=cs') (w:=w) hi hy;have W:=F6 P hf hb hn (iI B) rfl ho w;have ha:=jT (fq:=m.fq) (gl:=E.gl) (λx hx=>Jc ht hr.pg.nZ x hx) (λx hx=>by rw[hr.fq]; exact aa x hx)
  have ac:bF P true (fL fn B (.inRegion ops (i::rest)::k)) cs' none (bs (iI B) o) w=.go (G (fL f (arq.map (iI B)++bh (gH.ntmps-arq.size) ca) [.code c]) (fL fn B (.inRegion ops (i::rest)::k)::cs')) w #[]:=by
   unfold bF;simp only[if_true,W];simp[bV,G,fL,bY,hf,hb,bw]
  exact⟨m,_,_,w,#[],_,wl,ab.trans ac,.refl m,.refl m w,by simp,.cons (o:=⟨f,arq.map _++bh _ ca,[.code c]⟩) (ha.append (.replicate _ (.undef m))) U,hw,h⟩
theorem KV{m:Ren}{Pd:Nat->Prop}{ρ:Nat->ey}{gs:Array Goroutine}{w:World}{sl:Option (Nat×Nat)}{t:bx}{O:Array Value}{td1:List Item}{Y:List Frame}{i:Nat}{rest:List Nat}{o:Oper}{B:Array Value}{f:Func}
  (ae:Rg E m) (af:Co P E.fx E.w0 Pd ρ m wl gs w t) (ag:QL m ρ Pd V) (ah:ed m tm1 O) (ht:ed m tm B) (ai:nF m E.T os Y) (hf:P.funcs[f1]?=some f) (hi:ops[i]?=some o) (aa:∀τ,(bz f tm1).run P (tp wl τ)=.ok v (tp wl τ))
  (h0:gs[0]?=some (G ⟨f1,O,td1,[],.returning,.normal,none⟩ (fL fn B (.inRegion ops (i::rest)::k)::Y))) (h:dl E (⟨fn,eN o.dst tm v,.inRegion ops rest::k⟩::os) wl V):E.Z.Up (bO gs w sl) t:=by
 refine turn (Z:=E.Z) (a:=G ..) (K:=λj=>(ρ j).sum) (N:=gs.size) rfl ?_ ρ gs w sl t af (λ_=>rfl) h0 rfl;intro ρ' gs' w' am ab d t' U hK ac hN;have ad:=(lD (P:=P) (fn:=f) ah).run _ _ #[] (U.main.tp _) (.inl (oU wl _));rw[aa]at ad;obtain⟨dx,v',w₁,es₁,e1,e2,e3,e4,_,e6,e7⟩:=ad;have W:=iQ fn B ops i rest k v';simp only[hi,bc]at W
 have aj:bq P true (G ⟨f1,O,td1,[],.returning,.normal,none⟩ (fL fn B (.inRegion ops (i::rest)::k)::Y)) (w'.at d)=.go (G (fL fn (eN o.dst B v') (.inRegion ops rest::k)) Y) w₁ (bw P f1 es₁):=by
  have:bq P true (G ⟨f1,O,td1,[],.returning,.normal,none⟩ (fL fn B (.inRegion ops (i::rest)::k)::Y)) (w'.at d)=bu P true ⟨f1,O,td1,[],.returning,.normal,none⟩ _ none _:=rfl;rw[this];unfold bu;simp only[hf,e1];unfold b0;simp only[W];simp[bV,G]
 have ak:=bK (P:=P) (sl:=ab) (i:=0) ac (show bq P .. = _ from aj);rw[ak];refine E.Z.next _ _ _ _ ?_;have al:=(bg.1 ac).1;exact h dx Pd ρ' _ _ ab _ _ _ (ae.le e2 e6) ((U.wk (gs':=(gs'.map _).setIfInBounds 0 _) e2 e6 (λe he=>e7 e (bN he)) e4 (by simp) (gz _)).tape _) (ag.le e2 hK) (.cons (o:=⟨fn,eN _ tm v,.inRegion ops rest::k⟩) ((ht.mono e2).eN _ e3) (ai.mono e2)) (by simp[al])
theorem dl.back{td1:List Item}{i:Nat}{rest:List Nat}{o:Oper}{f:Func}(ab:td1=[]\/∃k1,td1=.code .ret::k1)(hf:P.funcs[f1]?=some f)(hi:ops[i]?=some o)(U:∀τ,(bz f tm1).run P (tp wl τ)=.ok v (tp wl τ))
  (h:dl E (⟨fn,eN o.dst tm v,.inRegion ops rest::k⟩::os) wl V):dl E (⟨f1,tm1,td1⟩::⟨fn,tm,.inRegion ops (i::rest)::k⟩::os) wl V:=by
 intro m Pd ρ gs w sl t fr' cs' ac ad ae B h0;refine turn (Z:=E.Z) (a:=G fr' cs') (K:=λj=>(ρ j).sum) (N:=gs.size) rfl ?_ ρ gs w sl t ad (λ_=>rfl) h0 rfl;intro ρ' gs' w' al af d t' O hK W hN
 cases B with
 |@cons _ _ Y l ag B=>
  obtain⟨aa,l',rfl,ht,ah⟩:=B.head
  have ai:bq P true (G (fL f1 Y td1) (fL fn aa (.inRegion ops (i::rest)::k)::l')) (w'.at d)=.go (G ⟨f1,Y,td1,[],.returning,.normal,none⟩ (fL fn aa (.inRegion ops (i::rest)::k)::l')) (w'.at d) #[]:=by
   rcases ab with rfl|⟨k1,rfl⟩<;>rfl
  have aj:=bK (P:=P) (sl:=af) (i:=0) W (show bq P .. = _ from ai);rw[aj];refine E.Z.next _ _ _ _ ?_;have ak:=(bg.1 W).1;exact KV (td1:=td1) ac (O.wk (gs':=(gs'.map _).setIfInBounds 0 _) (.refl m) (.refl m _) (by simp) O.main (by simp) (gz _)) (ae.le (.refl m) hK) ag ht ah hf hi U (by simp[ak]) h
def zh(ok:Oper->Prop):Item->Prop
 |.code c|.inLoop c|.inScope c=>fD ok c
 |.inBlock _=>True
 |.inRegion ops _=>∀o∈ops.toList,ok o
 |_=>False
theorem zh.R{m:Ren}:∀{td:List Item},(∀x∈td,zh m.ok x)->dP (jw m) td td
 |[],_=>.nil
 |x::td,h=>by
  refine .cons ?_ (zh.R λy O=>h y (by simp[O]))
  have B:=h x (by simp)
  cases x with
  |code c=>exact .code c B
  |inLoop c=>exact .inLoop c B
  |inScope c=>exact .inScope c B
  |inBlock i=>exact .inBlock i
  |inRegion ops t=>exact .inRegion ops t B
  |_=>exact B.elim
theorem dl.tail{td:List Item}(Y:∀x∈td,zh E.ok x)(B:uq E os)(h:iK E ⟨fL fn tm td,[door P],wl⟩ os V):dl E (⟨fn,tm,td⟩::os) wl V:=by
 intro m Pd ρ gs w sl t fr' cs' O aa ab U h0;obtain⟨ac,l',e,ht,W⟩:=U.head;cases e;exact h m Pd ρ gs w sl t _ _ cs' O aa ab W (dQ.one (fr:=fL fn tm td) (fr':=fL fn ac td) ⟨rfl,ht,zh.R (by rw[O.QS]; exact Y),.nil,.run,.none⟩ rfl (.inl ⟨rfl,tz B W⟩) rfl) h0
end
section
variable {P:Program} {Post:Value->World->Prop}
def tf(P:Program)(Post:Value->World->Prop)(M:Machine)(t:bx):Prop:=∃N last o w' t',runNT P (N+1) M t=(.ended o w',t')/\runN P N M=.next last/\step P last=.ended o w'/\Good P Post last o w' t'
theorem B7{M:Machine}{r:Stepped}{ops:Array MemOp}(h:stepT P M=(r,ops)):step P M=r:=by unfold step; rw[h]
def ending(P:Program)(Post:Value->World->Prop):j8 P where
 Up:=tf P Post
 Fin:=λM r t=>match r with
  |(.next B,ops)=>tf P Post B (t++ops)
  |(.ended o w',ops)=>Good P Post M o w' (t++ops)
 back:=by
  intro M t h
  rcases hs:stepT P M with⟨r,ops⟩
  rw[hs]at h
  cases r with
  |next B=>
   obtain⟨N,last,o,w',t',O,U,W,Y⟩:=h
   refine⟨N+1,last,o,w',t',?_,?_,W,Y⟩
   .rw[runNT,hs]; exact O
   .simp only[runN,B7 hs]; exact U
  |ended o w'=>exact⟨0,M,o,w',t++ops,by rw[runNT,hs],rfl,B7 hs,h⟩
 next:=λ_ _ _ _ h=>h
variable {fx:Nat->Prop} {w0:World} {Pd:Nat->Prop} {ρ:Nat->ey} {m:Ren} {wl:World} {gs:Array Goroutine} {w:World} {t:bx}
theorem Co.over(h:Co P fx w0 Pd ρ m wl gs w t)(B:∀i,(ρ i).sum=none):lN t λ_=>False:=h.jX.mono λi hi=>absurd (B i) hi
theorem Co.lv(h:Co P fx w0 Pd ρ m wl gs w t)(W:∀i,(ρ i).sum=none){i:Nat}{g:Goroutine}(hi:0<i)(Y:gs[i]?=some g):∃q,Lv P q g:=by
 have O:=h.at_ i g hi Y;have U:=W i
 cases B:ρ i with
 |quit q=>rw[B]at O; exact⟨q,O⟩
 |ended hd J m S q=>rw[B]at O; exact⟨q,O.1⟩
 |act=>rw[B]at U; cases U
 |jc=>rw[B]at U; cases U
 |start=>rw[B]at U; cases U
theorem iK.done{E:Env P}(hZ:E.Z=ending P Post)(hT:E.T=[]){S:LS}(an:S.cs=[door P])(hl:S.fr.leaving P S.w (.returned v))(ao:P.inits.idxOf? S.fr.fn=none)
  (af:∀m v' w,Rg E m->VR m v v'->WR m S.w w->(∀b,E.fx b->w.heap[b]?=E.w0.heap[b]?)->(w.os=E.w0.os/\w.output=E.w0.output)->Post v' w):iK E S [] []:=by
 intro m Pd ρ gs w sl t fr' cs' Tc ap aq ar aj ag h0
 have hn:∀i,(ρ i).sum=none:=by
  intro i
  cases e:(ρ i).sum with
  |none=>rfl
  |some x=>
   obtain⟨r,vs,Y,_⟩:=ar.only i x.1 x.2 e;cases Y
 refine turn (Z:=E.Z) (a:=G fr' cs') (K:=λj=>(ρ j).sum) (N:=gs.size) rfl ?_ ρ gs w sl t aq (λ_=>rfl) h0 rfl;intro ρ' gs' w' au av d t' O hK aw hN;have ah:∀i,(ρ' i).sum=none:=λi=>(hK i).trans (hn i);obtain⟨hm,hd,hk,f,hf,U⟩:=hl;have hF:=ag.pR;rw[an]at ag
 obtain rfl:Tc=[]:=by
  cases aj;exact hT
 obtain⟨rfl,ai⟩:cs'=[]/\fr'.kind=.normal:=by
  cases ag with
  |one _ _ hb _=>
   refine⟨rfl,?_⟩;rcases hb with⟨x,_⟩|⟨_,ps,e,x⟩
   .exact x
   .cases e
  |cons _ _ _ Y=>cases Y
 have W:=hF.mode;have ae:=hF.defers;rw[hm]at W;rw[hd]at ae;have ax:=hF.fn;have ak:=hF.tmps;obtain⟨a3,aa,ab,a4,a5,a6,ac⟩:=fr';cases W;cases ae;subst ai ax;have al:=(lD (P:=P) (fn:=f) ak).run _ _ #[] (O.main.tp _) (.inl (oU _ _))
 have ay:(bz f S.fr.tmps).run P (tp S.w (along S.w (w'.at d)))=.ok v (tp S.w (along S.w (w'.at d))):=by
  have am:=(lD (P:=P) (fn:=f) ak).loc _ _ O.main;rcases am with⟨x,w₁,e,_⟩|⟨_,_,h3⟩
  .rw[U]at e; cases e
  .have:=h3 (along S.w (w'.at d)) (by rw[U]; intro i a b; simp only[Cn]at b; omega);rw[U]at this;exact this
 rw[ay]at al;obtain⟨dx,v',w₁,es₁,e1,e2,e3,e4,_,e6,e7⟩:=al
 have az:bq P true (G ⟨S.fr.fn,aa,ab,[],.returning,.normal,ac⟩ []) (w'.at d)=.ended (.done v') w₁ (bw P S.fr.fn es₁):=by
  have:bq P true (G ⟨S.fr.fn,aa,ab,[],.returning,.normal,ac⟩ []) (w'.at d)=bu P true ⟨S.fr.fn,aa,ab,[],.returning,.normal,ac⟩ [] none _:=rfl;rw[this];unfold bu;simp only[hf,e1];unfold b0;simp[bV,ao]
 have a0:=runT_many_ended (P:=P) (sl:=av) (i:=0) aw (show bq P _ _ _=_ from az);rw[a0,hZ];have B:=O.wk (gs':=gs') (fn:=S.fr.fn) (pos:=(G (⟨S.fr.fn,aa,ab,[],.returning,.normal,ac⟩) []).frame.place) e2 e6 (es:=bw P S.fr.fn es₁) (λe he=>e7 e (bN he)) e4 rfl (λj x _ Y=>⟨x,Y,λ_=>rfl⟩);have ad:=ap.le e2 e6;refine⟨v',rfl,af dx v' w₁ ad e3 (e4.tp _) (λb hb=>(B.fix b hb).2) B.os,B.clean,(B.over ah).over,⟨λx Y=>?_,rfl⟩,λj x Y hj=>?_⟩
 .obtain⟨j,hj⟩:=List.mem_iff_getElem?.1 Y;rw[List.getElem?_drop]at hj;obtain⟨q,hq⟩:=B.lv ah (i:=1+j) (by omega) (by simpa[bO]using hj);exact⟨_,hq.Dx.leaves⟩
 .obtain⟨q,hq⟩:=B.lv ah (i:=j) (by omega) Y;refine⟨q,?_⟩
  have e:∀u,kI u->Goroutine.endsWith P (bO gs' w' au).world q x (u.deaf j u.size)=some 0:=λu hu=>by
   rw[hu.deaf j _];exact hq.Dx.hears _
  exact e _ B.hears
end
end
section
open Go.Conc
open Go.ConcN (upd upd_same upd_ne)
section
variable {P:Program} {fx:Nat->Prop} {w0:World} {Pd:Nat->Prop} {ρ:Nat->ey} {m m₂:Ren} {wl wl₂:World} {gs gs':Array Goroutine} {w w₁:World} {t:bx}
theorem Lg{h:Array Obj}{o x:Obj}{r:Nat}(B:h[r]?=some x):(h.push o)[r]?=h[r]?:=eL (jE B)
theorem Co.made(h:Co P fx w0 Pd ρ m wl gs w t)(O:w₁={w with heap:=w.heap.push (.chan 0 #[] false 0 0 false)})(aa:WR m₂ wl₂ w₁)(hb:m₂.blk=m.blk)(hl:m₂.loose=m.loose)(ab:gs'.size=gs.size)
  (ac:∀j x,0<j->gs'[j]?=some x->∃y,gs[j]?=some y/\(At P w₁ t j y (ρ j)->x=y)):Co P fx w0 (λc=>Pd c\/c=w.heap.size) ρ m₂ wl₂ gs' w₁ t:=by
 subst O;have B:w.heap.size<=(w.heap.push (.chan 0 #[] false 0 0 false)).size:=by simp
 have hrel:∀j y,0<j->gs[j]?=some y->At P {w with heap:=w.heap.push (.chan 0 #[] false 0 0 false)} t j y (ρ j):=by
  intro j y hj hy
  have:=(h.at_ j y hj hy).rely (w₁:={w with heap:=w.heap.push _}) (u:=#[]) (λm' U r b hb=>by
   obtain⟨wl',ad⟩:=h.wr U
   exact eL (ad.lt hb).2) (λJ hJ=>by
   obtain⟨cl,s,r,W⟩:=h.is hJ
   exact Lg W) B rfl (by simp)
  simpa using this
 refine⟨aa,λj x Y W=>?_,λj hj=>h.out j (by rw[<-ab]; exact hj),λi m' U=>?_,h.dd,h.cc,?_,h.ss,h.L0,λp a b ha hb=>bS (h.low p a b ha hb) B,h.hears,h.jX,h.clean,λb hb=>?_,λr b hr hf=>?_,h.ff,h.cx,bU h.sz B,h.os,h.kn,λc hc=>?_,h.len⟩
 .obtain⟨y,hy,ae⟩:=ac j x Y W;have:=hrel j y Y hy;rw[ae this]; exact this
 .have:=h.d0 i m' U;unfold nD at this⊢;rw[hb,hl];exact this
 .have:=h.s0;unfold n4 at this⊢;rw[hb,hl];exact this
 .obtain⟨h1,h2⟩:=h.fix b hb;exact⟨bS h1 B,by rw[<-h2]; exact eL h1⟩
 .rw[hb]at hr;rw[hl];exact h.f0 r b hr hf
 .rcases hc with hc|rfl
  .obtain⟨⟨s,r,h1⟩,h2,h3,h4⟩:=h.pd c hc;exact⟨⟨s,r,iF h1⟩,h2,h3,h4⟩
  .refine⟨⟨0,0,by simp⟩,λp a ha hb=>?_,λi J hJ e=>?_,λhf=>?_⟩
   .have:=h.low p a _ ha hb;omega
   .obtain⟨cl,s,r,W⟩:=h.is hJ;have:=jE W;omega
   .have:=(h.fix _ hf).1;omega
theorem KX(h:Array Obj)(o:Obj):(h.push o).setIfInBounds h.size o=h.push o:=by
 apply Array.ext_getElem?;intro j;by_cases e:h.size=j
 .subst e; simp
 .rw[bk e]
theorem Co.spawn{Fix₂ Pd₂:Nat->Prop}{J:mK}{mi:Ren}{S:LS}{k:Nat}{g' child:Goroutine}{a b:MemOp}(h:Co P fx w0 Pd ρ m wl gs w t)(h0:0<gs.size)(hF:∀b,Fix₂ b->fx b)(hP:∀c,Pd₂ c->Pd c/\c≠J.c)(hJ:Pd J.c)
  (ha:a.g=0) (ac:a.act=.go gs.size) (hb:b.g=gs.size) (ad:b.act=.start) (ai:WR m₂ wl₂ w) (ab:∀r q,m₂.blk r=some q->∃r0,m.blk r0=some q/\(m.loose r0->m₂.loose r))
  (af:∀r q,mi.blk r=some q->(∃r0,m.blk r0=some q/\(m.loose r0->mi.loose r))\/(fx q/\(∀r0,m.blk r0≠some q)/\∀j m' r',(ρ j).mC=some m'->m'.blk r'≠some q)) (aj:nD m₂ mi) (ak:∀r q,mi.blk r=some q->Fix₂ q->mi.loose r) (ag:∀b,fx b->Fix₂ b\/∃r o,J.lh r b o/\w0.heap[b]?=some o)
  (al:At P w (t++#[a,b]) gs.size child (.start J mi S k)) :
  Co P Fix₂ w0 Pd₂ (upd ρ gs.size (.start J mi S k)) m₂ wl₂ ((gs.setIfInBounds 0 g').push child) w (t++#[a,b]):=by
 have hold:ρ gs.size=.quit 0:=h.out _ (.inr (bT _))
 have hu:∀op∈(#[a,b]:Array MemOp),op.act.touch?=none:=by
  intro op W;simp only[bD,b8,bC,or_false]at W;rcases W with rfl|rfl
  .rw[ac]; rfl
  .rw[ad]; rfl
 have hh:kI (t++#[a,b]):=h.hears.append λop W=>by
  simp only[bD,b8,bC,or_false]at W;rcases W with rfl|rfl
  .rw[ac]; simp
  .rw[ad]; simp
 obtain⟨ar,am,ah,an⟩:=h.pd J.c hJ
 have di:∀j m',(ρ j).mC=some m'->nD mi m':=by
  intro j m' B r r' q U h2;rcases af r q U with⟨r0,x,y⟩|⟨_,_,x⟩
  .obtain⟨l1,l2⟩:=h.d0 j m' B r0 r' q x h2;exact⟨y l1,l2⟩
  .exact absurd h2 (x j m' r' B)
 have kr:∀j m',(upd ρ gs.size (.start J mi S k) j).mC=some m'->(j=gs.size/\m'=mi)\/(j≠gs.size/\(ρ j).mC=some m'):=λj m' O=>by
  by_cases e:j=gs.size
  .subst e; rw[bR]at O; cases O; exact .inl ⟨rfl,rfl⟩
  .rw[bQ _ _ e]at O; exact .inr ⟨e,O⟩
 have kj:∀j J',(upd ρ gs.size (.start J mi S k) j).rE=some J'->(j=gs.size/\J'=J)\/(j≠gs.size/\(ρ j).rE=some J'):=λj J' O=>by
  by_cases e:j=gs.size
  .subst e; rw[bR]at O; cases O; exact .inl ⟨rfl,rfl⟩
  .rw[bQ _ _ e]at O; exact .inr ⟨e,O⟩
 refine⟨ai,λj x ao O=>?_,λj hj=>?_,λj m' B=>?_,λj l m1 m2 aa U h2=>?_,λj l J1 J2 aa U h2=>?_,?_,λj m' B=>?_,λj J' Y p x O hq=>?_,λp x q O hq=>?_,hh,?_,λsaid=>?_,λq hq=>h.fix q (hF q hq),λr q hr hf=>?_,λj m' B r q hr hf=>?_,λj J' Y hf=>?_,h.sz,h.os,?_,λc hc=>?_,λb hb=>?_⟩
 .by_cases e:j=gs.size
  .subst e;rw[bR];have:((gs.setIfInBounds 0 g').push child)[gs.size]?=some child:=by rw[bm]; simp
   rw[this]at O;cases O;exact al
  .rw[bQ _ _ e]
   have au:j<gs.size:=by
    have:=(bg.1 O).1;simp at this;omega
   have:gs[j]?=some x:=by
    rw[bm]at O;simp only[Array.size_setIfInBounds]at O;rw[if_neg e,bk (by omega)]at O;exact O
   exact(h.at_ j x ao this).rely (λ_ _ _ _ _=>rfl) (λ_ _=>rfl) (bT _) rfl λop W _=>hu op W
 .have aa:j≠gs.size:=by
   rcases hj with x|x
   .omega
   .simp at x; omega
  rw[bQ _ _ aa];exact h.out j (hj.imp id λx=>by simp at x; omega)
 .rcases kr j m' B with⟨_,em⟩|⟨_,B⟩
  .rw[em]; exact aj
  .intro r r' q U h2;obtain⟨r0,x,y⟩:=ab r q U;obtain⟨l1,l2⟩:=h.d0 j m' B r0 r' q x h2;exact⟨y l1,l2⟩
 .rcases kr j m1 U with⟨ej,em⟩|⟨ej,x1⟩
  .rcases kr l m2 h2 with⟨el,_⟩|⟨_,x2⟩
   .exact absurd (ej.trans el.symm) aa
   .rw[em]; exact di l m2 x2
  .rcases kr l m2 h2 with⟨el,em⟩|⟨_,x2⟩
   .rw[em]; exact(di j m1 x1).symm
   .exact h.dd j l m1 m2 aa x1 x2
 .rcases kj j J1 U with⟨ej,em⟩|⟨ej,x1⟩
  .rcases kj l J2 h2 with⟨el,_⟩|⟨_,x2⟩
   .exact absurd (ej.trans el.symm) aa
   .rw[em]; exact Ne.symm (ah l J2 x2)
  .rcases kj l J2 h2 with⟨el,em⟩|⟨_,x2⟩
   .rw[em]; exact ah j J1 x1
   .exact h.cc j l J1 J2 aa x1 x2
 .refine n4.mute (λp x q r O hq hr ae=>?_) hu;obtain⟨r0,y,z⟩:=ab r q hr;exact h.s0 p x q r0 O hq y λl=>ae (z l)
 .by_cases e:j=gs.size
  .subst e;rw[bR]at B;cases B;intro p x q r O hq hr ae;rcases dW O with⟨_,U⟩|⟨op,U,_,h3⟩
   .refine D6 hh ha ac hb ad ?_;rcases af r q hr with⟨r0,y,z⟩|⟨y,_,z⟩
    .exact h.s0 p x q r0 U hq y λl=>ae (z l)
    .rcases h.kn p x q U hq y with v|⟨j',m',r',v1,v2⟩
     .exact v
     .exact absurd v2 (z j' m' r' v1)
   .rw[hu op U]at h3; cases h3
  .rw[bQ _ _ e]at B;exact(h.ss j m' B).mute hu
 .rcases dW O with⟨_,U⟩|⟨op,U,_,h3⟩
  .rcases kj j J' (ey.tO Y)with⟨_,em⟩|⟨e,_⟩
   .rw[em]at hq; exact am p x U hq
   .rw[bQ _ _ e]at Y;exact h.L0 j J' Y p x U hq
  .rw[hu op U]at h3; cases h3
 .rcases dW O with⟨_,U⟩|⟨op,U,_,h3⟩
  .exact h.low p x q U hq
  .rw[hu op U]at h3; cases h3
 .refine(h.jX.mono λj hj=>?_).app λop W=>.inl (hu op W);by_cases e:j=gs.size
  .subst e; rw[hold]at hj; exact absurd rfl hj
  .rw[bQ _ _ e]; exact hj
 .have:=qW (u:=[a,b]) (by simpa using hu) (h.clean said);simpa using this
 .obtain⟨r0,y,z⟩:=ab r q hr;exact z (h.f0 r0 q y (hF q hf))
 .rcases kr j m' B with⟨_,em⟩|⟨_,B⟩
  .rw[em]at hr⊢; exact ak r q hr hf
  .exact h.ff j m' B r q hr (hF q hf)
 .rcases kj j J' Y with⟨_,em⟩|⟨_,Y⟩
  .rw[em]at hf; exact an (hF _ hf)
  .exact h.cx j J' Y (hF _ hf)
 .intro p x q O hq hf;have hk:Kn fx (upd ρ _ (.start J mi S k)) _:=h.kn.app (λj m' r q B hq=>⟨j,m',r,by rw[bQ _ _ (by rintro rfl; rw[hold]at B; cases B)]; exact B,hq⟩) λop W x q O _ _=>by rw[hu op W]at O; cases O
  exact hk p x q O hq (hF q hf)
 .obtain⟨ap,aq⟩:=hP c hc;obtain⟨g1,g2,g3,g4⟩:=h.pd c ap;refine⟨g1,λp x O hq=>?_,λj J' Y=>?_,λhf=>g4 (hF c hf)⟩
  .rcases dW O with⟨_,U⟩|⟨op,U,_,h3⟩
   .exact g2 p x U hq
   .rw[hu op U]at h3; cases h3
  .rcases kj j J' Y with⟨_,em⟩|⟨_,Y⟩
   .rw[em]; exact Ne.symm aq
   .exact g3 j J' Y
 .rcases h.len b hb with x|⟨j,J',r,o,x1,x2⟩|z
  .rcases ag b x with y|⟨r,o,y1,y2⟩
   .exact .inl y
   .exact .inr (.inl ⟨gs.size,J,r,o,by rw[bR]; rfl,y1,y2⟩)
  .exact .inr (.inl ⟨j,J',r,o,by rw[bQ _ _ (by rintro rfl; rw[hold]at x1; cases x1)]; exact x1,x2⟩)
  .exact .inr (.inr z)
end
end
section
open Go.Conc
open Go.ConcN (upd upd_same upd_ne)
variable {ops:Array Oper}
def je:Obj:=.chan 0 #[] false 0 0 false
section
variable {P:Program} {E:Env P} {fn:br} {tm:Array Value} {os:List OF} {wl:World} {V:List (Nat×Option (List Value))} {k:List Item}
theorem dl.makeChan{i:Nat}{rest:List Nat}{o:Oper}(hi:ops[i]?=some o)(ai:b6 o (bp ops tm)=true)
  (aj:∀(B:Array Value)(w:World),(bs (iI B) o).runT P w #[]=(.ok (.value (.chan (some w.heap.size))) {w with heap:=w.heap.push (.chan 0 #[] false 0 0 false)},#[]))
  (h:dl E (⟨fn,eN o.dst tm (.chan (some wl.heap.size)),.inRegion ops rest::k⟩::os) {wl with heap:=wl.heap.push je} ((wl.heap.size,none)::V)):dl E (⟨fn,tm,.inRegion ops (i::rest)::k⟩::os) wl V:=by
 intro m Pd ρ gs w sl t fr' cs' U ak al ae h0;refine turn (Z:=E.Z) (a:=G fr' cs') (K:=λj=>(ρ j).sum) (N:=gs.size) rfl ?_ ρ gs w sl t ak (λ_=>rfl) h0 rfl;intro ρ' gs' w' av af d t' aa hK ag hN
 cases ae with
 |@cons _ _ B l ht am=>
  have hy:b6 o (bp ops B)=true:=by rw[show bp ops B=bp ops tm from funext (lK ops ht)]; exact ai
  have an:=lI (P:=P) (fn:=fn) (k:=k) (rest:=rest) (cs':=cs') (w:=w'.at d) hi hy;have ab:=iQ fn B ops i rest k (.chan (some (w'.at d).heap.size));simp only[hi,bc]at ab
  have ao:bF P true (fL fn B (.inRegion ops (i::rest)::k)) cs' none (bs (iI B) o) (w'.at d)=.go (G (fL fn (eN o.dst B (.chan (some (w'.at d).heap.size))) (.inRegion ops rest::k)) cs') {w'.at d with heap:=(w'.at d).heap.push (.chan 0 #[] false 0 0 false)} #[]:=by
   unfold bF;simp only[if_true,aj,ab];simp[bV,G,fL,bw]
  have ap:=bK (P:=P) (sl:=af) (i:=0) ag (show bq P (0==0) _ (w'.at d)=_ from an.trans ao);have e0:∀f p,bX 0 f p #[]=#[]:=λf p=>by rw[bP]; simp
  rw[ap,e0];refine E.Z.next _ _ _ _ ?_;have aq:=(bg.1 ag).1;have ad:=aa.main;let dx:=m.sw _ _ ad.qd ad.nh;let m₂:=dx.put wl.heap.size je;have O:m.Le m₂:=(Ren.wW _ _).trans (Ren.ox dx ..)
  have ar:WR m₂ {wl with heap:=wl.heap.push je} {w'.at d with heap:=(w'.at d).heap.push (.chan 0 #[] false 0 0 false)}:=by
   have:=(ad.Mh je (.chan 0 #[] false 0 0 false)).put (r:=wl.heap.size) (o:=je) ⟨_,_,_,_,_,_,rfl⟩ ⟨0,#[],false,0,0,false,by simp[je]⟩;have e:({wl with heap:=wl.heap.push je})={({wl with heap:=wl.heap.push je})with heap:=(wl.heap.push je).setIfInBounds wl.heap.size je}:=by rw[KX]
   rw[e];exact this
  have ac:m₂.ch wl.heap.size=some (w'.at d).heap.size:=by simp[m₂,dx,Ren.put,Ren.sw]
  have Y:Rg E m₂:=by
   refine⟨U.pg.mono O,by exact U.ic,λr r' hr=>?_,O.fq.trans U.fq,O.ok.trans U.QS,E.le m m₂ O U.x⟩;by_cases e:r=wl.heap.size
   .subst e; simp[m₂,Ren.put,je]
   .have au:=by simpa[m₂,dx,Ren.put,Ren.sw,e]using hr
    simpa[m₂,dx,Ren.put,Ren.sw,e]using U.ml r r' au
  have ah:=aa.made (m₂:=m₂) (gs':=(gs'.map (woken P (G (fL fn B (.inRegion ops (i::rest)::k)) cs') (G (fL fn (eN o.dst B (.chan (some (w'.at d).heap.size))) (.inRegion ops rest::k)) cs') _)).setIfInBounds 0 _) rfl ar rfl rfl (by simp) (gz _);have W:=al.le O hK;refine h m₂ _ ρ' _ _ af _ _ _ Y ah ⟨λr vs hr=>?_,λi J n hi=>?_,λr hr=>?_⟩ (.cons (o:=⟨fn,eN _ tm _,.inRegion ops rest::k⟩) ((ht.mono O).eN _ (.chan ac)) (am.mono O)) (by simp[aq])
  .exact W.all r vs (by simpa using hr)
  .obtain⟨r,vs,x,y⟩:=W.only i J n hi;exact⟨r,vs,by simp[x],y⟩
  .simp only[b8,Prod.mk.injEq,and_true]at hr;rcases hr with rfl|hr
   .exact⟨_,ac,.inr rfl⟩
   .obtain⟨c,x,y⟩:=W.LQ r hr;exact⟨c,x,.inl y⟩
structure Sends(E E₂:Env P)(f:br)(caps:Array Value)(os os₂:List OF)(wl wl₂:World)(rc:Nat)(L:List Value):Prop where
 z:E₂.Z=E.Z
 t:E₂.T=E.T
 w:E₂.w0=E.w0
 fix:∀b,E₂.fx b->E.fx b
 flat:∀v∈L,∀(m:Ren)v',VR m v v'->v'=v
 go:∀m caps' w c,Rg E m->ed m caps caps'->WR m wl w->m.ch rc=some c->fS w c false->(∀b,E.fx b->w.heap[b]?=E.w0.heap[b]?)->∃(J:mK)(mi:Ren)(S:LS)(k:Nat)(m₂:Ren),J.c=c/\J.L=L/\J.Ok P/\J.Ren mi/\lA P J.Stop S/\Holds S J.r []/\WR mi S.w w/\qB P J mi S k (kQ P ⟨.fn (.func f) caps',#[]⟩)/\
  Rg E₂ m₂/\WR m₂ wl₂ w/\m₂.ch=m.ch/\(∀l,nF m E.T os l->nF m₂ E.T os₂ l)/\(∀r q,m₂.blk r=some q->∃r0,m.blk r0=some q/\(m.loose r0->m₂.loose r))/\
  (∀r q,mi.blk r=some q->(∃r0,m.blk r0=some q/\(m.loose r0->mi.loose r))\/(E.fx q/\(∀r0,m.blk r0≠some q)/\¬E₂.fx q))/\nD m₂ mi/\(∀r q,mi.blk r=some q->E₂.fx q->mi.loose r)/\(∀b,E.fx b->E₂.fx b\/∃r o,J.lh r b o/\E.w0.heap[b]?=some o)
theorem BN(P:Program)(f:br)(cx:Array Operand)(ρ:Operand->Value){o:Oper}(B:o.op=.makeFunc (.func f) #[] cx)(w:World):(bs ρ o).runT P w #[]=(.ok (.value (.func (.func f) #[] (cx.map ρ))) w,#[]):=by
 obtain⟨d,op,O,ps,U,g⟩:=o;subst B;have e:bs ρ ⟨d,.makeFunc (.func f) #[] cx,O,ps,U,g⟩=(Instr.makeFunc .. >>= λv=>pure _):=rfl;have W:(#[]).map ρ=#[]:=by simp
 rw[e,W];rfl
theorem R7(P:Program)(f:br)(q:Tmp)(cap:Array Value)(ρ:Operand->Value){o:Oper}(B:o.op=.go {callee:=.value (.tmp q),args:=#[],argTypes:=#[]})(O:ρ (.tmp q)=.func (.func f) #[] cap)(w:World):(bs ρ o).runT P w #[]=(.ok (.spawn ⟨.fn (.func f) cap,#[]⟩) w,#[]):=by
 obtain⟨d,op,U,ps,W,g⟩:=o;subst B;have Y:(#[]).map ρ=#[]:=by simp
 have e:bs ρ ⟨d,.go {callee:=.value (.tmp q),args:=#[],argTypes:=#[]},U,ps,W,g⟩=(Deferred.ofValue .. >>= λd=>pure _):=rfl;rw[e,Y,O];rfl
theorem dl.go{E₂:Env P}{i j:Nat}{rest:List Nat}{oi oj:Oper}{f:br}{q:Tmp}{cx:Array Operand}{os₂:List OF}{wl₂:World}{rc:Nat}{L:List Value}{V₂:List (Nat×Option (List Value))}(hi:ops[i]?=some oi)(hj:ops[j]?=some oj)(gi:oi.guard=none)(gj:oj.guard=none)(aC:oi.op=.makeFunc (.func f) #[] cx)(aD:oi.dst=some q)(aE:oj.op=.go {callee:=.value (.tmp q),args:=#[],argTypes:=#[]})(aF:oj.dst=none)(aG:∀x∈cx.toList,dN E.fq E.gl x)(aH:q<tm.size)
  (hS:Sends E E₂ f (cx.map (iI tm)) (⟨fn,tm.setIfInBounds q (.tuple #[]),.inRegion ops rest::k⟩::os) os₂ wl wl₂ rc L) (am:∀q,E.fx q->¬E₂.fx q->∀m Pd ρ gs w t,Rg E m->Co P E.fx E.w0 Pd ρ m wl gs w t->QL m ρ Pd V->∀j m' r',(ρ j).mC=some m'->m'.blk r'≠some q)
  (hV:(rc,none)∈V) (Y:∀x∈V₂,x=(rc,some L)\/(x∈V/\x≠(rc,none))) (an:(rc,some L)∈V₂) (ao:∀r vs,(r,some vs)∈V->(r,some vs)∈V₂)
  (h:dl E₂ os₂ wl₂ V₂):dl E (⟨fn,tm,.inRegion ops (i::j::rest)::k⟩::os) wl V:=by
 intro m Pd ρ gs w sl t fr' cs' af aI aa ab h0;refine turn (Z:=E.Z) (a:=G fr' cs') (K:=λj=>(ρ j).sum) (N:=gs.size) rfl ?_ ρ gs w sl t aI (λ_=>rfl) h0 rfl;intro a0 ap w1 aV aj d1 t1 ac aJ aq aW
 cases ab with
 |@cons _ _ B l ht aK=>
  have aL:∀ad:Array Value,b6 oi (bp ops ad)=true:=λ_=>by simp[b6,gi]
  have aM:∀ad:Array Value,b6 oj (bp ops ad)=true:=λ_=>by simp[b6,gj]
  have ar:=lI (P:=P) (fn:=fn) (k:=k) (rest:=j::rest) (cs':=cs') (w:=w1.at d1) hi (aL B);have U:=iQ fn B ops i (j::rest) k (.func (.func f) #[] (cx.map (iI B)));simp only[hi,bc,aD,eN]at U
  have au:bF P true (fL fn B (.inRegion ops (i::j::rest)::k)) cs' none (bs (iI B) oi) (w1.at d1)=.go (G (fL fn (B.setIfInBounds q (.func (.func f) #[] (cx.map (iI B)))) (.inRegion ops (j::rest)::k)) cs') (w1.at d1) #[]:=by
   unfold bF;simp only[if_true,BN P f cx (iI B) aC,U];simp[bV,G,fL,bw]
  have ag:=bK (P:=P) (sl:=aj) (i:=0) aq (show bq P (0==0) _ (w1.at d1)=_ from ar.trans au);rw[ag];refine E.Z.next _ _ _ _ ?_;have a3:0<ap.size:=(bg.1 aq).1;refine turn (Z:=E.Z) (a:=G (fL fn (B.setIfInBounds q (.func (.func f) #[] (cx.map (iI B)))) (.inRegion ops (j::rest)::k)) cs') (K:=λj=>(a0 j).sum) (N:=ap.size) rfl ?_ a0 _ _ aj _ (ac.wk (gs':=(ap.map (woken P _ _ (w1.at d1))).setIfInBounds 0 (G (fL fn (B.setIfInBounds q (.func (.func f) #[] (cx.map (iI B)))) (.inRegion ops (j::rest)::k)) cs')) (.refl m) (.refl m _) (by simp) ac.main (by simp) (gz _)) (λ_=>rfl) (by simp[a3]) (by simp);clear ag aq ac;intro ρ' gs' w' aX a4 d0 t' O aN a5 hN;have hK:∀j,(ρ' j).sum=(ρ j).sum:=λj=>(aN j).trans (aJ j);have ar:=lI (P:=P) (fn:=fn) (k:=k) (rest:=rest) (cs':=cs') (w:=w'.at d0) hj (aM (B.setIfInBounds q (.func (.func f) #[] (cx.map (iI B)))));have aO:q<B.size:=by rw[<-ht.size]; exact aH
  have aP:iI (B.setIfInBounds q (.func (.func f) #[] (cx.map (iI B)))) (.tmp q)=.func (.func f) #[] (cx.map (iI B)):=by
   show(B.setIfInBounds q _).getD q ca=_;rw[Array.getD_eq_getD_getElem?,Array.getElem?_setIfInBounds_self_of_lt aO];rfl
  have a6:=R7 P f q (cx.map (iI B)) (iI (B.setIfInBounds q (.func (.func f) #[] (cx.map (iI B))))) aE aP (w'.at d0);have av:ed m (cx.map (iI tm)) (cx.map (iI B)):=jT (fq:=m.fq) (gl:=E.gl) (λx hx=>Jc ht af.pg.nZ x hx) (λx hx=>by rw[af.fq]; exact aG x hx);have U:=iQ fn (B.setIfInBounds q (.func (.func f) #[] (cx.map (iI B)))) ops j rest k ca;simp only[hj,bc,aF,eN]at U
  have au:bF P true (fL fn (B.setIfInBounds q (.func (.func f) #[] (cx.map (iI B)))) (.inRegion ops (j::rest)::k)) cs' none (bs (iI (B.setIfInBounds q (.func (.func f) #[] (cx.map (iI B))))) oj) (w'.at d0)=.spawn (G (fL fn (B.setIfInBounds q (.func (.func f) #[] (cx.map (iI B)))) (.inRegion ops rest::k)) cs') (kQ P ⟨.fn (.func f) (cx.map (iI B)),#[]⟩) (w'.at d0) #[]:=by
   unfold bF;simp only[if_true,a6,U,Bool.and_false,Bool.false_and,bJ,if_false];simp[bV,G,fL,bw,kQ]
  have ag:=runT_crowd_spawn (P:=P) (sl:=a4) (i:=0) a5 (show bq P (0==0) _ (w'.at d0)=_ from ar.trans au);have e0:∀f p,bX 0 f p #[]=#[]:=λf p=>by rw[bP]; simp
  rw[ag,e0];refine E.Z.next _ _ _ _ ?_;have a7:0<gs'.size:=(bg.1 a5).1;obtain⟨c,ah,a8⟩:=aa.LQ rc hV;obtain⟨ak,aY,aZ,ba⟩:=O.pd c a8;have ab:nF m E.T (⟨fn,tm.setIfInBounds q (.tuple #[]),.inRegion ops rest::k⟩::os) (fL fn (B.setIfInBounds q (.func (.func f) #[] (cx.map (iI B)))) (.inRegion ops rest::k)::cs'):=.cons (o:=⟨fn,tm.setIfInBounds q (.tuple #[]),.inRegion ops rest::k⟩) (ht.set q (.fJ _ trivial)) aK;obtain⟨J,mi,S,ks,m₂,rfl,a9,aQ,a',aw,ax,aR,ae,ai,ay,W,az,aA,aS,aT,aU,aB⟩:=hS.go m (cx.map (iI B)) (w'.at d0) c af av O.main ah ak λb hb=>(O.fix b hb).2
  have al:=O.spawn (Fix₂:=E₂.fx) (Pd₂:=λc=>Pd c/\c≠J.c) (g':=G (fL fn (B.setIfInBounds q (.func (.func f) #[] (cx.map (iI B)))) (.inRegion ops rest::k)) cs') (child:=kQ P ⟨.fn (.func f) (cx.map (iI B)),#[]⟩) (J:=J) (mi:=mi) (S:=S) (k:=ks)
   (a:={g:=0,fn:=(G (fL fn (B.setIfInBounds q (.func (.func f) #[] (cx.map (iI B)))) (.inRegion ops (j::rest)::k)) cs').frame.fn,pos:=(G (fL fn (B.setIfInBounds q (.func (.func f) #[] (cx.map (iI B)))) (.inRegion ops (j::rest)::k)) cs').frame.place,act:=.go gs'.size}) (b:={g:=gs'.size,fn:=(kQ P ⟨.fn (.func f) (cx.map (iI B)),#[]⟩).frame.fn,pos:=(G (fL fn (B.setIfInBounds q (.func (.func f) #[] (cx.map (iI B)))) (.inRegion ops (j::rest)::k)) cs').frame.place,act:=.start}) a7 hS.fix (λc hc=>hc) a8 rfl rfl rfl rfl ay aA (λr q hr=>?_) aT aU aB ⟨aQ,ak,a',aw,ax,aR,ae⟩
  .rw[<-hS.z];rw[<-hS.w]at al;have hold:ρ' gs'.size=.quit 0:=O.out _ (.inr (bT _))
   refine h m₂ _ _ _ _ a4 _ _ _ ai al ⟨λr vs hr=>?_,λj J' n hj=>?_,λr hr=>?_⟩ (by rw[hS.t]; exact az _ ab) (by
    rw[bm,if_neg (by simp; omega)]
    simp[a7])
   .rcases Y _ hr with x|⟨x,_⟩
    .cases x;refine⟨gs'.size,J,0,by rw[bR]; rfl,by rw[W]; exact ah,Nat.zero_le _,by rw[a9]; rfl,by rw[a9]; exact hS.flat⟩
    .obtain⟨j,J',n,x1,x2,x3⟩:=aa.all r vs x
     have hj:j≠gs'.size:=by
      rintro rfl;rw[<-hK,hold]at x1;cases x1
     exact⟨j,J',n,by rw[bQ _ _ hj,hK]; exact x1,by rw[W]; exact x2,x3⟩
   .by_cases e:j=gs'.size
    .subst e;rw[bR]at hj;cases hj;exact⟨rc,L,an,by rw[W]; exact ah⟩
    .rw[bQ _ _ e,hK]at hj;obtain⟨r,vs,x,y⟩:=aa.only j J' n hj;exact⟨r,vs,ao r vs x,by rw[W]; exact y⟩
   .rcases Y _ hr with x|⟨x,y⟩
    .cases x
    .obtain⟨c,x1,x2⟩:=aa.LQ r x;refine⟨c,by rw[W]; exact x1,x2,?_⟩;rintro rfl;have:=m.uJ _ _ _ x1 ah;subst this;exact y rfl
  .rcases aS r q hr with x|⟨x1,x2,x3⟩
   .exact .inl x
   .exact .inr ⟨x1,x2,am q x1 x3 m Pd ρ' gs' _ t' af O (aa.le (.refl m) hK)⟩
end
end
section
open Go.Conc
open Go.ConcN (upd upd_same upd_ne)
variable {v z:Value}
inductive Flat:Value->Prop
 |bool (b):Flat (.bool b)
 |int (k n):Flat (.int k n)
 |string (s):Flat (.string s)
 |agg {c:Array Value}:(∀i(h:i<c.size),Flat c[i])->Flat (.agg c)
theorem Flat.refl(h:Flat v)(m:Ren):VR m v v:=by
 induction h with
 |bool b=>exact .bool b
 |int k n=>exact .int k n
 |string s=>exact .string s
 |agg _ B=>exact .agg rfl λi h _=>B i h
theorem Flat.eq(h:Flat v):∀(m:Ren)O,VR m v O->O=v:=by
 induction h with
 |bool b=>intro m O B; cases B; rfl
 |int k n=>intro m O B; cases B; rfl
 |string s=>intro m O B; cases B; rfl
 |@agg c _ W=>
  intro m O B
  cases B with
  |@agg _ c' Y hi=>
   congr 1;refine bo Y.symm λi h1 U=>?_;exact W i U m _ (hi i U h1)
def wL(z:Value)(k:Nat)(v:Value)(ok:Bool):Value:=
 .tuple #[goInt k,.bool ok,if k=0 then v else z,if k=1 then v else z,if k=2 then v else z,if k=3 then v else z,if k=4 then v else z,if k=5 then v else z,if k=6 then v else z]
theorem Pr(z:Value)(c0 c1 c2 c3 c4 c5 B:Value)(k:Nat)(v:Value)(ok:Bool):b2 #[⟨c0,none,z⟩,⟨c1,none,z⟩,⟨c2,none,z⟩,⟨c3,none,z⟩,⟨c4,none,z⟩,⟨c5,none,z⟩,⟨B,none,z⟩] .select (k:Int) v ok=wL z k v ok:=by
 have O:((0:Int)=k)=(k=0):=by rw[eq_iff_iff]; omega
 have U:((1:Int)=k)=(k=1):=by rw[eq_iff_iff]; omega
 have W:((2:Int)=k)=(k=2):=by rw[eq_iff_iff]; omega
 have Y:((3:Int)=k)=(k=3):=by rw[eq_iff_iff]; omega
 have e4:((4:Int)=k)=(k=4):=by rw[eq_iff_iff]; omega
 have e5:((5:Int)=k)=(k=5):=by rw[eq_iff_iff]; omega
 have e6:((6:Int)=k)=(k=6):=by rw[eq_iff_iff]; omega
 simp[b2,wL,List.zipIdx,O,U,W,Y,e4,e5,e6]
theorem NO(B:Flat z)(O:Flat v)(k:Nat)(ok:Bool)(m:Ren):VR m (wL z k v ok) (wL z k v ok):=by
 have one:∀n,VR m (if k=n then v else z) (if k=n then v else z):=λn=>by
  split
  .exact O.refl m
  .exact B.refl m
 refine VR.kL (dP.cons (.int ..) (.cons (.bool ok) (.cons (one 0) (.cons (one 1) (.cons (one 2) (.cons (one 3) (.cons (one 4) (.cons (one 5) (.cons (one 6) .nil)))))))))
def rG(V:List (Nat×Option (List Value)))(r:Nat)(vs:List Value):List (Nat×Option (List Value)):=V.map λx=>if x.1=r then(r,some vs)else x
def sX(V:List (Nat×Option (List Value)))(r:Nat):List (Nat×Option (List Value)):=V.filter λx=>x.1≠r
section
variable {P:Program} {E:Env P} {fn:br} {tm:Array Value} {os:List OF} {wl:World} {V:List (Nat×Option (List Value))} {k:List Item}
theorem dl.select{ops:Array Oper}{i:Nat}{rest:List Nat}{o:Oper}{x0 x1 x2 x3 x4 x5 x6:Tmp}{cl:Nat->Option Nat}(hi:ops[i]?=some o)(a5:b6 o (bp ops tm)=true)
  (av:∀(Y:Array Value)(w:World),(bs (iI Y) o).runT P w #[]=(.ok (.comm #[⟨Y.getD x0 ca,none,z⟩,⟨Y.getD x1 ca,none,z⟩,⟨Y.getD x2 ca,none,z⟩,⟨Y.getD x3 ca,none,z⟩,⟨Y.getD x4 ca,none,z⟩,⟨Y.getD x5 ca,none,z⟩,⟨Y.getD x6 ca,none,z⟩] true .select) w,#[]))
  (hz:Flat z) (c0:tm.getD x0 ca=.chan (cl 0)) (c1:tm.getD x1 ca=.chan (cl 1)) (c2:tm.getD x2 ca=.chan (cl 2)) (c3:tm.getD x3 ca=.chan (cl 3)) (c4:tm.getD x4 ca=.chan (cl 4)) (c5:tm.getD x5 ca=.chan (cl 5)) (c6:tm.getD x6 ca=.chan (cl 6))
  (jv:∀k r,k<7->cl k=some r->∃vs,(r,some vs)∈V) (rA:∀k k' r,k<7->k'<7->cl k=some r->cl k'=some r->k=k') (an:∃k r,k<7/\cl k=some r) (fE:(V.map Prod.fst).Nodup) (ag:∀r vs,(r,some vs)∈V->∀v∈vs,Flat v)
  (hv:∀k' r v vs,k'<7->cl k'=some r->(r,some (v::vs))∈V->dl E (⟨fn,eN o.dst tm (wL z k' v true),.inRegion ops rest::k⟩::os) wl (rG V r vs))
  (he:∀k' r,k'<7->cl k'=some r->(r,some [])∈V->dl E (⟨fn,eN o.dst tm (wL z k' z false),.inRegion ops rest::k⟩::os) wl (sX V r)) :
  dl E (⟨fn,tm,.inRegion ops (i::rest)::k⟩::os) wl V:=by
 intro m Pd ρ gs w sl t fr' cs' aw ax aa ay h0
 have a6:∀r a b,(r,a)∈V->(r,b)∈V->a=b:=by
  intro r a b ha hb;clear aa hv he jv ag
  induction V with
  |nil=>cases ha
  |cons y V ih=>
   simp only[List.map_cons,List.nodup_cons]at fE;have ah:∀q,(r,q)∈V->y.1≠r:=λq hq e=>fE.1 (e▸b9.2 ⟨(r,q),hq,rfl⟩);rcases b8.1 ha with ea|ha
   .rcases b8.1 hb with eb|hb
    .rw[<-ea]at eb; cases eb; rfl
    .exact absurd (by rw[<-ea]) (ah b hb)
   .rcases b8.1 hb with eb|hb
    .exact absurd (by rw[<-eb]) (ah a ha)
    .exact ih fE.2 ha hb
 cases ay with
 |@cons _ _ Y l ht az=>
  have hy:b6 o (bp ops Y)=true:=by rw[show bp ops Y=bp ops tm from funext (lK ops ht)]; exact a5
  have kD:∀x c,tm.getD x ca=.chan c->Y.getD x ca=.chan (c.bind m.ch):=by
   intro x c hc;have hx:=ht.getD x;simp only at hx;rw[hc]at hx;generalize hq:Y.getD x ca=q at hx
   cases hx with
   |iS=>rfl
   |chan hb=>simp[hb]
  have d0:=kD x0 _ c0;have d1:=kD x1 _ c1;have d2:=kD x2 _ c2;have d3:=kD x3 _ c3;have d4:=kD x4 _ c4;have d5:=kD x5 _ c5;have d6:=kD x6 _ c6;let W:Nat->Option Nat:=λk=>(cl k).bind m.ch;let B:Array CommCase:=#[⟨.chan (W 0),none,z⟩,⟨.chan (W 1),none,z⟩,⟨.chan (W 2),none,z⟩,⟨.chan (W 3),none,z⟩,⟨.chan (W 4),none,z⟩,⟨.chan (W 5),none,z⟩,⟨.chan (W 6),none,z⟩];have aA:B.size=7:=rfl
  have a0:∀w,(bs (iI Y) o).runT P w #[]=(.ok (.comm B true .select) w,#[]):=by
   intro w;rw[av,d0,d1,d2,d3,d4,d5,d6]
  have ai:∀w,bq P true (G (fL fn Y (.inRegion ops (i::rest)::k)) cs') w=.comm (G (fL fn Y (.inRegion ops (i::rest)::k)) cs') B true .select w #[]:=by
   intro w;rw[lI (P:=P) (fn:=fn) (k:=k) (rest:=rest) (cs':=cs') (w:=w) hi hy];unfold bF;simp only[if_true,a0];simp[bV,G,fL,bw]
  have O:∀k c,k<7->W k=some c->∃r vs j J n,cl k=some r/\(r,some vs)∈V/\(ρ j).sum=some (J,n)/\m.ch r=some J.c/\J.c=c/\n<=J.L.length/\J.L.drop n=vs/\∀v∈J.L,∀(m:Ren)v',VR m v v'->v'=v:=by
   intro k c hk hc;simp only[W]at hc
   cases e:cl k with
   |none=>rw[e]at hc; cases hc
   |some r=>
    rw[e]at hc;simp only[bc]at hc;obtain⟨vs,ab⟩:=jv k r hk e;obtain⟨j,J,n,g1,g2,g3,g4,g5⟩:=aa.all r vs ab;refine⟨r,vs,j,J,n,rfl,ab,g1,g2,?_,g3,g4,g5⟩;rw[g2]at hc;exact bZ hc
  have aj:∀(j j':Nat)J n J' n',(ρ j).sum=some (J,n)->(ρ j').sum=some (J',n')->J.c=J'.c->j=j':=by
   intro j j' J n J' n' h1 h2 hc;apply bW;intro ad;exact ax.cc j j' J J' ad (ey.wY h1) (ey.wY h2) hc
  have hS:vi P (G (fL fn Y (.inRegion ops (i::rest)::k)) cs') B W (λj=>(ρ j).sum):=by
   refine⟨rfl,ai,ai,λk cc ac=>?_,λk k' c hk a3 h1 h2=>?_,λk c hk hc=>?_,?_,λj J n hj v hv=>?_⟩
   .have hk:k<7:=(bg.1 ac).1;refine⟨z,?_⟩
    match k,hk with
    |0,_=>simpa[B]using ac.symm
    |1,_=>simpa[B]using ac.symm
    |2,_=>simpa[B]using ac.symm
    |3,_=>simpa[B]using ac.symm
    |4,_=>simpa[B]using ac.symm
    |5,_=>simpa[B]using ac.symm
    |6,_=>simpa[B]using ac.symm
   .obtain⟨r,vs,j,J,n,e1,_,_,e2,e3,_⟩:=O k c hk h1;obtain⟨r',vs',j',J',n',a7,_,_,a8,a9,_⟩:=O k' c a3 h2;have:r=r':=m.uJ _ _ _ e2 (by rw[a8,a9,e3]);subst this;exact rA k k' r hk a3 e1 a7
   .obtain⟨r,vs,j,J,n,_,_,e,_,e3,_⟩:=O k c hk hc;exact⟨j,J,n,e,e3⟩
   .obtain⟨k,r,hk,hr⟩:=an;obtain⟨vs,ab⟩:=jv k r hk hr;obtain⟨j,J,n,g1,g2,_⟩:=aa.all r vs ab;exact⟨k,J.c,hk,by simp[W,hr,g2]⟩
   .obtain⟨r,vs,ab,g2⟩:=aa.only j J n hj;obtain⟨j',J',n',ao,a4,_,_,g5⟩:=aa.all r vs ab;rw[g2]at a4;have:=aj j j' J n J' n' hj ao (bZ a4);subst this;rw[hj]at ao;cases ao;exact g5 v hv
  have am:∀(k':Nat)v ok,(G (fL fn Y (.inRegion ops (i::rest)::k)) cs').finishComm P B .select (k':Int) v ok=G (fL fn (eN o.dst Y (wL z k' v ok)) (.inRegion ops rest::k)) cs':=by
   intro k' v ok;have e:=iQ fn Y ops i rest k (wL z k' v ok);simp only[hi,bc]at e;show({(G (fL fn Y (.inRegion ops (i::rest)::k)) cs')with frame:=(fL fn Y (.inRegion ops (i::rest)::k)).finish (b2 B .select (k':Int) v ok),status:=.running,offers:=none}:Goroutine)=_;rw[Pr,e];rfl
  refine Go.Proofs.YtocbogeoffeolaaGreatDoor.select (Z:=E.Z) (N:=gs.size) hS ?_ ?_ ρ gs w sl t ax (λ_=>rfl) h0 rfl
  .intro k' j J n v hk hc hj hn ρ' gs' w' ap t' ak hK al hN;obtain⟨r,vs,j',J',n',e1,e2,e3,e4,e5,e6,e7,e8⟩:=O k' J.c hk hc;have:=aj j j' J n J' n' hj e3 e5.symm;subst this;rw[hj]at e3;cases e3
   have ab:vs=v::J.L.drop (n+1):=by
    rw[<-e7];obtain⟨aq,rfl⟩:=bB.1 hn;exact List.drop_eq_getElem_cons aq
   subst ab;rw[am]at al;have a':=ag r _ e2;refine hv k' r v (J.L.drop (n+1)) hk e1 e2 m Pd ρ' gs' w' ap t' _ _ aw ak ⟨λr2 ae h2=>?_,λj2 J2 n2 h2=>?_,λr2 h2=>?_⟩ (.cons (o:=⟨fn,eN o.dst tm (wL z k' v true),.inRegion ops rest::k⟩) (ht.eN o.dst (NO hz (a' v (by simp)) k' true m)) az) al
   .simp only[rG,b9]at h2;obtain⟨y,ar,af⟩:=h2;split at af
    .cases af
     have aq:n<J.L.length:=by
      have:=(bB.1 hn).1;exact this
     exact⟨j,J,n+1,by rw[hK,bR],e4,aq,rfl,e8⟩
    .rename_i ad;subst af;obtain⟨j2,J2,n2,g1,g2,g3⟩:=aa.all r2 ae ar
     have au:j2≠j:=by
      rintro rfl;rw[hj]at g1;cases g1;exact ad (m.uJ _ _ _ g2 e4)
     exact⟨j2,J2,n2,by rw[hK,bQ _ _ au]; exact g1,g2,g3⟩
   .rw[hK]at h2;by_cases e:j2=j
    .subst e;rw[bR]at h2;cases h2;refine⟨r,J.L.drop (n+1),?_,e4⟩;simp only[rG,b9];exact⟨_,e2,by simp⟩
    .rw[bQ _ _ e]at h2;obtain⟨r2,ae,g1,g2⟩:=aa.only j2 J2 n2 h2
     have ad:r2≠r:=by
      rintro rfl;rw[e4]at g2;exact e (aj j2 j J2 n2 J n h2 hj (bZ g2).symm)
     refine⟨r2,ae,?_,g2⟩;simp only[rG,b9];exact⟨_,g1,by simp[ad]⟩
   .simp only[rG,b9]at h2;obtain⟨y,ar,af⟩:=h2;split at af
    .cases af
    .subst af;exact aa.LQ r2 ar
  .intro k' j J z' U hc hj ρ' gs' w' ap t' ak hK al hN;have hk:k'<7:=(bg.1 U).1;obtain⟨r,vs,j',J',n',e1,e2,e3,e4,e5,e6,e7,e8⟩:=O k' J.c hk hc;have:=aj j j' J _ J' n' hj e3 e5.symm;subst this;rw[hj]at e3;cases e3;have ab:vs=[]:=by rw[<-e7]; simp
   subst ab
   have ez:z'=z:=by
    obtain⟨z2,aB⟩:=hS.cs k' _ U;have aC:(bM J.c z').zero=z':=rfl
    match k',hk,U with
    |0,_,U=>simp[B,bM]at U; exact U.2.symm
    |1,_,U=>simp[B,bM]at U; exact U.2.symm
    |2,_,U=>simp[B,bM]at U; exact U.2.symm
    |3,_,U=>simp[B,bM]at U; exact U.2.symm
    |4,_,U=>simp[B,bM]at U; exact U.2.symm
    |5,_,U=>simp[B,bM]at U; exact U.2.symm
    |6,_,U=>simp[B,bM]at U; exact U.2.symm
   subst ez;rw[am]at al;refine he k' r hk e1 e2 m Pd ρ' gs' w' ap t' _ _ aw ak ⟨λr2 ae h2=>?_,λj2 J2 n2 h2=>?_,λr2 h2=>?_⟩ (.cons (o:=⟨fn,eN o.dst tm (wL z' k' z' false),.inRegion ops rest::k⟩) (ht.eN o.dst (NO hz hz k' false m)) az) al
   .simp only[sX,bA,decide_eq_true_eq]at h2;obtain⟨j2,J2,n2,g1,g2,g3⟩:=aa.all r2 ae h2.1
    have au:j2≠j:=by
     rintro rfl;rw[hj]at g1;cases g1;exact h2.2 (m.uJ _ _ _ g2 e4)
    exact⟨j2,J2,n2,by rw[hK,bQ _ _ au]; exact g1,g2,g3⟩
   .rw[hK]at h2
    have e:j2≠j:=by
     rintro rfl;rw[bR]at h2;cases h2
    rw[bQ _ _ e]at h2;obtain⟨r2,ae,g1,g2⟩:=aa.only j2 J2 n2 h2
    have ad:r2≠r:=by
     rintro rfl;rw[e4]at g2;exact e (aj j2 j J2 n2 J _ h2 hj (bZ g2).symm)
    refine⟨r2,ae,?_,g2⟩;simp only[sX,bA,decide_eq_true_eq];exact⟨g1,ad⟩
   .simp only[sX,bA,decide_eq_true_eq]at h2;exact aa.LQ r2 h2.1
end
end
section
open Go.Conc
open Go.ConcN (upd upd_same upd_ne)
def Fy:ey->ey
 |.ended _ _ _ _ q=>.quit q
 |r=>r
section
variable {P:Program} {fx Fix':Nat->Prop} {w0 w0':World} {Pd:Nat->Prop} {ρ:Nat->ey} {m m':Ren} {wl wl':World} {gs:Array Goroutine} {w:World} {t:bx}
theorem uP{i:Nat}(B:(ρ i).sum=none):∃q,Fy (ρ i)=.quit q:=by
 cases e:ρ i with
 |quit q=>exact⟨q,rfl⟩
 |ended O J m S q=>exact⟨q,rfl⟩
 |act=>rw[e]at B; cases B
 |jc=>rw[e]at B; cases B
 |start=>rw[e]at B; cases B
theorem Co.M9(h:Co P fx w0 Pd ρ m wl gs w t)(hn:∀i,(ρ i).sum=none)(hw:WR m' wl' w)(aa:∀b,Fix' b->b<w.heap.size/\w.heap[b]?=w0'.heap[b]?)(hf:∀r b,m'.blk r=some b->Fix' b->m'.loose r)(ac:w0'.heap.size<=w.heap.size)(ad:w.os=w0'.os/\w.output=w0'.output)(ab:∀b,b<w0'.heap.size->Fix' b\/w0'.heap[b]?=some oF) :
  Co P Fix' w0' (λ_=>False) (λi=>Fy (ρ i)) m' wl' gs w t:=by
 have hq:=λi=>uP (hn i)
 have no:∀{α:Type}(f:ey->Option α),(∀q,f _=none)->∀i x,f (Fy _)=some x->False:=λf hf i x hx=>by
  obtain⟨q,e⟩:=hq i;rw[e,hf]at hx;cases hx
 refine⟨hw,λi g hi hg=>?_,λi hi=>?_,λi W B=>(no _ (λ_=>rfl) i W B).elim,λi j W m2 _ B _=>(no _ (λ_=>rfl) i W B).elim,λi j J1 J2 _ B _=>(no _ (λ_=>rfl) i J1 B).elim,h.calm hn m',λi W B=>(no _ (λ_=>rfl) i W B).elim,λi J B=>(no _ (λ_=>rfl) i J B).elim,h.low,h.hears,h.jX.mono λi hi=>absurd (hn i) hi,h.clean,aa,hf,λi W B=>(no _ (λ_=>rfl) i W B).elim,λi J B=>(no _ (λ_=>rfl) i J B).elim,ac,ad,λp a b ha hb _=>.inl (h.calm hn {m' with blk:=λr=>if r=b then some b else none,nZ:=?_,inj:=?_,loose:=λ_=>False} p a b b ha hb (by simp) nofun),nofun,λb hb=>(ab b hb).imp id .inr⟩
 .have O:=h.at_ i g hi hg;have U:=hn i
  cases e:ρ i with
  |quit q=>rw[e]at O; exact O
  |ended hd J m S q=>rw[e]at O; exact O.1
  |act=>rw[e]at U; cases U
  |jc=>rw[e]at U; cases U
  |start=>rw[e]at U; cases U
 .rw[h.out i hi];rfl
 .intro r r' Y;split at Y
  .cases Y; rename_i e; rw[e]
  .cases Y
 .intro r s q Y U;split at Y
  .split at U
   .rename_i e1 e2; rw[e1,e2]
   .cases U
  .cases Y
theorem Co.old(h:Co P fx w0 Pd ρ m wl gs w t)(hn:∀i,(ρ i).sum=none)(W:∀b,w0.heap[b]?=some oF->fx b):∀b,b<w0.heap.size->w.heap[b]?=w0.heap[b]?:=by
 intro b hb;rcases h.len b hb with x|⟨i,J,r,o,x1,x2,x3⟩|z
 .exact(h.fix b x).2
 rotate_left
 .exact(h.fix b (W b z)).2
 .obtain⟨g,hi,hg,O⟩:=h.get (i:=i) λe=>by rw[e]at x1; cases x1
  have B:=hn i
  cases e:ρ i with
  |quit q=>rw[e]at x1; cases x1
  |act=>rw[e]at B; cases B
  |jc=>rw[e]at B; cases B
  |start=>rw[e]at B; cases B
  |ended hd J' mi S q=>
   rw[e]at x1 O;cases x1;obtain⟨_,U,⟨Y,aa⟩,ab,_⟩:=O;obtain⟨h1,h2⟩:=aa.back S Y r b o x2;obtain⟨o1,o2,g1,g2,g3⟩:=ab.obj r b (U.lh r b o x2);rw[h1]at g1;cases g1;rw[h2 mi o2 g3]at g2;rw[g2,x3]
theorem Co.fresh(h:Co P fx w0 Pd ρ m wl gs w t)(O:∀b,w0.heap[b]?=some oF->fx b){r b:Nat}(U:m.blk r=some b)(W:¬m.loose r):w0.heap.size<=b:=by
 apply bW;intro hb;rcases h.len b (by omega)with x|⟨i,J,r',o,x1,x2,x3⟩|z
 .exact W (h.f0 r b U x)
 rotate_left
 .exact W (h.f0 r b U (O b z))
 .obtain⟨g,hi,hg,Y⟩:=h.get (i:=i) λe=>by rw[e]at x1; cases x1
  obtain⟨m1,B⟩:∃m1,(ρ i).mC=some m1:=by
   cases e:ρ i with
   |quit q=>rw[e]at x1; cases x1
   |act J m S n=>exact⟨m,rfl⟩
   |jc J m S n v=>exact⟨m,rfl⟩
   |start J m S k=>exact⟨m,rfl⟩
   |ended hd J m S q=>exact⟨m,rfl⟩
  exact W (h.d0 i m1 B r r' b U ((Y.Tv B x1).lh r' b o x2)).1
theorem WR.Mq(h:WR m wl w){b:Nat}{c:Array Value}{e:bt}{f:Nat×Nat}(hb:∀s,m.blk s≠some b)(Y:wl.heap.size<m.G↔b<m.G)(ho:w.heap[b]?=some (.cells c e f))(hc:∀v∈c.toList,Flat v) :
  WR (m.ext wl.heap.size b h.gE hb Y) {wl with heap:=wl.heap.push (.cells c e f)} w:=by
 have aa:=Ren.uV h.gE hb Y;have ac:OR (m.ext _ b h.gE hb Y) _ _:=.cells e f f (ed.refl λv hv=>(hc v hv).refl _)
 have key:∀r r',(m.ext _ b h.gE hb Y).blk r=some r'->(r=wl.heap.size/\r'=b)\/(r≠wl.heap.size/\m.blk r=some r'):=by
  intro r r' B;by_cases e:r=wl.heap.size
  .subst e; simp[Ren.ext]at B; exact .inl ⟨rfl,B.symm⟩
  .simp[Ren.ext,e]at B; exact .inr ⟨e,B⟩
 have lo:∀r,(m.ext _ b h.gE hb Y).loose r->r≠wl.heap.size/\m.loose r:=by
  intro r B;by_cases e:r=wl.heap.size
  .subst e; simp[Ren.ext]at B
  .simp[Ren.ext,e]at B; exact⟨e,B⟩
 have pu:∀r,r<wl.heap.size->(wl.heap.push (.cells c e f))[r]?=wl.heap[r]?:=λr B=>eL B;refine⟨λr r' B=>?_,λr r' c1 W f1 c2 e2 f2 B h1 h2 hn=>?_,λr r' c1 W f1 c2 e2 f2 B h1 h2 hl=>?_,λr r' B=>?_,?_,h.Jd,h.os,λr o B=>?_,λr r' B hl=>?_,λr B=>?_,λr i v hv=>?_⟩
 .rcases key r r' B with⟨rfl,rfl⟩|⟨_,B⟩
  .exact⟨_,_,by simp,ho,ac⟩
  .obtain⟨o,o',g1,g2,g3⟩:=h.obj r r' B;exact⟨o,o',iF g1,g2,g3.mono aa⟩
 .rcases key r r' B with⟨rfl,rfl⟩|⟨O,B⟩
  .rw[ho]at h2;cases h2;simp at h1;exact h1.2.2
  .have U:=(h.lt B).1;refine h.fz r r' c1 W f1 c2 e2 f2 B (by rw[<-pu r U]; exact h1) h2 λx=>hn ?_;simp[Ren.ext,O,x]
 .rcases key r r' B with⟨rfl,rfl⟩|⟨O,B⟩
  .exact absurd rfl (lo _ hl).1
  .have U:=(h.lt B).1;exact h.all r r' c1 W f1 c2 e2 f2 B (by rw[<-pu r U]; exact h1) h2 (lo _ hl).2
 .have:=h.LW r r' B;exact⟨by simp; omega,this.2⟩
 .have:=h.LX;show m.G<=(wl.heap.push _).size;simp; omega
 .obtain⟨g1,g2⟩:=h.kD r o B;exact⟨iF g1,g2⟩
 .rcases key r r' B with⟨rfl,rfl⟩|⟨O,B⟩
  .exact absurd rfl (lo _ hl).1
  .obtain⟨c1,W,f1,g⟩:=h.lk r r' B (lo _ hl).2;exact⟨c1,W,f1,iF g⟩
 .obtain⟨g1,c1,W,f1,g⟩:=h.dead r B;have U:=jE g;refine⟨?_,c1,W,f1,iF g⟩;have O:r≠wl.heap.size:=by omega
  simp[Ren.ext,O,g1]
 .obtain⟨r',ab,hp⟩:=h.rB r i v hv;exact⟨r',aa.blk _ _ ab,λc e f c' e' f' x g1=>hp c e f c' e' f' x (by rw[<-pu r (h.lt ab).1]; exact g1)⟩
end
end
section
open Go.Conc
open Go.ConcN (upd upd_same upd_ne)
variable {ops:Array Oper} {f:br} {R0:Nat->Nat->Prop} {R1:Nat->Option Nat->Nat->Nat->Array Value->bt->Nat×Nat->Prop} {m:Ren}
section
variable {P:Program} {E:Env P} {fn:br} {tm:Array Value} {os:List OF} {wl:World} {k:List Item}
theorem Rg.Mq(h:Rg E m){r b:Nat}(O:m.blk r=none)(U:∀s,m.blk s≠some b)(W:r<m.G↔b<m.G):Rg E (m.ext r b O U W):=by
 have B:=Ren.uV O U W;exact⟨h.pg.mono B,h.ic,λs s' Y=>h.ml s s' Y,B.fq.trans h.fq,B.ok.trans h.QS,E.le m _ B h.x⟩
theorem Hf{c B:Array Value}(h:ed m c B)(O:∀v∈c.toList,Flat v):B=c:=by
 refine bo h.size.symm λi U W=>?_;have:=h.idx i W U;exact(O _ (by simp)).eq m _ this
structure B8(P:Program)(E₂:Env P)(gH:Func)(tm1:Array Value)(wl2:World)(R0:Nat->Nat->Prop)(R1:Nat->Option Nat->Nat->Nat->Array Value->bt->Nat×Nat->Prop):Prop where
 s4:∃v1,(∀τ,(bz gH tm1).run P (tp wl2 τ)=.ok v1 (tp wl2 τ))/\((∃l cp,v1=.slice none l cp/\R0 l cp)\/∃b1 off spot l cp cs e f,v1=.slice (some ⟨b1,off,spot⟩) l cp/\wl2.heap[b1]?=some (.cells cs e f)/\(∀v∈cs.toList,Flat v)/\(∀m,Rg E₂ m->¬m.loose b1)/\R1 off spot l cp cs e f)
 TF:∀b,E₂.w0.heap[b]?=some oF->E₂.fx b
theorem KO{E₂:Env P}{gH:Func}{i:Nat}{rest:List Nat}{o:Oper}{m0:Ren}{B:Array Value}{Y:List Frame}{tm1:Array Value}{td1:List Item}{aa:World}
  (ap:∀b,b<E.w0.heap.size->E.fx b\/E.w0.heap[b]?=some oF) (W:∀b,E.fx b->b<E₂.w0.heap.size/\E₂.w0.heap[b]?=E.w0.heap[b]?) (ay:∀r b,m0.blk r=some b->E.fx b->m0.loose r) (az:E.w0.heap.size<=E₂.w0.heap.size) (aj:E₂.w0.os=E.w0.os/\E₂.w0.output=E.w0.output) (hZ:E₂.Z=E.Z) (hT:E₂.T=fL fn B (.inRegion ops (i::rest)::k)::Y) (ak:Rg E m0) (af:WR m0 wl E₂.w0) (ht:ed m0 tm B) (a0:nF m0 E.T os Y) (hf:P.funcs[f]?=some gH) (hi:ops[i]?=some o) (aF:td1=[]\/∃k1,td1=.code .ret::k1) (hR:B8 P E₂ gH tm1 aa R0 R1)
  (aG:∀l cp,R0 l cp->dl E (⟨fn,eN o.dst tm (.slice none l cp),.inRegion ops rest::k⟩::os) wl [])
  (aH:∀off spot l cp cs e f,R1 off spot l cp cs e f->(∀v∈cs.toList,Flat v)->dl E (⟨fn,eN o.dst tm (.slice (some ⟨wl.heap.size,off,spot⟩) l cp),.inRegion ops rest::k⟩::os) {wl with heap:=wl.heap.push (.cells cs e f)} []) :
  dl E₂ [⟨f,tm1,td1⟩] aa []:=by
 intro m Pd ρ gs w sl t fr' cs' aI aJ aK ag h0
 have hn:∀i,(ρ i).sum=none:=by
  intro i
  cases e:(ρ i).sum with
  |none=>rfl
  |some x=>
   obtain⟨r,vs,hx,_⟩:=aK.only i x.1 x.2 e;cases hx
 refine turn (Z:=E₂.Z) (a:=G fr' cs') (K:=λj=>(ρ j).sum) (N:=gs.size) rfl ?_ ρ gs w sl t aJ (λ_=>rfl) h0 rfl;intro ρ' gs' w' aY a3 d t' ah hK ai hN
 cases ag with
 |@cons _ _ U l aL ag=>
  cases ag;rw[hT]at ai
  have aM:bq P true (G (fL f U td1) (fL fn B (.inRegion ops (i::rest)::k)::Y)) (w'.at d)=.go (G ⟨f,U,td1,[],.returning,.normal,none⟩ (fL fn B (.inRegion ops (i::rest)::k)::Y)) (w'.at d) #[]:=by
   rcases aF with rfl|⟨k1,rfl⟩<;>rfl
  have a4:=bK (P:=P) (sl:=a3) (i:=0) ai (show bq P (0==0) _ (w'.at d)=_ from aM);rw[a4];refine E₂.Z.next _ _ _ _ ?_;have aN:0<gs'.size:=(bg.1 ai).1;refine turn (Z:=E₂.Z) (a:=G ⟨f,U,td1,[],.returning,.normal,none⟩ (fL fn B (.inRegion ops (i::rest)::k)::Y)) (K:=λj=>(ρ' j).sum) (N:=gs'.size) rfl ?_ ρ' _ _ a3 _ (ah.wk (gs':=(gs'.map (woken P _ _ (w'.at d))).setIfInBounds 0 (G ⟨f,U,td1,[],.returning,.normal,none⟩ (fL fn B (.inRegion ops (i::rest)::k)::Y))) (.refl m) (.refl m _) (by simp) ah.main (by simp) (gz _)) (λ_=>rfl) (by simp[aN]) (by simp);clear ah a4 ai;intro aq a5 w2 aZ ar d2 t2 al aO a6 ba;obtain⟨v1,a7,au⟩:=hR.s4;have a8:=(lD (P:=P) (fn:=gH) aL).run (tp aa (along aa (w2.at d2))) (w2.at d2) #[] (al.main.tp _) (.inl (oU aa (w2.at d2)));rw[a7]at a8;obtain⟨dx,v',w₁,es₁,e1,e2,e3,e4,_,e6,e7⟩:=a8;rw[bn]at e1;have am:=iQ fn B ops i rest k v';simp only[hi,bc]at am
  have a9:bq P true (G ⟨f,U,td1,[],.returning,.normal,none⟩ (fL fn B (.inRegion ops (i::rest)::k)::Y)) (w2.at d2)=.go (G (fL fn (eN o.dst B v') (.inRegion ops rest::k)) Y) w₁ (bw P f es₁):=by
   have:bq P true (G ⟨f,U,td1,[],.returning,.normal,none⟩ (fL fn B (.inRegion ops (i::rest)::k)::Y)) (w2.at d2)=bu P true ⟨f,U,td1,[],.returning,.normal,none⟩ (fL fn B (.inRegion ops (i::rest)::k)::Y) none (w2.at d2):=rfl;rw[this];unfold bu;simp only[hf,e1];unfold b0;simp only[am];simp[bV,G]
  have aA:=bK (P:=P) (sl:=ar) (i:=0) a6 (show bq P (0==0) _ (w2.at d2)=_ from a9);rw[aA];refine E₂.Z.next _ _ _ _ ?_;rw[hZ];have an:0<a5.size:=(bg.1 a6).1;have O:=al.wk (gs':=(a5.map (woken P (G ⟨f,U,td1,[],.returning,.normal,none⟩ (fL fn B (.inRegion ops (i::rest)::k)::Y)) (G (fL fn (eN o.dst B v') (.inRegion ops rest::k)) Y) w₁)).setIfInBounds 0 (G (fL fn (eN o.dst B v') (.inRegion ops rest::k)) Y)) (fn:=(G (⟨f,U,td1,[],.returning,.normal,none⟩:Frame) (fL fn B (.inRegion ops (i::rest)::k)::Y)).frame.fn) (pos:=(G (⟨f,U,td1,[],.returning,.normal,none⟩:Frame) (fL fn B (.inRegion ops (i::rest)::k)::Y)).frame.place) (es:=bw P f es₁) e2 e6 (λe he=>e7 e (bN he)) e4 (by simp) (gz _);have av:∀i,(aq i).sum=none:=λi=>(aO i).trans ((hK i).trans (hn i));have hold:=O.old av hR.TF;have ad:WR m0 wl w₁:=af.rely (λr b hb=>hold b (af.lt hb).2) O.sz O.os.1;have ab:=aI.le e2 e6;have calm:∀m' wl',WR m' wl' w₁->(∀r b,m'.blk r=some b->E.fx b->m'.loose r)->Co P E.fx E.w0 (λ_=>False) (λi=>Fy (aq i)) m' wl' _ w₁ _:=λm' wl' hw hf=>O.M9 av hw (λb hb=>⟨bS (W b hb).1 O.sz,(hold b (W b hb).1).trans (W b hb).2⟩) hf (bU az O.sz) ⟨O.os.1.trans aj.1,O.os.2.trans aj.2⟩ ap
  have ml:∀m',QL m' (λi=>Fy (aq i)) (λ_=>False) []:=λm'=>by
   refine⟨λr vs hr=>(by cases hr),λj J n hj=>?_,λr hr=>(by cases hr)⟩;obtain⟨q,e⟩:=uP (av j);rw[e]at hj;cases hj
  rcases au with⟨l,cp,rfl,aP⟩|⟨b1,off,spot,l,cp,cs,ty,fz,rfl,aQ,aw,ac,aR⟩
  .cases e3 with
   |fl=>
    exact aG l cp aP m0 _ _ _ _ ar _ _ _ ak (calm m0 wl ad ay) (ml m0) (.cons (o:=⟨fn,eN o.dst tm (.slice none l cp),.inRegion ops rest::k⟩) (ht.eN o.dst (.fl l cp)) a0) (by simp[an])
  .cases e3 with
   |@slice _ a' _ _ ha=>
    cases ha with
    |@mk _ b' _ _ ax=>
     obtain⟨o1,o2,g1,g2,g3⟩:=e4.obj b1 b' ax;have ao:(tp aa (along aa (w2.at d2))).heap[b1]?=some (.cells cs ty fz):=aQ;rw[ao]at g1;cases g1
     cases g3 with
     |@cells _ cs' _ _ aB aS=>
      have aT:=Hf aS aw;subst aT;have aU:aB=fz:=e4.fz b1 b' _ _ _ _ _ _ ax ao g2 (ac dx ab);subst aU;have aE:E₂.w0.heap.size<=b':=O.fresh hR.TF ax (ac dx ab)
      have ae:∀s,m0.blk s≠some b':=λs hs=>by
       have:=(af.lt hs).2;omega
      have hG:wl.heap.size<m0.G↔b'<m0.G:=by
       have h1:=af.LX;have h2:=af.Jd;constructor<;>intro x<;>omega
      have aV:=ad.Mq ae hG g2 aw;have aC:=Ren.uV ad.gE ae hG
      have aW:∀r b,(m0.ext wl.heap.size b' ad.gE ae hG).blk r=some b->E.fx b->(m0.ext wl.heap.size b' ad.gE ae hG).loose r:=λr b hr hF=>by
       by_cases e:r=wl.heap.size
       .subst e;simp[Ren.ext]at hr;have:=(W b hF).1;omega
       .have aX:=by simpa[Ren.ext,e]using hr
        have:=ay r b aX hF;simpa[Ren.ext,e]using this
      have aD:(m0.ext _ b' ad.gE ae hG).blk wl.heap.size=some b':=by simp[Ren.ext]
      exact aH off spot l cp cs' ty aB aR aw _ _ _ _ _ ar _ _ _ (ak.Mq _ ae hG) (calm _ _ aV aW) (ml _) (.cons (o:=⟨fn,eN _ tm _,.inRegion ops rest::k⟩) ((ht.mono aC).eN _ (.slice l cp (.mk aD))) (a0.mono aC)) (by simp[an])
theorem dl.phase{i:Nat}{rest:List Nat}{o:Oper}{gH:Func}{c:Code}{arq:Array Operand}{ts:Array bt}
  (ad:∀b,b<E.w0.heap.size->E.fx b\/E.w0.heap[b]?=some oF) (hi:ops[i]?=some o) (ar:b6 o (bp ops tm)=true) (hf:P.funcs[f]?=some gH) (hb:gH.body=some c) (hn:gH.name≠ "runtime.NumGoroutine") (ho:o.op=.call {callee:=.value (.func f),args:=arq,argTypes:=ts}) (au:∀x∈arq.toList,dN E.fq E.gl x)
  (hph:∀m w ah T,Rg E m->WR m wl w->ed m (arq.map (iI tm)) ah->(∀ps,T=[ps]->ps.mode≠.panicking [bv])->∃(O:Env P)(tm1:Array Value)(m1:Ren)(W:World),O.Z=E.Z/\O.T=T/\O.w0=w/\(∀b,O.fx b↔b<w.heap.size)/\Rg O m1/\WR m1 W w/\(∀r b,m1.blk r=some b->m1.loose r)/\ed m1 tm1 (ah++bh (gH.ntmps-arq.size) ca)/\
    ((∀(E₂:Env P)ae Y af,E₂.Z=E.Z->E₂.T=T->E₂.w0=w->(Y=[]\/∃k2,Y=.code .ret::k2)->B8 P E₂ gH ae af R0 R1->dl E₂ [⟨f,ae,Y⟩] af [])->dl O [⟨f,tm1,[.code c]⟩] W []))
  (av:∀l cp,R0 l cp->dl E (⟨fn,eN o.dst tm (.slice none l cp),.inRegion ops rest::k⟩::os) wl [])
  (aw:∀off spot l cp cs e f,R1 off spot l cp cs e f->(∀v∈cs.toList,Flat v)->dl E (⟨fn,eN o.dst tm (.slice (some ⟨wl.heap.size,off,spot⟩) l cp),.inRegion ops rest::k⟩::os) {wl with heap:=wl.heap.push (.cells cs e f)} []) :
  dl E (⟨fn,tm,.inRegion ops (i::rest)::k⟩::os) wl []:=by
 intro m Pd ρ gs w sl t fr' cs' aa ax ay ac h0
 have az:∀i,(ρ i).sum=none:=by
  intro i
  cases e:(ρ i).sum with
  |none=>rfl
  |some x=>
   obtain⟨r,vs,hx,_⟩:=ay.only i x.1 x.2 e;cases hx
 refine turn (Z:=E.Z) (a:=G fr' cs') (K:=λj=>(ρ j).sum) (N:=gs.size) rfl ?_ ρ gs w sl t ax (λ_=>rfl) h0 rfl;intro ρ' gs' w' aD ai d t' U hK aj hN;have a0:=ac
 cases ac with
 |@cons _ _ B l ht a3=>
  have hy:b6 o (bp ops B)=true:=by rw[show bp ops B=bp ops tm from funext (lK ops ht)]; exact ar
  have a4:=lI (P:=P) (fn:=fn) (k:=k) (rest:=rest) (cs':=cs') (w:=w'.at d) hi hy;have ak:=F6 P hf hb hn (iI B) rfl ho (w'.at d);have ha:ed m (arq.map (iI tm)) (arq.map (iI B)):=jT (fq:=m.fq) (gl:=E.gl) (λx hx=>Jc ht aa.pg.nZ x hx) (λx hx=>by rw[aa.fq]; exact au x hx)
  have a5:bF P true (fL fn B (.inRegion ops (i::rest)::k)) cs' none (bs (iI B) o) (w'.at d)=.go (G (fL f (arq.map (iI B)++bh (gH.ntmps-arq.size) ca) [.code c]) (fL fn B (.inRegion ops (i::rest)::k)::cs')) (w'.at d) #[]:=by
   unfold bF;simp only[if_true,ak];simp[bV,G,fL,bY,hf,hb,bw]
  have a6:=bK (P:=P) (sl:=ai) (i:=0) aj (show bq P (0==0) _ (w'.at d)=_ from a4.trans a5);rw[a6];refine E.Z.next _ _ _ _ ?_;have a7:0<gs'.size:=(bg.1 aj).1
  have ag:∀ps,(fL fn B (.inRegion ops (i::rest)::k)::cs')=[ps]->ps.mode≠.panicking [bv]:=by
   rintro ps e;cases e;simp[fL]
  obtain⟨O,tm1,m1,W,a8,a9,ab,al,a',am,aA,aB,an⟩:=hph m (w'.at d) (arq.map (iI B)) (fL fn B (.inRegion ops (i::rest)::k)::cs') aa U.main ha ag;have ao:∀i,(ρ' i).sum=none:=λi=>(hK i).trans (az i);have ap:=U.wk (gs':=(gs'.map (woken P (G (fL fn B (.inRegion ops (i::rest)::k)) cs') (G (fL f (arq.map (iI B)++bh (gH.ntmps-arq.size) ca) [.code c]) (fL fn B (.inRegion ops (i::rest)::k)::cs')) _)).setIfInBounds 0 _) (fn:=(G (fL fn B (.inRegion ops (i::rest)::k)) cs').frame.fn) (pos:=(G (fL fn B (.inRegion ops (i::rest)::k)) cs').frame.place) (es:=#[]) (.refl m) (.refl m _) (by simp) U.main (by simp) (gz _);have aq:Co P _ O.w0 _ _ m1 W _ _ _:=ap.M9 ao am (λb hb=>by rw[ab]; exact⟨(al b).1 hb,rfl⟩) (λr b hr _=>aA r b hr) (by rw[ab]; exact bT _) (by rw[ab]; exact⟨rfl,rfl⟩) (λb hb=>.inl ((al b).2 (by rw[ab]at hb; exact hb)));rw[<-a8];refine an ?_ m1 _ _ _ _ ai _ _ _ a' aq ⟨λr vs hr=>(by cases hr),λj J n hj=>?_,λr hr=>(by cases hr)⟩ (.cons (o:=⟨f,tm1,[.code c]⟩) aB (by rw[a9]; exact .nil)) (by simp[a7])
  .intro E₂ ae Y af z2 T2 W2 aC hR;exact KO ad (λb hb=>by rw[W2]; exact U.fix b hb) U.f0 (by rw[W2]; exact U.sz) (by rw[W2]; exact U.os) z2 T2 aa (by rw[W2]; exact U.main) ht a3 hf hi aC hR av aw
  .obtain⟨q,e⟩:=uP (ao j);rw[e]at hj;cases hj
end
end
section
open Go.Conc
variable {T:Tables} {d:TypeDesc} {t:bt} {info:bt->Option TypeInfo} {i:TypeInfo} {v:Value}
def ME:Value->Bool
 |.bool _|.int _ _|.string _|.pointer none|.slice none _ _|.map none|.chan none|.nilFunc|.nilIface=>true
 |_=>false
theorem BW(h:ME v=true):Plain v:=by
 unfold ME at h;split at h<;>first|trivial|cases h
def QC(fq gl:Nat->Bool):Operand->Bool
 |.tmp _=>true
 |.const v=>ME v
 |.global g=>gl g
 |.func f=>fq f
theorem M4{fq gl:Nat->Bool}{x:Operand}(h:QC fq gl x=true):dN (λf=>fq f=true) (λg=>gl g=true) x:=by
 cases x with
 |tmp t=>trivial
 |const v=>exact BW h
 |global g=>exact h
 |func f=>exact h
def Ec:Operand->Bool
 |.tmp _=>true
 |.const v=>ME v
 |_=>false
def Mr(P:Program)(st:Bool)(B:Array bt)(n:Nat):Builtin->Bool
 |.append|.clear|.copy|.max|.min|.recover=>true
 |.cap|.len=>(B[0]?).all (rl P)
 |.unsafeString=>st&&n==2
 |_=>false
def Rx(P:Program)(st:Bool)(t:bt):Bool:=match P.underlying t with
 |some (.map k _)=>qf P 10000 k&&(st || nE P Op.maxDepth k)
 |_=>true
def Tq(P:Program)(st:Bool)(t:bt)(y:Operand):Bool:=st || nE P Op.maxDepth t || (isNil y&&match P.underlying t with|some (.pointer _)|some (.interface _)|none=>true|_=>false)
def Du(P:Program)(fq gl:Nat->Bool)(st:Bool)(op:Op):Bool:=
 op.operands.all (QC fq gl)&&match op with
 |.move _|.assign _|.pick ..|.alloc _|.box ..|.build ..|.buildSlice ..|.load ..|.store ..|.nilCheck _|.unOp ..|.makeInterface ..|.makeMap ..|.makeSlice ..|.slice ..|.fieldAddr ..|.field ..
 |.indexAddr ..|.index ..|.entryStore ..|.range ..|.next ..|.entry _|.extract ..|.panic _|.send .. => true
 |.binOp o t _ y _=>(match o with|.eql|.neq=>Tq P st t y|_=>true)
 |.convert s d _=>CP P s d
 |.makeFunc (.func f) _ _=>fq f
 |.lookup t ..|.mapUpdate t ..|.mapEntry t .. => Rx P st t
 |.typeAssert _ _ _ ok=>ok
 |.call c=>(match c.callee with
  |.value _=>true
  |.builtin b=>Mr P st c.argTypes c.args.size b
  |.invoke .. => false)
 |.defer c=>(match c.callee with
  |.value _=>true
  |_=>false)
 |_=>false
def jq(ok:Oper->Bool):Code->Bool
 |.skip|.exit _|.label _|.goto _|.ret=>true
 |.region _ ops _=>ops.all ok
 |.seq a b=>jq ok a&&jq ok b
 |.cond c a b=>Ec c&&jq ok a&&jq ok b
 |.block _ c|.loop c|.scope c=>jq ok c
 |.rangeFunc f _ a b=>Ec f&&jq ok a&&jq ok b
 |.refuse _=>false
section
variable {P:Program} {fq gl:Nat->Bool} {st:Bool}
theorem Px(h:Rx P st t=true):MK P st t:=by
 intro k e B;unfold Rx at h;rw[B]at h;simp only[bH,bI]at h;exact h
theorem R8{y:Operand}(h:Tq P st t y=true):Sg P st t y:=by
 unfold Tq at h;simp only[bI,bH]at h;rcases h with(h|h)|⟨O,B⟩
 .exact .inl h
 .exact .inr (.inl h)
 .refine .inr (.inr ⟨O,λd U=>?_⟩);rw[U]at B;cases d<;>first|exact .inl ⟨_,rfl⟩|exact .inr ⟨_,rfl⟩|cases B
theorem ui{op:Op}(h:Du P fq gl st op=true):OkOp P (λf=>fq f=true) (λg=>gl g=true) st op:=by
 unfold Du at h;rw[bH]at h;obtain⟨U,B⟩:=h;refine⟨λx W=>M4 ?_,?_⟩
 .rw[bi]at U;rw[bj]at W;obtain⟨i,hi,rfl⟩:=bl.1 W;exact U i hi
 .cases op with
  |binOp o t x y s=>
   rintro(rfl|rfl)<;>exact R8 B
  |convert s d x=>exact B
  |makeFunc f a b=>cases f<;>first|exact B|cases B
  |lookup|mapUpdate|mapEntry=>exact Px B
  |typeAssert=>exact B
  |call c=>
   obtain⟨ce,arq,ts⟩:=c
   cases ce with
   |value x=>trivial
   |invoke=>cases B
   |builtin b=>
    refine⟨?_,by rintro rfl; cases B⟩;cases b<;>first|trivial|cases B|skip
    .intro t O;have B:(ts[0]?).all _=true:=B;rw[O]at B;exact B
    .intro t O;have B:(ts[0]?).all _=true:=B;rw[O]at B;exact B
    .have B:(st&&arq.size==2)=true:=B;show st=true/\arq.size=2;simpa using B
  |defer c=>
   obtain⟨ce,arq,ts⟩:=c;cases ce<;>first|trivial|cases B
  |_=>first|trivial|cases B
theorem mU{ok:Oper->Bool}:∀{c:Code},jq ok c=true->fD (λo=>ok o=true) c:=by
 have B:∀{x:Operand},Ec x=true->uE x:=fun {x} h=>by
  cases x with
  |tmp t=>trivial
  |const v=>exact BW h
  |global g=>cases h
  |func f=>cases h
 intro c
 induction c with
 |skip|exit|label|goto|ret=>intro _; trivial
 |region i ops d=>
  intro h o Y;have h:ops.all ok=true:=h;rw[bi]at h;rw[bj]at Y;obtain⟨i,hi,rfl⟩:=bl.1 Y;exact h i hi
 |seq a b O U=>
  intro h;have h:(jq ok a&&jq ok b)=true:=h;rw[bH]at h;exact⟨O h.1,U h.2⟩
 |cond x a b O U=>
  intro h;have h:(Ec x&&jq ok a&&jq ok b)=true:=h;simp only[bH]at h;exact⟨B h.1.1,O h.1.2,U h.2⟩
 |block i c W=>exact λh=>W h
 |loop c W=>exact λh=>W h
 |scope c W=>exact λh=>W h
 |rangeFunc f ps a b O U=>
  intro h;have h:(Ec f&&jq ok a&&jq ok b)=true:=h;simp only[bH]at h;exact⟨B h.1.1,O h.1.2,U h.2⟩
 |refuse=>intro h; cases h
end
def Ge:Nat->Value->Bool
 |0,_=>false
 |n+1,v=>match v with
  |.agg c=>c.all (Ge n)
  |.tuple c=>c.all (Ge n)
  |v=>ME v
theorem yn:∀{n:Nat}{v:Value},Ge n v=true->∀m,VR m v v
 |n+1,v,h,m=>by
  unfold Ge at h;split at h
  .rw[bi]at h;exact .agg rfl λi hi _=>yn (h i hi) m
  .rw[bi]at h;exact .tuple rfl λi hi _=>yn (h i hi) m
  .exact VR.plain (BW h)
theorem BF{W B:Type}{I:B->Prop}{f:W->B->Option (ForInStep B)}(Y:∀a s r,f a s=some r->I s->∃s',(r=.yield s'\/r=.done s')/\I s'):∀(l:List W){s s':B},I s->forIn l s f=some s'->I s'
 |[],s,s',h,e=>by simp at e; exact e▸h
 |a::l,s,s',h,e=>by
  rw[List.forIn_cons]at e
  cases O:f a s with
  |none=>rw[O]at e; cases e
  |some r=>
   rw[O]at e
   obtain⟨s1,U|U,h2⟩:=Y a s r O h
   .subst U; exact BF Y l h2 e
   .subst U;have:=e;cases this;exact h2
def lB(v:Value):Prop:=∀m,VR m v v
theorem lB.cells(h:lB v):∀x∈v.cells.toList,lB x:=by
 intro x B m;have O:=(h m).cells;rw[bj]at B;obtain⟨i,hi,rfl⟩:=bl.1 B;exact O.idx i hi hi
theorem lB.agg{c:Array Value}(h:∀x∈c.toList,lB x):lB (.agg c):=λm=>.agg rfl λi hi _=>h _ (by simp) m
theorem sV(ab:∀t i v,info t=some i->i.zero=some v->lB v){fs:Array Field}(h:b4 info fs=some i)(hv:i.zero=some v):lB v:=by
 unfold b4 at h;simp only[a2,a1]at h;obtain⟨st,U,O⟩:=h;rw[<-Array.forIn_toList]at U
 have hI:=BF (I:=λs:Array Field×Nat×Nat×Nat×Nat×Bool×Bool×Option (Array Value)×String=>∀zs,s.2.2.2.2.2.2.2.1=some zs->∀x∈zs.toList,lB x) (λa s r W hs=>by
  cases hi:info a.type with
  |none=>rw[hi]at W; cases W
  |some j=>
   have Y:∀zs,(s.2.2.2.2.2.2.2.1.bind λz1=>j.zero.bind λz2=>pure (z1++z2.cells))=some zs->∀x∈zs.toList,lB x:=by
    intro zs B;rw[a1]at B;obtain⟨z1,e1,B⟩:=B;rw[a1]at B;obtain⟨z2,e2,B⟩:=B;cases B;intro x hx;rw[Array.toList_append,List.mem_append]at hx;exact hx.elim (hs z1 e1 x) ((ab a.type j z2 hi e2).cells x)
   have aa:∀zs,(none:Option (Array Value))=some zs->∀x∈zs.toList,lB x:=λzs B=>by cases B
   have key:∀zs,(if s.2.1+j.size > Made.mostCells then none else s.2.2.2.2.2.2.2.1.bind λz1=>j.zero.bind λz2=>pure (z1++z2.cells))=some zs->∀x∈zs.toList,lB x:=by
    intro zs B;split at B
    .cases B
    .exact Y zs B
   rw[hi]at W;simp only[bc]at W
   repeat' split at W
   all_goals first
    |(cases W; done)
    |(simp only[a1]at W
      obtain⟨tg,_,W⟩:=W
      cases W
      first|exact⟨_,.inl rfl,aa⟩|exact⟨_,.inl rfl,Y⟩|exact⟨_,.inl rfl,key⟩)
    |(cases W; first|exact⟨_,.inl rfl,aa⟩|exact⟨_,.inl rfl,Y⟩|exact⟨_,.inl rfl,key⟩)) fs.toList (s:=(#[],0,0,1,0,false,true,some #[],"struct {")) (by
   intro zs B x hx;cases B
   simp at hx) U
 have B:∃zs,st.2.2.2.2.2.2.2.1=some zs/\v=.agg zs:=by
  split at O
  .cases O;simp only[bd]at hv;obtain⟨zs,h1,h2⟩:=hv;exact⟨zs,h1,h2.symm⟩
  .cases O;simp only[bd]at hv;obtain⟨zs,h1,h2⟩:=hv;exact⟨zs,h1,h2.symm⟩
 obtain⟨zs,h1,rfl⟩:=B;exact .agg (hI zs h1)
theorem Gk(U:∀t i v,info t=some i->i.zero=some v->lB v)(h:b3 info d=some i)(O:i.zero=some v):lB v:=by
 have B:∀(d:TypeDesc)(s:String)(z:Value)(c:Bool)(n:Nat),(Made.word d s z c n).zero=some v->Plain z->lB v:=by
  intro d s z c n e Y;cases e;exact λm=>VR.plain Y
 cases d with
 |struct fs=>exact sV U h O
 |pointer e=>
  simp only[b3,a2,a1]at h;obtain⟨j,_,h⟩:=h;split at h
  .cases h
  .split at h
   .cases h
   .simp only[a1]at h;obtain⟨s,_,h⟩:=h;cases h;exact B _ _ _ _ _ O trivial
  .simp only[a1]at h;obtain⟨s,_,h⟩:=h;cases h;exact B _ _ _ _ _ O trivial
 |slice e=>
  simp only[b3,a2,a1]at h;obtain⟨_,_,_,_,h⟩:=h;cases h;exact B _ _ _ _ _ O trivial
 |map k e=>
  simp only[b3,a2,a1]at h;obtain⟨_,_,_,_,_,_,_,_,h⟩:=h;cases h;exact B _ _ _ _ _ O trivial
 |chan dr e=>
  simp only[b3,a2,a1]at h;obtain⟨_,_,_,_,h⟩:=h;cases h;exact B _ _ _ _ _ O trivial
 |func ps rs b=>
  simp only[b3,a2,a1]at h;obtain⟨_,_,h⟩:=h;cases h;exact B _ _ _ _ _ O trivial
 |array n e=>
  simp only[b3,a2,a1]at h;obtain⟨j,hj,_,_,h⟩:=h;cases h;split at O
  .cases O
  .split at O
   .cases O;exact .agg (by simp)
   .rw[bd]at O;obtain⟨z,h1,rfl⟩:=O;refine .agg λx W=>?_;have Y:=(U e j z hj h1).cells;simp only[bj,Array.mem_flatten,Array.mem_replicate]at W;obtain⟨xs,⟨_,rfl⟩,W⟩:=W;exact Y x (bj.2 W)
 |_=>cases h
theorem vv(B:∀(t:Nat)(i:TypeInfo)v,T.types[t]?=some i->i.zero=some v->lB v):∀(f:Nat)t i v,b5 T f t=some i->i.zero=some v->lB v
 |0,_,_,_,h,_=>by cases h
 |f+1,t,i,v,h,O=>by
  unfold b5 at h
  split at h
  .exact B t i v h O
  .rw[a1]at h
   obtain⟨d,_,h⟩:=h
   exact Gk (vv B f) h O
theorem xJ(h:b3 info d=some i):i.methods=#[]:=by
 cases d with
 |struct O=>
  have h:b4 info O=some i:=h;unfold b4 at h;simp only[a2,a1]at h;obtain⟨st,B,h⟩:=h;split at h <;>(cases h; rfl)
 |pointer e=>
  simp only[b3,a2,a1]at h;obtain⟨j,_,h⟩:=h;split at h
  .cases h
  .split at h
   .cases h
   .simp only[a1]at h;obtain⟨s,_,h⟩:=h;cases h;rfl
  .simp only[a1]at h;obtain⟨s,_,h⟩:=h;cases h;rfl
 |slice e=>
  simp only[b3,a2,a1]at h;obtain⟨_,_,_,_,h⟩:=h;cases h;rfl
 |map k e=>
  simp only[b3,a2,a1]at h;obtain⟨_,_,_,_,_,_,_,_,h⟩:=h;cases h;rfl
 |chan U e=>
  simp only[b3,a2,a1]at h;obtain⟨_,_,_,_,h⟩:=h;cases h;rfl
 |func ps rs b=>
  simp only[b3,a2,a1]at h;obtain⟨_,_,h⟩:=h;cases h;rfl
 |array n e=>
  simp only[b3,a2,a1]at h;obtain⟨j,W,_,_,h⟩:=h;cases h;rfl
 |_=>cases h
theorem Ip(B:∀(t:Nat)(i:TypeInfo),T.types[t]?=some i->i.methods.find? (·.name == "")=none):∀(f:Nat)t i,b5 T f t=some i->i.methods.find? (·.name == "")=none
 |0,_,_,h=>by cases h
 |f+1,t,i,h=>by
  unfold b5 at h
  split at h
  .exact B t i h
  .rw[a1]at h
   obtain⟨d,_,h⟩:=h
   rw[xJ h];rfl
end
section
open Go.Conc
theorem sN(p:Nat)(a:Touch):touchAt #[] p≠some a:=by simp[touchAt,bx.act?]
theorem Hd{P:Program}{E:Env P}{Post:Value->World->Prop}{f:br}{gH:Func}{c:Code}{args B:Array Value}{W wl:World}{m:Ren}(hZ:E.Z=ending P Post)(U:∀b,E.fx b->b<W.heap.size/\W.heap[b]?=E.w0.heap[b]?)(aa:∀r b,m.blk r=some b->E.fx b->m.loose r)(Y:∀b,b<E.w0.heap.size->E.fx b\/E.w0.heap[b]?=some oF)(ab:E.w0.heap.size<=W.heap.size)(ac:W.os=E.w0.os/\W.output=E.w0.output)(hT:E.T=[])(hf:P.funcs[f]?=some gH)(hb:gH.body=some c)(ad:Rg E m)(hw:WR m wl W)(O:ed m B args)
  (h:dl E [⟨f,B++bh (gH.ntmps-B.size) ca,[.code c]⟩] wl []):tf P Post (solo (G (bY P f args .normal) []) W) #[]:=by
 have hE:bY P f args .normal=fL f (args++bh (gH.ntmps-args.size) ca) [.code c]:=by simp[bY,fL,hf,hb]
 have ae:Co P E.fx E.w0 (λ_=>False) (λ_=>.quit 0) m wl #[G (bY P f args .normal) []] W #[]:=by
  refine⟨hw,λi g hi hg=>?_,λ_ _=>rfl,λi m' hm=>(by cases hm),λi j m1 m2 _ hm _=>(by cases hm),λi j J1 J2 _ hJ _=>(by cases hJ),λp a b r O=>absurd O (sN p a),λi m' hm=>(by cases hm),λi J hJ=>(by cases hJ),λp a b O=>absurd O (sN p a),λop af=>(by simp at af),λp a O=>absurd O (sN p a),past_nil.clean,U,aa,λi m' hm=>(by cases hm),λi J hJ=>(by cases hJ),ab,ac,λp a b O=>absurd O (sN p a),nofun,λb hb=>(Y b hb).imp id .inr⟩;have:=by simpa using(bg.1 hg).1
  omega
 have:=h m _ _ _ W none _ _ [] ad ae ⟨λr vs hr=>(by cases hr),λi J n hi=>(by cases hi),λr hr=>(by cases hr)⟩ (by rw[hE,hT]; exact .cons (o:=⟨f,B++bh _ ca,[.code c]⟩) (by rw[<-O.size]; exact O.append (.replicate _ (.undef m))) .nil) rfl;rw[hZ]at this;exact this
end
section
open Go.Conc
variable {st:Bool} {f n:Nat} {fq gl:Nat->Bool} {P:Program} {m:Ren}
def MN(M:Nat)(n:Nat):Bool:=M.testBit n
def R2(P:Program)(fq gl:Nat->Bool)(st:Bool)(f:Nat):Bool:=match P.funcs[f]? with
 |some fn=>fn.name != "runtime.NumGoroutine" && (match fn.body with
  |some c=>jq (λo=>Du P fq gl st o.op) c
  |none=>false)
 |none=>false
def NA(P:Program)(fq gl:Nat->Bool)(st:Bool):Oper->Prop:=λo=>Du P fq gl st o.op=true
theorem PY(h:R2 P fq gl st f=true)(hm:m.ok=NA P fq gl st):nd P m f:=by
 unfold R2 at h
 cases O:P.funcs[f]? with
 |none=>rw[O]at h; cases h
 |some fn=>
  rw[O]at h;simp only[bH]at h;obtain⟨U,B⟩:=h;refine⟨fn,O,by simpa using U,?_⟩
  cases hb:fn.body with
  |none=>rw[hb]at B; cases B
  |some c=>
   rw[hb]at B;exact .inl ⟨c,rfl,by rw[hm]; exact mU B⟩
def Oy(P:Program)(fq gl:Nat->Bool)(st:Bool)(ex:Nat->Bool)(n:Nat):Bool:=(bE n).all λf=>!fq f || ex f || R2 P fq gl st f
theorem Dl{ex:Nat->Bool}(h:Oy P fq gl st ex n=true)(U:∀f,fq f=true->f<n)(hm:m.ok=NA P fq gl st)(B:∀f,ex f=true->fq f=true->nd P m f):∀f,fq f=true->nd P m f:=by
 intro f O;unfold Oy at h;rw[List.all_eq_true]at h;have:=h f (by simpa using U f O);simp only[O,Bool.not_true,Bool.false_or,bI]at this;rcases this with x|x
 .exact B f x O
 .exact PY x hm
def Q5(P:Program):Bool:=P.toTables.types.all λi=>match i.zero with
 |some v=>Ge 40 v
 |none=>true
def QE(P:Program):Bool:=P.toTables.types.all λi=>(i.methods.find? (·.name == "")).isNone
theorem Nw(h:Q5 P=true)(hmb:QE P=true):lV P:=by
 have U:∀(t:Nat)(i:TypeInfo)v,P.toTables.types[t]?=some i->i.zero=some v->lB v:=by
  intro t i v ht O m;unfold Q5 at h;rw[bi]at h;obtain⟨B,rfl⟩:=bg.1 ht;have:=h t B;rw[O]at this;exact yn this m
 have W:∀(t:Nat)(i:TypeInfo),P.toTables.types[t]?=some i->i.methods.find? (·.name == "")=none:=by
  intro t i ht;unfold QE at hmb;rw[bi]at hmb;obtain⟨B,rfl⟩:=bg.1 ht;simpa using hmb t B
 refine⟨λt i v ht O m=>?_,λt i ht=>?_⟩
 .have ht:P.toTables.info? t=some i:=ht;unfold Tables.info? at ht;split at ht
  .exact U t i v ht O m
  .exact vv U _ t i v ht O m
 .have ht:P.toTables.info? t=some i:=ht;unfold Tables.info? at ht;split at ht
  .exact W t i ht
  .exact Ip W _ t i ht
def SA:Nat:=16296291696013673141605707346198838935449560434141168097322037386652118454261163305065086976
def QA:Nat:=1001570083691504317195401104025185627287091139835923004101470451620903362718842486784
def TA:Nat:=7237005590390986380874373471172107595023005440485116358029236060886847717376
def se:Nat->Bool:=MN SA
def sW:Nat->Bool:=MN QA
def LZ:Nat->Bool:=MN TA
def qm(g:Nat):Bool:=g==0 || g==2 || g==3 || g==4
def CQ(_:Nat):Bool:=false
theorem Ny:lV prog:=Nw (by kernel_rfl) (by kernel_rfl)
theorem Rr:Oy prog se qm true (λf=>f==100 || f==232) 304=true:=by kernel_rfl
theorem sendAll:Oy prog sW CQ false (λ_=>false) 304=true:=by kernel_rfl
theorem SE:Oy prog LZ CQ false (λ_=>false) 304=true:=by kernel_rfl
theorem follows:prog.follows .rangeFuncRecover=true:=by kernel_rfl
theorem vz:prog.globals.size=5:=by kernel_rfl
theorem rW{M:Nat}(B:M >>> n=0)(h:M.testBit f=true):f<n:=by
 apply bW;intro O;have e:(M >>> n).testBit (f-n)=M.testBit f:=by rw[Nat.testBit_shiftRight,Nat.add_sub_of_le (Nat.le_of_not_lt O)]
 rw[B,h,Nat.zero_testBit]at e;cases e
theorem RL(f:Nat)(h:se f=true):f<304:=rW (M:=SA) (by kernel_rfl) h
theorem Qi(f:Nat)(h:sW f=true):f<304:=rW (M:=QA) (by kernel_rfl) h
theorem SD(f:Nat)(h:LZ f=true):f<304:=rW (M:=TA) (by kernel_rfl) h
end
section
open Go.Conc
theorem CE{P:Program}{fq gl:Nat->Bool}{st:Bool}{m:Ren}(B:m.ok=NA P fq gl st)(O:m.fq=λf=>fq f=true)(Y:tH P m)(U:st=true->gC m)(hg:∀g,gl g=true->m.blk g=some g):l5 P m (λg=>gl g=true) st:=
 ⟨Y,U,λh=>h.elim,hg,λo W=>by rw[B]at W; rw[O]; exact ui W⟩
theorem Kz:Extern.findNext f100=none:=by kernel_rfl
theorem JS:Extern.findNext f232=none:=by kernel_rfl
theorem JZ:Extern.find f100=some (Extern.SlicesOverlaps.overlaps f100.params f100.resultTypes):=by kernel_rfl
theorem LK:Extern.find f232=some Extern.BytealgCompare.compare:=by kernel_rfl
section
variable {m:Ren}
theorem call100(B:gC m):nd prog m 100:=
 ⟨f100,by kernel_rfl,by simp[f100],.inr ⟨by kernel_rfl,Kz,_,JZ,λm' a W O U=>Hi (B.mono O) U⟩⟩
theorem call232:nd prog m 232:=
 ⟨f232,by kernel_rfl,by simp[f232],.inr ⟨by kernel_rfl,JS,_,LK,λm' a O U B=>Ks B⟩⟩
theorem R6(B:m.ok=NA prog se qm true)(O:m.fq=λf=>se f=true)(hG:m.G=5)(U:gC m)(hg:∀g,qm g=true->m.blk g=some g):l5 prog m (λg=>qm g=true) true:=
 CE B O ⟨Ny,by rw[hG,vz],λf W=>by
  rw[O]at W;refine Dl Rr RL B (λf Y _=>?_) f W;simp only[bI,beq_iff_eq]at Y;rcases Y with rfl|rfl
  .exact call100 U
  .exact call232,follows⟩ (λ_=>U) hg
theorem Pk(B:m.ok=NA prog sW CQ false)(O:m.fq=λf=>sW f=true)(W:m.G=5):l5 prog m (λg=>CQ g=true) false:=
 CE B O ⟨Ny,by rw[W,vz],λf U=>by
  rw[O]at U
  exact Dl sendAll Qi B (λf Y _=>by cases Y) f U,follows⟩ (λh=>by cases h) (λg hg=>by cases hg)
theorem Sn(B:m.ok=NA prog LZ CQ false)(O:m.fq=λf=>LZ f=true)(W:m.G=5):l5 prog m (λg=>CQ g=true) false:=
 CE B O ⟨Ny,by rw[W,vz],λf U=>by
  rw[O]at U
  exact Dl SE SD B (λf Y _=>by cases Y) f U,follows⟩ (λh=>by cases h) (λg hg=>by cases hg)
end
end
end Go.Proofs.YtocbogeoffeolaaGreatDoor
