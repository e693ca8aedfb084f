import Derived.Shelf.SlIter.Sorted
import Derived.Shelf.Strconv.Itoa3
import Derived.Test.YtocbogeoffeolaaGreatDoorAllAC
import Derived.Test.YtocbogeoffeolaaGreatDoorChecked
set_option linter.all false
set_option maxHeartbeats 8000000
set_option maxRecDepth 1000000
open List renaming range->b6,append_of_mem->bJ,find?_cons->bT,replicate->bV,replicate_succ->bX,size_toArray->bZ,mem_toArray->ca,all_cons->ck,find?_eq_none->c8,find?_append->cB,ext_getElem?->cC,ext_getElem->cE,map_set->cG,map_id->cI
open Array renaming replicate->cK,all_eq_true->cS,ext_getElem?->cU,getElem?_push->cW,empty_append->cY,mem_iff_getElem->cZ,setIfInBounds_comm->db,getElem?_mapIdx->de,ext->dg
open Option renaming bind_eq_bind->gv,map_eq_some_iff->g9,isNone_some->gB
open Nat renaming le_of_not_lt->j4,testBit_and->ka,lt_trans->kc,mod_lt->kd
open Bool renaming false_and->k6,not_true->k7,false_or->k8,true_or->k9
open Option.some renaming inj->l3
open Classical renaming not_not->n8
open Prod renaming fst->qr,snd->qs
open List.Perm renaming refl->q8,eq_nil->ra,cons_inv->rb
open UInt8 renaming ofNat->rf
open And renaming intro->A?
open Array renaming setIfInBounds->S?
open Bool renaming false->f?,true->t?
open List renaming length->l?,toArray->a?
open Option renaming none->x?,some->y?
namespace Go.Proofs.YtocbogeoffeolaaGreatDoor
open Go renaming yielded->dk,execOp->dl,Calls->dn,stepG->dp,maxLen->dq,TypeId->dw,FuncId->d',wpList->dB,results->dN,seen->dS,goexitEntry->ef,ready_mono->eg,callsIn_wide->ep,unwind->er,madeCells->ey,exitTo->eC,getD_set_ne->fa,wanted_put->fd,keyOf->fi,execOp_put->fm,step_lone_go->ft,bodyPost_ret->fv,doReturn->fB,callFunc->ga,lone->gc,commResult->ge,wpList_make_full->gg,callDeferred->gm,runN->gn
open Region renaming wanted->hO,ready->hQ,binds->hU,schedule->hX,noSelect_spec->hY,free_spec->ip,noSelect->i4,free->i5
open World renaming size_alloc->la,ownsRow->ld,block_lt_of_cell?->lf,cell?_alloc_past->lk,cell?->ln,alloc_eq->lw,alloc->lx
open RowKit.Below renaming refl->l4,setCell->mp,trans->mr,size->mx
open stepG renaming apply->m4,exec->m5,oper->m6
open Made renaming reckon->m9,reckonStruct->nc,infoAt->ne
open Conc renaming runT_crowd_go->nn,mem_ofEvents->nr,mem_seen->nw,rcase->n0,crowd->n3,ofEvents_eq->n4
open Frame renaming enter->nL,finish->nU,oper?->oa,eval->ob,finish_at->od
open Proofs.Tryz renaming underlying26->ol,underlying9->om,underlying179->oo,underlying170->ou,ntmps215->ow,ntmps126->oA,results119->oB,func215->oC,func126->oK,ntmps152->oS,underlying129->oT,func152->pc,f123->pi,f100->pm,f120->pp
open GStep renaming after->pr
open ConcN renaming upd_ne->pt,upd_same->pv
open Region.linearise renaming go->px
open Instr renaming loadAt->rr,entry->rt,next->rv
open MemOp renaming ofEvents->rx
open Value renaming ownBlock->ry,cells->rz
open Result renaming andThen->r4
open Oper renaming wp->r5,apart_spec->r6
open Go.Sort renaming putCells->sa,flatK->sb,size_flatK->sd
open Op renaming bytesLess->si,maxDepth->so
open Go renaming undef->sp
open Go renaming Program->P?,Value->v?,World->w?
open Ending renaming returned->e?
open IntKind renaming i64->i?
open Item renaming inRegion->r?
open Obj renaming cells->c?
open Value renaming int->n?,ownBlock->O?,pointer->p?,string->s?
open World renaming cell?->C?,ownsRow->R?
open Proofs.Tryz
section
open Conc
open ConcN (upd upd_same upd_ne)
variable {f:P?}{g C:Ren}{p I x0:w?}{U x1:F?}
def Co.Ap{ρ Pa gs gs' w w₁ t fn pos es}(h:Co f U I x1 ρ g x0 gs w t)(ab:g.Le C)(hk:gH g C w w₁)(he:∀e∈es,ri C e)(O:WR C Pa w₁)(af:gs'.size=gs.size)
  (ag:∀j x,0<j->gs'[j]?=y? x->∃y,gs[j]?=y? y/\(At f w₁ (t++rx 0 fn pos es) j y (ρ j)->x=y)) :
  Co f U I x1 ρ C Pa gs' w₁ (t++rx 0 fn pos es):=by
 have dj:∀j m',(ρ j).vh=y? m'->rh C m':=λj m' B=>by obtain⟨al,ah⟩:=h.wr B;exact rh.grow (h.4 j m' B) ab hk ah
 have V:∀c cl,im w c cl->w₁.1[c]?=w.1[c]?:=λc cl x=>hk.U6 h.1 x
 have hrel:∀j y,0<j->gs[j]?=y? y->At f w₁ (t++rx 0 fn pos es) j y (ρ j):=by intro j y hj hy;refine(h.2 j y hj hy).rely (λm' B=>hk.leaves (h.4 j m' B) (h.wr B).choose_spec) (λJ hJ=>?_) hk.2 hk.8 λop W hg=>absurd (ofEvents_g W) o!;obtain⟨cl,Y⟩:=h.is hJ;exact V _ cl Y
 have aa:=h.7.grow ab h.10 hk.4;refine⟨O,λj x ae Y=>?_,λj hj=>h.3 j<|by rwa[<-af],dj,h.5,h.6,aa.own,λj m' B=>(h.8 j m' B).other (dj j m'<|fQ.qf B).symm he,λj J hJ p a ha hb=>?_,h.10.own O hk.2 he,E2 h.11 he,h.12.app λop W=>.inr<|.inl<|ofEvents_g W,aa.clean h.13 he,λb hb=>?_,λr b ai hb=>?_,h.ff,h.cx,ZE h.sz hk.2,⟨hk.8.trans h.os.1,hk.7.trans h.os.2⟩,h.kn.app (λj m' r b B Y=>⟨j,m',r,B,Y⟩)<|λop W _ _ _ _ _=>.inl<|ofEvents_g W,h.pd.app (λ_=>rfl) (λc _ ac=>V c _ ac)<|λop W a c ha _ ac hb=>?_,h.22⟩;obtain⟨y,hy,aj⟩:=ag j x ae Y;have:=hrel j y ae hy;rwa[aj this];obtain⟨_,h1⟩|⟨op,h1,_,h3⟩:=eQ ha
 exact h.9 j J hJ p a h1 hb;obtain⟨e,ad,rfl⟩:=nr h1
 have hm:a.1.isMemory=t?:=by cases hl:a.1<;>rw[hl]at hb<;>simp[mU]at hb<;>rfl
 let ⟨b',r',g1,g2,g3⟩:=nX (he e ad) h3 hm;rw[hb]at g1;cases g1;let ⟨cl,s,y,Y⟩:=h.is<|fQ.wX hJ;have:im w₁ _ cl:=⟨s,y,by rwa[V _ cl ⟨s,y,Y⟩]⟩;exact O.Cm this g2;obtain⟨h1,h2⟩:=h.14 b hb;refine⟨AT h1 hk.2,?_⟩;rw[<-h2];by_cases Y:∃r,g.1 r=y? b;obtain⟨r,Y⟩:=Y;exact hk.11 r b Y<|h.f0 r b Y hb;exact hk.1 b h1 λr ak=>Y ⟨r,ak⟩;obtain x|x:=hk.4 r b ai
 exact(ab.3 r b x).2<|h.f0 r b x hb;have:=(h.14 b hb).1;omega;obtain⟨e,ad,rfl⟩:=nr W
 have hm:a.1.isMemory=t?:=by cases hl:a.1<;>rw[hl]at hb<;>simp[mU]at hb<;>rfl
 let ⟨b',r',g1,g2,g3⟩:=nX (he e ad) ha hm;rw[hb]at g1;cases g1;let ⟨s,y,Y⟩:=ac;exact O.Cm ⟨s,y,by rwa[V _ f? ⟨s,y,Y⟩]⟩ g2
def Co.calm{ρ gs w t}(h:Co f U I x1 ρ g x0 gs w t)(B:∀i,(ρ i).sum=x?)(m'):qx t 0 m':=by
 intro p a b r J hb _ _
 have hm:a.1.isMemory=t?:=by cases O:a.1<;>rw[O]at hb<;>simp[mU]at hb<;>rfl
 obtain x|⟨op,_,x⟩:=h.12 p a J hm
 exact x;exact absurd (B _) x
def iH{ρ:Nat->fQ}{B:Array Goroutine}{g g' u}(w₁):∀j x,0<j->(S? (B.map<|woken f g g' w₁) 0 g')[j]?=y? x->∃y,B[j]?=y? y/\(At f w₁ u j y (ρ j)->x=y):=by intro j x U J;rw[Zd o!,Array.getElem?_map]at J;obtain⟨y,O,rfl⟩:=g9.1 J;exact⟨y,O,λh=>h.woken g g'⟩
structure OF where
 fn:d'
 tm:Array v?
 td:List Item
def iw(fn:d')(tm:V?)(td:List Item):Frame:=⟨fn,tm,td,[],.run,.normal,x?⟩
inductive qy(m:Ren)(T:List Frame):List OF->List Frame->Prop
 |nil:qy m T [] T|cons {o os tm' l}:fh m o.2 tm'->qy m T os l->qy m T (o::os) (iw o.1 tm' o.3::l)
def qy.mono{T}(h:g.Le C){os l}(x:qy g T os l):qy C T os l:=by
 induction x with
 |nil=>exact .nil|cons B _ J=>exact .cons (B.mono h) J
structure Env(P:P?) where
 Z:oJ P
 qW:Nat->Prop
 w0:w?
 T:List Frame
 gl:Nat->Prop
 st:Bool
 nu:d'->Prop
 ok:Oper->Prop
 X:Ren->Prop
 le:∀m jU:Ren,m.Le jU->X m->X jU
structure Rg{P:P?}(E:Env P)(m:Ren):Prop where
 ctx:nj P m E.5 E.6
 SN:¬m.6
 yk:∀r r',m.2 r=some r'->m.10 r=some (.chan 0 #[] false 0 0 false)
 nu:m.5=E.7
 okk:m.4=E.8
 x:E.X m
structure XV(m:Ren)(ρ:Nat->fQ)(Pd:F?)(V:List (Nat×Option (L?))):Prop where
 all:∀r vs,(r,some vs)∈V->∃i J n,(ρ i).sum=some (J,n)/\m.2 r=some J.c/\n<=l? J.L/\J.L.drop n=vs/\∀v∈J.L,∀(m:Ren)v',VR m v v'->v'=v
 only:∀i J n,(ρ i).sum=some (J,n)->∃r vs,(r,some vs)∈V/\m.2 r=some J.c
 Zdw:∀r,(r,none)∈V->∃c,m.2 r=some c/\Pd c
def Rg.open{E:Env f}(h:Rg E g):Open g:=λr r' B=>⟨_,_,_,_,_,h.3 r r' B⟩
def Rg.le{E:Env f}(h:Rg E g)(B:g.Le C)(J:gH g C p I):Rg E C:=
 ⟨h.1.mono B,by rw[B.7];exact h.2,λr r' O=>by rw[J.9 h.2]at O;rw[J.10];exact h.3 r r' O,B.6.trans h.4,B.5.trans h.5,E.le g C B h.x⟩
def XV.le{ρ ρ':Nat->fQ}{V:List<|Nat×Option (L?)}(h:XV g ρ U V)(W:g.Le C)(hs:∀j,(ρ' j).sum=(ρ j).sum):XV C ρ' U V:=by refine⟨λr vs Y=>?_,λi J n hi=>?_,λr Y=>?_⟩;obtain⟨i,J,n,O,B,h3⟩:=h.1 r vs Y;exact⟨i,J,n,by rwa[hs],W.2 _ _ B,h3⟩;rw[hs]at hi;obtain⟨r,vs,O,B⟩:=h.2 i J n hi;exact⟨r,vs,O,W.2 _ _ B⟩;obtain⟨c,O,B⟩:=h.3 r Y;exact⟨c,W.2 _ _ O,B⟩
def dv(E:Env f)(os:List OF)(wl:w?)(V:List<|Nat×Option (L?)):Prop:=
 ∀m(J:F?)ρ B w sl t fr' cs',Rg E m->Co f E.2 E.3 J ρ m wl B w t->XV m ρ J V->qy m E.T os (fr'::cs')->B[0]?=y? (G fr' cs')->E.Z.1 (n3 B w sl) t
def VQ(E:Env f)(os:List OF)(wl:w?)(N:List OF->w?->Prop):Prop:=
 ∀m w fr' cs',Rg E m->qy m E.T os (fr'::cs')->WR m wl w->∃B J O w₁ es U V,dp f t? (G fr' cs') w=.go (G J O) w₁ es/\m.Le B/\gH m B w w₁/\(∀e∈es,ri B e)/\qy B E.T U (J::O)/\WR B V w₁/\N U V
def dv.step{E:Env f}{os}{V:List<|Nat×Option (L?)}{N}(h:VQ E os p N)(hn:∀B J,N B J->dv E B J V):dv E os p V:=by intro m Pd ρ gs w sl t fr' cs' Y ae af aa h0;refine turn q? ?_ ρ gs w sl t ae (λ_=>rfl) h0 rfl;intro ρ' gs' w' ah ab d t' O hK ac hN;obtain⟨ad,U,W,w₁,es,B,J,hs,hl,hk,he,ho,hw,ag⟩:=h m _ fr' cs' Y aa O.1;rw[nn (sl:=ab) ac<|hs];apply E.Z.next _ _ _ _;exact hn B J ag ad Pd ρ' _ _ ab _ U W (Y.le hl hk) (O.Ap (gs':=S? (gs'.map _) 0 _) hl hk he hw i!<|iH _) (af.le hl hK) ho (by simp[(AI.1 ac).1])
end
section
open Conc
variable {f:P?}{g:List OF}{l x4 x9:w?}{o x6:V?}{p:List (Nat×Option (L?))}{C x7:d'}{I y0:List Item}{J:Ren}{P:Array Oper}{U:Oper}{x0 i:Nat}{x1:LS}{x2 x8:F?}{x3 y1:Code}{x5:v?}
def fV(B:Option Tmp)(tm:V?)(v:v?):Array v?:=match B with|some d=>S? tm d v|none=>tm
def mE(tm:V?):Operand->v?:=Act.eval ⟨tm,[]⟩
def TU(fn)(tm:V?)(td):(iw fn tm td).eval=mE tm:=by funext x;cases x<;>rfl
def ki(fn)(tm:V?)(ops:Array Oper)(i)(rest:List Nat)(k:List Item)(v):(iw fn tm (r? ops (i::rest)::k)).finish v=iw fn (fV ((ops[i]?).bind (·.1)) tm v) (r? ops rest::k):=by cases h:(ops[i]?).bind _<;>simp[nU,iw,fV,h]
def fh.fV(h:fh J o x6)(d){v'}(B:VR J x5 v'):fh J (Go.Proofs.YtocbogeoffeolaaGreatDoor.fV d o x5)<|Go.Proofs.YtocbogeoffeolaaGreatDoor.fV d x6 v':=by
 cases d with
 |none=>exact h|some d=>exact h.set d B
def Oa(h:fh J o x6)(B:∀g,x2 g->J.1 g=y? g)(x)(O:eI J.5 x2 x):VR J (mE o x)<|mE x6 x:=by
 cases x with
 |tmp i=>exact h.getD i|const v=>exact VR.plain O|global g=>exact .ptr<|.mk<|B g O|func f=>exact .O5 (.func f O) (.nil J)<|.nil J
def dv.tape{E:Env f}{wl τ}(h:dv E g (tp wl τ) p):dv E g wl p:=by intro m O ρ U w sl t fr' cs' V B J W Y;exact h m O ρ U w sl t fr' cs' V ⟨B.1.tp τ,B.2,B.3,B.4,B.5,B.6,B.7,B.8,B.9,B.10,B.11,B.12,B.13,B.14,B.f0,B.ff,B.cx,B.sz,B.os,B.kn,B.pd,B.22⟩ J W Y
def dv.ctl{E:Env f}(h:∀B cs' w,dp f t? (G (iw C B I) cs') w=.go (G (iw C B y0) cs') w #[])(hn:dv E (⟨C,x6,y0⟩::g) x4 p):dv E (⟨C,x6,I⟩::g) x4 p:=by
 refine dv.step (N:=λo w=>o=⟨C,x6,y0⟩::g/\w=x4) (λm w fr' cs' hr O U=>?_) (λo w ⟨V,W⟩=>by rwa[V,W])
 cases O with
 |@cons _ _ B l Y J=>exact⟨m,_,_,w,#[],_,x4,h B cs' w,.refl m,.refl m w,i!,.cons (o:=⟨C,x6,y0⟩) Y J,U,q?,q?⟩
def dv.skip{E:Env f}(h:dv E (⟨C,o,I⟩::g) l p):dv E (⟨C,o,.code .skip::I⟩::g) l p:=dv.ctl (λ_ _ _=>rfl) h
def dv.seq{E:Env f}(h:dv E (⟨C,o,.code x3::.code y1::I⟩::g) l p):dv E (⟨C,o,.code (.seq x3 y1)::I⟩::g) l p:=dv.ctl (λ_ _ _=>rfl) h
def dv.block{E:Env f}(h:dv E (⟨C,o,.code x3::.inBlock x0::I⟩::g) l p):dv E (⟨C,o,.code (.block x0 x3)::I⟩::g) l p:=dv.ctl (λ_ _ _=>rfl) h
def dv.inBlock{E:Env f}(h:dv E (⟨C,o,I⟩::g) l p):dv E (⟨C,o,.inBlock x0::I⟩::g) l p:=dv.ctl (λ_ _ _=>rfl) h
def dv.loop{E:Env f}(h:dv E (⟨C,o,.code x3::.inLoop x3::I⟩::g) l p):dv E (⟨C,o,.code (.loop x3)::I⟩::g) l p:=dv.ctl (λ_ _ _=>rfl) h
def dv.inLoop{E:Env f}(h:dv E (⟨C,o,.code x3::.inLoop x3::I⟩::g) l p):dv E (⟨C,o,.inLoop x3::I⟩::g) l p:=dv.ctl (λ_ _ _=>rfl) h
def dv.exit{E:Env f}{k'}(e:eC x0 I=y? k')(h:dv E (⟨C,o,k'⟩::g) l p):dv E (⟨C,o,.code (.exit x0)::I⟩::g) l p:=
 dv.ctl (λ_ _ _=>by simp[dp,m5,G,iw,e]) h
def dv.region{E:Env f}(h:dv E (⟨C,o,r? P (b6 P.size)::I⟩::g) l p):dv E (⟨C,o,.code (.region x0 P f?)::I⟩::g) l p:=
 dv.ctl (λ_ _ _=>by simp[dp,m5,G,iw]) h
def dv.inRegion{E:Env f}(h:dv E (⟨C,o,I⟩::g) l p):dv E (⟨C,o,r? P []::I⟩::g) l p:=dv.ctl (λ_ _ _=>rfl) h
def dv.cond{P}{E:Env P}{os c b}(U:yN c)(e:mE x6 c=.bool b)(h:dv E (⟨C,x6,.code (if b then x3 else y1)::I⟩::os) x4 p):dv E (⟨C,x6,.code (.cond c x3 y1)::I⟩::os) x4 p:=by
 refine dv.step (N:=λo w=>o=⟨C,x6,.code (if b then x3 else y1)::I⟩::os/\w=x4) (λm w fr' cs' hr W Y=>?_) (λo w ⟨h1,h2⟩=>by rwa[h1,h2])
 cases W with
 |@cons _ _ B l V J=>
  refine⟨m,_,_,w,#[],_,x4,?_,.refl m,.refl m w,i!,.cons (o:=⟨C,x6,.code (if b then x3 else y1)::I⟩) V J,Y,q?,q?⟩
  have hv:(iw C B (.code (.cond c x3 y1)::I)).eval c=.bool b:=by
   cases c with
   |tmp i=>have:=V.getD i;have e:x6.getD i sp=.bool b:=e;rw[e]at this;generalize hq:B.getD i sp=q at this;cases this;exact hq
   |const v=>exact e|global g=>exact U.elim|func f=>exact U.elim
  have O:ob ⟨C,B,.code _::I,[],.run,.normal,x?⟩ c=.bool b:=hv;simp[dp,m5,G,iw,O]
def dv.Wc{E:Env f}(h:∀t,dv E (⟨C,x6,r? P (hX (f.follows .mixedOrders) P t)::I⟩::g) x4 p):dv E (⟨C,x6,.code (.region x0 P t?)::I⟩::g) x4 p:=by
 refine dv.step (N:=λo w=>∃t,o=⟨C,x6,r? P (hX (f.follows .mixedOrders) P t)::I⟩::g/\w=x4) (λm w fr' cs' hr J O=>?_) (λo w ⟨t,U,V⟩=>by rw[U,V];exact h t)
 cases J with
 |@cons _ _ W l Y B=>
  obtain⟨t,d,e⟩:∃t d,(choose<|.order C x0).run f w=.ok t (w.at d):=by by_cases hf:(Question.order C x0).forced=t?;exact⟨0,w.3,by simp[choose,Sem.run,hf,World.at]⟩;exact⟨_,w.3+1,l!⟩
  refine⟨m,_,_,w.at d,#[],_,x4,?_,.refl m,gH.at m w d,i!,.cons (o:=⟨C,x6,r? P _::I⟩) Y B,O.at d,t,q?,q?⟩;simp only[dp,m5,G,iw,e];rfl
def nK{P fn k ops rest cs' w}(B:ops[i]?=y? U)(J:hO U (dk ops o)=t?):dp P t? (G (iw fn o (r? ops (i::rest)::k)) cs') w=m4 P t? (iw fn o (r? ops (i::rest)::k)) cs' x? (dl (mE o) U) w:=by have:dp P t? (G (iw fn o (r? ops (i::rest)::k)) cs') w=m5 P t? t? (iw fn o (r? ops (i::rest)::k)) cs' x? w:=rfl;rw[this,<-TU fn o (r? ops (i::rest)::k)];unfold m5;simp only[iw,B,N!,I!,J,if_true];unfold m6;simp only[oa,B]
def dv.pass{E:Env f}{rest}(Y:P[i]?=y? U)(aa:hO U (dk P o)=f?)(h:dv E (⟨C,fV U.1 o sp,r? P rest::I⟩::g) x4 p):dv E (⟨C,o,r? P (i::rest)::I⟩::g) x4 p:=by
 refine dv.step (N:=λU w=>dv E U w p) (λm w fr' cs' hr O hw=>?_)<|λU w h=>h
 cases O with
 |@cons _ _ B l ht V=>
  have hy:hO U (dk P B)=f?:=by rwa[show dk P B=dk P o from funext (nH P ht)]
  have J:=ki C B P i rest I sp;simp only[Y,Zf]at J
  have W:dp f t? (G (iw C B (r? P (i::rest)::I)) cs') w=.go (G (iw C (fV U.1 B sp) (r? P rest::I)) cs') w #[]:=by rw[<-J];have:dp f t? (G (iw C B (r? P (i::rest)::I)) cs') w=m5 f t? t? (iw C B (r? P (i::rest)::I)) cs' x? w:=rfl;rw[this];unfold m5;simp only[iw,Y,N!,I!,hy,Zk,if_false,G]
  exact⟨m,_,_,w,_,_,x4,W,.refl m,.refl m w,i!,.cons (ht.fV _<|.undef m) V,hw,h⟩
def jZ(E:Env f)(S:LS)(os:List OF)(V:List<|Nat×Option (L?)):Prop:=
 ∀m(J:F?)ρ B w sl t fr' cs' O,Rg E m->Co f E.2 E.3 J ρ m S.w B w t->XV m ρ J V->qy m E.T os O->eD f m O (S.1::S.2) (fr'::cs')->B[0]?=y? (G fr' cs')->E.Z.1 (n3 B w sl) t
def Co.tape{wl ρ gs t}(B:Co f x2 l x8 ρ J wl gs x4 t)(τ):Co f x2 l x8 ρ J (tp wl τ) gs x4 t:=
 ⟨B.1.tp τ,B.2,B.3,B.4,B.5,B.6,B.7,B.8,B.9,B.10,B.11,B.12,B.13,B.14,B.f0,B.ff,B.cx,B.sz,B.os,B.kn,B.pd,B.22⟩
def jZ.tape{E:Env f}{τ}(h:jZ E (x1.on τ) g p):jZ E x1 g p:=by intro m O ρ U w sl t fr' cs' V W Y B ho J h0;exact h m O ρ U w sl t fr' cs' V W (Y.tape τ) B ho J h0
def Rg.sit{E:Env f}{Tc fr' cs'}(h:Rg E J)(B:eD f J Tc (x1.1::x1.2) (fr'::cs'))(O:WR J x1.w l):zQ f E.5 E.6 J Tc x1 fr' cs' l:=⟨h.1,h.2,h.open,B,O⟩
def jZ.IW{E:Env f}{Stop}(hB:C5 Stop)(hH:ns f Stop x1)(hn:∀S',Stop S'->jZ E S' g p):jZ E x1 g p:=by
 intro m Pd ρ gs w sl t fr' cs' Tc hr hc aa ho U h0;have ac:=hH.acc hB ⟨_,_,_,_,_,_,_,hr.sit U hc.1⟩;revert m Pd ρ gs w sl t fr' cs' Tc hH;induction ac with
 |intro x1 _ ih=>
  intro hH m Pd ρ gs w sl t fr' cs' Tc hr hc aa ho U h0;by_cases B:Stop x1;exact hn x1 B m Pd ρ gs w sl t fr' cs' Tc hr hc aa ho U h0;refine turn q? ?_ ρ gs w sl t hc (λ_=>rfl) h0 rfl;intro ρ' gs' w' ak ad d t' V hK ae hN;have W:=hr.sit U V.1;have af:=W.Zbg hB hH B t?;generalize ah:dp f t? .. = sg at af
  cases af with
  |@go S' Y J O w₁ es hg hl ag hk he=>rw[nn (sl:=ad) ae<|ah];apply E.Z.next _ _ _ _;exact ih S' hg (hH.own hB ⟨_,_,_,_,_,_,_,W⟩ hg).2 Y Pd ρ' _ _ ad _ J O Tc (hr.le hl hk) (V.Ap (gs':=S? (gs'.map _) 0 _) hl hk he ag.5 i!<|iH _) (aa.le hl hK) (ho.mono hl) ag.4 (by simp[(AI.1 ae).1])
  |@send S' Y J O w₁ es r r' v v' z' hg hl hp hk he=>let ⟨f0,al,cap,am,jx,aj,an,_,_,ai,hx,ab⟩:=hp.6;have:=(ai.8 r _<|(hr.le hl hk).3 r r' hp.4).1;rw[hx]at this;cases this;simp at ab
def qy.head{T o l}(h:qy J T (o::g) l):∃B U,l=iw o.1 B o.3::U/\fh J o.2 B/\qy J T g U:=by
 cases h with
 |cons V O=>exact⟨_,_,q?,V,O⟩
def yy(E:Env f)(os:List OF):Prop:=os≠[]\/∀ps,E.T=[ps]->ps.5≠.panicking [ef]
def xL{E:Env f}{B}(O:yy E g)(h:qy J E.T g B):∀ps,B=[ps]->ps.5≠.panicking [ef]:=by
 cases h with
 |nil=>
  obtain x|x:=O
  exact absurd q? x;exact x
 |cons V U=>intro ps e;cases e;simp[iw]
def jZ.ret{P}{E:Env P}{ops rest}(hi:ops[i]?=y? U)(am:x1.2=[door P])(hl:x1.1.leaving P x1.w<|e? x5)(h:dv E (⟨C,fV U.1 o x5,r? ops rest::I⟩::g) x1.w p):jZ E x1 (⟨C,o,r? ops (i::rest)::I⟩::g) p:=by
 intro m Pd ρ gs w sl t fr' cs' Tc an ao ap W ab h0;refine turn q? ?_ ρ gs w sl t ao (λ_=>rfl) h0 rfl;intro ρ' gs' w' ax ah d t' B hK ai hN;obtain⟨hm,hd,hk,f,hf,J⟩:=hl;have hF:=ab.sX;rw[am]at ab;have ac:=xL (.inl i!) W;obtain⟨O,l',rfl,ht,aq⟩:=W.head
 obtain⟨rfl,ad⟩:cs'=iw C O _::l'/\fr'.6=.normal:=by
  cases ab with
  |one _ _ hb _=>
   refine⟨q?,?_⟩;obtain⟨x,_⟩|⟨_,ps,e,x⟩:=hb
   exact x;exact absurd x<|ac ps e
  |cons _ _ _ hx=>cases hx
 have V:=hF.5;have Y:=hF.4;rw[hm]at V;rw[hd]at Y;have ar:=hF.1;have aj:=hF.2;obtain⟨ay,ae,af,az,a0,a1,ag⟩:=fr';cases V;cases Y;subst ad ar;have ak:=(nG (P:=P) (fn:=f) aj).run _ _ #[] (B.1.tp _)<|.inl<|rP _ _
 have au:(dN f x1.1.2).run P (tp x1.w<|along x1.w<|w'.at d)=.ok x5 (tp x1.w<|along x1.w<|w'.at d):=by
  rcases((nG (P:=P) (fn:=f) aj).loc _ _ B.1)with⟨x,w₁,e,_⟩|⟨_,_,h3⟩
  rw[J]at e;cases e;have:=h3 (along x1.w<|w'.at d) (by rw[J];intro i a b;simp only[Gk]at b;omega);rwa[J]at this
 rw[au]at ak;obtain⟨al,v',w₁,es₁,e1,e2,e3,e4,_,e6,e7⟩:=ak;have aa:=ki C O ops i rest I v';simp only[hi,Zf]at aa
 have av:dp P t? (G ⟨x1.1.1,ae,af,[],.returning,.normal,ag⟩ (iw C O (r? ops (i::rest)::I)::l')) (w'.at d)=.go (G (iw C (fV U.1 O v') (r? ops rest::I)) l') w₁ (dS P x1.1.1 es₁):=by have:dp P t? (G ⟨x1.1.1,ae,af,[],.returning,.normal,ag⟩ (iw C O (r? ops (i::rest)::I)::l')) (w'.at d)=er P t? ⟨x1.1.1,ae,af,[],.returning,.normal,ag⟩ _ x? _:=rfl;rw[this];unfold er;simp only[hf,e1];unfold fB;simp only[aa];simp[pr,G]
 have aw:=nn (sl:=ah) ai<|av;rw[aw];apply E.Z.next _ _ _ _;exact(dv.tape (τ:=along x1.w<|w'.at d) (wl:=x1.w)<|λm Pd ρ gs w sl t fr' cs' a b c d e=>h m Pd ρ gs w sl t fr' cs' a (b.tape _) c d e) al Pd ρ' _ _ ah _ _ _ (an.le e2 e6) ((B.Ap (gs':=S? (gs'.map _) 0 _) e2 e6 (λe he=>e7 e<|nw he) e4 i!<|iH _).tape _) (ap.le e2 hK) (.cons (o:=⟨C,fV _ o x5,r? ops rest::I⟩) ((ht.mono e2).fV _ e3)<|aq.mono e2) (by simp[(AI.1 ai).1])
def JB(P){iI c}(O:P.2[C]?=y? iI)(hb:iI.9=y? c)(V:iI.1≠ "runtime.NumGoroutine") (ρ) (B:ρ (.func C)=.func (.func C) #[] #[])  {ars} {ts} (W:U.2=.call {callee:=.value<|.func C,args:=ars,argTypes:=ts}) (w):(dl ρ U).runT P w #[]=(.ok (.enter C<|ars.map ρ) w,#[]):=by
 obtain⟨d,op,Y,ps,af,g⟩:=U;subst W;have J:(iI.1 == "runtime.NumGoroutine")=f?:=by simpa using V
 have e:dl ρ ⟨d,.call {callee:=.value<|.func C,args:=ars,argTypes:=ts},Y,ps,af,g⟩=ga C ((#[]++ars.map ρ)++#[]):=by simp only[dl,resolve,B,Deferred.ofValue,invoke];rfl
 rw[e,cY];unfold ga;have e2:∀k:P?->Sem Go.Next,(program >>= k).runT P w #[]=(k P).runT P w _:=λk=>rfl;rw[e2];simp only[O,J,hb,Zk,if_false,gB];rfl
def dv.outer{E:Env f}{rest iI c ars ts}(hi:P[i]?=y? U)(aa:hO U (dk P o)=t?)(Y:f.2[x7]?=y? iI)(hb:iI.9=y? c)(hn:iI.1≠ "runtime.NumGoroutine") (ho:U.2=.call {callee:=.value<|.func x7,args:=ars,argTypes:=ts}) (V:∀x∈ars.1,eI E.7 E.5 x)
  (h:dv E (⟨x7,ars.map (mE o)++cK (iI.7-ars.size) sp,[.code c]⟩::⟨C,o,r? P (i::rest)::I⟩::g) x4 p):dv E (⟨C,o,r? P (i::rest)::I⟩::g) x4 p:=by
 refine dv.step (N:=λU w=>dv E U w p) (λm w fr' cs' hr B hw=>?_)<|λU w h=>h;have J:=B
 cases B with
 |@cons _ _ O l ht ab=>exact⟨m,_,_,w,#[],_,x4,(nK (P:=f) (fn:=C) (k:=I) (rest:=rest) (cs':=cs') (w:=w) hi<|by rwa[show dk P O=dk P o from funext (nH P ht)]).trans (by unfold m4;simp only[if_true,JB f Y hb hn (mE O) rfl ho w];simp[pr,G,iw,nL,Y,hb,dS]),.refl m,.refl m w,i!,.cons ((lY (λx W=>Oa ht hr.1.4 x W) (λx W=>by rw[hr.4];exact V x W)).append<|.replicate _<|.undef m) J,hw,h⟩
def Px{P}{E:Env P}{ρ gs sl t}{O:V?}{td1 l' ops rest}{B:V?}{f}
  (ae:Rg E J) (af:Co P E.2 E.3 x2 ρ J l gs x4 t) (ag:XV J ρ x2 p) (ah:fh J x6 O) (ht:fh J o B) (ai:qy J E.T g l') (hf:P.2[x7]?=y? f) (hi:ops[i]?=y? U) (Y:∀τ,(dN f x6).run P (tp l τ)=.ok x5 (tp l τ))
  (h0:gs[0]?=y? (G ⟨x7,O,td1,[],.returning,.normal,x?⟩ (iw C B (r? ops (i::rest)::I)::l'))) (h:dv E (⟨C,fV U.1 o x5,r? ops rest::I⟩::g) l p):E.Z.1 (n3 gs x4 sl) t:=by
 refine turn q? ?_ ρ gs x4 sl t af (λ_=>rfl) h0 rfl;intro ρ' gs' w' al aa d t' V hK ab hN;have ac:=(nG (P:=P) (fn:=f) ah).run _ _ #[] (V.1.tp _)<|.inl<|rP l _;rw[Y]at ac;obtain⟨ad,v',w₁,es₁,e1,e2,e3,e4,_,e6,e7⟩:=ac;have W:=ki C B ops i rest I v';simp only[hi,Zf]at W
 have aj:dp P t? (G ⟨x7,O,td1,[],.returning,.normal,x?⟩ (iw C B (r? ops (i::rest)::I)::l')) (w'.at d)=.go (G (iw C (fV U.1 B v') (r? ops rest::I)) l') w₁ (dS P x7 es₁):=by have:dp P t? (G ⟨x7,O,td1,[],.returning,.normal,x?⟩ (iw C B (r? ops (i::rest)::I)::l')) (w'.at d)=er P t? ⟨x7,O,td1,[],.returning,.normal,x?⟩ _ x? _:=rfl;rw[this];unfold er;simp only[hf,e1];unfold fB;simp only[W];simp[pr,G]
 have ak:=nn (sl:=aa) ab<|aj;rw[ak];apply E.Z.next _ _ _ _;exact h ad x2 ρ' _ _ aa _ _ _ (ae.le e2 e6) ((V.Ap (gs':=S? (gs'.map _) 0 _) e2 e6 (λe he=>e7 e<|nw he) e4 i!<|iH _).tape _) (ag.le e2 hK) (.cons (o:=⟨C,fV _ o x5,r? ops rest::I⟩) ((ht.mono e2).fV _ e3)<|ai.mono e2) (by simp[(AI.1 ab).1])
def dv.back{P}{E:Env P}{ops rest f v}(aa:y0=[]\/∃k1,y0=.code .ret::k1)(hf:P.2[x7]?=y? f)(hi:ops[i]?=y? U)(O:∀τ,(dN f x6).run P (tp x4 τ)=.ok v (tp x4 τ))
  (h:dv E (⟨C,fV U.1 o v,r? ops rest::I⟩::g) x4 p):dv E (⟨x7,x6,y0⟩::⟨C,o,r? ops (i::rest)::I⟩::g) x4 p:=by
 intro m Pd ρ gs w sl t fr' cs' ab ac ad B h0;refine turn q? ?_ ρ gs w sl t ac (λ_=>rfl) h0 rfl;intro ρ' gs' w' aj ae d t' J hK V hN
 cases B with
 |@cons _ _ W l af B=>
  obtain⟨Y,l',rfl,ht,ag⟩:=B.head
  have ah:dp P t? (G (iw x7 W y0) (iw C Y (r? ops (i::rest)::I)::l')) (w'.at d)=.go (G ⟨x7,W,y0,[],.returning,.normal,x?⟩ (iw C Y (r? ops (i::rest)::I)::l')) (w'.at d) #[]:=by obtain rfl|⟨k1,rfl⟩:=aa<;>rfl
  have ai:=nn (sl:=ae) V<|ah;rw[ai];apply E.Z.next _ _ _ _;exact Px (td1:=y0) ab (J.Ap (gs':=S? (gs'.map _) 0 _) (.refl m) (.refl m _) i! J.1 i!<|iH _) (ad.le (.refl m) hK) af ht ag hf hi O (by simp[(AI.1 V).1]) h
def CG(ok:Oper->Prop):Item->Prop
 |.code c|.inLoop c|.inScope c=>gU ok c|.inBlock _=>True|r? ops _=>∀o∈ops.1,ok o|_=>False
def CG.R:∀{td},(∀x∈td,CG J.4 x)->eA (lG J) td td
 |[],_=>.nil
 |x::td,h=>by
  refine .cons ?_ (CG.R λy O=>h y<|by simp[O])
  have B:=h x i!
  cases x with
  |code c=>exact .code c B|inLoop c=>exact .inLoop c B|inScope c=>exact .inScope c B|inBlock i=>exact .inBlock i|inRegion ops t=>exact .inRegion ops t B|_=>exact B.elim
def dv.tail{E:Env f}(aa:∀x∈I,CG E.8 x)(B:yy E g)(h:jZ E ⟨iw C o I,[door f],l⟩ g p):dv E (⟨C,o,I⟩::g) l p:=by intro m Pd ρ gs w sl t fr' cs' J V W O h0;obtain⟨Y,l',e,ht,U⟩:=O.head;cases e;exact h m Pd ρ gs w sl t _ _ cs' J V W U (eD.one (fr':=iw C Y I) ⟨q?,ht,CG.R<|by rwa[J.5],.nil,.run,.none⟩ q? (.inl ⟨q?,xL B U⟩) q?) h0
def wR(P:P?)(B:v?->w?->Prop)(M:Machine)(t:Trace):Prop:=∃N last o w' t',runNT P (N+1) M t=(.ended o w',t')/\gn P N M=.next last/\step P last=.ended o w'/\Conc.Good P B last o w' t'
def E5{M r ops}(h:stepT f M=(r,ops)):step f M=r:=by unfold step;rw[h]
def ending(P)(B:v?->w?->Prop):oJ P where
 Up:=wR P B
 Fin:=λM r t=>match r with
  |(.next J,ops)=>wR P B J<|t++ops|(.ended o w',ops)=>Conc.Good P B M o w'<|t++ops
 back:=by
  intro M t h
  rcases hs:stepT P M with⟨r,ops⟩
  rw[hs]at h
  cases r with
  |next J=>
   obtain⟨N,last,o,w',t',W,O,U,V⟩:=h
   refine⟨N+1,last,o,w',t',?_,?_,U,V⟩
   .rwa[runNT,hs]
   .simp only[gn,E5 hs];exact O
  |ended o w'=>exact⟨0,M,o,w',t++ops,by rw[runNT,hs],q?,E5 hs,h⟩
 next:=λ_ _ _ _ h=>h
def Co.over{ρ:Nat->fQ}{B:Array Goroutine}{t}(h:Co f x2 l x8 ρ J x4 B x9 t)(O:∀i,(ρ i).sum=x?):nJ t λ_=>False:=h.12.mono λi U=>absurd (O i) U
def Co.lv{ρ m gs t}(h:Co f x2 l x8 ρ m x4 gs x9 t)(V:∀i,(ρ i).sum=x?){g}(W:0<i)(Y:gs[i]?=y? g):∃q,Lv f q g:=by
 have O:=h.2 i g W Y;have U:=V i
 cases B:ρ i with
 |quit q=>rw[B]at O;exact⟨q,O⟩|ended hd J m S q=>rw[B]at O;exact⟨q,O.1⟩|act=>rw[B]at U;cases U
 |kK=>rw[B]at U;cases U
 |start=>rw[B]at U;cases U
def jZ.done{P Post E}(hZ:E.Z=ending P Post)(hT:E.T=[])(ak:x1.2=[door P])(hl:x1.1.leaving P x1.w<|.returned x5)(al:P.inits.idxOf? x1.1.1=x?)
  (ac:∀m v' w,Rg E m->VR m x5 v'->WR m x1.w w->(∀b,E.2 b->w.1[b]?=E.3.1[b]?)->(w.4=E.3.4/\w.5=E.3.5)->Post v' w):jZ E x1 [] []:=by
 intro m Pd ρ gs w sl t fr' cs' Tc am an ao ag ad h0
 have hn:∀i,(ρ i).sum=x?:=by
  intro i
  cases e:(ρ i).sum with
  |none=>rfl|some x=>obtain⟨r,vs,V,_⟩:=ao.2 i x.1 x.2 e;cases V
 refine turn q? ?_ ρ gs w sl t an (λ_=>rfl) h0 rfl;intro ρ' gs' w' ap aq d t' J hK ar hN;have ae:∀i,(ρ' i).sum=x?:=λi=>(hK i).trans<|hn i;let ⟨hm,hd,hk,f,hf,O⟩:=hl;have hF:=ad.sX;rw[ak]at ad
 obtain rfl:Tc=[]:=by cases ag;exact hT
 obtain⟨rfl,af⟩:cs'=[]/\fr'.6=.normal:=by
  cases ad with
  |one _ _ hb _=>
   refine⟨q?,?_⟩;obtain⟨x,_⟩|⟨_,ps,e,x⟩:=hb
   exact x
   cases e
  |cons _ _ _ V=>cases V
 have U:=hF.5;have ab:=hF.4;rw[hm]at U;rw[hd]at ab;have au:=hF.1;have ah:=hF.2;let ⟨ay,W,Y,az,a0,a1,aa⟩:=fr';cases U;cases ab;subst af au;have ai:=(nG (P:=P) (fn:=f) ah).run _ _ #[] (J.1.tp _)<|.inl<|rP _ _
 have av:(dN f x1.1.2).run P (tp x1.w<|along x1.w<|w'.at d)=.ok x5 (tp x1.w<|along x1.w<|w'.at d):=by
  rcases((nG (P:=P) (fn:=f) ah).loc _ _ J.1)with⟨x,w₁,e,_⟩|⟨_,_,h3⟩
  rw[O]at e;cases e;have:=h3 (along x1.w<|w'.at d) (by rw[O];intro i a b;simp only[Gk]at b;omega);rwa[O]at this
 rw[av]at ai;let ⟨aj,v',w₁,es₁,e1,e2,e3,e4,_,e6,e7⟩:=ai
 have aw:dp P t? (G ⟨x1.1.1,W,Y,[],.returning,.normal,aa⟩ []) (w'.at d)=.ended (.done v') w₁ (dS P x1.1.1 es₁):=by have:dp P t? (G ⟨x1.1.1,W,Y,[],.returning,.normal,aa⟩ []) (w'.at d)=er P t? ⟨x1.1.1,W,Y,[],.returning,.normal,aa⟩ [] x? _:=rfl;rw[this];unfold er;simp only[hf,e1];unfold fB;simp[pr,al]
 have ax:=runT_many_ended (sl:=aq) ar<|aw;rw[ax,hZ];have B:=J.Ap (fn:=x1.1.1) (pos:=(G (⟨x1.1.1,W,Y,[],.returning,.normal,aa⟩) []).1.place) e2 e6 (es:=dS P x1.1.1 es₁) (λe he=>e7 e<|nw he) e4 q?<|λj x _ V=>⟨x,V,λ_=>rfl⟩;refine⟨v',q?,ac aj v' w₁ (am.le e2 e6) e3 (e4.tp _) (λb hb=>(B.14 b hb).2) B.os,B.13,(B.over ae).over,⟨λx V=>?_,q?⟩,λj x V hj=>?_⟩;obtain⟨j,hj⟩:=List.mem_iff_getElem?.1 V;rw[List.getElem?_drop]at hj;obtain⟨q,hq⟩:=B.lv ae (i:=1+j) o! (by simpa[n3]using hj);exact⟨_,hq.Jy.leaves⟩;obtain⟨q,hq⟩:=B.lv ae o! V;refine⟨q,?_⟩
 have e:∀u,nf u->Goroutine.endsWith P (n3 gs' w' ap).1 q x (u.deaf j u.size)=y? 0:=λu hu=>by rw[hu.deaf j _];exact hq.Jy.hears _
 exact e _ B.11
end
section
open Conc
open ConcN (upd upd_same upd_ne)
variable {f g i l:w?}
def Q'{h:Array Obj}{o x}{r:Nat}(B:h[r]?=y? x):(h.push o)[r]?=h[r]?:=fG<|lA B
def Co.made{P}{qW:F?}{Pd:F?}{ρ m m₂ Y gs' w w₁ t}(h:Co P qW f Pd ρ m g Y w t)(O:w₁={w with heap:=w.1.push<|.chan 0 #[] f? 0 0 f?})(aa:WR m₂ l w₁)(hb:m₂.1=m.1)(hl:m₂.3=m.3)(ab:gs'.size=Y.size)
  (ac:∀j x,0<j->gs'[j]?=y? x->∃y,Y[j]?=y? y/\(At P w₁ t j y (ρ j)->x=y)):Co P qW f (λc=>Pd c\/c=w.1.size) ρ m₂ l gs' w₁ t:=by
 subst O;have B:w.1.size<=(w.1.push<|.chan 0 #[] f? 0 0 f?).size:=i!
 have hrel:∀j y,0<j->Y[j]?=y? y->At P {w with heap:=w.1.push<|.chan 0 #[] f? 0 0 f?} t j y (ρ j):=by
  intro j y hj hy
  have:=(h.2 j y hj hy).rely (w₁:={w with heap:=w.1.push _}) (u:=#[]) (λm' U r b hb=>by
   obtain⟨af,ad⟩:=h.wr U
   exact fG (ad.lt hb).2) (λJ hJ=>by
   obtain⟨cl,s,r,V⟩:=h.is hJ
   exact Q' V) B q? i!
  simpa using this
 refine⟨aa,λj x W V=>?_,λj hj=>h.3 j<|by rwa[<-ab],λi m' U=>?_,h.5,h.6,?_,h.8,h.9,λp a b ha hb=>AT (h.10 p a b ha hb) B,h.11,h.12,h.13,λb hb=>?_,λr b hr hf=>?_,h.ff,h.cx,ZE h.sz B,h.os,h.kn,λc hc=>?_,h.22⟩;obtain⟨y,hy,ae⟩:=ac j x W V;have:=hrel j y W hy;rwa[ae this];have:=h.4 i m' U;unfold rh at this⊢;rwa[hb,hl];have:=h.7;unfold qx at this⊢;rwa[hb,hl];obtain⟨h1,h2⟩:=h.14 b hb;exact⟨AT h1 B,by rw[<-h2];exact fG h1⟩;rw[hb]at hr;rw[hl];exact h.f0 r b hr hf;obtain hc|rfl:=hc
 obtain⟨⟨s,r,h1⟩,h2,h3,h4⟩:=h.pd c hc;exact⟨⟨s,r,jL h1⟩,h2,h3,h4⟩;refine⟨⟨0,0,i!⟩,λp a ha hb=>?_,λi J hJ e=>?_,λhf=>?_⟩;have:=h.10 p a _ ha hb;omega;obtain⟨cl,s,r,V⟩:=h.is hJ;have:=lA V;omega;have:=(h.14 _ hf).1;omega
def Qf(h:Array Obj)(o):S? (h.push o) h.size o=h.push o:=by apply cU;intro j;by_cases e:h.size=j;subst e;simp;rw[Zd e]
def Co.spawn{P}{qW:F?}{Pd:F?}{ρ m m₂ D6 gs w t}{W ac:F?}{J:uj}{mi:Ren}{S k g' child a b}(h:Co P qW f Pd ρ m i gs w t)(h0:0<gs.size)(hF:∀b,W b->qW b)(hP:∀c,ac c->Pd c/\c≠J.c)(hJ:Pd J.c)
  (ha:a.g=0) (ae:a.4=.go gs.size) (hb:b.g=gs.size) (af:b.4=.start) (ak:WR m₂ D6 w) (ad:∀r q,m₂.1 r=y? q->∃r0,m.1 r0=y? q/\(m.3 r0->m₂.3 r))
  (ah:∀r q,mi.1 r=y? q->(∃r0,m.1 r0=y? q/\(m.3 r0->mi.3 r))\/(qW q/\(∀r0,m.1 r0≠y? q)/\∀j U r',(ρ j).vh=y? U->U.1 r'≠y? q)) (au:rh m₂ mi) (al:∀r q,mi.1 r=y? q->W q->mi.3 r) (ai:∀b,qW b->W b\/∃r o,J.8 r b o/\f.1[b]?=y? o)
  (am:At P w (t++#[a,b]) gs.size child<|.start J mi S k) :
  Co P W f ac (upd ρ gs.size<|.start J mi S k) m₂ D6 ((S? gs 0 g').push child) w (t++#[a,b]):=by
 have hold:=h.3 _<|.inr<|Zu _
 have hu:∀op∈(#[a,b]:Array MemOp),op.4.touch?=x?:=by
  intro op Y;simp only[ca,Zm,q!,or_false]at Y;obtain rfl|rfl:=Y
  rw[ae];rfl;rw[af];rfl
 have hh:nf<|t++#[a,b]:=h.11.append λop Y=>by
  simp only[ca,Zm,q!,or_false]at Y;obtain rfl|rfl:=Y
  rw[ae];simp;rw[af];simp
 let ⟨av,an,aj,ao⟩:=h.pd J.c hJ
 have di:∀j U,(ρ j).vh=y? U->rh mi U:=by
  intro j U B r r' q V h2;obtain⟨r0,x,y⟩|⟨_,_,x⟩:=ah r q V
  obtain⟨l1,l2⟩:=h.4 j U B r0 r' q x h2;exact⟨y l1,l2⟩;exact absurd h2<|x j U r' B
 have kr:∀j U,(upd ρ _ (.start J mi S k) j).vh=y? U->(j=gs.size/\U=mi)\/(j≠gs.size/\(ρ j).vh=y? U):=λj U O=>by by_cases e:j=gs.size;subst e;rw[pv]at O;cases O;exact .inl ⟨q?,q?⟩;rw[pt _ _ e]at O;exact .inr ⟨e,O⟩
 have kj:∀j J',(upd ρ _ (.start J mi S k) j).vf=y? J'->(j=gs.size/\J'=J)\/(j≠gs.size/\(ρ j).vf=y? J'):=λj J' O=>by by_cases e:j=gs.size;subst e;rw[pv]at O;cases O;exact .inl ⟨q?,q?⟩;rw[pt _ _ e]at O;exact .inr ⟨e,O⟩
 refine⟨ak,λj x ap O=>?_,λj hj=>?_,λj U B=>?_,λj l m1 m2 ab V h2=>?_,λj l J1 J2 ab V h2=>?_,?_,λj U B=>?_,λj J' aa p x O hq=>?_,λp x q O hq=>?_,hh,?_,λsaid=>?_,λq hq=>h.14 q<|hF q hq,λr q hr hf=>?_,λj U B r q hr hf=>?_,λj J' aa hf=>?_,h.sz,h.os,?_,λc hc=>?_,λb hb=>?_⟩;by_cases e:j=gs.size;subst e;rw[pv];have:((S? gs 0 g').push child)[gs.size]?=y? child:=by rw[cW];simp
 rw[this]at O;cases O;exact am;rw[pt _ _ e]
 have aw:j<gs.size:=by have:=(AI.1 O).1;simp at this;omega
 have:gs[j]?=y? x:=by rw[cW]at O;simp only[Array.size_setIfInBounds]at O;rwa[if_neg e,Zd o!]at O
 exact(h.2 j x ap this).rely (λ_ _ _ _ _=>rfl) (λ_ _=>rfl) (Zu _) q? λop Y _=>hu op Y
 have ab:j≠gs.size:=by
  obtain x|x:=hj
  omega;simp at x;omega
 rw[pt _ _ ab];exact h.3 j (hj.imp id λx=>by simp at x;omega);obtain⟨_,em⟩|⟨_,B⟩:=kr j U B
 rwa[em];intro r r' q V h2;obtain⟨r0,x,y⟩:=ad r q V;obtain⟨l1,l2⟩:=h.4 j U B r0 r' q x h2;exact⟨y l1,l2⟩;obtain⟨ej,em⟩|⟨ej,x1⟩:=kr j m1 V
 obtain⟨el,_⟩|⟨_,x2⟩:=kr l m2 h2
 exact absurd (ej.trans el.symm) ab;rw[em];exact di l m2 x2;obtain⟨el,em⟩|⟨_,x2⟩:=kr l m2 h2
 rw[em];exact(di j m1 x1).symm;exact h.5 j l m1 m2 ab x1 x2;obtain⟨ej,em⟩|⟨ej,x1⟩:=kj j J1 V
 obtain⟨el,_⟩|⟨_,x2⟩:=kj l J2 h2
 exact absurd (ej.trans el.symm) ab;rw[em];exact Ne.symm<|aj l J2 x2;obtain⟨el,em⟩|⟨_,x2⟩:=kj l J2 h2
 rw[em];exact aj j J1 x1;exact h.6 j l J1 J2 ab x1 x2;refine qx.mute (λp x q r O hq hr ag=>?_) hu;obtain⟨r0,y,z⟩:=ad r q hr;exact h.7 p x q r0 O hq y λl=>ag<|z l;by_cases e:j=gs.size;subst e;rw[pv]at B;cases B;intro p x q r O hq hr ag;obtain⟨_,V⟩|⟨op,V,_,h3⟩:=eQ O
 apply I' hh ha ae hb af;obtain⟨r0,y,z⟩|⟨y,_,z⟩:=ah r q hr
 exact h.7 p x q r0 V hq y λl=>ag<|z l;obtain v|⟨j',U,r',v1,v2⟩:=h.kn p x q V hq y
 exact v;exact absurd v2<|z j' U r' v1;rw[hu op V]at h3;cases h3;rw[pt _ _ e]at B;exact(h.8 j U B).mute hu;obtain⟨_,V⟩|⟨op,V,_,h3⟩:=eQ O
 obtain⟨_,em⟩|⟨e,_⟩:=kj j J'<|fQ.wX aa
 rw[em]at hq;exact an p x V hq;rw[pt _ _ e]at aa;exact h.9 j J' aa p x V hq;rw[hu op V]at h3;cases h3;obtain⟨_,V⟩|⟨op,V,_,h3⟩:=eQ O
 exact h.10 p x q V hq;rw[hu op V]at h3;cases h3;refine(h.12.mono λj hj=>?_).app λop Y=>.inl<|hu op Y;by_cases e:j=gs.size;subst e;rw[hold]at hj;exact absurd q? hj;rwa[pt _ _ e];have:=uu (u:=[a,b]) (u! hu)<|h.13 said;simpa using this;obtain⟨r0,y,z⟩:=ad r q hr;exact z<|h.f0 r0 q y<|hF q hf;obtain⟨_,em⟩|⟨_,B⟩:=kr j U B
 rw[em]at hr⊢;exact al r q hr hf;exact h.ff j U B r q hr<|hF q hf;obtain⟨_,em⟩|⟨_,aa⟩:=kj j J' aa
 rw[em]at hf;exact ao<|hF _ hf;exact h.cx j J' aa<|hF _ hf;intro p x q O hq hf;exact(h.kn.app (λj U r q B hq=>⟨j,U,r,by rwa[pt _ _ (by intro rfl;rw[hold]at B;cases B)],hq⟩) λop Y x q O _ _=>by rw[hu op Y]at O;cases O) p x q O hq<|hF q hf;obtain⟨aq,ar⟩:=hP c hc;obtain⟨g1,g2,g3,g4⟩:=h.pd c aq;refine⟨g1,λp x O hq=>?_,λj J' aa=>?_,λhf=>g4<|hF c hf⟩;obtain⟨_,V⟩|⟨op,V,_,h3⟩:=eQ O
 exact g2 p x V hq;rw[hu op V]at h3;cases h3;obtain⟨_,em⟩|⟨_,aa⟩:=kj j J' aa
 rw[em];exact Ne.symm ar;exact g3 j J' aa;obtain x|⟨j,J',r,o,x1,x2⟩|z:=h.22 b hb
 obtain y|⟨r,o,y1,y2⟩:=ai b x
 exact .inl y;exact .inr (.inl ⟨gs.size,J,r,o,by rw[pv];rfl,y1,y2⟩);exact .inr (.inl ⟨j,J',r,o,by rwa[pt _ _ (by intro rfl;rw[hold]at x1;cases x1)],x2⟩);exact .inr (.inr z)
end
section
open Conc
open ConcN (upd upd_same upd_ne)
def mf:Obj:=.chan 0 #[] f? 0 0 f?
def dv.makeChan{P}{E:Env P}{fn}{tm:V?}{os wl}{V:List<|Nat×Option (L?)}{k ops i rest o}(hi:ops[i]?=y? o)(aq:hO o (dk ops tm)=t?)
  (aj:∀(B:V?)(w),(dl (mE B) o).runT P w #[]=(.ok (.value<|.chan<|y? w.1.size) {w with heap:=w.1.push<|.chan 0 #[] f? 0 0 f?},#[]))
  (h:dv E (⟨fn,fV o.1 tm<|.chan<|y? wl.1.size,r? ops rest::k⟩::os) {wl with heap:=wl.1.push mf} ((wl.1.size,x?)::V)):dv E (⟨fn,tm,r? ops (i::rest)::k⟩::os) wl V:=by
 intro m Pd ρ gs w sl t fr' cs' W ak al af h0;refine turn q? ?_ ρ gs w sl t ak (λ_=>rfl) h0 rfl;intro ρ' gs' w' ar ag d t' ab hK ah hN
 cases af with
 |@cons _ _ B l ht am=>
  have ac:=ki fn B ops i rest k<|.chan<|y? (w'.at d).1.size;simp only[hi,Zf]at ac
  have an:m4 P t? (iw fn B (r? ops (i::rest)::k)) cs' x? (dl (mE B) o) (w'.at d)=.go (G (iw fn (fV o.1 B<|.chan<|y? (w'.at d).1.size) (r? ops rest::k)) cs') {w'.at d with heap:=(w'.at d).1.push<|.chan 0 #[] f? 0 0 f?} #[]:=by unfold m4;simp only[if_true,aj,ac];simp[pr,G,iw,dS]
  have ao:=nn (sl:=ag) ah<|(nK (P:=P) (fn:=fn) (k:=k) (rest:=rest) (cs':=cs') (w:=w'.at d) hi<|by rwa[show dk ops B=dk ops tm from funext (nH ops ht)]).trans an;have e0:∀f p,rx 0 f p #[]=#[]:=λf p=>by rw[n4];simp
  rw[ao,e0];apply E.Z.next _ _ _ _;have ae:=ab.1;let O:=m.wC _ _ ae.sV ae.pD;let m₂:=O.put wl.1.size mf;have U:m.Le m₂:=(Ren.AJ _ _).trans<|Ren.qU O ..
  have ap:WR m₂ {wl with heap:=wl.1.push mf} {w'.at d with heap:=(w'.at d).1.push<|.chan 0 #[] f? 0 0 f?}:=by
   have:=(ae.Vj mf<|.chan 0 #[] f? 0 0 f?).put (r:=wl.1.size) (o:=mf) ⟨_,_,_,_,_,_,q?⟩ ⟨0,#[],f?,0,0,f?,by simp[mf]⟩;have e:({wl with heap:=wl.1.push mf})={({wl with heap:=wl.1.push mf})with heap:=S? (wl.1.push mf) wl.1.size mf}:=by rw[Qf]
   rwa[e]
  have ad:m₂.2 wl.1.size=y? (w'.at d).1.size:=by simp[m₂,O,Ren.put,Ren.wC]
  have aa:Rg E m₂:=by refine⟨W.1.mono U,by exact W.2,λr r' hr=>?_,U.6.trans W.4,U.5.trans W.5,E.le m m₂ U W.x⟩;by_cases e:r=wl.1.size;subst e;simp[m₂,Ren.put,mf];simpa[m₂,O,Ren.put,Ren.wC,e]using W.yk r r' (by simpa[m₂,O,Ren.put,Ren.wC,e]using hr)
  have ai:=ab.made (m₂:=m₂) (gs':=S? (gs'.map<|woken P (G (iw fn B (r? ops (i::rest)::k)) cs') (G (iw fn (fV o.1 B<|.chan<|y? (w'.at d).1.size) (r? ops rest::k)) cs') _) 0 _) q? ap q? q? i!<|iH _;have Y:=al.le U hK;refine h m₂ _ ρ' _ _ ag _ _ _ aa ai ⟨λr vs hr=>?_,λi J n hi=>?_,λr hr=>?_⟩ (.cons ((ht.mono U).fV _<|.chan ad)<|am.mono U) (by simp[(AI.1 ah).1]);exact Y.1 r vs<|u! hr;obtain⟨r,vs,x,y⟩:=Y.2 i J n hi;exact⟨r,vs,by simp[x],y⟩;simp only[Zm,Prod.mk.injEq,and_true]at hr;obtain rfl|hr:=hr
  exact⟨_,ad,.inr q?⟩;obtain⟨c,x,y⟩:=Y.3 r hr;exact⟨c,x,.inl y⟩
structure Sends{P:P?}(E jT:Env P)(f:d')(caps:V?)(os Pc:List OF)(wl D6:w?)(rc:Nat)(L:L?):Prop where
 z:jT.Z=E.Z
 t:jT.T=E.T
 w:jT.3=E.3
 fix:∀b,jT.2 b->E.2 b
 flat:∀v∈L,∀(m:Ren)v',VR m v v'->v'=v
 go:∀m caps' w c,Rg E m->fh m caps caps'->WR m wl w->m.2 rc=some c->im w c false->(∀b,E.2 b->w.1[b]?=E.3.1[b]?)->∃(J:uj)(mi:Ren)(S:LS)(k:Nat)(m₂:Ren),J.c=c/\J.L=L/\J.Ok P/\J.rn mi/\ns P J.3 S/\Holds S J.r []/\WR mi S.w w/\uf P J mi S k (nP P ⟨.fn (.func f) caps',#[]⟩)/\
  Rg jT m₂/\WR m₂ D6 w/\m₂.2=m.2/\(∀l,qy m E.T os l->qy m₂ E.T Pc l)/\(∀r q,m₂.1 r=some q->∃r0,m.1 r0=some q/\(m.3 r0->m₂.3 r))/\
  (∀r q,mi.1 r=some q->(∃r0,m.1 r0=some q/\(m.3 r0->mi.3 r))\/(E.2 q/\(∀r0,m.1 r0≠some q)/\¬jT.2 q))/\rh m₂ mi/\(∀r q,mi.1 r=some q->jT.2 q->mi.3 r)/\(∀b,E.2 b->jT.2 b\/∃r o,J.8 r b o/\E.3.1[b]?=some o)
def Hk(P)(f)(cx)(ρ){o}(B:o.2=.makeFunc (.func f) #[] cx)(w):(dl ρ o).runT P w #[]=(.ok (.value<|.func (.func f) #[]<|cx.map ρ) w,#[]):=by obtain⟨d,op,J,ps,O,g⟩:=o;subst B;have e:dl ρ ⟨d,.makeFunc (.func f) #[] cx,J,ps,O,g⟩=(Instr.makeFunc .. >>= λv=>pure _):=rfl;have U:(#[]).map ρ=#[]:=i!;rw[e,U];rfl
def Y8(P)(f)(q)(cap:V?)(ρ){o}(B:o.2=.go {callee:=.value<|.tmp q,args:=#[],argTypes:=#[]})(J:ρ (.tmp q)=.func (.func f) #[] cap)(w):(dl ρ o).runT P w #[]=(.ok (.spawn ⟨.fn (.func f) cap,#[]⟩) w,#[]):=by obtain⟨d,op,O,ps,U,g⟩:=o;subst B;have V:(#[]).map ρ=#[]:=i!;have e:dl ρ ⟨d,.go {callee:=.value<|.tmp q,args:=#[],argTypes:=#[]},O,ps,U,g⟩=(Deferred.ofValue .. >>= λd=>pure _):=rfl;rw[e,V,J];rfl
def dv.go{P E fn}{tm:V?}{os wl}{V:List<|Nat×Option (L?)}{k}{Y:Env P}{ops i j rest oi oj f}{q:Tmp}{cx Pc D6 rc}{L:L?}{V₂:List<|Nat×Option (L?)}(hi:ops[i]?=y? oi)(hj:ops[j]?=y? oj)(gi:oi.6=x?)(gj:oj.6=x?)(a8:oi.2=.makeFunc (.func f) #[] cx)(a9:oi.1=y? q)(a':oj.2=.go {callee:=.value<|.tmp q,args:=#[],argTypes:=#[]})(aA:oj.1=x?)(aB:∀x∈cx.1,eI E.7 E.5 x)(aO:q<tm.size)
  (hS:Sends E Y f (cx.map<|mE tm) (⟨fn,S? tm q<|.tuple #[],r? ops rest::k⟩::os) Pc wl D6 rc L) (al:∀q,E.2 q->¬Y.2 q->∀m Pd ρ gs w t,Rg E m->Co P E.2 E.3 Pd ρ m wl gs w t->XV m ρ Pd V->∀j m' r',(ρ j).vh=y? m'->m'.1 r'≠y? q)
  (hV:(rc,x?)∈V) (aa:∀x∈V₂,x=(rc,y? L)\/(x∈V/\x≠(rc,x?))) (am:(rc,y? L)∈V₂) (an:∀r vs,(r,y? vs)∈V->(r,y? vs)∈V₂)
  (h:dv Y Pc D6 V₂):dv E (⟨fn,tm,r? ops (i::j::rest)::k⟩::os) wl V:=by
 intro m Pd ρ gs w sl t fr' cs' ag aC ab ac h0;refine turn q? ?_ ρ gs w sl t aC (λ_=>rfl) h0 rfl;intro ax ay w1 aP ai d1 t1 ad aD ao aQ
 cases ac with
 |@cons _ _ B l ht aE=>
  have aF:∀ae:V?,hO oi (dk ops ae)=t?:=λ_=>by simp[hO,gi]
  have aG:∀ae:V?,hO oj (dk ops ae)=t?:=λ_=>by simp[hO,gj]
  have ap:=nK (P:=P) (fn:=fn) (k:=k) (rest:=j::rest) (cs':=cs') (w:=w1.at d1) hi<|aF B;have U:=ki fn B ops i (j::rest) k<|.func (.func f) #[]<|cx.map<|mE B;simp only[hi,Zf,a9,fV]at U
  have aq:m4 P t? (iw fn B (r? ops (i::j::rest)::k)) cs' x? (dl (mE B) oi) (w1.at d1)=.go (G (iw fn (S? B q<|.func (.func f) #[]<|cx.map<|mE B) (r? ops (j::rest)::k)) cs') (w1.at d1) #[]:=by unfold m4;simp only[if_true,Hk P f cx _ a8,U];simp[pr,G,iw,dS]
  rw[nn (sl:=ai) ao<|ap.trans aq];apply E.Z.next _ _ _ _;refine turn (Z:=E.Z) (a:=G (iw fn (S? B q<|.func (.func f) #[]<|cx.map<|mE B) (r? ops (j::rest)::k)) cs') (K:=λj=>(ax j).sum) (N:=ay.size) q? ?_ ax _ _ ai _ (ad.Ap (gs':=S? (ay.map<|woken P _ _<|w1.at d1) 0<|G (iw fn (S? B q<|.func (.func f) #[]<|cx.map<|mE B) (r? ops (j::rest)::k)) cs') (.refl m) (.refl m _) i! ad.1 i!<|iH _) (λ_=>rfl) (by simp[(AI.1 ao).1]) i!;clear ao ad;intro ρ' gs' w' aR az d0 t' O aH a0 hN;have hK:∀j,(ρ' j).sum=(ρ j).sum:=λj=>(aH j).trans<|aD j;have ap:=nK (P:=P) (fn:=fn) (k:=k) (rest:=rest) (cs':=cs') (w:=w'.at d0) hj<|aG<|S? B q<|.func (.func f) #[]<|cx.map<|mE B
  have aI:mE (S? B q<|.func (.func f) #[]<|cx.map<|mE B) (.tmp q)=.func (.func f) #[] (cx.map<|mE B):=by show(S? B q _).getD q sp=_;rw[By,ZR<|by rwa[<-ht.size]];rfl
  have U:=ki fn (S? B q<|.func (.func f) #[]<|cx.map<|mE B) ops j rest k sp;simp only[hj,Zf,aA,fV]at U
  have aq:m4 P t? (iw fn (S? B q<|.func (.func f) #[]<|cx.map<|mE B) (r? ops (j::rest)::k)) cs' x? (dl (mE<|S? B q<|.func (.func f) #[]<|cx.map<|mE B) oj) (w'.at d0)=.spawn (G (iw fn (S? B q<|.func (.func f) #[]<|cx.map<|mE B) (r? ops rest::k)) cs') (nP P ⟨.fn (.func f)<|cx.map<|mE B,#[]⟩) (w'.at d0) #[]:=by unfold m4;simp only[if_true,Y8 P f q _ _ a' aI<|w'.at d0,U,Bool.and_false,k6,Zk,if_false];simp[pr,G,iw,dS,nP]
  have e0:∀f p,rx 0 f p #[]=#[]:=λf p=>by rw[n4];simp
  rw[runT_crowd_spawn (sl:=az) a0<|ap.trans aq,e0];apply E.Z.next _ _ _ _;have a1:=(AI.1 a0).1;let ⟨c,a2,a3⟩:=ab.3 rc hV;let ⟨aj,aS,aT,aU⟩:=O.pd c a3;have ac:qy m E.T (⟨fn,S? tm q<|.tuple #[],r? ops rest::k⟩::os) (iw fn (S? B q<|.func (.func f) #[]<|cx.map<|mE B) (r? ops rest::k)::cs'):=.cons (o:=⟨fn,S? tm q<|.tuple #[],r? ops rest::k⟩) (ht.set q<|.gV _ t!) aE;obtain⟨J,mi,S,ks,m₂,rfl,a4,aJ,a5,ar,au,aK,af,ah,av,W,aw,a6,aL,aM,aN,a7⟩:=hS.6 m _ _ c ag (lY (λx hx=>Oa ht ag.1.4 x hx) (λx hx=>by rw[ag.4];exact aB x hx)) O.1 a2 aj λb hb=>(O.14 b hb).2
  have ak:=O.spawn (g':=G (iw fn (S? B q<|.func (.func f) #[]<|cx.map<|mE B) (r? ops rest::k)) cs')
   (a:={g:=0,fn:=(G (iw fn (S? B q<|.func (.func f) #[]<|cx.map<|mE B) (r? ops (j::rest)::k)) cs').1.1,pos:=(G (iw fn (S? B q<|.func (.func f) #[]<|cx.map<|mE B) (r? ops (j::rest)::k)) cs').1.place,act:=.go _}) (b:={g:=gs'.size,fn:=(nP P ⟨.fn (.func f)<|cx.map<|mE B,#[]⟩).1.1,pos:=(G (iw fn (S? B q<|.func (.func f) #[]<|cx.map<|mE B) (r? ops (j::rest)::k)) cs').1.place,act:=.start}) a1 hS.4 (λc hc=>hc) a3 q? q? q? q? av a6 (λr q hr=>?_) aM aN a7 ⟨aJ,aj,a5,ar,au,aK,af⟩
  rw[<-hS.z];rw[<-hS.w]at ak
  refine h m₂ _ _ _ _ az _ _ _ ah ak ⟨λr vs hr=>?_,λj J' n hj=>?_,λr hr=>?_⟩ (by rw[hS.t];exact aw _ ac) (by
   rw[cW,if_neg j!]
   simp[a1])
  obtain x|⟨x,_⟩:=aa _ hr
  cases x;refine⟨gs'.size,J,0,by rw[pv];rfl,by rwa[W],ZP _,by rw[a4];rfl,by rw[a4];exact hS.5⟩;obtain⟨j,J',n,x1,x2,x3⟩:=ab.1 r vs x
  have hj:j≠gs'.size:=by intro rfl;rw[<-hK,O.3 _<|.inr<|Zu _]at x1;cases x1
  exact⟨j,J',n,by rwa[pt _ _ hj,hK],by rwa[W],x3⟩;by_cases e:j=gs'.size;subst e;rw[pv]at hj;cases hj;exact⟨rc,L,am,by rwa[W]⟩;rw[pt _ _ e,hK]at hj;obtain⟨r,vs,x,y⟩:=ab.2 j J' n hj;exact⟨r,vs,an r vs x,by rwa[W]⟩;obtain x|⟨x,y⟩:=aa _ hr
  cases x;obtain⟨c,x1,x2⟩:=ab.3 r x;refine⟨c,by rwa[W],x2,?_⟩;intro rfl;have:=m.14 _ _ _ x1 a2;subst this;exact y rfl;obtain x|⟨x1,x2,x3⟩:=aL r q hr
  exact .inl x;exact .inr ⟨x1,x2,al q x1 x3 m Pd ρ' gs' _ t' ag O<|ab.le (.refl m) hK⟩
end
section
open Conc
open ConcN (upd upd_same upd_ne)
inductive Flat:v?->Prop
 |bool (b):Flat (.bool b)
 |int (k n):Flat (.int k n)
 |string (s):Flat (.string s)
 |agg {c:V?}:(∀i(h:i<c.size),Flat c[i])->Flat (.agg c)
def Flat.refl{v}(h:Flat v)(m):VR m v v:=by
 induction h with
 |bool b=>exact .bool b|int k n=>exact .int k n|string s=>exact .string s|agg _ B=>exact .agg q? λi h _=>B i h
def Flat.eq{v}(h:Flat v):∀(m)J,VR m v J->J=v:=by
 induction h with
 |bool b=>intro m J B;cases B;rfl
 |int k n=>intro m J B;cases B;rfl
 |string s=>intro m J B;cases B;rfl
 |@agg c _ U=>
  intro m J B
  cases B with
  |@agg _ c' V W=>congr 1;refine dg V.symm λi Y O=>?_;exact U i O m _<|W i O Y
def DG(z:v?)(k:Nat)(v:v?)(ok:Bool):v?:=
 .tuple #[goInt k,.bool ok,if k=0 then v else z,if k=1 then v else z,if k=2 then v else z,if k=3 then v else z,if k=4 then v else z,if k=5 then v else z,if k=6 then v else z]
def V9(z)(c0 c1 c2 c3 c4 c5 c6)(k:Nat)(v)(ok):ge #[⟨c0,x?,z⟩,⟨c1,x?,z⟩,⟨c2,x?,z⟩,⟨c3,x?,z⟩,⟨c4,x?,z⟩,⟨c5,x?,z⟩,⟨c6,x?,z⟩] .select k v ok=DG z k v ok:=by
 have B:((0:Int)=k)=(k=0):=by rw[eq_iff_iff];omega
 have J:((1:Int)=k)=(k=1):=by rw[eq_iff_iff];omega
 have O:((2:Int)=k)=(k=2):=by rw[eq_iff_iff];omega
 have U:((3:Int)=k)=(k=3):=by rw[eq_iff_iff];omega
 have V:((4:Int)=k)=(k=4):=by rw[eq_iff_iff];omega
 have W:((5:Int)=k)=(k=5):=by rw[eq_iff_iff];omega
 have Y:((6:Int)=k)=(k=6):=by rw[eq_iff_iff];omega
 simp[ge,DG,List.zipIdx,B,J,O,U,V,W,Y]
def Sp{z v}(B:Flat z)(J:Flat v)(k)(ok)(m):VR m (DG z k v ok)<|DG z k v ok:=by
 have one:∀n,VR m (if k=n then v else z) (if k=n then v else z):=λn=>by split;exact J.refl m;exact B.refl m
 refine VR.mM<|eA.cons (.int ..)<|.cons (.bool ok)<|.cons (one 0)<|.cons (one 1)<|.cons (one 2)<|.cons (one 3)<|.cons (one 4)<|.cons (one 5)<|.cons (one 6) .nil
def xN(V:List<|Nat×Option (L?))(r:Nat)(vs:L?):List<|Nat×Option (L?):=V.map λx=>if x.1=r then(r,y? vs)else x
def A0(V:List<|Nat×Option (L?))(r:Nat):List<|Nat×Option (L?):=V.filter λx=>x.1≠r
def dv.select{P}{E:Env P}{fn}{tm:V?}{os wl}{V:List<|Nat×Option (L?)}{k ops i rest o}{x0 x1 x2 x3 x4 x5 x6:Tmp}{z}{cl:Nat->Option Nat}(hi:ops[i]?=y? o)(a7:hO o (dk ops tm)=t?)
  (au:∀(Y:V?)(w),(dl (mE Y) o).runT P w #[]=(.ok (.comm #[⟨Y.getD x0 sp,x?,z⟩,⟨Y.getD x1 sp,x?,z⟩,⟨Y.getD x2 sp,x?,z⟩,⟨Y.getD x3 sp,x?,z⟩,⟨Y.getD x4 sp,x?,z⟩,⟨Y.getD x5 sp,x?,z⟩,⟨Y.getD x6 sp,x?,z⟩] t? .select) w,#[]))
  (hz:Flat z) (c0:tm.getD x0 sp=.chan (cl 0)) (c1:tm.getD x1 sp=.chan (cl 1)) (c2:tm.getD x2 sp=.chan (cl 2)) (c3:tm.getD x3 sp=.chan (cl 3)) (c4:tm.getD x4 sp=.chan (cl 4)) (c5:tm.getD x5 sp=.chan (cl 5)) (c6:tm.getD x6 sp=.chan (cl 6))
  (kO:∀k r,k<7->cl k=y? r->∃vs,(r,y? vs)∈V) (wK:∀k k' r,k<7->k'<7->cl k=y? r->cl k'=y? r->k=k') (an:∃k r,k<7/\cl k=y? r) (iS:(V.map qr).Nodup) (af:∀r vs,(r,y? vs)∈V->∀v∈vs,Flat v)
  (hv:∀k' r v vs,k'<7->cl k'=y? r->(r,y? (v::vs))∈V->dv E (⟨fn,fV o.1 tm<|DG z k' v t?,r? ops rest::k⟩::os) wl (xN V r vs))
  (he:∀k' r,k'<7->cl k'=y? r->(r,y? [])∈V->dv E (⟨fn,fV o.1 tm<|DG z k' z f?,r? ops rest::k⟩::os) wl (A0 V r)) :
  dv E (⟨fn,tm,r? ops (i::rest)::k⟩::os) wl V:=by
 intro m Pd ρ gs w sl t fr' cs' av aw aa ax h0
 have a2:∀r a b,(r,a)∈V->(r,b)∈V->a=b:=by
  intro r a b ha hb;clear aa hv he kO af;induction V with
  |nil=>cases ha
  |cons y V ih=>
   simp only[ZK,Z2]at iS;have ag:∀q,(r,q)∈V->y.1≠r:=λq hq e=>iS.1<|e▸Zv.2 ⟨(r,q),hq,q?⟩;obtain ea|ha:=Zm.1 ha
   obtain eb|hb:=Zm.1 hb
   rw[<-ea]at eb;cases eb;rfl;exact absurd (by rw[<-ea])<|ag b hb;obtain eb|hb:=Zm.1 hb
   exact absurd (by rw[<-eb])<|ag a ha;exact ih iS.2 ha hb
 cases ax with
 |@cons _ _ Y l ht ay=>
  have Li:∀x c,tm.getD x sp=.chan c->Y.getD x sp=.chan (c.bind m.2):=by
   intro x c hc;have hx:=ht.getD x;simp only at hx;rw[hc]at hx;generalize hq:Y.getD x sp=q at hx
   cases hx with
   |kg=>rfl|chan hb=>simp[hb]
  let W:Nat->Option Nat:=λk=>(cl k).bind m.2;let B:Array CommCase:=#[⟨.chan<|W 0,x?,z⟩,⟨.chan<|W 1,x?,z⟩,⟨.chan<|W 2,x?,z⟩,⟨.chan<|W 3,x?,z⟩,⟨.chan<|W 4,x?,z⟩,⟨.chan<|W 5,x?,z⟩,⟨.chan<|W 6,x?,z⟩];have a8:B.size=7:=rfl
  have az:∀w,(dl (mE Y) o).runT P w #[]=(.ok (.comm B t? .select) w,#[]):=by intro w;rw[au,Li x0 _ c0,Li x1 _ c1,Li x2 _ c2,Li x3 _ c3,Li x4 _ c4,Li x5 _ c5,Li x6 _ c6]
  have ah:∀w,dp P t? (G (iw fn Y (r? ops (i::rest)::k)) cs') w=.comm (G (iw fn Y (r? ops (i::rest)::k)) cs') B t? .select w #[]:=by intro w;rw[nK hi<|by rwa[show dk ops Y=dk ops tm from funext (nH ops ht)]];unfold m4;simp only[if_true,az];simp[pr,G,iw,dS]
  have O:∀k c,k<7->W k=y? c->∃r vs j J n,cl k=y? r/\(r,y? vs)∈V/\(ρ j).sum=y? (J,n)/\m.2 r=y? J.c/\J.c=c/\n<=l? J.L/\J.L.drop n=vs/\∀v∈J.L,∀(m:Ren)v',VR m v v'->v'=v:=by
   intro k c hk hc;simp only[W]at hc
   cases e:cl k with
   |none=>rw[e]at hc;cases hc
   |some r=>rw[e]at hc;simp only[Zf]at hc;obtain⟨vs,ab⟩:=kO k r hk e;obtain⟨j,J,n,g1,g2,g3,g4,g5⟩:=aa.1 r vs ab;refine⟨r,vs,j,J,n,q?,ab,g1,g2,?_,g3,g4,g5⟩;rw[g2]at hc;exact l3 hc
  have ai:∀(j j':Nat)J n J' n',(ρ j).sum=y? (J,n)->(ρ j').sum=y? (J',n')->J.c=J'.c->j=j':=by intro j j' J n J' n' h1 h2 hc;apply ZX;intro aj;exact aw.6 j j' J J' aj (fQ.AH h1) (fQ.AH h2) hc
  have hS:zl P (G (iw fn Y (r? ops (i::rest)::k)) cs') B W<|λj=>(ρ j).sum:=by
   refine⟨q?,ah,ah,λk cc ac=>?_,λk k' c hk a0 h1 h2=>?_,λk c hk hc=>?_,?_,λj J n hj v hv=>?_⟩;refine⟨z,?_⟩;match k,((AI.1 ac).1)with
   |0,_=>simpa[B]using ac.symm|1,_=>simpa[B]using ac.symm|2,_=>simpa[B]using ac.symm|3,_=>simpa[B]using ac.symm|4,_=>simpa[B]using ac.symm|5,_=>simpa[B]using ac.symm|6,_=>simpa[B]using ac.symm
   obtain⟨r,vs,j,J,n,e1,_,_,e2,e3,_⟩:=O k c hk h1;obtain⟨r',vs',j',J',n',a3,_,_,a4,a5,_⟩:=O k' c a0 h2;have:=m.14 _ _ _ e2 (by rw[a4,a5,e3]);subst this;exact wK k k' r hk a0 e1 a3;obtain⟨r,vs,j,J,n,_,_,e,_,e3,_⟩:=O k c hk hc;exact⟨j,J,n,e,e3⟩;obtain⟨k,r,hk,hr⟩:=an;obtain⟨vs,ab⟩:=kO k r hk hr;obtain⟨j,J,n,g1,g2,_⟩:=aa.1 r vs ab;exact⟨k,J.c,hk,by simp[W,hr,g2]⟩;obtain⟨r,vs,ab,g2⟩:=aa.2 j J n hj;obtain⟨j',J',n',ao,a1,_,_,g5⟩:=aa.1 r vs ab;rw[g2]at a1;have:=ai j j' J n J' n' hj ao<|l3 a1;subst this;rw[hj]at ao;cases ao;exact g5 v hv
  have am:∀(k':Nat)v ok,(G (iw fn Y (r? ops (i::rest)::k)) cs').finishComm P B .select (k':Int) v ok=G (iw fn (fV o.1 Y<|DG z k' v ok) (r? ops rest::k)) cs':=by intro k' v ok;have e:=ki fn Y ops i rest k<|DG z k' v ok;simp only[hi,Zf]at e;show({(G (iw fn Y (r? ops (i::rest)::k)) cs')with frame:=(iw fn Y (r? ops (i::rest)::k)).finish<|ge B .select (k':Int) v ok,status:=.running,offers:=x?}:Goroutine)=_;rw[V9,e];rfl
  refine Go.Proofs.YtocbogeoffeolaaGreatDoor.select hS ?_ ?_ ρ gs w sl t aw (λ_=>rfl) h0 rfl;intro k' j J n v hk hc hj hn ρ' gs' w' ap t' ak hK al hN;obtain⟨r,vs,j',J',n',e1,e2,e3,e4,e5,e6,e7,e8⟩:=O k' J.c hk hc;have:=ai j j' J n J' n' hj e3 e5.symm;subst this;rw[hj]at e3;cases e3
  have ab:vs=v::J.L.drop (n+1):=by rw[<-e7];obtain⟨a6,rfl⟩:=Zs.1 hn;exact List.drop_eq_getElem_cons a6
  subst ab;rw[am]at al;refine hv k' r v _ hk e1 e2 m Pd ρ' gs' w' ap t' _ _ av ak ⟨λr2 ad h2=>?_,λj2 J2 n2 h2=>?_,λr2 h2=>?_⟩ (.cons (ht.fV _<|Sp hz ((af r _ e2) v i!) k' t? m) ay) al;simp only[xN,Zv]at h2;obtain⟨y,aq,ae⟩:=h2;split at ae
  cases ae;exact⟨j,J,n+1,by rw[hK,pv],e4,(by have:=(Zs.1 hn).1;exact this),q?,e8⟩;rename_i aj;subst ae;obtain⟨j2,J2,n2,g1,g2,g3⟩:=aa.1 r2 ad aq
  have ar:j2≠j:=by intro rfl;rw[hj]at g1;cases g1;exact aj<|m.14 _ _ _ g2 e4
  exact⟨j2,J2,n2,by rwa[hK,pt _ _ ar],g2,g3⟩;rw[hK]at h2;by_cases e:j2=j;subst e;rw[pv]at h2;cases h2;refine⟨r,J.L.drop<|n+1,?_,e4⟩;simp only[xN,Zv];exact⟨_,e2,i!⟩;rw[pt _ _ e]at h2;obtain⟨r2,ad,g1,g2⟩:=aa.2 j2 J2 n2 h2
  have aj:r2≠r:=by intro rfl;rw[e4]at g2;exact e<|ai j2 j J2 n2 J n h2 hj (l3 g2).symm
  refine⟨r2,ad,?_,g2⟩;simp only[xN,Zv];exact⟨_,g1,by simp[aj]⟩;simp only[xN,Zv]at h2;obtain⟨y,aq,ae⟩:=h2;split at ae
  cases ae;subst ae;exact aa.3 r2 aq;intro k' j J z' U hc hj ρ' gs' w' ap t' ak hK al hN;have hk:k'<7:=(AI.1 U).1;let ⟨r,vs,j',J',n',e1,e2,e3,e4,e5,e6,e7,e8⟩:=O k' J.c hk hc;have:=ai j j' J _ J' n' hj e3 e5.symm;subst this;rw[hj]at e3;cases e3;have ab:vs=[]:=by rw[<-e7];simp
  subst ab
  have ez:z'=z:=by
   obtain⟨z2,a9⟩:=hS.4 k' _ U;have a':(n0 J.c z').3=z':=rfl;match k',hk,U with
   |0,_,U=>simp[B,n0]at U;exact U.2.symm|1,_,U=>simp[B,n0]at U;exact U.2.symm|2,_,U=>simp[B,n0]at U;exact U.2.symm|3,_,U=>simp[B,n0]at U;exact U.2.symm|4,_,U=>simp[B,n0]at U;exact U.2.symm|5,_,U=>simp[B,n0]at U;exact U.2.symm|6,_,U=>simp[B,n0]at U;exact U.2.symm
  subst ez;rw[am]at al;refine he k' r hk e1 e2 m Pd ρ' gs' w' ap t' _ _ av ak ⟨λr2 ad h2=>?_,λj2 J2 n2 h2=>?_,λr2 h2=>?_⟩ (.cons (ht.fV _<|Sp hz hz k' f? m) ay) al;simp only[A0,Zb,decide_eq_true_eq]at h2;obtain⟨j2,J2,n2,g1,g2,g3⟩:=aa.1 r2 ad h2.1
  have ar:j2≠j:=by intro rfl;rw[hj]at g1;cases g1;exact h2.2<|m.14 _ _ _ g2 e4
  exact⟨j2,J2,n2,by rwa[hK,pt _ _ ar],g2,g3⟩;rw[hK]at h2
  have e:j2≠j:=by intro rfl;rw[pv]at h2;cases h2
  rw[pt _ _ e]at h2;let ⟨r2,ad,g1,g2⟩:=aa.2 j2 J2 n2 h2;refine⟨r2,ad,?_,g2⟩;simp only[A0,Zb,decide_eq_true_eq];exact⟨g1,(by intro rfl;rw[e4]at g2;exact e<|ai j2 j J2 n2 J _ h2 hj (l3 g2).symm)⟩;simp only[A0,Zb,decide_eq_true_eq]at h2;exact aa.3 r2 h2.1
end
section
open Conc
open ConcN (upd upd_same upd_ne)
variable {f g l:w?}{i:Ren}{o p:F?}
def Ov:fQ->fQ
 |.ended _ _ _ _ q=>.quit q|r=>r
def ze{ρ:Nat->fQ}{i}(B:(ρ i).sum=x?):∃q,Ov (ρ i)=.quit q:=by
 cases e:ρ i with
 |quit q=>exact⟨q,q?⟩|ended O J m S q=>exact⟨q,q?⟩|act=>rw[e]at B;cases B
 |kK=>rw[e]at B;cases B
 |start=>rw[e]at B;cases B
def Co.TP{P}{O:F?}{B:w?}{Pd:F?}{ρ:Nat->fQ}{m Y wl wl'}{gs:Array Goroutine}{w t}(h:Co P o l Pd ρ m wl gs w t)(hn:∀i,(ρ i).sum=x?)(hw:WR Y wl' w)(aa:∀b,O b->b<w.1.size/\w.1[b]?=B.1[b]?)(hf:∀r b,Y.1 r=y? b->O b->Y.3 r)(ac:B.1.size<=w.1.size)(ad:w.4=B.4/\w.5=B.5)(ab:∀b,b<B.1.size->O b\/B.1[b]?=y? rX) :
  Co P O B (λ_=>False) (λi=>Ov<|ρ i) Y wl' gs w t:=by
 have no:∀{α:Type}(f:fQ->Option α),(∀q,f _=x?)->∀i x,f (Ov _)=y? x->False:=λf hf i x hx=>by obtain⟨q,e⟩:=(λi=>ze<|hn i) i;rw[e,hf]at hx;cases hx
 refine⟨hw,λi g hi hg=>?_,λi hi=>?_,λi m1 U=>(no _ (λ_=>rfl) i m1 U).elim,λi j m1 m2 _ U _=>(no _ (λ_=>rfl) i m1 U).elim,λi j J1 J2 _ U _=>(no _ (λ_=>rfl) i J1 U).elim,h.calm hn Y,λi m1 U=>(no _ (λ_=>rfl) i m1 U).elim,λi J U=>(no _ (λ_=>rfl) i J U).elim,h.10,h.11,h.12.mono λi hi=>absurd (hn i) hi,h.13,aa,hf,λi m1 U=>(no _ (λ_=>rfl) i m1 U).elim,λi J U=>(no _ (λ_=>rfl) i J U).elim,ac,ad,λp a b ha hb _=>.inl<|h.calm hn {Y with blk:=λr=>if r=b then y? b else x?,Lp:=?_,inj:=?_,loose:=λ_=>False} p a b b ha hb i! nofun,nofun,λb hb=>(ab b hb).imp id .inr⟩;have W:=h.2 i g hi hg;have V:=hn i
 cases e:ρ i with
 |quit q=>rwa[e]at W|ended hd J m S q=>rw[e]at W;exact W.1|act=>rw[e]at V;cases V
 |kK=>rw[e]at V;cases V
 |start=>rw[e]at V;cases V
 rw[h.3 i hi];rfl;intro r r' hr;split at hr
 cases hr;rename_i e;rw[e]
 cases hr;intro r s q hr V;split at hr;split at V;rename_i e1 e2;rw[e1,e2]
 cases V
 cases hr
def Co.old{P}{Pd:F?}{ρ m gs w t}(h:Co P p f Pd ρ m l gs w t)(hn:∀i,(ρ i).sum=x?)(V:∀b,f.1[b]?=y? rX->p b):∀b,b<f.1.size->w.1[b]?=f.1[b]?:=by
 intro b hb;obtain x|⟨i,J,r,o,x1,x2,x3⟩|z:=h.22 b hb
 .exact(h.14 b x).2
 rotate_left;exact(h.14 b<|V b z).2;obtain⟨g,hi,hg,O⟩:=h.get λe=>by rw[e]at x1;cases x1
 have B:=hn i
 cases e:ρ i with
 |quit q=>rw[e]at x1;cases x1
 |act=>rw[e]at B;cases B
 |kK=>rw[e]at B;cases B
 |start=>rw[e]at B;cases B
 |ended hd J' mi S q=>rw[e]at x1 O;cases x1;let ⟨_,U,⟨W,Y⟩,aa,_⟩:=O;let ⟨h1,h2⟩:=Y.4 S W r b o x2;let ⟨o1,o2,g1,g2,g3⟩:=aa.1 r b<|U.4 r b o x2;rw[h1]at g1;cases g1;rw[h2 mi o2 g3]at g2;rw[g2,x3]
def Co.fresh{P}{Y:F?}{ρ m gs w t}(h:Co P p f Y ρ m l gs w t)(O:∀b,f.1[b]?=y? rX->p b){r b}(U:m.1 r=y? b)(V:¬m.3 r):f.1.size<=b:=by
 apply ZX;intro hb;obtain x|⟨i,J,r',o,x1,x2,x3⟩|z:=h.22 b o!
 .exact V (h.f0 r b U x)
 rotate_left;exact V<|h.f0 r b U<|O b z;obtain⟨g,hi,hg,W⟩:=h.get λe=>by rw[e]at x1;cases x1
 obtain⟨m1,B⟩:∃m1,(ρ i).vh=y? m1:=by
  cases e:ρ i with
  |quit q=>rw[e]at x1;cases x1
  |act J m S n=>exact⟨m,q?⟩|kK J m S n v=>exact⟨m,q?⟩|start J m S k=>exact⟨m,q?⟩|ended hd J m S q=>exact⟨m,q?⟩
 exact V (h.4 i m1 B r r' b U<|(W.ZbC B x1).4 r' b o x2).1
def WR.UZ{m w}(h:WR m l w){b}{c:V?}{e f}(hb)(hG)(ho:w.1[b]?=y? (.cells c e f))(hc:∀v∈c.1,Flat v) :
  WR (m.ext l.1.size b h.jc hb hG) {l with heap:=l.1.push<|.cells c e f} w:=by
 have U:=Ren.yT h.jc hb hG
 have key:∀r r',(m.ext l.1.size b h.jc hb hG).1 r=y? r'->(r=l.1.size/\r'=b)\/(r≠l.1.size/\m.1 r=y? r'):=by intro r r' B;by_cases e:r=l.1.size;subst e;simp[Ren.ext]at B;exact .inl ⟨q?,B.symm⟩;simp[Ren.ext,e]at B;exact .inr ⟨e,B⟩
 have lo:∀r,(m.ext l.1.size b h.jc hb hG).3 r->r≠l.1.size/\m.3 r:=by intro r B;by_cases e:r=l.1.size;subst e;simp[Ren.ext]at B;simp[Ren.ext,e]at B;exact⟨e,B⟩
 have pu:∀r,r<l.1.size->(l.1.push<|.cells c e f)[r]?=l.1[r]?:=λr B=>fG B;refine⟨λr r' B=>?_,λr r' c1 V f1 c2 e2 f2 B h1 W hn=>?_,λr r' c1 V f1 c2 e2 f2 B h1 W Y=>?_,λr r' B=>?_,?_,h.6,h.7,λr o B=>?_,λr r' B Y=>?_,λr B=>?_,λr i v hv=>?_⟩;obtain⟨rfl,rfl⟩|⟨_,B⟩:=key r r' B
 exact⟨_,_,i!,ho,.cells e f f<|fh.refl λv hv=>(hc v hv).refl _⟩;obtain⟨o,o',O,g2,g3⟩:=h.1 r r' B;exact⟨o,o',jL O,g2,g3.mono U⟩;obtain⟨rfl,rfl⟩|⟨J,B⟩:=key r r' B
 rw[ho]at W;cases W;simp at h1;exact h1.2.2;refine h.2 r r' c1 V f1 c2 e2 f2 B (by rwa[<-pu r<|(h.lt B).1]) W λx=>hn ?_;simp[Ren.ext,J,x];obtain⟨rfl,rfl⟩|⟨J,B⟩:=key r r' B
 exact absurd q? (lo _ Y).1;exact h.3 r r' c1 V f1 c2 e2 f2 B (by rwa[<-pu r<|(h.lt B).1]) W (lo _ Y).2;have:=h.4 r r' B;exact⟨j!,this.2⟩;have:=h.5;show m.G<=(l.1.push _).size;simp;omega;obtain⟨O,g2⟩:=h.8 r o B;exact⟨jL O,g2⟩;obtain⟨rfl,rfl⟩|⟨J,B⟩:=key r r' B
 exact absurd q? (lo _ Y).1;obtain⟨c1,V,f1,g⟩:=h.9 r r' B (lo _ Y).2;exact⟨c1,V,f1,jL g⟩;obtain⟨O,c1,f1,g⟩:=h.10 r B;have ab:=lA g;refine⟨?_,c1,f1,jL g⟩;have J:r≠l.1.size:=o!;simp[Ren.ext,J,O];obtain⟨r',aa,hp⟩:=h.11 r i v hv;exact⟨r',U.1 _ _ aa,λc e f c' e' f' x O=>hp c e f c' e' f' x<|by rwa[<-pu r (h.lt aa).1]⟩
end
section
open Conc
open ConcN (upd upd_same upd_ne)
def Rg.UZ{P}{E:Env P}{m}(h:Rg E m){r b}(h1)(h2)(h3):Rg E<|m.ext r b h1 h2 h3:=by have B:=Ren.yT h1 h2 h3;exact⟨h.1.mono B,h.2,h.3,B.6.trans h.4,B.5.trans h.5,E.le m _ B h.x⟩
def MG{m}{c B:V?}(h:fh m c B)(J:∀v∈c.1,Flat v):B=c:=by refine dg h.size.symm λi O U=>?_;have:=h.idx i U O;exact(J _ i!).eq m _ this
structure El(P:P?)(jT:Env P)(iI:Func)(tm1:V?)(wl2:w?)(R0:Nat->Nat->Prop)(R1:Nat->Option Nat->Nat->Nat->V?->dw->Nat×Nat->Prop):Prop where
 Ot:∃v1,(∀τ,(dN iI tm1).run P (tp wl2 τ)=.ok v1 (tp wl2 τ))/\((∃l cp,v1=.slice none l cp/\R0 l cp)\/∃b1 off spot l cp cs e f,v1=.slice (some ⟨b1,off,spot⟩) l cp/\wl2.1[b1]?=some (.cells cs e f)/\(∀v∈cs.1,Flat v)/\(∀m,Rg jT m->¬m.3 b1)/\e≠0/\R1 off spot l cp cs e f)
 mkd:∀b,jT.3.1[b]?=some rX->jT.2 b
def R'{P E fn}{tm:V?}{os wl k jT f iI ops i rest o m0}{B:V?}{W}{ay:V?}{td1 ad R0}{R1:Nat->Option Nat->Nat->Nat->V?->dw->Nat×Nat->Prop}
  (ap:∀b,b<E.3.1.size->E.2 b\/E.3.1[b]?=y? rX) (V:∀b,E.2 b->b<jT.3.1.size/\jT.3.1[b]?=E.3.1[b]?) (az:∀r b,m0.1 r=y? b->E.2 b->m0.3 r) (a0:E.3.1.size<=jT.3.1.size) (ai:jT.3.4=E.3.4/\jT.3.5=E.3.5) (hZ:jT.Z=E.Z) (hT:jT.T=iw fn B (r? ops (i::rest)::k)::W) (aj:Rg E m0) (ae:WR m0 wl jT.3) (ht:fh m0 tm B) (a1:qy m0 E.T os W) (hf:P.2[f]?=y? iI) (hi:ops[i]?=y? o) (aD:td1=[]\/∃k1,td1=.code .ret::k1) (hR:El P jT iI ay ad R0 R1)
  (aE:∀l cp,R0 l cp->dv E (⟨fn,fV o.1 tm<|.slice x? l cp,r? ops rest::k⟩::os) wl [])
  (aF:∀off spot l cp cs e f,R1 off spot l cp cs e f->(∀v∈cs.1,Flat v)->dv E (⟨fn,fV o.1 tm<|.slice (y? ⟨wl.1.size,off,spot⟩) l cp,r? ops rest::k⟩::os) {wl with heap:=wl.1.push<|c? cs e f} []) :
  dv jT [⟨f,ay,td1⟩] ad []:=by
 intro m Pd ρ gs w sl t fr' cs' aG aH aI af h0
 have hn:∀i,(ρ i).sum=x?:=by
  intro i
  cases e:(ρ i).sum with
  |none=>rfl|some x=>obtain⟨r,vs,hx,_⟩:=aI.2 i x.1 x.2 e;cases hx
 refine turn q? ?_ ρ gs w sl t aH (λ_=>rfl) h0 rfl;intro ρ' gs' w' aW a2 d t' ag hK ah hN
 cases af with
 |@cons _ _ U l aJ af=>
  cases af;rw[hT]at ah
  have aK:dp P t? (G (iw f U td1) (iw fn B (r? ops (i::rest)::k)::W)) (w'.at d)=.go (G ⟨f,U,td1,[],.returning,.normal,x?⟩ (iw fn B (r? ops (i::rest)::k)::W)) (w'.at d) #[]:=by obtain rfl|⟨k1,rfl⟩:=aD<;>rfl
  have a3:=nn (sl:=a2) ah<|aK;rw[a3];apply jT.Z.next _ _ _ _;refine turn (Z:=jT.Z) (a:=G ⟨f,U,td1,[],.returning,.normal,x?⟩ (iw fn B (r? ops (i::rest)::k)::W)) (K:=λj=>(ρ' j).sum) (N:=gs'.size) q? ?_ ρ' _ _ a2 _ (ag.Ap (gs':=S? (gs'.map<|woken P _ _<|w'.at d) 0<|G ⟨f,U,td1,[],.returning,.normal,x?⟩ (iw fn B (r? ops (i::rest)::k)::W)) (.refl m) (.refl m _) i! ag.1 i!<|iH _) (λ_=>rfl) (by simp[(AI.1 ah).1]) i!;clear ag a3 ah;intro aL aM w2 aX aq d2 t2 ak aN a4 aY;obtain⟨v1,a5,ar⟩:=hR.1;have a6:=(nG (P:=P) (fn:=iI) aJ).run _ _ #[] (ak.1.tp _)<|.inl<|rP ad _;rw[a5]at a6;obtain⟨al,v',w₁,es₁,e1,e2,e3,e4,_,e6,e7⟩:=a6;rw[cY]at e1;have am:=ki fn B ops i rest k v';simp only[hi,Zf]at am
  have a7:dp P t? (G ⟨f,U,td1,[],.returning,.normal,x?⟩ (iw fn B (r? ops (i::rest)::k)::W)) (w2.at d2)=.go (G (iw fn (fV o.1 B v') (r? ops rest::k)) W) w₁ (dS P f es₁):=by have:dp P t? (G ⟨f,U,td1,[],.returning,.normal,x?⟩ _) _=er P t? ⟨f,U,td1,[],.returning,.normal,x?⟩ (iw fn B (r? ops (i::rest)::k)::W) x? (w2.at d2):=rfl;rw[this];unfold er;simp only[hf,e1];unfold fB;simp only[am];simp[pr,G]
  have a8:=nn (sl:=aq) a4<|a7;rw[a8];apply jT.Z.next _ _ _ _;rw[hZ];have an:=(AI.1 a4).1;have O:=ak.Ap (gs':=S? (aM.map<|woken P (G ⟨f,U,td1,[],.returning,.normal,x?⟩ (iw fn B (r? ops (i::rest)::k)::W)) (G (iw fn (fV o.1 B v') (r? ops rest::k)) W) w₁) 0<|G (iw fn (fV o.1 B v') (r? ops rest::k)) W) (fn:=(G (⟨f,U,td1,[],.returning,.normal,x?⟩:Frame) (iw fn B (r? ops (i::rest)::k)::W)).1.1) (pos:=(G (⟨f,U,td1,[],.returning,.normal,x?⟩:Frame) (iw fn B (r? ops (i::rest)::k)::W)).1.place) (es:=dS P f es₁) e2 e6 (λe he=>e7 e<|nw he) e4 i!<|iH _;have au:∀i,(aL i).sum=x?:=λi=>(aN i).trans<|(hK i).trans<|hn i;have hold:=O.old au hR.2;have ab:=ae.rely (λr b hb=>hold b (ae.lt hb).2) O.sz O.os.1;have Y:=aG.le e2 e6;have calm:∀m' av,WR m' av w₁->(∀r b,m'.1 r=y? b->E.2 b->m'.3 r)->Co P _ _ _ _ m' av _ w₁ _:=λm' av hw hf=>O.TP au hw (λb hb=>⟨AT (V b hb).1 O.sz,(hold b (V b hb).1).trans (V b hb).2⟩) hf (ZE a0 O.sz) ⟨O.os.1.trans ai.1,O.os.2.trans ai.2⟩ ap
  have yk:∀m',XV m' (λi=>Ov _) (λ_=>False) []:=λm'=>by refine⟨λr vs hr=>(by cases hr),λj J n hj=>?_,λr hr=>(by cases hr)⟩;obtain⟨q,e⟩:=ze<|au j;rw[e]at hj;cases hj
  obtain⟨l,cp,rfl,aO⟩|⟨b1,off,spot,l,cp,cs,ty,fz,rfl,a9,aw,aa,aP,aQ⟩:=ar
  cases e3 with
  |gC=>exact aE l cp aO m0 _ _ _ _ aq _ _ _ aj (calm m0 wl ab az) (yk m0) (.cons (ht.fV _<|.gC l cp) a1) (by simp[an])
  cases e3 with
  |zero _ hd=>let ⟨_,c0,f0,g0⟩:=e4.10 b1 hd;exact absurd (Obj.cells.inj<|l3<|(g0).symm.trans a9).2.1.symm aP
  |@slice _ a' _ _ ha=>
   cases ha with
   |@mk _ b' _ _ ax=>
    let ⟨o1,o2,g1,g2,g3⟩:=e4.1 b1 b' ax;have ao:(tp ad<|along ad<|w2.at d2).1[b1]?=y? _:=a9;rw[ao]at g1;cases g1
    cases g3 with
    |@cells _ cs' _ _ aR aS=>
     have aT:=MG aS aw;subst aT;have aU:=e4.2 b1 b' _ _ _ _ _ _ ax ao g2<|aa al Y;subst aU;have aC:=O.fresh hR.2 ax<|aa al Y
     have ac:∀s,m0.1 s≠y? b':=λs hs=>by have:=(ae.lt hs).2;omega
     have hG:wl.1.size<m0.G↔b'<m0.G:=by have h1:=ae.5;have h2:=ae.6;constructor<;>intro x<;>omega
     have aA:=Ren.yT ab.jc ac hG
     have aV:∀r b,(m0.ext _ b' ab.jc ac hG).1 r=y? b->E.2 b->(m0.ext _ b' ab.jc ac hG).3 r:=λr b hr hF=>by by_cases e:r=wl.1.size;subst e;simp[Ren.ext]at hr;have:=(V b hF).1;omega;have:=az r b (by simpa[Ren.ext,e]using hr) hF;simpa[Ren.ext,e]using this
     have aB:(m0.ext wl.1.size b' ab.jc ac hG).1 wl.1.size=y? b':=by simp[Ren.ext]
     exact aF off spot l cp cs' ty aR aQ aw _ _ _ _ _ aq _ _ _ (aj.UZ _ ac hG) (calm _ _ (ab.UZ ac hG g2 aw) aV) (yk _) (.cons ((ht.mono aA).fV _<|.slice l cp<|.mk aB)<|a1.mono aA) (by simp[an])
def dv.phase{P:P?}{E:Env P}{fn:d'}{tm:V?}{os:List OF}{wl:w?}{k:List Item}{ops:Array Oper}{i:Nat}{rest:List Nat}{o:Oper}{f:d'}{iI:Func}{c:Code}{W:Array Operand}{ts:Array dw}{R0:Nat->Nat->Prop}{R1:Nat->Option Nat->Nat->Nat->V?->dw->Nat×Nat->Prop}
  (ae:∀b,b<E.3.1.size->E.2 b\/E.3.1[b]?=y? rX) (hi:ops[i]?=y? o) (a8:hO o (dk ops tm)=t?) (hf:P.2[f]?=y? iI) (hb:iI.9=y? c) (hn:iI.1≠ "runtime.NumGoroutine") (ho:o.2=.call {callee:=.value<|.func f,args:=W,argTypes:=ts}) (ar:∀x∈W.1,eI E.7 E.5 x)
  (hph:∀m w ac T,Rg E m->WR m wl w->fh m (W.map<|mE tm) ac->(∀ps,T=[ps]->ps.5≠.panicking [ef])->∃(U:Env P)(af:V?)(m1:Ren)(ag:w?),U.Z=E.Z/\U.T=T/\U.3=w/\(∀b,U.2 b↔b<w.1.size)/\Rg U m1/\WR m1 ag w/\(∀r b,m1.1 r=y? b->m1.3 r)/\fh m1 af (ac++cK (iI.7-W.size) sp)/\
    ((∀(V:Env P)ah Y ai,V.Z=E.Z->V.T=T->V.3=w->(Y=[]\/∃k2,Y=.code .ret::k2)->El P V iI ah ai R0 R1->dv V [⟨f,ah,Y⟩] ai [])->dv U [⟨f,af,[.code c]⟩] ag []))
  (au:∀l cp,R0 l cp->dv E (⟨fn,fV o.1 tm<|.slice x? l cp,r? ops rest::k⟩::os) wl [])
  (av:∀off spot l cp cs e f,R1 off spot l cp cs e f->(∀v∈cs.1,Flat v)->dv E (⟨fn,fV o.1 tm<|.slice (y? ⟨wl.1.size,off,spot⟩) l cp,r? ops rest::k⟩::os) {wl with heap:=wl.1.push<|c? cs e f} []) :
  dv E (⟨fn,tm,r? ops (i::rest)::k⟩::os) wl []:=by
 intro m Pd ρ gs w sl t fr' cs' aa aw ax ad h0
 have ay:∀i,(ρ i).sum=x?:=by
  intro i
  cases e:(ρ i).sum with
  |none=>rfl|some x=>obtain⟨r,vs,hx,_⟩:=ax.2 i x.1 x.2 e;cases hx
 refine turn q? ?_ ρ gs w sl t aw (λ_=>rfl) h0 rfl;intro ρ' gs' w' a9 ak d t' B hK al hN;have az:=ad
 cases ad with
 |@cons _ _ O l ht a0=>
  have a1:m4 P t? (iw fn O (r? ops (i::rest)::k)) cs' x? (dl (mE O) o) (w'.at d)=.go (G (iw f (W.map (mE O)++cK (iI.7-W.size) sp) [.code c]) (iw fn O (r? ops (i::rest)::k)::cs')) (w'.at d) #[]:=by unfold m4;simp only[if_true,JB P hf hb hn (mE O) q? ho<|w'.at d];simp[pr,G,iw,nL,hf,hb,dS]
  rw[nn (sl:=ak) al<|(nK (P:=P) (fn:=fn) (k:=k) (rest:=rest) (cs':=cs') (w:=w'.at d) hi<|by rwa[show dk ops O=dk ops tm from funext (nH ops ht)]).trans a1];apply E.Z.next _ _ _ _
  have aj:∀ps,(iw fn O (r? ops (i::rest)::k)::cs')=[ps]->ps.5≠.panicking [ef]:=by intro ps e;cases e;simp[iw]
  let ⟨U,af,m1,ag,a2,a3,ab,am,a4,an,a5,a6,ao⟩:=hph m _ _ _ aa B.1 (lY (λx hx=>Oa ht aa.1.4 x hx) (λx hx=>by rw[aa.4];exact ar x hx)) aj;have ap:∀i,(ρ' i).sum=x?:=λi=>(hK i).trans<|ay i;have aq:=B.Ap (gs':=S? (gs'.map<|woken P (G (iw fn O (r? ops (i::rest)::k)) cs') (G (iw f (W.map (mE O)++cK (iI.7-W.size) sp) [.code c]) (iw fn O (r? ops (i::rest)::k)::cs')) _) 0 _) (fn:=(G (iw fn O (r? ops (i::rest)::k)) cs').1.1) (pos:=(G (iw fn O (r? ops (i::rest)::k)) cs').1.place) (es:=#[]) (.refl m) (.refl m _) i! B.1 i!<|iH _;rw[<-a2];refine ao ?_ m1 _ _ _ _ ak _ _ _ a4 (aq.TP ap an (λb hb=>by rw[ab];exact⟨(am b).1 hb,q?⟩) (λr b hr _=>a5 r b hr) (by rw[ab];exact Zu _) (by rw[ab];exact⟨q?,q?⟩)<|λb hb=>.inl<|(am b).2<|by rwa[ab]at hb) ⟨λr vs hr=>(by cases hr),λj J n hj=>?_,λr hr=>(by cases hr)⟩ (.cons a6 (by rw[a3];exact .nil)) (by simp[(AI.1 al).1]);intro V ah Y ai z2 T2 W2 a7 hR;exact R' ae (λb hb=>by rw[W2];exact B.14 b hb) B.f0 (by rw[W2];exact B.sz) (by rw[W2];exact B.os) z2 T2 aa (by rw[W2];exact B.1) ht a0 hf hi a7 hR au av;obtain⟨q,e⟩:=ze<|ap j;rw[e]at hj;cases hj
end
section
open Conc
variable {f:v?}{g:P?}
def TN:v?->Bool
 |.bool _|n? _ _|s? _|p? x?|.slice x? _ _|.map x?|.chan x?|.nilFunc|.nilIface=>t?|_=>f?
def G8(h:TN f=t?):Plain f:=by unfold TN at h;split at h<;>first|trivial|cases h
def XO(nu gl:Nat->Bool):Operand->Bool
 |.tmp _=>t?|.const v=>TN v|.global g=>gl g|.func f=>nu f
def T0{nu gl x}(h:XO nu gl x=t?):eI (λf=>nu f=t?) (λg=>gl g=t?) x:=by
 cases x with
 |tmp t=>trivial|const v=>exact G8 h|global g=>exact h|func f=>exact h
def Kb:Operand->Bool
 |.tmp _=>t?|.const v=>TN v|_=>f?
def U2(P:P?)(st:Bool)(B:Array dw)(n:Nat):Builtin->Bool
 |.append|.clear|.copy|.max|.min|.recover=>t?|.cap|.len=>(B[0]?).all<|uJ P|.unsafeString=>st&&n==2|_=>f?
def Zai(P:P?)(st:Bool)(t:dw):Bool:=match P.underlying t with
 |some (.map k _)=>tz P 10000 k&&(st || q9 P so k)
 |_=>t?
def eqB(P:P?)(st:Bool)(t:dw)(y:Operand):Bool:=st || q9 P so t || (isNil y&&match P.underlying t with|some (.pointer _)|some (.interface _)|none=>t?|_=>f?)
def KQ(P:P?)(nu gl:Nat->Bool)(st:Bool)(op:Op):Bool:=
 op.operands.all (XO nu gl)&&match op with
 |.move _|.assign _|.pick ..|.alloc _|.box ..|.build ..|.buildSlice ..|.load ..|.store ..|.nilCheck _|.unOp ..|.makeInterface ..|.makeMap ..|.makeSlice ..|.slice ..|.fieldAddr ..|.field ..|.indexAddr ..|.index ..|.entryStore ..|.range ..|.next ..|.entry _|.extract ..|.panic _|.send .. => t?|.binOp o t _ y _=>(match o with|.eql|.neq=>eqB P st t y|_=>t?)
 |.convert s d _=>FB P s d|.makeFunc (.func f) _ _=>nu f|.lookup t ..|.mapUpdate t ..|.mapEntry t .. => Zai P st t|.typeAssert _ _ _ ok=>ok|.call c=>(match c.1 with
  |.value _=>t?|.builtin b=>U2 P st c.3 c.2.size b|.invoke .. => f?)
 |.defer c=>(match c.1 with
  |.value _=>t?|_=>f?)
 |_=>f?
def lD(ok:Oper->Bool):Code->Bool
 |.skip|.exit _|.label _|.goto _|.ret=>t?|.region _ ops _=>ops.all ok|.seq a b=>lD ok a&&lD ok b|.cond c a b=>Kb c&&lD ok a&&lD ok b|.block _ c|.loop c|.scope c=>lD ok c|.rangeFunc f _ a b=>Kb f&&lD ok a&&lD ok b|.refuse _=>f?
def VE{st t}(h:Zai g st t=t?):T5 g st t:=by intro k e B;unfold Zai at h;rw[B]at h;simp only[IT,Z7]at h;exact h
def Zab{st t y}(h:eqB g st t y=t?):Zbq g st t y:=by
 unfold eqB at h;simp only[Z7,IT]at h;rcases h with(h|h)|⟨J,B⟩
 exact .inl h;exact .inr (.inl h);refine .inr (.inr ⟨J,λd O=>?_⟩);rw[O]at B;cases d<;>first|exact .inl ⟨_,q?⟩|exact .inr ⟨_,q?⟩|cases B
def yI{P nu gl st op}(h:KQ P nu gl st op=t?):OkOp P (λf=>nu f=t?) (λg=>gl g=t?) st op:=by
 unfold KQ at h;rw[IT]at h;obtain⟨V,B⟩:=h;refine⟨λx W=>T0 ?_,?_⟩;rw[cS]at V;rw[ZQ]at W;obtain⟨i,Y,rfl⟩:=cZ.1 W;exact V i Y
 cases op with
 |binOp o t x y s=>rintro(rfl|rfl)<;>exact Zab B
 |convert s d x=>exact B|makeFunc f a b=>cases f<;>first|exact B|cases B
 |lookup|mapUpdate|mapEntry=>exact VE B|typeAssert=>exact B|call c=>
  obtain⟨ce,J,O⟩:=c
  cases ce with
  |value x=>trivial|invoke=>cases B
  |builtin b=>
   refine⟨?_,by intro rfl;cases B⟩;cases b<;>first|trivial|cases B|skip
   intro t U;have B:(O[0]?).all _=t?:=B;rwa[U]at B;intro t U;have B:(O[0]?).all _=t?:=B;rwa[U]at B;have B:(st&&J.size==2)=t?:=B;show st=t?/\J.size=2;simpa using B
 |defer c=>obtain⟨ce,J,O⟩:=c;cases ce<;>first|trivial|cases B
 |_=>first|trivial|cases B
def rE{ok}:∀{c},lD ok c=t?->gU (λo=>ok o=t?) c:=by
 have B:∀{x:Operand},Kb x=t?->yN x:=fun {x} h=>by
  cases x with
  |tmp t=>trivial|const v=>exact G8 h|global g=>cases h
  |func f=>cases h
 intro c;induction c with
 |skip|exit|label|goto|ret=>intro _;trivial|region i ops d=>intro h o V;have h:ops.all ok=t?:=h;rw[cS]at h;rw[ZQ]at V;obtain⟨i,W,rfl⟩:=cZ.1 V;exact h i W
 |seq a b J O=>intro h;have h:(lD ok a&&lD ok b)=t?:=h;rw[IT]at h;exact⟨J h.1,O h.2⟩
 |cond x a b J O=>intro h;have h:(Kb x&&lD ok a&&lD ok b)=t?:=h;simp only[IT]at h;exact⟨B h.1.1,J h.1.2,O h.2⟩
 |block i c U=>exact λh=>U h|loop c U=>exact λh=>U h|scope c U=>exact λh=>U h|rangeFunc f ps a b J O=>intro h;have h:(Kb f&&lD ok a&&lD ok b)=t?:=h;simp only[IT]at h;exact⟨B h.1.1,J h.1.2,O h.2⟩
 |refuse=>intro h;cases h
def JC:Nat->v?->Bool
 |0,_=>f?|n+1,v=>match v with
  |.agg c=>c.all<|JC n|.tuple c=>c.all<|JC n|v=>TN v
def Bn:∀{n v},JC n v=t?->∀m,VR m v v
 |n+1,v,h,m=>by unfold JC at h;split at h;rw[cS]at h;exact .agg q? λi B _=>Bn (h i B) m;rw[cS]at h;exact .tuple q? λi B _=>Bn (h i B) m;exact VR.plain<|G8 h
def Fv{U B:Type}{I:B->Prop}{f:U->B->Option (ForInStep B)}(V:∀a s r,f a s=y? r->I s->∃s',(r=.yield s'\/r=.done s')/\I s'):∀(l:List U){s s'},I s->forIn l s f=y? s'->I s'
 |[],s,s',h,e=>by simp at e;exact e▸h
 |a::l,s,s',h,e=>by
  rw[List.forIn_cons]at e
  cases J:f a s with
  |none=>rw[J]at e;cases e
  |some r=>
   rw[J]at e
   obtain⟨Y,O|O,W⟩:=V a s r J h
   subst O;exact Fv V l W e;subst O;have:=e;cases this;exact W
def n9(v:v?):Prop:=∀m,VR m v v
def n9.cells(h:n9 f):∀x∈f.cells.1,n9 x:=by intro x B m;rw[ZQ]at B;obtain⟨i,J,rfl⟩:=cZ.1 B;exact((h m).cells).idx i J J
def n9.agg{c:V?}(h:∀x∈c.1,n9 x):n9<|.agg c:=λm=>.agg q? λi B _=>h _ i! m
def xZ{O:dw->Option TypeInfo}(aa:∀t i f,O t=y? i->i.8=y? f->n9 f){fs i}(h:nc O fs=y? i)(hv:i.8=y? f):n9 f:=by
 unfold nc at h;simp only[gv,ZC]at h;obtain⟨st,U,J⟩:=h;rw[<-Array.forIn_toList]at U
 have hI:=Fv (I:=λs:Array Field×Nat×Nat×Nat×Nat×Bool×Bool×Option (V?)×String=>∀zs,s.2.2.2.2.2.2.2.1=y? zs->∀x∈zs.1,n9 x) (λa s r V hs=>by
  cases hi:O a.2 with
  |none=>rw[hi]at V;cases V
  |some j=>
   have W:∀zs,(s.2.2.2.2.2.2.2.1.bind λz1=>j.8.bind λz2=>pure<|z1++z2.cells)=y? zs->∀x∈zs.1,n9 x:=by intro zs B;rw[ZC]at B;obtain⟨z1,e1,B⟩:=B;rw[ZC]at B;obtain⟨z2,e2,B⟩:=B;cases B;intro x hx;rw[Array.toList_append,Z3]at hx;exact hx.elim (hs z1 e1 x)<|(aa _ j z2 hi e2).cells x
   have Y:∀zs,(x?:Option<|V?)=y? zs->∀x∈zs.1,n9 x:=λzs B=>by cases B
   have key:∀zs,(if s.2.1+j.3 > Made.mostCells then x? else s.2.2.2.2.2.2.2.1.bind λz1=>j.8.bind λz2=>pure<|z1++z2.cells)=y? zs->∀x∈zs.1,n9 x:=by
    intro zs B;split at B
    cases B;exact W zs B
   rw[hi]at V;simp only[Zf]at V
   repeat' split at V
   all_goals first
    |(cases V;done)
    |(simp only[ZC]at V
      let ⟨tg,_,V⟩:=V
      cases V
      first|exact⟨_,.inl q?,Y⟩|exact⟨_,.inl q?,W⟩|exact⟨_,.inl q?,key⟩)
    |(cases V;first|exact⟨_,.inl q?,Y⟩|exact⟨_,.inl q?,W⟩|exact⟨_,.inl q?,key⟩)) fs.1 (s:=(#[],0,0,1,0,f?,t?,y? #[],"struct {")) (by
   intro zs B x hx;cases B
   simp at hx) U
 have B:∃zs,st.2.2.2.2.2.2.2.1=y? zs/\f=.agg zs:=by
  split at J
  cases J;simp only[g9]at hv;obtain⟨zs,h1,h2⟩:=hv;exact⟨zs,h1,h2.symm⟩
  cases J;simp only[g9]at hv;obtain⟨zs,h1,h2⟩:=hv;exact⟨zs,h1,h2.symm⟩
 obtain⟨zs,h1,rfl⟩:=B;exact .agg (hI zs h1)
def I1{U:dw->Option TypeInfo}(O:∀t i f,U t=y? i->i.8=y? f->n9 f){d i}(h:m9 U d=y? i)(J:i.8=y? f):n9 f:=by
 have B:∀(d:TypeDesc)(s:String)(z:v?)(c:Bool)(n:Nat),(Made.word d s z c n).8=y? f->Plain z->n9 f:=by intro d s z c n e W;cases e;exact λm=>VR.plain W
 cases d with
 |struct fs=>exact xZ O h J|pointer e=>
  simp only[m9,gv,ZC]at h;let ⟨j,_,h⟩:=h;split at h
  cases h;split at h
  cases h;simp only[ZC]at h;let ⟨s,_,h⟩:=h;cases h;exact B _ _ _ _ _ J trivial;simp only[ZC]at h;let ⟨s,_,h⟩:=h;cases h;exact B _ _ _ _ _ J trivial
 |slice e=>simp only[m9,gv,ZC]at h;let ⟨_,_,_,_,h⟩:=h;cases h;exact B _ _ _ _ _ J trivial
 |map k e=>simp only[m9,gv,ZC]at h;let ⟨_,_,_,_,_,_,_,_,h⟩:=h;cases h;exact B _ _ _ _ _ J trivial
 |chan dr e=>simp only[m9,gv,ZC]at h;let ⟨_,_,_,_,h⟩:=h;cases h;exact B _ _ _ _ _ J trivial
 |func ps rs b=>simp only[m9,gv,ZC]at h;let ⟨_,_,h⟩:=h;cases h;exact B _ _ _ _ _ J trivial
 |array n e=>
  simp only[m9,gv,ZC]at h;let ⟨j,Y,_,_,h⟩:=h;cases h;split at J
  cases J;split at J
  cases J;exact .agg i!;rw[g9]at J;obtain⟨z,h1,rfl⟩:=J;refine .agg λx V=>?_;simp only[ZQ,Array.mem_flatten,Array.mem_replicate]at V;obtain⟨xs,⟨_,rfl⟩,V⟩:=V;exact((O e j z Y h1).cells) x<|ZQ.2 V
 |_=>cases h
def Ad{T:Tables}(hT:∀(t:Nat)(i)v,T.types[t]?=y? i->i.8=y? v->n9 v):∀(f)t i v,ne T f t=y? i->i.8=y? v->n9 v
 |0,_,_,_,h,_=>by cases h
 |f+1,t,i,v,h,B=>by
  unfold ne at h
  split at h
  .exact hT t i v h B
  .rw[ZC]at h
   obtain⟨d,_,h⟩:=h
   exact I1 (Ad hT f) h B
def AV{info d i}(h:m9 info d=y? i):i.10=#[]:=by
 cases d with
 |struct J=>have h:nc info J=y? i:=h;unfold nc at h;simp only[gv,ZC]at h;let ⟨st,B,h⟩:=h;split at h <;>(cases h;rfl)
 |pointer e=>
  simp only[m9,gv,ZC]at h;obtain⟨j,_,h⟩:=h;split at h
  cases h;split at h
  cases h;simp only[ZC]at h;obtain⟨s,_,h⟩:=h;cases h;rfl;simp only[ZC]at h;obtain⟨s,_,h⟩:=h;cases h;rfl
 |slice e=>simp only[m9,gv,ZC]at h;obtain⟨_,_,_,_,h⟩:=h;cases h;rfl
 |map k e=>simp only[m9,gv,ZC]at h;obtain⟨_,_,_,_,_,_,_,_,h⟩:=h;cases h;rfl
 |chan O e=>simp only[m9,gv,ZC]at h;obtain⟨_,_,_,_,h⟩:=h;cases h;rfl
 |func ps rs b=>simp only[m9,gv,ZC]at h;obtain⟨_,_,h⟩:=h;cases h;rfl
 |array n e=>simp only[m9,gv,ZC]at h;obtain⟨j,U,_,_,h⟩:=h;cases h;rfl
 |_=>cases h
def MA{T:Tables}(hT:∀(t:Nat)(i),T.types[t]?=y? i->i.10.find? (·.1 == "")=x?):∀(f)t i,ne T f t=y? i->i.10.find? (·.1 == "")=x?
 |0,_,_,h=>by cases h
 |f+1,t,i,h=>by
  unfold ne at h
  split at h
  .exact hT t i h
  .rw[ZC]at h
   obtain⟨d,_,h⟩:=h
   rw[AV h];rfl
def xV(p)(a):touchAt #[] p≠y? a:=by simp[touchAt,Trace.act?]
def LO{P}{E:Env P}{Post f iI c}{args B:V?}{W wl:w?}{m:Ren}(hZ:E.Z=ending P Post)(U:∀b,E.2 b->b<W.1.size/\W.1[b]?=E.3.1[b]?)(aa:∀r b,m.1 r=y? b->E.2 b->m.3 r)(V:∀b,b<E.3.1.size->E.2 b\/E.3.1[b]?=y? rX)(ab:E.3.1.size<=W.1.size)(ac:W.4=E.3.4/\W.5=E.3.5)(hT:E.T=[])(hf:P.2[f]?=y? iI)(hb:iI.9=y? c)(ad:Rg E m)(hw:WR m wl W)(O:fh m B args)
  (h:dv E [⟨f,B++cK (iI.7-B.size) sp,[.code c]⟩] wl []):wR P Post (solo (G (nL P f args .normal) []) W) #[]:=by
 have hE:nL P f args .normal=iw f (args++cK (iI.7-args.size) sp) [.code c]:=by simp[nL,iw,hf,hb]
 have ae:Co P E.2 E.3 (λ_=>False) (λ_=>.quit 0) m wl #[G (nL P f args .normal) []] W #[]:=by
  refine⟨hw,λi g hi hg=>?_,λ_ _=>rfl,λi m' hm=>(by cases hm),λi j m1 m2 _ hm _=>(by cases hm),λi j J1 J2 _ Y _=>(by cases Y),λp a b r O=>absurd O<|xV p a,λi m' hm=>(by cases hm),λi J Y=>(by cases Y),λp a b O=>absurd O<|xV p a,λop af=>(by simp at af),λp a O=>absurd O<|xV p a,past_nil.1,U,aa,λi m' hm=>(by cases hm),λi J Y=>(by cases Y),ab,ac,λp a b O=>absurd O<|xV p a,nofun,λb hb=>(V b hb).imp id .inr⟩;have:=by simpa using(AI.1 hg).1
  omega
 have:=h m _ _ _ W x? _ _ [] ad ae ⟨λr vs hr=>(by cases hr),λi J n hi=>(by cases hi),λr hr=>(by cases hr)⟩ (by rw[hE,hT];exact .cons (by rw[<-O.size];exact O.append<|.replicate _<|.undef m) .nil) rfl;rwa[hZ]at this
end
section
open RowKit
variable {f:Array Oper}{g:P?}{l x4:Nat}{p x5:w?->Prop}{C x6:Oper}{I:Region.Mode}{J:w?->w?->Prop}{U:w?}{x0:Exit->Act->w?->Prop}{x1:Array Bool}{x2:v?}{x3:V?}
def gR(y B:w?):Prop:=B? y B
def gR.refl(y):gR y y:=l4 ..
def gR.trans{a b c}(h:gR a b)(B:gR b c):gR a c:=mr h<|Below.mono B<|mx h
def gR.alloc(y)(o):gR y<|y.alloc o:=(l4 ..).alloc (Zu _) o
def D.gR(y B:w?):Prop:=B? y B/\y.3<=B.3
def D.gR.refl(y):D.gR y y:=⟨l4 ..,Zu _⟩
def D.gR.trans{a b c}(h:D.gR a b)(B:D.gR b c):D.gR a c:=⟨mr h.1<|Below.mono B.1<|mx h.1,ZE h.2 B.2⟩
def D.gR.alloc(y)(o):D.gR y<|y.alloc o:=⟨(l4 ..).alloc (Zu _) o,Zu _⟩
def gp(R:w?->w?->Prop)(C:w?->Prop):Prop:=∀y B,C y->R y B->C B
def fK(w):gp gR<|gR w:=λ_ _ h B=>h.trans B
def D.fK(w):gp D.gR<|D.gR w:=λ_ _ h B=>h.trans B
def gp.and(h:gp J p)(V:gp J x5):gp J<|λy=>p y/\x5 y:=λy B O U=>⟨h y B O.1 U,V y B O.2 U⟩
def iR(P:P?)(w:w?)(B:v?->w?->Prop):Result Go.Next->Prop
 |.ok (.value u) w'=>B u w'|.ok .skip w'=>B sp w'|.ok (.enter f args) w'=>w'=w/\dn P f args w (λe J=>∃v,e=e? v/\B v J)|_=>False
def lO(P:P?)(o:Oper)(a:Act)(w:w?)(B:v?->w?->Prop):Prop:=iR P w B<|(dl a.eval o).run P w
def x!{p:Prop}(h:p:=by unfold lO;go_simp;refine⟨gR.refl _,?_⟩;with_reducible rfl):p:=h
def y!{p q:Prop}(h:q)(e:J? q->p:=by intro h;unfold lO;go_simp;refine⟨rfl,h.o.mono ?_⟩;rintro e y2 ⟨rfl,rfl⟩;refine⟨_,rfl,gR.refl _,?_⟩;with_reducible rfl):p:=e h
def z!{p q:Prop}(h:q)(e:J? q->p:=by intro h;unfold lO;go_simp;refine⟨rfl,h.o.mono ?_⟩;rintro e y2 ⟨rfl,B⟩;refine⟨_,rfl,B,?_⟩;with_reducible rfl):p:=e h
def iR.mono{B J:v?->w?->Prop}(h:∀v U,B v U->J v U):∀{r},iR g U B r->iR g U J r:=by
 intro r hh
 cases r with
 |ok n w'=>
  cases n<;>simp only[iR]at hh⊢
  case value u=>exact h _ _ hh
  .exact h _ _ hh
  case enter f args=>exact⟨hh.1,hh.2.mono λe w'' ⟨v,he,hb⟩=>⟨v,he,h _ _ hb⟩⟩
 |halt x w'=>simp only[iR]at hh
def N4(R:w?->w?->Prop)(P:P?)(ops:Array Oper)(i:Nat)(C:w?->Prop)(K:(w?->Prop)->Act->Prop)(a:Act):Prop:=
 match ops[i]? with
 |none=>K C a|some o=>if hO o (dk ops a.1)=t? then
   ∃(X:Type)(B:X->w?->Prop)(J:X->v?),(∀x,gp R<|B x)/\(∀x y,B x y->C y)/\(∀y,C y->lO P o a y (λv O=>R y O/\∃x,v=J x/\B x O))/\∀x,K (B x)<|a.put o.1<|J x
  else K C<|a.put o.1 sp
def UM{i}{K K':(w?->Prop)->Act->Prop}{a}(h:∀p a,K p a->K' p a)(B:N4 J g f i p K a):N4 J g f i p K' a:=by
 unfold N4 at *;split;rename_i O;simp only[O]at B;exact h _ _ B;rename_i o O;simp only[O]at B;split
 rename_i U;simp only[U,if_true]at B;obtain⟨X,V,W,Y,h2,h3,h4⟩:=B;exact⟨X,V,W,Y,h2,h3,λx=>h _ _<|h4 x⟩;rename_i U;simp only[U]at B;exact h _ _ B
def WX(R:w?->w?->Prop)(P:P?)(J:Region.Mode)(ops:Array Oper)(Q:Exit->Act->w?->Prop):Nat->Array Bool->(w?->Prop)->Act->Prop
 |0,listed,C,a=>hQ J ops listed=[]/\∀y,C y->Q .normal a y|B+1,listed,C,a=>
  (hQ J ops listed=[]->∀y,C y->Q .normal a y)/\
  ∀i∈hQ J ops listed,N4 R P ops i C (λO U=>WX R P J ops Q B (S? listed i t?) O U) a
def Ki{ops i K K' a}(hC:p U)(h:∀p a U,p U->K p a->K' a U)(hh:N4 J g ops i p K a):wpOp g ops x0 i K' a U:=by
 unfold N4 at hh;unfold wpOp;split;rename_i O;simp only[O]at hh;exact h _ _ _ hC hh;rename_i o O;simp only[O]at hh;split
 .rename_i V;simp only[V,if_true]at hh;obtain⟨X,Cx,vx,_,_,Y,W⟩:=hh;have h5:=Y U hC;refine .inl ?_;unfold lO at h5;unfold r5;generalize (dl _ o).run g U=r at *
  cases r with
  |ok n w'=>
   cases n<;>simp only[iR]at h5<;>simp only[Oper.upon]
   case value u=>obtain⟨_,x,rfl,B⟩:=h5;exact h _ _ _ B<|W x
   .obtain⟨_,x,e,B⟩:=h5;rw[e];exact h _ _ _ B<|W x
   case enter f args=>obtain⟨e1,hc⟩:=h5;rw[e1];refine hc.mono λe aa he=>?_;obtain⟨v,rfl,_,x,rfl,B⟩:=he;exact h _ _ _ B<|W x
  |halt x w'=>simp only[iR]at h5
 rename_i V;simp only[V]at hh;exact h _ _ _ hC hh
def zm:∀(B)(listed)(C)(a)(w),C w->WX J g I f x0 B listed C a->wpAny g I f x0 B listed a w
 |0,_,_,_,w,O,h=>⟨h.1,h.2 w O⟩
 |B+1,_,_,_,w,O,h=>⟨λV=>h.1 V w O,λi W=>Ki O (λY a' w' U h'=>zm B _ Y a' w' U h')<|h.2 i W⟩
def io(R:w?->w?->Prop)(P:P?)(ops:Array Oper)(C:w?->Prop)(o:Oper)(v:v?)(a:Act):Prop:=
 (hO o (dk ops a.1)=t?/\∀y,C y->lO P o a y (λu B=>R y B/\u=v))\/
 (hO o (dk ops a.1)=f?/\v=sp)
def io.sub{a}(h:io J g f p C x2 a)(B:∀y,x5 y->p y):io J g f x5 C x2 a:=by
 obtain⟨O,U⟩|h:=h
 exact .inl ⟨O,λy V=>U y<|B y V⟩;exact .inr h
def io.of_same{a a'}(U:io J g f p C x2 a)(B:dl a'.eval C=dl a.eval C)
  (O:hO C (dk f a'.1)=hO C (dk f a.1)):io J g f p C x2 a':=by
 unfold io lO at *;rwa[B,O]
def io.jOp{i a}(V:f[i]?=y? C)(hC:gp J p)(B:io J g f p C x2 a){K}(h:K p<|a.put C.1 x2):N4 J g f i p K a:=by
 unfold N4;simp only[V];obtain⟨O,W⟩|⟨O,rfl⟩:=B
 simp only[O,if_true];exact⟨Unit,λ_=>p,λ_=>x2,λ_=>hC,λ_ _ h=>h,λy B=>(W y B).mono λu Y ⟨U,h2⟩=>⟨U,(),h2,hC y Y B U⟩,λ_=>h⟩;simp only[O,Zk,if_false];exact h
def Wz(hj:f[l]?=y? x6)(O:C.apart f x6=t?)
  (U:∀cs b,C.2≠.select cs b) (V:∀cs b,x6.2≠.select cs b) {K} {a} (hC:gp J p)
  (B:io J g f p C x2 a) (h:N4 J g f l p K<|a.put C.1 x2) :
  N4 J g f l p (λW a'=>gp J W/\io J g f W C x2 a'/\K W (a'.put C.1 x2)) a:=by
 obtain⟨h1,h2,h3⟩:=r6 O
 have qQ:∀(p:w?->Prop)(a:Act),io J g f p C x2 a->∀u,io J g f p C x2 _:=λp a B u=>B.of_same (fm C U a _ u h3)<|fd C a _ u h3
 unfold N4 at *;simp only[hj]at *;rw[fd x6 a _ x2 h1]at h;split
 rename_i Y;simp only[Y,if_true]at h;let ⟨X,Cx,vx,q1,q2,q3,q4⟩:=h;refine⟨X,Cx,vx,q1,q2,λy aa=>?_,λx=>⟨q1 x,qQ _ _ (B.sub<|q2 x) _,by rw[<-Act.put_comm a x2 _ h2];exact q4 x⟩⟩;have:=q3 y aa;unfold lO at *;rwa [fm x6 V a _ x2 h1]at this;rename_i Y;simp only[Y]at h;exact⟨hC,qQ _ a B _,by rwa[<-Act.put_comm a x2 sp h2]⟩
def Ko{i}(hi:f[i]?=y? x6)(W:∀(j:Nat)(o)cs b,f[j]?=y? o->o.2≠.select cs b) :
  ∀(B)(listed)(C)(a),
   (∀j oj,f[j]?=y? oj->j≠i->listed.getD j t?=f?->(∀e∈oj.5,hU I e=t?->e.1≠i)->x6.apart f oj=t?)->
   i∈hQ I f listed->gp J C->io J g f C x6 x2 a->
   WX J g I f x0 B (S? listed i t?) C (a.put x6.1 x2)->WX J g I f x0 (B+1) listed C a:=by
 intro B;induction B with
 |zero=>intro listed C a _ hr hC hy H;refine⟨λh=>(by rw[h]at hr;cases hr),λj hj=>?_⟩;by_cases O:j=i;subst O;exact hy.jOp hi hC H;have:=eg hj O;rw[H.1]at this;cases this
 |succ B ih=>
  intro listed C a U hr hC hy H;refine⟨λh=>(by rw[h]at hr;cases hr),λj hj=>?_⟩;by_cases O:j=i;subst O;exact hy.jOp hi hC H;have h1:=H.2 j<|eg hj O;let ⟨Y,oj,aa,fu⟩:=_root_.Go.mem_ready.1 hj
  have ab:∀e∈oj.5,hU I e=t?->e.1≠i:=λe he hb ad=>by
   have h1:=fu e he hb;have h0:=(_root_.Go.mem_ready.1 hr).1;rw[ad]at h1;obtain h'|h':=H! i listed.size
   simp[h']at h0 h1;rw[h0]at h1;cases h1;simp[ZB h']at h1
  have V:∀k ok,f[k]?=y? ok->k≠i->(S? listed j t?).getD k t?=f?->
    (∀e∈ok.5,hU I e=t?->e.1≠i)->x6.apart f ok=t?:=λk ok hk ae af ag=>by
   refine U k ok hk ae ?_ ag;by_cases ac:j=k;subst ac;exact Y;rwa[fa t? ac]at af
  refine UM (λC' a' h3=>ih _ C' a' V (eg hr<|Ne.symm O) h3.1 h3.2.1 ?_)<|Wz aa (U j oj aa O Y ab) (λcs b=>W i x6 cs b hi) (λcs b=>W j oj cs b aa) hC hy h1;rw[db _ _ O];exact h3.2.2
def dA(i)(v){a}(O:∀y,p y->lO g C a y (λu U=>J y U/\u=v))
  (h:WX J g I f x0 l (S? x1 i t?) p<|a.put C.1 v) (B:f[i]?=y? C:=by rfl)
  (V:i4 f=t?:=by kernel_rfl) (W:i5 I f x1 i=t?:=by kernel_rfl) (Y:(hQ I f x1).contains i=t?:=by kernel_rfl) (hC:gp J p:=by first|exact fK _|exact D.fK _)
  (hw:hO C (dk f a.1)=t?:=by rfl):WX J g I f x0 (l+1) x1 p a:=
 Ko B (hY V) l x1 p a (ip B W) (u! Y) hC (.inl ⟨hw,O⟩) h
def GR{rs a}(O:hQ I f x1=rs)(B:rs≠[])
  (h:∀i∈rs,N4 J g f i p (λU V=>WX J g I f x0 l (S? x1 i t?) U V) a):WX J g I f x0 (l+1) x1 p a:=
 ⟨λW=>absurd (O▸W) B,O▸h⟩
def qF{a}(O:hQ I f x1=[])(h:∀y,p y->x0 .normal a y):∀B,WX J g I f x0 B x1 p a
 |0=>⟨O,h⟩
 |_+1=>⟨λ_=>h,by rw[O];simp⟩
def Gu{P i a}{K:(w?->Prop)->Act->Prop}(U:Nat->v?)(D:Nat->w?->Prop)(W:f[i]?=y? C)(hC:gp J p)(Y:∀g,gp J<|D g)
  (hw:hO C (dk f a.1)=t?) (hy:∀y,p y->lO P C a y (λv O=>J y O/\v=U y.1.size/\D y.1.size O))
  (h:∀g,K (λy=>p y/\D g y)<|a.put C.1<|U g):N4 J P f i p K a:=by
 unfold N4;simp only[W,hw,if_true];exact⟨Nat,λg y=>p y/\D g y,U,λg=>hC.and<|Y g,λ_ _ h=>h.1,λy B=>(hy y B).mono λv O ⟨V,h2,h3⟩=>⟨V,y.1.size,h2,hC y O B V,h3⟩,h⟩
def zS{a}(B:J U {U with drawn:=U.3+1})(hm:g.follows .mixedOrders=t?)
  (h:WX J g .any f x0 f.size (cK f.size f?) (J U) a):(Code.region l f t?).wp g x0 a U:=
 wp_region_any hm (zm _ _ _ _ _ B h)
def j0{a}(hm:g.follows .mixedOrders=t?)(h:WX gR g .any f x0 f.size (cK f.size f?) (gR U) a):(Code.region l f t?).wp g x0 a U:=
 zS ⟨q?,q?,q?,Zu _,λ_ _=>rfl⟩ hm h
def D.j0{a}(hm:g.follows .mixedOrders=t?)(h:WX D.gR g .any f x0 f.size (cK f.size f?) (D.gR U) a):(Code.region l f t?).wp g x0 a U:=
 zS ⟨⟨q?,q?,q?,Zu _,λ_ _=>rfl⟩,Nat.le_succ _⟩ hm h
def Jq(O:∀y B,J y B->B? y B)(a)(v):gp J<|λy=>C? y a=y? v:=λy B h U=>by show C? B a=y? v;rwa[World.cell?_of_block<|Below.block (O _ _ U) _<|lf y a h]
def eL(a)(v):gp gR<|λy=>C? y a=y? v:=Jq (λ_ _ h=>h) a v
def D.eL(a)(v):gp D.gR<|λy=>C? y a=y? v:=Jq (λ_ _ h=>h.1) a v
def iA(C:w?->Prop):Prop:=∀y τ,C y->C (tp y τ)
def lu(w:w?):w?->Prop:=λy=>∃τ,gR (tp w τ) y
def lu.zc(w):gp gR<|lu w:=λ_ _ ⟨τ,h⟩ B=>⟨τ,h.trans B⟩
def Zaf{y}(h:gR U y)(τ):gR (tp U τ)<|tp y τ:=by obtain⟨B,W,J,O,V⟩:=h;exact⟨B,q?,J,O,V⟩
def lu.free(w):iA<|lu w:=λy τ ⟨_,h⟩=>⟨τ,Zaf h τ⟩
def lu.at(w)(d):lu w<|w.at d:=⟨w.2,⟨q?,q?,q?,Zu _,λ_ _=>rfl⟩⟩
def iA.and(h:iA p)(J:iA x5):iA λy=>p y/\x5 y:=λy τ B=>⟨h y τ B.1,J y τ B.2⟩
def wJ(P:P?)(ops:Array Oper)(i:Nat)(C:w?->Prop)(K:(w?->Prop)->Act->Prop)(a:Act):Prop:=
 match ops[i]? with
 |none=>False|some o=>if hO o (dk ops a.1)=t? then
   ∃(X:Type)(B:X->w?->Prop)(J:X->v?),(∀x,gp gR<|B x)/\(∀x,iA<|B x)/\(∀x y,B x y->C y)/\(∀y,C y->lO P o a y (λv O=>gR y O/\∃x,v=J x/\B x O))/\∀x,K (B x)<|a.put o.1<|J x
  else K C<|a.put o.1 sp
def Qp{i}{K K':(w?->Prop)->Act->Prop}{a}(h:∀p a,K p a->K' p a)(B:wJ g f i p K a):wJ g f i p K' a:=by
 unfold wJ at *;split;rename_i J;simp only[J]at B;rename_i o J;simp only[J]at B;split
 rename_i O;simp only[O,if_true]at B;obtain⟨X,U,V,W,Y,h3,h4,h5⟩:=B;exact⟨X,U,V,W,Y,h3,h4,λx=>h _ _<|h5 x⟩;rename_i O;simp only[O]at B;exact h _ _ B
def WS(P:P?)(J:Region.Mode)(ops:Array Oper)(last:Nat)(tl:List Nat->Prop)(Sd:Act->w?->Prop):Nat->Array Bool->(w?->Prop)->Act->Prop
 |0,_,_,_=>False|B+1,listed,C,a=>hQ J ops listed≠[]/\∀i∈hQ J ops listed,if i=last then(∀t,tl<|px J ops B t (S? listed last t?) [])/\∀y,C y->Sd a y else wJ P ops i C (λO U=>WS P J ops last tl Sd B (S? listed i t?) O U) a
structure Lq(P:P?)(ops:Array Oper)(last:Nat)(W:List Nat->Act->w?->Prop):Prop where
 op:∀(i:Nat)rest a w o,i≠last->ops[i]?=some o->hO o (dk ops a.1)=true->(∀τ,lO P o a (tp w τ) λv y=>gR (tp w τ) y/\W rest (a.put o.1 v) y)->W (i::rest) a w
 pass:∀(i:Nat)rest a w o,i≠last->ops[i]?=some o->hO o (dk ops a.1)=false->W rest (a.put o.1 sp) w->W (i::rest) a w
def WS.sound{tl:List Nat->Prop}{Sd:Act->w?->Prop}{W}(O:Lq g f x4 W)(J:∀a y l,tl l->Sd a y->W (x4::l) a y):∀(B t)(listed)(C)(a)(w),iA C->C w->WS g I f x4 tl Sd B listed C a->W (px I f B t listed []) a w
 |0,_,_,_,_,_,_,_,h=>h.elim
 |B+1,t,listed,C,a,w,hT,hC,h=>by
  obtain⟨h0,h1⟩:=h
  change W (match (hQ I f listed)[t % (hQ I f listed).length]? with
   |some i=>px I f B ..|none=>[].reverse) a w
  cases Y:(hQ I f listed)[t % (hQ I f listed).length]? with
  |none=>
   exfalso
   cases hr:hQ I f listed with
   |nil=>exact h0 hr|cons x xs=>rw[hr]at Y;have aa:t % (x::xs).length<(x::xs).length:=kd _ i!;simp at Y;simp at aa;omega
  |some i=>
   simp only[];rw[linearise_go_acc];have h2:=h1 i<|List.mem_of_getElem? Y;by_cases e:i=x4;subst e;simp only[if_true]at h2;exact J a w _ (h2.1 _)<|h2.2 w hC;simp only[e,if_false]at h2;unfold wJ at h2
   cases U:f[i]? with
   |none=>simp only[U]at h2|some o=>simp only[U]at h2;by_cases V:hO o (dk f a.1)=t?;simp only[V,if_true]at h2;obtain⟨X,Cx,vx,q1,q2,q3,q4,q5⟩:=h2;refine O.1 i _ a w o e U V λτ=>(q4 _<|hT w τ hC).mono λv y ⟨he,x,ev,hx⟩=>⟨he,?_⟩;rw[ev];exact WS.sound O J B _ _ _ _ y (q2 x) hx<|q5 x;simp only[V,Zk,if_false]at h2;exact O.2 i _ a w o e U (u! V)<|WS.sound O J B _ _ C _ w hT hC h2
inductive XQ(md:Region.Mode)(ops:Array Oper)(last:Nat):Nat->Prop
 |base {e o}:ops[last]?=some o->e∈o.5->hU md e=true->XQ md ops last e.1|step {j:Nat} {e o}:XQ md ops last j->ops[j]?=some o->e∈o.5->hU md e=true->XQ md ops last e.1
def Down(B:Region.Mode)(ops:Array Oper)(listed:Array Bool):Prop:=∀(j:Nat)o,ops[j]?=y? o->listed.getD j f?=t?->∀e∈o.5,hU B e=t?->listed.getD e.1 f?=t?
def Down.anc(h:Down I f x1)(U:l∈hQ I f x1){i}(V:XQ I f l i):x1.getD i f?=t?:=by
 induction V with
 |base J O hb=>obtain⟨_,Y,B,fu⟩:=_root_.Go.mem_ready.1 U;rw[J]at B;cases B;exact fu _ O hb
 |step _ J O hb W=>exact h _ _ J W _ O hb
def Down.set(h:Down I f x1){i}(W:i∈hQ I f x1):Down I f<|S? x1 i t?:=by
 have up:∀k,x1.getD k f?=t?->(S? x1 i t?).getD k f?=t?:=by
  intro k Y;by_cases e:i=k;subst e
  have:i<x1.size:=by apply ZX;intro hn;simp[ZB<|j4 hn]at Y
  simp[this];rwa[fa f? e]
 intro j o O U e V hb;by_cases B:i=j;subst B;obtain⟨_,o',J,fu⟩:=_root_.Go.mem_ready.1 W;rw[O]at J;cases J;exact up _<|fu e V hb;rw[fa f? B]at U;exact up _<|h j o O U e V hb
def UA(hj:f[l]?=y? x6)(O:C.apart f x6=t?)
  (U:∀cs b,C.2≠.select cs b) (V:∀cs b,x6.2≠.select cs b) {K} {a} (hC:gp gR p) (hT:iA p)
  (B:io gR g f p C x2 a) (h:wJ g f l p K<|a.put C.1 x2) :
  wJ g f l p (λJ a'=>(gp gR J/\iA J)/\io gR g f J C x2 a'/\K J (a'.put C.1 x2)) a:=by
 obtain⟨h1,h2,h3⟩:=r6 O
 have qQ:∀(p:w?->Prop)(a:Act),io gR g f p C x2 a->∀u,io gR g f p C x2 _:=λp a B u=>B.of_same (fm C U a _ u h3)<|fd C a _ u h3
 unfold wJ at *;simp only[hj]at *;rw[fd x6 a _ x2 h1]at h;split
 rename_i W;simp only[W,if_true]at h;let ⟨X,Cx,vx,q1,qt,q2,q3,q4⟩:=h;refine⟨X,Cx,vx,q1,qt,q2,λy Y=>?_,λx=>⟨⟨q1 x,qt x⟩,qQ _ _ (B.sub<|q2 x) _,by rw[<-Act.put_comm a x2 _ h2];exact q4 x⟩⟩;have:=q3 y Y;unfold lO at *;rwa [fm x6 V a _ x2 h1]at this;rename_i W;simp only[W]at h;exact⟨⟨hC,hT⟩,qQ _ a B _,by rwa[<-Act.put_comm a x2 sp h2]⟩
def io.Zb3{i a}(U:f[i]?=y? C)(hC:gp gR p)(hT:iA p)(B:io gR g f p C x2 a){K}(h:K p<|a.put C.1 x2):wJ g f i p K a:=by
 unfold wJ;simp only[U];obtain⟨J,V⟩|⟨J,rfl⟩:=B
 simp only[J,if_true];exact⟨Unit,λ_=>p,λ_=>x2,λ_=>hC,λ_=>hT,λ_ _ h=>h,λy B=>(V y B).mono λu W ⟨O,Y⟩=>⟨O,(),Y,hC y W B O⟩,λ_=>h⟩;simp only[J,Zk,if_false];exact h
def IK{tl Sd i}(hi:f[i]?=y? x6)(ac:XQ I f l i)(aj:i≠l)(Y:∀(j:Nat)(o)cs b,f[j]?=y? o->o.2≠.select cs b) :
  ∀(B)(listed)(C)(a),Down I f listed->
   (∀j oj,f[j]?=y? oj->j≠i->listed.getD j t?=f?->(∀e∈oj.5,hU I e=t?->e.1≠i)->x6.apart f oj=t?\/j=l)->
   i∈hQ I f listed->gp gR C->iA C->io gR g f C x6 x2 a->
   WS g I f l tl Sd B (S? listed i t?) C (a.put x6.1 x2)->WS g I f l tl Sd (B+1) listed C a:=by
 intro B;induction B with
 |zero=>intro listed C a _ _ _ _ _ _ H;exact H.elim|succ B ih=>
  intro listed C a hD O hr hC hT hy H;refine⟨λh=>(by rw[h]at hr;cases hr),λj hj=>?_⟩;have J:=(_root_.Go.mem_ready.1 hr).1;by_cases V:j=l;subst V;have:=hD.anc hj ac;obtain h'|h':=H! i listed.size
  simp[h']at this J;rw[J]at this;cases this;simp[ZB h']at this;simp only[V,if_false];by_cases U:j=i;subst U;exact hy.Zb3 hi hC hT H;have h1:=H.2 j<|eg hj U;simp only[V,if_false]at h1;let ⟨aa,oj,ab,fu⟩:=_root_.Go.mem_ready.1 hj
  have ad:∀e∈oj.5,hU I e=t?->e.1≠i:=λe he hb af=>by
   have h1:=fu e he hb;rw[af]at h1;obtain h'|h':=H! i listed.size
   simp[h']at J h1;rw[J]at h1;cases h1;simp[ZB h']at h1
  have W:∀k ok,f[k]?=y? ok->k≠i->(S? listed j t?).getD k t?=f?->
    (∀e∈ok.5,hU I e=t?->e.1≠i)->x6.apart f ok=t?\/k=l:=λk ok hk ag ah ai=>by
   refine O k ok hk ag ?_ ai;by_cases ae:j=k;subst ae;exact aa;rwa[fa t? ae]at ah
  refine Qp (λC' a' h3=>ih _ C' a' (hD.set hj) W (eg hr<|Ne.symm U) h3.1.1 h3.1.2 h3.2.1 ?_)<|UA ab ((O j oj ab U aa ad).resolve_right V) (λcs b=>Y i x6 cs b hi) (λcs b=>Y j oj cs b ab) hC hT hy h1;rw[db _ _ U];exact h3.2.2
open Conc
def vO(B:Region.Mode)(ops:Array Oper)(j:Nat):List Nat:=match ops[j]? with
 |some o=>(o.5.1.filter λe=>hU B e).map (·.1)|none=>[]
def Xa(B:Region.Mode)(ops:Array Oper)(last:Nat):Nat->List Nat
 |0=>vO B ops last|n+1=>Xa B ops last n++(Xa B ops last n).flatMap (vO B ops)
def Cr{i}(h:i∈vO I f l):∃o e,f[l]?=y? o/\e∈o.5/\hU I e=t?/\e.1=i:=by
 unfold vO at h
 cases B:f[l]? with
 |none=>rw[B]at h;cases h
 |some o=>rw[B]at h;simp only[Zv,Zb,ZQ]at h;obtain⟨e,⟨J,O⟩,U⟩:=h;exact⟨o,e,q?,J,O,U⟩
def MZ:∀(n){i},i∈Xa I f l n->XQ I f l i
 |0,i,h=>by
  obtain⟨o,e,B,J,O,rfl⟩:=Cr h
  exact .base B J O
 |n+1,i,h=>by
  obtain h|h:=Z3.1 h
  exact MZ n h;obtain⟨j,U,V⟩:=r!.1 h;obtain⟨o,e,B,J,O,rfl⟩:=Cr V;exact .step (MZ n U) B J O
def OJ(B:Region.Mode)(ops:Array Oper)(listed:Array Bool):Bool:=(b6 ops.size).all λj=>!listed.getD j f? || (vO B ops j).all λi=>listed.getD i f?
def NT(h:OJ I f x1=t?):Down I f x1:=by intro j o B J e O hb;unfold OJ at h;rw[Zy]at h;have:=h j (by simpa using(AI.1 B).1);rw[J]at this;simp only[k7,k8,Zy]at this;apply this _;unfold vO;rw[B];simp only[Zv,Zb,ZQ];exact⟨e,⟨O,hb⟩,q?⟩
def XS(B:Region.Mode)(ops:Array Oper)(last:Nat)(listed:Array Bool)(i:Nat):Bool:=i4 ops&&i5 B ops listed i&&(hQ B ops listed).contains i&&(Xa B ops last ops.size).contains i&&i != last&&OJ B ops listed
def ew{tl Sd}(i)(v){a}(J:∀y,p y->lO g C a y (λu O=>gR y O/\u=v))
  (h:WS g I f l tl Sd x4 (S? x1 i t?) p<|a.put C.1 v) (B:f[i]?=y? C:=by rfl) (hb:XS I f l x1 i=t?:=by kernel_rfl) (hC:gp gR p:=by exact lu.zc _) (hT:iA p:=by exact lu.free _)
  (U:hO C (dk f a.1)=t?:=by rfl):WS g I f l tl Sd (x4+1) x1 p a:=by
 simp only[XS,IT]at hb;obtain⟨⟨⟨⟨⟨V,W⟩,Y⟩,h4⟩,h5⟩,h6⟩:=hb;exact IK B (MZ _<|u! h4) (u! h5) (hY V) x4 x1 p a (NT h6) (λj oj a b c d=>.inl<|ip B W j oj a b c d) (u! Y) hC hT (.inl ⟨U,J⟩) h
def M5{tl Sd i a}(O:hQ I f x1=[i])(B:i≠l)(h:wJ g f i p (λU V=>WS g I f l tl Sd x4 (S? x1 i t?) U V) a):WS g I f l tl Sd (x4+1) x1 p a:=by refine⟨by rw[O];simp,λj J=>?_⟩;rw[O]at J;simp only[Zm,q!,or_false]at J;subst J;simp only[B,if_false];exact h
def TT{ops}(O:hQ I ops x1=[]):∀(B t),px I ops B t x1 []=[]
 |0,_=>rfl
 |f+1,t=>by
  simp only[px]
  split
  .rename_i q U
   have J:(hQ I ops x1)[t % (hQ I ops x1).length]?=y? q:=U
   rw[O]at J;cases J
  rfl
def sJ{tl:List Nat->Prop}{Sd:Act->w?->Prop}{a}(J:hQ I f x1=[l])(O:∀t,tl<|px I f x4 t (S? x1 l t?) [])(h:∀y,p y->Sd a y):WS g I f l tl Sd (x4+1) x1 p a:=by refine⟨by rw[J];simp,λj B=>?_⟩;rw[J]at B;simp only[Zm,q!,or_false]at B;subst B;simp only[if_true];exact⟨O,h⟩
def Jo{P i a}{K:(w?->Prop)->Act->Prop}(O:Nat->v?)(D:Nat->w?->Prop)(W:f[i]?=y? C)(hC:gp gR p)(hT:iA p)(Y:∀g,gp gR<|D g)(U:∀g,iA<|D g)
  (hw:hO C (dk f a.1)=t?) (hy:∀y,p y->lO P C a y (λv J=>gR y J/\v=O y.1.size/\D y.1.size J))
  (h:∀g,K (λy=>p y/\D g y)<|a.put C.1<|O g):wJ P f i p K a:=by
 unfold wJ;simp only[W,hw,if_true];exact⟨Nat,λg y=>p y/\D g y,O,λg=>hC.and<|Y g,λg=>hT.and<|U g,λ_ _ h=>h.1,λy B=>(hy y B).mono λv J ⟨V,h2,h3⟩=>⟨V,y.1.size,h2,hC y J B V,h3⟩,h⟩
def qP(P:P?)(ops:Array Oper)(Q:Exit->Act->w?->Prop)(l:List Nat)(a:Act)(w:w?):Prop:=∀b k cs,∃e B w',Q e B w'/\Arrives P (gc (b.at a (r? ops l::k)) cs w) b k cs e B w'
def pX{ops i rest a}(ho:ops[i]?=y? C)(hw:hO C (dk ops a.1)=t?)(hj:lO g C a U λv y=>qP g ops x0 rest (a.put C.1 v) y):qP g ops x0 (i::rest) a U:=by
  intro b k cs;have hg:=stepG_op (P:=g) (b:=b) (k:=k) (cs:=cs) (w:=U) (rest:=rest) ho hw
  have J:∀v,(b.at a (r? ops (i::rest)::k)).finish v=b.at (a.put C.1 v) (r? ops rest::k):=by intro v;rw[od,ho];rfl
  unfold lO at hj
  cases hr:(dl _ C).run g U with
  |halt x w'=>rw[hr]at hj;exact hj.elim|ok n w'=>
   rw[hr]at hj;cases n<;>simp only[iR]at hj
   case value v=>let ⟨e,a',O,hq,B⟩:=hj b k cs;refine⟨e,a',O,hq,.of_steps (.one<|ft ?_) B⟩;rw[hg,<-J];simp[m4,hr]
   .let ⟨e,a',O,hq,B⟩:=hj b k cs;refine⟨e,a',O,hq,.of_steps (.one<|ft ?_) B⟩;rw[hg,<-J];simp[m4,hr]
   case enter f args=>
    obtain⟨rfl,hc⟩:=hj;obtain⟨e,w2,fr,⟨v,rfl,hR⟩,Y,_,V⟩:=hc _;let ⟨e,a',O,hq,B⟩:=hR b k cs
    have W:step g _=.next (gc (nL g f args .normal) (b.at a (r? ops (i::rest)::k)::cs) w'):=
     ft (by rw[hg];simp[m4,hr,Frame.at])
    refine⟨e,a',O,hq,.of_steps (.head W<|Steps.trans Y<|.one ?_) B⟩;rw[<-J];exact step_leave_returned V
def Mu{i rest a}(J:f[i]?=y? C)(V:hO C (dk f a.1)=f?)(h:qP g f x0 rest (a.put C.1 sp) U):qP g f x0 (i::rest) a U:=by intro b k cs;obtain⟨e,W,w',Y,B⟩:=h b k cs;have O:=step_op_skip (P:=g) (b:=b) (a:=a) (k:=k) (cs:=cs) (w:=U) (ops:=f) (i:=i) (rest:=rest) (by simp[J,V]);simp only[J,Zf]at O;exact⟨e,W,w',Y,.of_steps (.one O) B⟩
def Ml{P ops Q τ₀}:Lq P ops x4 λl a w=>w.2=τ₀->qP P ops Q l a w where
 op i rest a w o _ ho hw hj ht:=pX ho hw<|(show lO P o a w _ from hj w.2).mono λ_ _ h=>h.2<|h.1.2.trans ht
 pass i rest a w o _ ho hw h ht:=Mu ho hw<|h ht
def B7{i a x y s rc tm v}(Y:f[i]?=y? C)(O:C.6=x?)(V:C.2=.send x y)(hd:C.1=x?)(hx:a.eval x=.chan (y? l))(hy:a.eval y=v)(hc:U.1[l]?=y? (.chan x4 x3 f? s rc tm))(hb:x3.size<x4)
  (h:x0 .normal a {U with heap:=S? U.1 l<|.chan x4 (x3.push v) f? (s+1) rc tm}):qP g f x0 [i] a U:=by
 intro b k cs;have hw:hO C (dk f a.1)=t?:=by simp[hO,O]
 have O:=stepG_op (P:=g) (b:=b) (k:=k) (cs:=cs) (w:=U) (rest:=[]) Y hw
 have B:dl a.eval C=pure (.comm #[{chan:=.chan<|y? l,send:=y? v,zero:=sp}] t? .send):=by obtain⟨d,op,ty,ps,af,gd⟩:=C;subst V;simp only[dl,hx,hy];rfl
 have W:dp g t? (G (b.at a (r? f [i]::k)) cs) U=.comm (G (b.at a (r? f [i]::k)) cs) #[⟨.chan<|y? l,y? v,sp⟩] t? .send U (dS g b.1 (if(b.6==CallKind.early)=t? then #[]else #[])):=by show dp g t? {frame:=b.at a _,callers:=cs,status:=.running,dying:=x?} U=_;rw[O,B];rfl
 have J:(b.at a (r? f [i]::k)).finish sp=b.at a (r? f []::k):=by rw[od,Y];simp[Act.put,hd]
 refine⟨.normal,a,_,h,.head ((IM.send W hc hb).next) ?_⟩;show Steps g (gc ((b.at a (r? f [i]::k)).finish sp) cs _) _;rw[J];exact .one step_region_end
def jS{last}{tl:List Nat}{a}{Sd:Act->w?->Prop}(hm:g.follows .mixedOrders=t?)(h:WS g .any f last (· = tl) Sd f.size (cK f.size f?) (lu U) a)(J:∀a y,Sd a y->y.2=U.2->qP g f x0 (last::tl) a y):(Code.region x4 f t?).wp g x0 a U:=by intro b k cs;obtain⟨e,O,w',V,B⟩:=WS.sound (Ml (P:=g) (ops:=f) (Q:=x0) (τ₀:=U.2)) (λa y l W Y=>by rw[W];exact J a y Y) _ _ _ _ a {U with drawn:=U.3+1} (lu.free U) (lu.at U _) h rfl b k cs;refine⟨e,O,w',V,.of_steps (.one ?_) B⟩;rw[step_region_draw];simp only[hX,hm,k9,if_true];rfl
def jZ.calls{E:Env g}{fn os}{V:List<|Nat×Option (L?)}{k ops i rest f}{args:V?}{R}(hi:ops[i]?=y? C)(hC:∀τ,DN τ U->dn g f args (tp U τ) R)(hR:∀e w',R e w'->∃v,e=e? v/\dv E (⟨fn,fV C.1 x3 v,r? ops rest::k⟩::os) w' V) :
  jZ E ⟨nL g f args .normal,[door g],U⟩ (⟨fn,x3,r? ops (i::rest)::k⟩::os) V:=by
 let J:LS->Prop:=λS=>S.2=[door g]/\∃v,S.1.leaving g S.w (e? v)/\R (e? v) S.w;refine jZ.IW (Stop:=λS=>∃τ,J<|S.on τ) (λS τ ⟨B,h⟩=>⟨B,h⟩) (λB W=>?_) λS' ⟨B,hc,v,hl,Y⟩=>?_;obtain⟨e,w',fr,Y,O,_,aa⟩:=hC B W _;obtain⟨v,rfl,_⟩:=hR e w' Y;obtain⟨n,hn⟩:=O;exact⟨n,⟨fr,[door g],w'⟩,hn,⟨w'.2,q?,v,aa,Y⟩,i!⟩;obtain⟨v',hv,hW⟩:=hR _ _ Y;cases hv;exact jZ.tape<|jZ.ret hi hc hl hW
def dv.any{E:Env g}{fn os}{V:List<|Nat×Option (L?)}{k ops i rest}(hi:ops[i]?=y? C)(ay:hO C (dk ops x3)=t?)(ho:OkOp g E.7 E.5 E.6 C.2)
  (ae:∀τ,iR g (tp U τ) (λv y=>dv E (⟨fn,fV C.1 x3 v,r? ops rest::k⟩::os) y V)<|(dl (mE x3) C).run g<|tp U τ):dv E (⟨fn,x3,r? ops (i::rest)::k⟩::os) U V:=by
 intro m Pd ρ gs w sl t fr' cs' O ar ak af h0;refine turn q? ?_ ρ gs w sl t ar (λ_=>rfl) h0 rfl;intro ρ' gs' w' au Y d t' aa hK ag hN;have ah:=af
 cases af with
 |@cons _ _ B l ht av=>
  have hs:=I0 O.1.1 O.1.2 O.1.3 (ρ:=mE x3) (λx hx=>Oa ht O.1.4 x hx) (λc=>⟨q?,q?⟩) C (by rwa[O.4]);have al:=aa.1.tp<|along U<|w'.at d;have am:=hs.run _ _ #[] al<|rP U _;have an:=hs.loc _ _ al;have hJ:=ae<|along U<|w'.at d;have ao:=nK (P:=g) (fn:=fn) (k:=k) (rest:=rest) (cs':=cs') (w:=w'.at d) hi (by rwa[show dk ops B=dk ops x3 from funext (nH ops ht)]);have ap:=(AI.1 ag).1;have ab:=λv'=>ki fn B ops i rest k v';simp only[hi,Zf]at ab
  cases ac:(dl (mE x3) C).run g (tp U<|along U<|w'.at d)with
  |halt x wn=>rw[ac]at hJ;exact hJ.elim|ok n wn=>
   rw[ac]at hJ am;obtain⟨J,n',w₁,es,e1,e2,e3,e4,_,e5,e6⟩:=am;rw[cY]at e1
   have aq:∀e∈dS g fn (if(CallKind.normal==CallKind.early)=t? then #[]else es),ri J e:=λe he=>by have:=nw he;split at this;simp at this;exact e6 e this
   have val:∀v v',VR J v v'->dv E (⟨fn,fV C.1 x3 v,r? ops rest::k⟩::os) wn V->m4 g t? (iw fn B (r? ops (i::rest)::k)) cs' x? (dl (mE B) C) (w'.at d)=.go (G (iw fn (fV C.1 B v') (r? ops rest::k)) cs') w₁ (dS g fn (if(CallKind.normal==CallKind.early)=t? then #[]else es))->E.Z.2 (n3 gs' w' au) (runT g (n3 gs' (w'.at d) Y) 0) t':=by intro v v' hv hW ai;rw[nn (sl:=Y) ag<|ao.trans ai];apply E.Z.next _ _ _ _;exact hW J Pd ρ' _ _ Y _ _ _ (O.le e2 e5) (aa.Ap (gs':=S? (gs'.map<|woken g _ _ w₁) 0<|G (iw fn (fV C.1 B v') (r? ops rest::k)) cs') e2 e5 aq e4 i!<|iH _) (ak.le e2 hK) (.cons (o:=⟨fn,fV C.1 x3 v,r? ops rest::k⟩) ((ht.mono e2).fV C.1 hv)<|av.mono e2) (by simp[ap])
   cases n<;>simp only[iR]at hJ
   case value v=>
    cases e3 with
    |@value _ v' hv=>apply val v v' hv hJ;unfold m4;simp only[if_true,e1,ab];simp[pr,G,iw]
   .cases e3 with
    |skip=>apply val sp sp (.undef J) hJ;unfold m4;simp only[if_true,e1,ab];simp[pr,G,iw]
   case enter f args=>
    obtain⟨rfl,hc⟩:=hJ
    have fu:∀τ,DN τ (tp U<|along U<|w'.at d)->dn g f args (tp (tp U<|along U<|w'.at d) τ) λe aw=>∃v,e=e? v/\dv E (⟨fn,fV C.1 x3 v,r? ops rest::k⟩::os) aw V:=by
     intro τ _;obtain⟨x,w2,ex,_⟩|⟨_,_,h3⟩:=an
     rw[ac]at ex;cases ex;have h4:=h3 τ (by rw[ac];intro j a b;simp only[Gk]at b;omega);rw[ac]at h4;have h4:(dl _ C).run g (tp U τ)=.ok _ _:=h4;have h5:=ae τ;rw[h4]at h5;exact h5.2
    have hW:=jZ.calls hi fu λe w' h=>h
    cases e3 with
    |@enter _ _ aj hf hb ha=>
     have ai:m4 g t? (iw fn B (r? ops (i::rest)::k)) cs' x? (dl (mE B) C) (w'.at d)=.go (G (nL g f aj .normal) (iw fn B (r? ops (i::rest)::k)::cs')) w₁ (dS g fn (if(CallKind.normal==CallKind.early)=t? then #[]else es)):=by unfold m4;simp only[if_true,e1];simp[pr,G,iw]
     have ax:=nn (sl:=Y) ag<|ao.trans ai;rw[ax];apply E.Z.next _ _ _ _;have W:=O.le e2 e5;have ad:=ah.mono e2;exact hW J Pd ρ' _ _ Y _ _ _ _ W (aa.Ap (gs':=S? (gs'.map _) 0 _) e2 e5 aq e4 i!<|iH _) (ak.le e2 hK) ad (.one (GD (W.1.1.3 f hf) hb ha _ _) q? (.inl ⟨q?,xL (.inl i!) ad⟩) q?) (by simp[ap])
def xY(o)(tm:V?)(v):(Act.put ⟨tm,[]⟩ o v)=⟨fV o tm v,[]⟩:=by cases o<;>rfl
def ZaT(E:Env g)(fn:d')(ops:Array Oper)(k:List Item)(os:List OF)(V:List<|Nat×Option (L?))(l:List Nat)(a:Act)(w:w?):Prop:=a.2=[]->dv E (⟨fn,a.1,r? ops l::k⟩::os) w V
def LU{E:Env g}{fn os}{V:List<|Nat×Option (L?)}{k}(O:∀(i)o,i≠l->f[i]?=y? o->OkOp g E.7 E.5 E.6 o.2):Lq g f l (ZaT E fn f k os V) where
 op:=by intro i rest a w o W J U Y B;obtain⟨tm,df⟩:=a;simp only at B;subst B;refine dv.any J U (O i o W J) λτ=>?_;have:=Y τ;unfold lO at this;refine iR.mono (λv y ⟨_,h⟩=>?_) this;rw[xY]at h;exact h rfl
 pass:=by intro i rest a w o _ J U h B;obtain⟨tm,df⟩:=a;simp only at B;subst B;rw[xY]at h;exact dv.pass J U<|h q?
def dv.Iu{E:Env g}{fn os}{V:List<|Nat×Option (L?)}{k last tl Sd}(hm:g.follows .mixedOrders=t?)(B:∀(i:Nat)o,i≠last->f[i]?=y? o->OkOp g E.7 E.5 E.6 o.2)(h:WS g .any f last tl Sd f.size (cK f.size f?) (lu U) ⟨x3,[]⟩)
  (J:∀a y l,tl l->Sd a y->a.2=[]/\dv E (⟨fn,a.1,r? f (last::l)::k⟩::os) y V):dv E (⟨fn,x3,.code (.region x4 f t?)::k⟩::os) U V:=by
 refine dv.Wc λt=>?_;simp only[hX,hm,k9,if_true];exact WS.sound (LU B) (λa y l O h _=>(J a y l O h).2) _ t _ _ _ U (lu.free U) (lu.at U _) h rfl
def dv.NG{E:Env g}{fn}{os:List OF}{V:List<|Nat×Option (L?)}{k:List Item}{last}{tl:List Nat}{Sd:Act->w?->Prop}(hm:g.follows .mixedOrders=t?)(B:∀(i:Nat)o,i≠last->f[i]?=y? o->OkOp g E.7 E.5 E.6 o.2)(h:WS g .any f last (· = tl) Sd f.size (cK f.size f?) (lu U) ⟨x3,[]⟩)
  (J:∀a y,Sd a y->a.2=[]/\dv E (⟨fn,a.1,r? f (last::tl)::k⟩::os) y V):dv E (⟨fn,x3,.code (.region x4 f t?)::k⟩::os) U V:=
 dv.Iu hm B h λa y l O W=>by rw[O];exact J a y W
end
section
open Conc
variable {p:P?}{C:Nat}{I:d'}{J:V?}{U:Tmp}{x0:Code}{x1 x2:w?}
structure Dk(P:P?)(f:d')(iI:Func)(s:Tmp)(ty:dw)(ops:Array Oper)(rest:Code):Prop where
 fn:P.2[f]?=some iI
 body:iI.9=some (.seq (.region 0 ops false) rest)
 name:iI.1≠ "runtime.NumGoroutine"
 two:∃q0 q1 a0 a1,ops=#[{dst:=some s,op:=.load ty (.tmp 0),type:=ty,pos:=q0,after:=a0,guard:=none},{dst:=none,op:=.defer {callee:=.builtin .close,args:=#[.tmp s],argTypes:=#[ty]},type:=0,pos:=q1,after:=a1,guard:=none}]
 load:∀(a:Addr)(v:v?)(w:w?),C? w a=some v->(rr ty (.pointer (some a)) >>= λv=>(pure (.value v):Sem Go.Next)).runT P w #[]=(.ok (.value v) w,#[⟨.cell a,false,false⟩])
def DX(P:P?):Frame:={(default:Frame)with fn:=P.2.size,defers:=[],mode:=.panicking [ef]}
def Hn(f:d')(tm:V?)(td:List Item)(B:List Deferred):Frame:=⟨f,tm,td,B,.run,.deferred,x?⟩
def Hc{iI ty ops}(B:Dk p I iI U ty ops x0)(cap:V?)(w):dp p f? (nP p ⟨.fn (.func I) cap,#[]⟩) w=.go (G (Hn I (cap++cK (iI.7-cap.size) sp) [.code<|.seq (.region 0 ops f?) x0] []) [DX p]) w #[]:=by
 have O:(iI.1 == "runtime.NumGoroutine")=f?:=by simpa using B.3
 have J:(invoke (.fn (.func I) cap) #[]).runT p w #[]=(.ok (.enter I cap) w,#[]):=by have e:invoke (.fn (.func I) cap) #[]=ga I _:=rfl;rw[e,cY];unfold ga;have V:∀k:P?->Sem Go.Next,(program >>= k).runT p w #[]=(k p).runT p w _:=λk=>rfl;rw[V];simp only[B.1,O,B.2,Zk,if_false,gB];rfl
 have W:dp p f? (nP p ⟨.fn (.func I) cap,#[]⟩) w=gm p (DX p) [] x? ⟨.fn (.func I) cap,#[]⟩ w:=rfl;rw[W];unfold gm;simp only[J,k6,Zk,if_false];simp[pr,G,Hn,nL,B.1,B.2,dS]
def I9(f)(tm:V?)(td)(df):(Hn f tm td df).eval=mE tm:=by funext x;cases x<;>rfl
def Jg{P iI ty}{ops:Array Oper}(hc:Dk P I iI U ty ops x0){p v ps}(hq:(P.2[I]?).any (·.10)=f?)(hp:J.getD 0 sp=p? (y? p))(hv:C? x1 p=y? v) :
  dp P f? (G (Hn I J [r? ops [0,1],.code x0] []) [ps]) x1=.go (G (Hn I (S? J U v) [r? ops [1],.code x0] []) [ps]) x1 #[⟨.cell p,f?,f?⟩]:=by
 obtain⟨W,q1,Y,a1,O⟩:=hc.4;have e:dp P f? (G (Hn I J [r? ops [0,1],.code x0] []) [ps]) x1=m5 P f? t? (Hn I J [r? ops [0,1],.code x0] []) _ x? x1:=rfl;rw[e]
 have V:(dl (mE J) {dst:=y? U,op:=.load ty<|.tmp 0,type:=ty,pos:=W,after:=Y,guard:=x?}).runT P x1 #[]=(.ok (.value v) x1,#[⟨.cell p,f?,f?⟩]):=by have e1:dl (mE J) {dst:=y? U,op:=.load ty<|.tmp 0,type:=ty,pos:=W,after:=Y,guard:=x?}=(rr ty _ >>= λv=>pure _):=rfl;rw[e1];have e2:mE J (.tmp 0)=p? _:=hp;rw[e2];exact hc.5 p v x1 hv
 unfold m5;have B:ops[0]?=y? {dst:=y? U,op:=.load ty<|.tmp 0,type:=ty,pos:=W,after:=Y,guard:=x?}:=by rw[O];rfl
 simp only[Hn,B,N!,I!];rw[if_pos<|by simp[hO]];unfold m6;simp only[oa,B];have aa:ob ⟨I,J,[r? ops _,.code x0],[],.run,.deferred,x?⟩=mE J:=(I9 I J [r? ops [0,1],.code x0] []);rw[aa];unfold m4;simp only[if_true,V];simp[pr,G,nU,B,dS,hq]
def XM(s:Tmp):Array Bool:=(#[Operand.tmp s]).map fun|.const _=>t?|_=>f?
def G1{iI ty ops}(hc:Dk p I iI U ty ops x0){v w ps}(hs:J.getD U sp=v):dp p f? (G (Hn I J [r? ops [1],.code x0] []) [ps]) w=.go (G (Hn I J [r? ops [],.code x0] [⟨.builtin .close #[ty] 0<|XM U,#[v]⟩]) [ps]) w #[]:=by
 obtain⟨q0,W,a0,Y,O⟩:=hc.4;have e:dp p f? (G (Hn I J [r? ops [1],.code x0] []) [ps]) w=m5 p f? t? (Hn I J [r? ops [1],.code x0] []) _ x? w:=rfl
 have V:(dl (mE J) {dst:=x?,op:=.defer {callee:=.builtin .close,args:=#[.tmp U],argTypes:=#[ty]},type:=0,pos:=W,after:=Y,guard:=x?}).runT p w #[]=(.ok (.defer ⟨.builtin .close #[ty] 0<|XM U,#[v]⟩) w,#[]):=by
  have ha:(#[Operand.tmp U]).map (mE J)=#[v]:=by simp[mE,Act.eval,<-hs]
  have e1:dl (mE J) {dst:=x?,op:=.defer {callee:=.builtin .close,args:=#[.tmp U],argTypes:=#[ty]},type:=0,pos:=W,after:=Y,guard:=x?}=pure _:=rfl;rw[e1,ha];rfl
 rw[e];unfold m5;have B:ops[1]?=y? {dst:=x?,op:=.defer {callee:=.builtin .close,args:=#[.tmp U],argTypes:=#[ty]},type:=0,pos:=W,after:=Y,guard:=x?}:=by rw[O];rfl
 simp only[Hn,B,N!,I!];rw[if_pos<|by simp[hO]];unfold m6;simp only[oa,B];have aa:ob ⟨I,J,[r? ops _,.code x0],[],.run,.deferred,x?⟩=mE J:=(I9 I J [r? ops [1],.code x0] []);rw[aa];unfold m4;simp only[if_true,V];simp[pr,G,nU,B,dS]
variable {g l:Ren}
def Ea{P iI ty}{ops:Array Oper}{J S}{cap B:V?}{p}(hc:Dk P I iI U ty ops x0)(hq:(P.2[I]?).any (·.10)=f?)(af:nj P g J.1 f?)(Y:¬g.6)(ag:Open g)(hJ:J.rn g)(hT:J.T=[DX P])(O:fh g cap B)(ah:cap[0]?=y? (p?<|y? p))(aq:U≠0)(hs:U<iI.7)(hn:cap.size<=iI.7)(ai:C? S.w p=y? (.chan<|y? J.r))(aj:gU g.4 x0)
  (hS:S.1=⟨I,S? (cap++cK (iI.7-cap.size) sp) U<|.chan<|y? J.r,[.code x0],[⟨.collected J.6,#[.chan<|y? J.r]⟩],.run,.normal,x?⟩) (aa:S.2=[door P]):uf P J g S 5<|nP P ⟨.fn (.func I) B,#[]⟩:=by
 have ar:∀w:w?,w.at _=w:=λw=>rfl;let ⟨q',ab,ak⟩:=O.get ah
 have al:∃p',q'=p? (y? p')/\AR g p p':=by
  cases ak with
  |ptr ha=>exact⟨_,q?,ha⟩
 obtain⟨p',rfl,ac⟩:=al
 have W:∀w,WR g S.w w->C? w p'=y? (.chan<|y? J.c):=by
  intro w V;obtain⟨v',am,an⟩:=V.cell ac ai
  cases an with
  |chan hb=>rw[hJ.1]at hb;cases hb;exact am
 have ao:=O.size.symm;refine⟨q?,λw V=>⟨_,w.3,#[],Hc hc B w,i!,?_⟩⟩;refine⟨q?,λw V=>⟨G (Hn I (B++cK _ sp) _ []) _,w.3,#[],q?,i!,?_⟩⟩;refine⟨q?,λw V=>⟨G (Hn I (B++cK (iI.7-B.size) sp) [r? ops [0,1],.code x0] []) [DX P],w.3,#[],?_,i!,?_⟩⟩
 .obtain⟨q0,q1,a0,a1,ad⟩:=hc.4;have:b6 ops.size=[0,1]:=by rw[ad];rfl
  show m5 P f? t? (Hn I (B++cK (iI.7-B.size) sp) [.code<|.region 0 ops f?,.code x0] []) [DX P] x? w=_;unfold m5;simp[Hn,G,this];rfl
 refine⟨q?,λw V=>⟨_,w.3,_,Jg hc hq (by rw[By,P!<|(AI.1 ab).1,ab];rfl)<|W w V,?_,?_⟩⟩
 .intro e he;simp only[ca,Zm,q!,or_false]at he;subst he;exact⟨q?,p,ac,λh=>by cases h⟩
 have ae:(S? (B++cK (iI.7-B.size) sp) U<|.chan<|y? J.c).getD U sp=.chan (y? J.c):=by
  have hz:(B++cK (iI.7-B.size) sp).size=iI.7:=j!;have:U<(B++cK (iI.7-B.size) sp).size:=by rwa[hz]
  rw[By,ZR this];rfl
 have ap:=λw=>G1 (ps:=DX P) (w:=w) hc ae;refine⟨q?,λw V=>⟨_,w.3,#[],ap w,i!,?_⟩⟩;refine⟨q?,λw V=>⟨Hn I _ _ _,[DX P],w.3,#[],q?,i!,?_⟩⟩;refine⟨af,Y,ag,?_,V.at _⟩;rw[aa,hS,hT];refine .one ⟨q?,?_,.cons (.code x0 aj) .nil,.cons ⟨.mark _ _ _ hJ.3,.one<|.chan hJ.1⟩ .nil,.run,.none⟩ q? (.inr ⟨q?,DX P,q?,q?⟩) rfl;rw[ao];exact(O.append<|.replicate _<|.undef g).set U<|.chan hJ.1
structure Ren.BM(m m':Ren):Prop where
 blk:m'.1=m.1
 ch:m'.2=m.2
 ok:m'.4=m.4
 nu:m'.5=m.5
 SN:m'.6=m.6
 dead:m'.7=m.7
 dm:m'.8=m.8
 G:m'.G=m.G
 Yd:m'.9=m.9
def AR.lR(h:g.BM l){a a'}(x:AR g a a'):AR l a a':=by cases x with|mk hb=>exact .mk (by rwa[h.1])
def Sb.lR(h:g.BM l){a a'}(x:Sb g a a'):Sb l a a':=by
 cases x with
 |func f B=>exact .func f (by rwa[h.4])|yield hb=>exact .yield (by rwa[h.1])
def VR.lR{m'}(h:g.BM m'){v v'}(x:VR g v v'):VR m' v v':=by
 induction x with
 |gV v V=>exact .gV v V|tC B _ O J=>exact .tC B J O|bool|int|string|iQ|gC|oH|kg|nilFunc|nilIface=>constructor|ptr U=>exact .ptr<|U.lR h|zero a W=>exact .zero a (by rwa[h.6])|slice l c U=>exact .slice l c<|U.lR h|map hb=>exact .map (by rwa[h.1])|gone W=>rw[<-h.7];exact .gone (by rwa[h.6])|chan hb=>exact .chan (by rwa[h.2])|func Y B _ O _ i1 i2=>exact .func (Y.lR h) B i1 O i2|iface t _ J=>exact .iface t J|agg B _ J=>exact .agg B J|tuple B _ J=>exact .tuple B J
def fh.lR(h:g.BM l){c:V?}(x:fh g c J):fh l c J:=eA.mono (λ_ _=>VR.lR h) x
def TR.lR(h:g.BM l){a a'}(x:TR g a a'):TR l a a':=by
 cases x with
 |fn B=>exact .fn<|B.imp (λy=>⟨y.1.lR h,y.2.lR h⟩) id|nil=>exact .nil|builtin a t c hm=>exact .builtin a t c (by rwa[h.5])|mark a t c J=>exact .mark a t c (by rwa[h.6])|collected hb=>exact .collected (by rwa[h.1])
def DR.lR(h:g.BM l){a a'}(x:DR g a a'):DR l a a':=⟨x.1.lR h,x.2.lR h⟩
def wq.lR(h:g.BM l){a a'}(x:wq g a a'):wq l a a':=⟨x.1.lR h,x.2.lR h,x.3⟩
def Ag.lR(h:g.BM l){a a'}(x:Ag g a a'):Ag l a a':=
 ⟨x.1,x.2,λc B=>by rw[h.3];exact x.3 c B,x.4,x.5.lR h,x.6,x.7,x.8,by rw[h.3];exact x.9,by rw[h.3];exact x.10,by rw[h.1];exact x.11⟩
def OR.lR{m'}(h:g.BM m'){a a'}(x:OR g a a'):OR m' a a':=by
 cases x with
 |cells e f f' B=>exact .cells e f f'<|B.lR h|map clock J=>exact .map clock<|eA.mono (λ_ _ y=>y.lR h) J|number l O=>exact .number l<|O.lR h|stringIter s p=>exact .stringIter s p|ik a b c=>exact .ik a b c|mapIter a b c hb=>exact .mapIter a b c (by rwa[h.1])|loop U=>exact .loop<|U.lR h|fM=>exact .fM|deferred V=>exact .deferred<|eA.mono (λ_ _ y=>y.lR h) V
def qy.lR{m'}(h:g.BM m'){T os l}(x:qy g T os l):qy m' T os l:=by
 induction x with
 |nil=>exact .nil|cons B _ J=>exact .cons (B.lR h) J
def Xh:Obj->Obj
 |c? c e _=>c? c e (0,c.size)|o=>o
def xf(w:w?)(B:List Nat):w?:={w with heap:=w.1.mapIdx λi o=>if i∈B then Xh o else o}
def Ren.DZ(m:Ren)(B:List Nat):Ren:={m with loose:=λr=>m.3 r\/r∈B}
def Ren.EI(m:Ren)(caps):m.BM<|m.DZ caps:=⟨q?,q?,q?,q?,q?,q?,q?,q?,q?⟩
def Gi(w)(caps)(r):(xf w caps).1[r]?=(w.1[r]?).map λo=>if r∈caps then Xh o else o:=by unfold xf;simp only[de]
def Db(w)(caps):(xf w caps).1.size=w.1.size:=by simp[xf]
def uI(w){caps}(h:C ∉ caps):(xf w caps).1[C]?=w.1[C]?:=by rw[Gi];cases w.1[C]?<;>simp[h]
def GC(w){caps}(h:C∈caps){c:V?}{e f}(B:w.1[C]?=y? (c? c e f)):(xf w caps).1[C]?=y? (c? c e (0,c.size)):=by rw[Gi,B];simp[h,Xh]
def WR.DZ(h:WR l x1 x2){J:List Nat}(hc:∀r∈J,∃c e f,x1.1[r]?=y? (.cells c e f))(hd:∀r∈J,¬l.7 r):WR (l.DZ J) (xf x1 J) x2:=by
 have lR:=l.EI J
 have back:∀r c e f,(xf x1 J).1[r]?=y? (.cells c e f)->∃f0,x1.1[r]?=y? (.cells c e f0)/\(r ∉ J->f0=f)/\(r∈J->f=(0,c.size)):=by intro r c e f V;by_cases B:r∈J;obtain⟨c0,e0,f0,O⟩:=hc r B;rw[GC x1 B O]at V;cases V;exact⟨f0,O,λx=>absurd B x,λ_=>rfl⟩;rw[uI x1 B]at V;exact⟨f,V,λ_=>rfl,λx=>absurd x B⟩
 refine⟨λr r' hb=>?_,λr r' c e f Y e' f' hb h1 h2 hn=>?_,λr r' c e f Y e' f' hb h1 h2 hl=>?_,λr r' hb=>?_,?_,h.6,h.7,λr o ho=>?_,λr r' hb hl=>?_,λr V=>?_,λr i v hv=>?_⟩;obtain⟨o,o',U,W,g3⟩:=h.1 r r' hb;by_cases B:r∈J;obtain⟨c0,e0,f0,O⟩:=hc r B;rw[O]at U;cases U
 cases g3 with
 |cells _ _ f' ab=>exact⟨_,_,GC x1 B O,W,.cells _ _ _<|ab.lR lR⟩
 exact⟨o,o',by rwa[uI x1 B],W,g3.lR lR⟩;obtain⟨f0,O,x,_⟩:=back r c e f h1;rw[<-x<|λy=>hn<|.inr y];exact h.2 r r' c e f0 Y e' f' hb O h2 λy=>hn<|.inl y;obtain⟨f0,O,x,y⟩:=back r c e f h1;by_cases B:r∈J;rw[y B];exact λo ho=>⟨ZP _,ho⟩;rw[<-x B];exact h.3 r r' c e f0 Y e' f' hb O h2<|hl.resolve_right B;have:=h.4 r r' hb;exact⟨by rw[Db];exact this.1,this.2⟩;show l.G<=(xf x1 J).1.size;rw[Db];exact h.5;obtain⟨U,W⟩:=h.8 r o ho;refine⟨?_,W⟩
 have aa:r ∉ J:=λB=>by obtain⟨c0,e0,f0,O⟩:=hc r B;obtain⟨a,b,c,d,e,f,rfl⟩:=W;rw[O]at U;cases U
 rwa[uI x1 aa];by_cases B:r∈J;obtain⟨c0,e0,f0,O⟩:=hc r B;exact⟨_,_,_,GC x1 B O⟩;obtain⟨c0,e0,f0,O⟩:=h.9 r r' hb<|hl.resolve_right B;exact⟨_,_,_,by rwa[uI x1 B]⟩;obtain⟨U,c0,f0,g⟩:=h.10 r V;exact⟨U,c0,f0,by rwa[uI x1<|λB=>hd r B V]⟩;obtain⟨r',hb,hp⟩:=h.11 r i v hv;refine⟨r',hb,λc e f Y e' f' x U W=>?_⟩;obtain⟨f0,O,_,_⟩:=back r c e f U;exact hp c e f0 Y e' f' x O W
def Ud(M:Nat)(n:Nat):Bool:=M.testBit n
def YL(P:P?)(nu gl:Nat->Bool)(st:Bool)(f:Nat):Bool:=match P.2[f]? with
 |some fn=>fn.1 != "runtime.NumGoroutine" && (match fn.9 with
  |some c=>lD (λo=>KQ P nu gl st o.2) c|none=>f?)
 |none=>f?
def Sy(P:P?)(nu gl:Nat->Bool)(st:Bool):Oper->Prop:=λo=>KQ P nu gl st o.2=t?
def Xx{nu gl st}(h:YL p nu gl st C=t?)(hm:g.4=Sy p nu gl st):qk p g C:=by
 unfold YL at h
 cases J:p.2[C]? with
 |none=>rw[J]at h;cases h
 |some fn=>
  rw[J]at h;simp only[IT]at h;obtain⟨O,B⟩:=h;refine⟨fn,J,u! O,?_⟩
  cases hb:fn.9 with
  |none=>rw[hb]at B;cases B
  |some c=>rw[hb]at B;exact .inl ⟨c,q?,by rw[hm];exact rE B⟩
def S5(P:P?)(nu gl:Nat->Bool)(st:Bool)(ex:Nat->Bool)(n:Nat):Bool:=(b6 n).all λf=>!nu f || ex f || YL P nu gl st f
def Gx{nu gl st ex}(h:S5 p nu gl st ex C=t?)(O:∀f,nu f=t?->f<C)(hm:g.4=Sy p nu gl st)(B:∀f,ex f=t?->nu f=t?->qk p g f):∀f,nu f=t?->qk p g f:=by
 intro f J;unfold S5 at h;rw[Zy]at h;have:=h f (by simpa using O f J);simp only[J,k7,k8,Z7]at this;obtain x|x:=this
 exact B f x J;exact Xx x hm
def XP(P:P?):Bool:=P.1.types.all λi=>match i.8 with
 |some v=>JC 40 v|none=>t?
def Yi(P:P?):Bool:=P.1.types.all λi=>(i.10.find? (·.1 == "")).isNone
def Sj(h:XP p=t?)(hmb:Yi p=t?):oy p:=by
 have hT:∀(t:Nat)(i:TypeInfo)v,p.1.types[t]?=y? i->i.8=y? v->n9 v:=by intro t i v ht J m;unfold XP at h;rw[cS]at h;obtain⟨B,rfl⟩:=AI.1 ht;have:=h t B;rw[J]at this;exact Bn this m
 have O:∀(t:Nat)(i:TypeInfo),p.1.types[t]?=y? i->i.10.find? (·.1 == "")=x?:=by intro t i ht;unfold Yi at hmb;rw[cS]at hmb;obtain⟨B,rfl⟩:=AI.1 ht;simpa using hmb t B
 refine⟨λt i v ht J m=>?_,λt i ht=>?_⟩;have ht:=ht;unfold Tables.info? at ht;split at ht;exact hT t i v ht J m;exact Ad hT _ t i v ht J m;have ht:=ht;unfold Tables.info? at ht;split at ht;exact O t i ht;exact MA O _ t i ht
def ZaV:Nat:=16296291696013673141605707346198838935449560434141168097322037386652118454261163305065086976
def Yg:Nat:=1001570083691504317195401104025185627287091139835923004101470451620903362718842486784
def phM:Nat:=7237005590390986380874373471172107595023005440485116358029236060886847717376
def xm:Nat->Bool:=Ud ZaV
def xw:Nat->Bool:=Ud Yg
def Se:Nat->Bool:=Ud phM
def vi(g:Nat):Bool:=g==0 || g==2 || g==3 || g==4
def Gv(_:Nat):Bool:=f?
def Sn:oy prog:=Sj k! k!
def YH:S5 prog xm vi t? (λf=>f==100 || f==232) 304=t?:=by kernel_rfl
def sendAll:S5 prog xw Gv f? (λ_=>f?) 304=t?:=by kernel_rfl
def Za2:S5 prog Se Gv f? (λ_=>f?) 304=t?:=by kernel_rfl
def follows:prog.follows .rangeFuncRecover=t?:=by kernel_rfl
def Cu:prog.globals.size=5:=by kernel_rfl
def wb{M f}(B:M >>> C=0)(h:M.testBit f=t?):f<C:=by
 apply ZX;intro J;have e:(M >>> C).testBit (f-C)=M.testBit f:=by rw[Nat.testBit_shiftRight,Nat.add_sub_of_le<|j4 J]
 rw[B,h,Nat.zero_testBit]at e;cases e
def YC(f)(h:xm f=t?):f<304:=wb (M:=ZaV) k! h
def Xy(f)(h:xw f=t?):f<304:=wb (M:=Yg) k! h
def Zbe(f)(h:Se f=t?):f<304:=wb (M:=phM) k! h
def Gn{nu gl st}(B:l.4=Sy p nu gl st)(J:l.5=λf=>nu f=t?)(V:xl p l)(O:st=t?->iG l)(W:∀g,gl g=t?->l.1 g=y? g):nj p l (λg=>gl g=t?) st:=
 ⟨V,O,λh=>h.elim,W,λo U=>by rw[B]at U;rw[J];exact yI U⟩
def Rr:Extern.findNext pm=x?:=by kernel_rfl
def Qd:Extern.findNext f232=x?:=by kernel_rfl
def Qb:Extern.find pm=y? (Extern.SlicesOverlaps.overlaps pm.4 pm.5):=by kernel_rfl
def QV:Extern.find f232=y? Extern.BytealgCompare.compare:=by kernel_rfl
def call100(B:iG g):qk prog g 100:=
 ⟨pm,k!,by simp[pm],.inr ⟨k!,Rr,_,Qb,λU a V J O=>LR (B.mono J) O⟩⟩
def call232:qk prog g 232:=
 ⟨f232,k!,by simp[f232],.inr ⟨k!,Qd,_,QV,λJ a O U B=>RM B⟩⟩
def YD(B:l.4=Sy prog xm vi t?)(J:l.5=λf=>xm f=t?)(W:l.G=5)(O:iG l)(Y:∀g,vi g=t?->l.1 g=y? g):nj prog l (λg=>vi g=t?) t?:=
 Gn B J ⟨Sn,by rw[W,Cu],λf U=>by
  rw[J]at U;refine Gx YH YC B (λf V _=>?_) f U;simp only[Z7,beq_iff_eq]at V;obtain rfl|rfl:=V
  exact call100 O
  exact call232,follows⟩ (λ_=>O) Y
def WA(B:l.4=Sy prog xw Gv f?)(J:l.5=λf=>xw f=t?)(U:l.G=5):nj prog l (λg=>Gv g=t?) f?:=
 Gn B J ⟨Sn,by rw[U,Cu],λf O=>by
  rw[J]at O
  exact Gx sendAll Xy B (λf V _=>by cases V) f O,follows⟩ (λh=>by cases h) (λg W=>by cases W)
def ZaF(B:l.4=Sy prog Se Gv f?)(J:l.5=λf=>Se f=t?)(U:l.G=5):nj prog l (λg=>Gv g=t?) f?:=
 Gn B J ⟨Sn,by rw[U,Cu],λf O=>by
  rw[J]at O
  exact Gx Za2 Zbe B (λf V _=>by cases V) f O,follows⟩ (λh=>by cases h) (λg W=>by cases W)
def dmy:Obj:=c? #[] 0 (0,0)
def Oh(C:Nat->Obj)(ch ex:Obj):Array Obj:=#[dmy,dmy,dmy,dmy,dmy,C 0,C 1,C 2,C 3,dmy,ch,ex]
def MX(B:Nat->Nat)(M:Option Nat)(r:Nat):Option Nat:=if 5<=r/\r<9 then y? (B<|r-5)else if r=11 then M else x?
structure OkS(B:Nat->Nat)(M:Option Nat):Prop where
 low:∀i,i<4->5<=B i
 inj:∀i j,i<4->j<4->B i=B j->i=j
 Zdq:∀b,M=some b->5<=b
 neM:∀b i,M=some b->i<4->B i≠b
def iZ{B M b}(h:MX B M C=y? b):(∃i,i<4/\C=5+i/\b=B i)\/(C=11/\M=y? b):=by
 unfold MX at h;split at h;exact .inl ⟨C-5,o!,o!,(l3 h).symm⟩;split at h;rename_i J;exact .inr ⟨J,h⟩
 cases h
def QW(B)(M){i}(J:i<4):MX B M (5+i)=y? (B i):=by unfold MX;rw[if_pos o!];congr 2;omega
def G6{B M}(h:OkS B M)(c:Nat)(ch:Obj):Ren where
 blk:=MX B M
 ch:=λr=>if r=10 then y? c else x?
 loose:=λr=>5<=r/\r<9
 ok:=Sy prog xw Gv f?
 nu:=λf=>xw f=t?
 SN:=False
 dead:=λr=>r=9
 dm:=λ_=>0
 Yd:=λ_ _=>x?
 Li:=λr=>if r=10 then y? ch else x?
 G:=5
 Lp:=λr r' J=>by
  obtain⟨i,V,rfl,rfl⟩|⟨rfl,O⟩:=iZ J
  .have:=h.1 i V
   constructor<;>intro x<;>omega
  .have:=h.3 r' O
   constructor<;>intro x<;>omega
 inj:=λr s t J U=>by
  obtain⟨i,V,rfl,rfl⟩|⟨rfl,O⟩:=iZ J
  .obtain⟨j,W,rfl,e⟩|⟨rfl,O⟩:=iZ U
   .rw[h.2 i j V W e]
   .exact absurd q? (h.4 _ i O V)
  .obtain⟨j,W,rfl,rfl⟩|⟨rfl,_⟩:=iZ U
   .exact absurd q? (h.4 _ j O W)
   .rfl
 TZ:=λr s t J U=>by
  split at J
  .split at U
   .rename_i Y e2;rw[Y,e2]
   .cases U
  .cases J
def Su{B M}(h:OkS B M)(c)(ch):nj prog (G6 h c ch) (λg=>Gv g=t?) f?:=WA q? q? rfl
def EJ(C)(ch ex){i}(B:i<4):(Oh C ch ex)[5+i]?=y? (C i):=by
 match i,B with
 |0,_=>rfl|1,_=>rfl|2,_=>rfl|3,_=>rfl
def WR.Yv{B M}(h:OkS B M){c C cap ex}{W w:w?}(V:W.1=Oh C (.chan cap #[] f? 0 0 f?) ex)(ab:w.4=W.4)(ac:5<=w.1.size)(hc:c<w.1.size)
  (O:∀i,i<4->∃a Y e f',C i=.cells a e (0,a.size)/\w.1[B i]?=y? (.cells Y e f')/\fh (G6 h c<|.chan cap #[] f? 0 0 f?) a Y)
  (hM:∀b,M=y? b->∃o',w.1[b]?=y? o'/\OR (G6 h c<|.chan cap #[] f? 0 0 f?) ex o'/\∀a e f,ex≠.cells a e f):WR (G6 h c<|.chan cap #[] f? 0 0 f?) W w:=by
 have get:∀i,i<4->W.1[5+i]?=y? _:=λi U=>by rw[V];exact EJ C _ ex U
 have aa:W.1[11]?=y? ex:=by rw[V];rfl
 refine⟨λr r' J=>?_,λr r' c1 e1 f1 c2 e2 f2 J h1 h2 hn=>?_,λr r' c1 e1 f1 c2 e2 f2 J h1 h2 hl=>?_,λr r' J=>?_,(by rw[V];show 5<=12;omega),ac,ab,λr o J=>?_,λr r' J hl=>?_,λr J=>?_,λr i v hv=>(by cases hv)⟩;obtain⟨i,U,rfl,rfl⟩|⟨rfl,hm⟩:=iZ J
 obtain⟨a,Y,e,f',x1,x2,x3⟩:=O i U;exact⟨_,_,by rw[get i U,x1],x2,.cells e _ f' x3⟩;obtain⟨o',x1,x2,_⟩:=hM r' hm;exact⟨_,_,aa,x1,x2⟩;obtain⟨i,U,rfl,rfl⟩|⟨rfl,hm⟩:=iZ J
 exact absurd (⟨o!,o!⟩) hn;rw[aa]at h1;obtain⟨_,_,_,x⟩:=hM r' hm;cases h1;exact absurd q?<|x _ _ _;obtain⟨i,U,rfl,rfl⟩|⟨rfl,hm⟩:=iZ J
 obtain⟨a,Y,e,f',x1,x2,x3⟩:=O i U;rw[get i U,x1]at h1;cases h1;exact λo ho=>⟨ZP _,ho⟩;exact absurd hl.2 o!;have J:(if r=10 then y? c else x?)=y? r':=J;split at J;rename_i e;cases J;exact⟨by rw[V,e];show 10<12;omega,hc⟩
 cases J;have J:(if r=10 then y? _ else x?)=y? o:=J;split at J;rename_i e;cases J;exact⟨by rw[V,e];rfl,_,_,_,_,_,_,q?⟩
 cases J;obtain⟨i,U,rfl,rfl⟩|⟨rfl,hm⟩:=iZ J
 obtain⟨a,Y,e,f',x1,x2,x3⟩:=O i U;exact⟨_,_,_,by rw[get i U,x1]⟩;exact absurd hl.2 o!;have e:r=9:=J;subst e;exact⟨by simp[G6,MX],_,_,by rw[V];rfl⟩
def T4(P:P?)(f:d')(L:L?)(B:w?->Prop)(S:LS):Prop:=S.2=[door P]/\S.1.5=.returning/\S.1.4=[⟨.collected 9,#[.chan<|y? 10]⟩]/\S.1.1=f/\Holds S 10 L/\B S.w
def YE(P:P?)(f:d')(L:L?)(c:Nat)(B:w?->Prop)(qQ:Nat->Nat->Obj->Prop):uj where
 gl:=λg=>Gv g=t?
 T:=[DX P]
 Stop:=T4 P f L B
 r:=10
 c:=c
 rd:=9
 L:=L
 qQ:=qQ
def Xg{L:L?}{c}{B:w?->Prop}{qQ:Nat->Nat->Obj->Prop}{iI}(hf:prog.2[I]?=y? iI)(Y:iI.8=#[])(hn:iI.10=f?)(hb:∀w τ,B (tp w τ)->B w)(hk:∀w,B w->∀r b o,qQ r b o->w.1[r]?=y? o/\∀(m)W,OR m o W->W=o):(YE prog I L c B qQ).Ok prog where
 blind:=λS τ ⟨J,O,U,V,h5,h6⟩=>⟨J,O,U,V,h5,hb _ _ h6⟩
 holds:=λS h=>h.2.2.2.2.1;Zb6:=λS ⟨J,O,U,V,_⟩=>⟨J,O,U,iI,by rwa[V],Y,hn⟩;back:=λS h r b o x=>hk S.w h.2.2.2.2.2 r b o x
 bot:=⟨DX prog,q?,q?,q?,by
  show prog.2[prog.2.size]?=x?
  simp,q?⟩
def CI(b:Nat->Nat):Array v?:=#[p?<|y? ⟨b 0,0,x?⟩,p?<|y? ⟨b 1,0,x?⟩,p?<|y? ⟨b 2,0,x?⟩,p?<|y? ⟨b 3,0,x?⟩]
def SA(b){i}(B:i<4):(CI b)[i]?=y? (p?<|y? ⟨b i,0,x?⟩):=by
 match i,B with
 |0,_=>rfl|1,_=>rfl|2,_=>rfl|3,_=>rfl
def To{b B:Nat->Nat}(h:∀i,i<4->g.1 (b i)=y? (B i)):fh g (CI b)<|CI B:=
 .cons (.ptr<|.mk<|h 0 o!) (.cons (.ptr<|.mk<|h 1 o!)<|.cons (.ptr<|.mk<|h 2 o!)<|.cons (.ptr<|.mk<|h 3 o!) .nil)
def U3{b}(h:fh g (CI b) J):∃B,J=CI B/\∀i,i<4->g.1 (b i)=y? (B i):=by
 have get:∀i,i<4->∃B,J[i]?=y? (p?<|y? ⟨B,0,x?⟩)/\g.1 (b i)=y? B:=by
  intro i O;obtain⟨v',U,V⟩:=h.get<|SA b O
  cases V with
  |ptr W=>
   cases W with
   |mk hb=>exact⟨_,U,hb⟩
 let ⟨Y,a0,e0⟩:=get 0 o!;let ⟨B1,a1,e1⟩:=get 1 o!;let ⟨B2,a2,e2⟩:=get 2 o!;let ⟨B3,a3,e3⟩:=get 3 o!;refine⟨λi=>match i with|0=>Y|1=>B1|2=>B2|_=>B3,?_,λi O=>?_⟩;apply cU;intro i;match i with
 |0=>rw[a0];rfl|1=>rw[a1];rfl|2=>rw[a2];rfl|3=>rw[a3];rfl|i+4=>have:J.size=4:=(h.size).symm;rw[ZB o!,ZB (by show 4<=i+4;omega)]
 match i,O with
 |0,_=>exact e0|1,_=>exact e1|2,_=>exact e2|3,_=>exact e3
def Rg.DZ{E B:Env p}(h:Rg E g)(caps)(J:∀g:Ren,g.4=B.8->g.5=B.7->g.G=p.globals.size->nj p g B.5 B.6)(O:B.7=E.7)(U:B.8=E.8)(V:B.X<|g.DZ caps):Rg B<|g.DZ caps:=
 ⟨J _ (h.5.trans U.symm) (h.4.trans O.symm) h.1.1.G,h.2,h.3,h.4.trans O.symm,h.5.trans U.symm,V⟩
structure SIn(E jT:Env prog)(wl:w?)(rc:Nat)(b:Nat->Nat)(cm cd:Nat->V?)(te:Nat->dw)(fz:Nat->Nat×Nat)(M:Option Nat)(ex:Obj):Prop where
 z:jT.Z=E.Z
 t:jT.T=E.T
 w:jT.3=E.3
 nu:jT.7=E.7
 ok:jT.8=E.8
 ctx:∀m:Ren,m.4=jT.8->m.5=jT.7->m.G=prog.globals.size->nj prog m jT.5 jT.6
 x:∀m,Rg E m->jT.X (m.DZ [b 0,b 1,b 2,b 3])
 fix:∀q,jT.2 q↔E.2 q/\M≠some q
 low:∀i,i<4->5<=b i
 inj:∀i j,i<4->j<4->b i=b j->i=j
 cells:∀i,i<4->wl.1[b i]?=some (.cells (cm i) (te i) (fz i))
 live:∀m,Rg E m->∀i,i<4->¬m.7 (b i)
 m0:cm 0=#[.chan (some rc)]
 d0:cd 0=#[.chan (some 10)]
 conv:∀i,1<=i->i<4->∀(m mi:Ren)w a',Rg E m->WR m wl w->(∀q,M=some q->mi.1 11=some q)->fh m (cm i) a'->fh mi (cd i) a'
 map:∀q,M=some q->5<=q/\E.2 q/\E.3.1[q]?=some ex/\(∀m:Ren,OR m ex ex)/\(∀(m:Ren)o',OR m ex o'->o'=ex)/\(∀a e f,ex≠.cells a e f)/\∀(m:Ren)(r:Nat)(o:Obj),wl.1[r]?=some o->¬OR m o ex
def CR(wl:w?)(cd:Nat->V?)(B:Nat->dw)(cap:Nat)(ex:Obj):w?:={wl with heap:=Oh (λi=>c? (cd i) (B i) (0,(cd i).size)) (.chan cap #[] f? 0 0 f?) ex}
def yJ(f:d')(n:Nat)(s:Tmp)(rest:Code):Frame:=⟨f,S? (CI (λi=>5+i)++cK (n-4) sp) s<|.chan<|y? 10,[.code rest],[⟨.collected 9,#[.chan<|y? 10]⟩],.run,.normal,x?⟩
def ID{E jT iI ty ops rc b}{cm cd:Nat->V?}{te fz M ex}{L:L?}{cap os}
  (hc:Dk prog I iI U ty ops x0) (an:iI.8=#[]) (ao:iI.10=f?) (ar:U≠0) (hs:U<iI.7) (hn:4<=iI.7) (au:lD (λo=>KQ prog xw Gv f? o.2) x0=t?) (hL:∀v∈L,Flat v) (O:SIn E jT x1 rc b cm cd te fz M ex)
  (ap:∀τ,∃n Y,gn prog n (gc (yJ I iI.7 U x0) [door prog]<|tp (CR x1 cd te cap ex) τ)=.next (LS.m Y)/\T4 prog I L (λw=>M=x?\/w.1[11]?=y? ex) Y) :
  Sends E jT I (CI b) os os x1 (xf x1 [b 0,b 1,b 2,b 3]) rc L:=by
 refine⟨O.z,O.t,O.w,λq hq=>((O.8 q).1 hq).1,λv hv=>(hL v hv).eq,λm av w c aa af hw aw aq ab=>?_⟩;obtain⟨B,rfl,hB⟩:=U3 af;have hG:m.G=5:=by rw[aa.1.1.G,Cu]
 have ag:∀r,r∈[b 0,b 1,b 2,b 3]↔∃i,i<4/\r=b i:=by
  intro r;constructor;intro h;simp only[Zm,q!,or_false]at h;obtain h|h|h|h:=h
  exact⟨0,o!,h⟩;exact⟨1,o!,h⟩;exact⟨2,o!,h⟩;exact⟨3,o!,h⟩;rintro⟨i,J,rfl⟩;match i,J with
  |0,_=>simp|1,_=>simp|2,_=>simp|3,_=>simp
 have ah:∀q,M=y? q->∀r,m.1 r≠y? q:=by intro q hq r V;obtain⟨_,W,h3,_,_,_,h7⟩:=O.16 q hq;obtain⟨o,o',e1,e2,e3⟩:=hw.1 r q V;rw[ab q W,h3]at e2;cases e2;exact h7 m r o e1 e3
 have hS:OkS B M:=by refine⟨λi J=>?_,λi j J hj e=>?_,λq hq=>(O.16 q hq).1,λq i hq J e=>?_⟩;have:=(m.12 _ _<|hB i J).2;rw[hG]at this;have h5:=O.9 i J;apply ZX;intro hx;have:=this o!;omega;exact O.10 i j J hj<|m.13 _ _ _ (hB i J)<|e▸hB j hj;exact ah q hq _<|e▸hB i J
 let mi:=G6 hS c<|.chan cap #[] f? 0 0 f?;have ac:∀q,M=y? q->mi.1 11=y? q:=λq hq=>by simp[mi,G6,MX,hq]
 have ad:mi.2 10=y? c:=by simp[mi,G6]
 have ai:∀i,i<4->∃a',∃f',w.1[B i]?=y? (c? a' (te i) f')/\fh m (cm i) a':=by
  intro i J;obtain⟨o,o',h1,W,h3⟩:=hw.1 _ _<|hB i J;rw[O.11 i J]at h1;cases h1
  cases h3 with
  |cells _ _ f' ha=>exact⟨_,f',W,ha⟩
 have aj:∀i,i<4->∀a',fh m (cm i) a'->fh mi (cd i) a':=by
  intro i J a' ha;by_cases h0:i=0;subst h0;rw[O.m0]at ha;rw[O.d0];obtain⟨al⟩:=a';unfold fh at ha⊢;simp only at ha⊢
  cases ha with
  |cons hv hn=>
   cases hn
   cases hv with
   |chan hb=>rw[aw]at hb;cases hb;exact .cons (.chan ad) .nil
  exact O.15 i o! J m mi w a' aa hw ac ha
 have ax:WR mi (CR x1 cd te cap ex) w:=by refine WR.Yv (C:=λi=>c? _ _ (0,(cd i).size)) hS q? hw.7 (v! hw.6) (by obtain⟨U,r,hx⟩:=aq;exact lA hx) (λi J=>?_) (λq hq=>?_);obtain⟨a',f',h1,W⟩:=ai i J;exact⟨cd i,a',te i,f',q?,h1,aj i J a' W⟩;obtain⟨_,W,h3,h4,_,h6,_⟩:=O.16 q hq;exact⟨ex,by rw[ab q W,h3],h4 mi,h6⟩
 have ak:∀r r',mi.2 r=y? r'->r=10:=by
  intro r r' V;have V:(if r=10 then y? c else x?)=y? r':=V;split at V;rename_i e;exact e
  cases V
 have ae:(YE prog I L c (λw=>M=x?\/w.1[11]?=y? ex)<|λr q o=>r=11/\M=y? q/\o=ex).rn mi:=
  ⟨ad,ak,q?,λr q o ⟨h1,W,_⟩=>by rw[h1];exact ac q W⟩
 have am:Open mi:=λr r' V=>by
  have V:(if r=10 then y? c else x?)=y? r':=V;split at V;rename_i e;exact⟨cap,#[],0,0,f?,by simp[mi,G6,e]⟩
  cases V
 let S:LS:=⟨yJ I iI.7 U x0,[door prog],CR x1 cd te cap ex⟩;refine⟨YE _ I L c _<|λr q o=>r=11/\M=y? q/\o=ex,mi,S,5,m.DZ _,q?,q?,Xg hc.1 an ao (λw τ h=>h)<|λw hk r q o ⟨h1,W,h3⟩=>?_,ae,λτ _=>?_,?_,ax,?_,aa.DZ _ O.6 O.4 O.5<|O.x m aa,hw.DZ (λr V=>?_)<|λr V=>?_,q?,λl hl=>hl.lR<|m.EI [b 0,b 1,b 2,b 3],λr q V=>⟨r,V,.inl⟩,λr q V=>?_,λr r' q h1 W=>?_,λr q V hf=>?_,λq hq=>?_⟩;subst h1 h3;obtain⟨_,_,_,_,h5,_⟩:=O.16 q W;exact⟨hk.resolve_left (by rw[W];simp),h5⟩;obtain⟨n,Y,h1,W⟩:=ap τ;exact⟨n,Y,h1,W,by rw[W.1];simp⟩;exact⟨cap,#[],0,0,f?,q?,q?⟩;refine Ea (p:=⟨5,0,x?⟩) hc (by rw[hc.1];simp[ao]) (Su hS c<|.chan cap #[] f? 0 0 f?) (λh=>h) am ae q? (To λi J=>QW B M J) q? ar hs hn ?_ (rE au) q? rfl;show(CR x1 cd te cap ex).cell? ⟨5,0,x?⟩=_
 have hg:(CR x1 cd te cap ex).1[5]?=y? (c? #[.chan<|y? 10] (te 0) (0,1)):=by show(Oh _ _ _)[5]?=_;rw[EJ _ _ _ (o!:0<4),O.d0];rfl
 unfold ln;simp only[hg];rfl;obtain⟨i,J,rfl⟩:=(ag r).1 V;exact⟨_,_,_,O.11 i J⟩;obtain⟨i,J,rfl⟩:=(ag r).1 V;exact O.12 m aa i J;obtain⟨i,J,rfl,rfl⟩|⟨rfl,hm⟩:=iZ V
 exact .inl ⟨b i,hB i J,λ_=>⟨o!,o!⟩⟩;obtain⟨_,W,_,_,_,_,h7⟩:=O.16 q hm;exact .inr ⟨W,ah q hm,λhx=>((O.8 q).1 hx).2 hm⟩;obtain⟨i,J,rfl,rfl⟩|⟨rfl,hm⟩:=iZ W
 have:=m.13 _ _ _ h1<|hB i J;exact⟨.inr<|(ag r).2 ⟨i,J,this⟩,o!,o!⟩;exact absurd h1<|ah q hm r;obtain⟨i,J,rfl,rfl⟩|⟨rfl,hm⟩:=iZ V
 exact⟨o!,o!⟩;exact absurd hm ((O.8 q).1 hf).2;by_cases hm:M=y? q;exact .inr ⟨11,ex,⟨q?,hm,q?⟩,(O.16 q hm).2.2.1⟩;exact .inl ((O.8 q).2 ⟨hq,hm⟩)
open RowKit
def yi(f:Func):Code:=match f.9 with
 |some (.seq _ r)=>r|_=>.skip
def opsOf(f:Func):Array Oper:=match f.9 with
 |some (.seq (.region _ o _) _)=>o|_=>#[]
def Oz(a)(v)(w)(h:C? w a=y? v):(rr 167 (p?<|y? a) >>= λv=>(pure (.value v):Sem Go.Next)).runT prog w #[]=(.ok (.value v) w,#[⟨.cell a,f?,f?⟩]):=by
 have B:∀w,(isAgg 167).runT prog w #[]=(.ok f? w,#[]):=by intro w;kernel_rfl
 have J:(rr 167 (p?<|y? a) >>= λv=>(pure (.value v):Sem Go.Next))=(isAgg 167 >>= λb=>((if b=t? then(do pure (.agg (<-loadCells a (<-sizeOf 167))))else load a) >>= λv=>(pure<|.value v))):=by show(loadVar _ a >>= _)=_;unfold loadVar;rw[bind_assoc]
 rw[J];show((isAgg _).bind _).runT .. = _;rw[Sem.runT_bind',B];show(load a >>= λv=>(pure _)).runT .. = _;have O:(load a >>= λv=>(pure (.value v):Sem Go.Next))=.load _ a _:=rfl;rw[O];simp only[Sem.runT,h];rfl
def ZaS:Dk prog 120 pp 6 167 (opsOf pp)<|yi pp:=
 ⟨k!,k!,d!,⟨_,_,_,_,q?⟩,Oz⟩
def Zbb:Dk prog 116 f116 4 167 (opsOf f116)<|yi f116:=
 ⟨k!,k!,d!,⟨_,_,_,_,q?⟩,Oz⟩
def ZaX:lD (λo=>KQ prog xw Gv f? o.2) (yi pp)=t?:=by kernel_rfl
def ZaY:lD (λo=>KQ prog xw Gv f? o.2) (yi f116)=t?:=by kernel_rfl
end
section
open RowKit
variable {f p i:Nat}{g:E?}{l:Wd}{o:List Nat}{C:Int}{I J:eE}
def Seen(l:E?)(p:Wd)(k:Nat)(B:Int):Prop:=
 (∀j(h:j<k)(J:j<l? l),ji (dF l[j]) p=t?->dF l[j]≠p/\B=(((dF l[j]).getD p.length 0).toNat:Int))/\
  (B = -1\/(0<=B/\∃j,j<k/\∃J:j<l? l,ji (dF l[j]) p=t?/\B=(((dF l[j]).getD p.length 0).toNat:Int)))
def Ro(l:E?)(p):Seen l p 0<|-1:=⟨λ_ h=>o!,.inl q?⟩
def VI(h:Seen g l f C)(hk)(hb:ji (dF g[f]) l=f?):Seen g l (f+1) C:=by
 refine⟨λj J O B=>?_,?_⟩;by_cases e:j=f;subst e;rw[hb]at B;cases B;exact h.1 j o! O B;obtain h|⟨U,j,J,h⟩:=h.2
 exact .inl h;exact .inr ⟨U,j,o!,h⟩
def Jv(h:Seen g l f C)(hk)(hb:ji (dF g[f]) l=t?)(J:dF g[f]≠l)(B:C = -1\/C=(((dF g[f]).getD l.length 0).toNat)) :
  Seen g l (f+1) (((dF g[f]).getD l.length 0).toNat):=by
 refine⟨λj V U O=>?_,.inr ⟨o!,f,o!,hk,hb,q?⟩⟩;by_cases e:j=f;subst e;exact⟨J,q?⟩;have:=h.1 j o! U O;refine⟨this.1,?_⟩;obtain B|B:=B
 omega;rw[<-B];exact this.2
def S4(l:E?):iP l []=t?:=by simp[iP]
def Ij(hk)(h:dF g[f]=l):iP g l=t?:=by unfold iP;simp only[Z7,C!,beq_iff_eq];exact .inl (.inr ⟨g[f],Zw hk,h⟩)
def Qx(h:Seen g l f C)(hk)(hb:ji (dF g[f]) l=t?)(V:0<=C)(B:(((dF g[f]).getD l.length 0).toNat)≠C):iP g l=t?:=by
 unfold iP;obtain h|⟨_,j,W,O,J,U⟩:=h.2
 omega;simp only[Z7,C!,IT,bne_iff_ne];refine .inr ⟨g[f],Zw hk,g[j],Zw O,⟨hb,J⟩,λe=>B ?_⟩;rw[e,U]
def Rs(V:l≠[])(h:Seen g l g.length C):iP g l=f?:=by
 rw[j?];intro hy;unfold iP at hy;simp only[Z7,C!,beq_iff_eq,IT,bne_iff_ne]at hy;rcases hy with(B|⟨e,O,B⟩)|⟨e,O,f,W,⟨Y,h2⟩,hd⟩
 simp at B;exact V B;obtain⟨j,J,rfl⟩:=ZF.1 O;exact(h.1 j J J<|(fy _ _).2 (by rw[B];exact List.prefix_refl _)).1 B;obtain⟨j,J,rfl⟩:=ZF.1 O;obtain⟨i,U,rfl⟩:=ZF.1 W;have a:=(h.1 j J J Y).2;have b:=(h.1 i U U h2).2;apply hd;apply H?.1;omega
def MD(v)(l:E?)(p:b?)(w)(hv:jB w 5 v l.length<|dG l)(ht:∀e∈l,l? e.3<=1073741824) :
  dn prog 203 #[v,s? p] w λe w'=>e=e? (.bool<|iP l p.1.1)/\B? w w':=by
 obtain⟨a,cap,rfl,hc,hm,_,_⟩:=id hv;have HV:=h! hv;have HT:=h! ht;clear hv ht;unfold dq at hm;by_cases U:p.1.1=[]
 .have ag:p.toList.isEmpty=t?:=by rw[X!,U];rfl
  have HN:J?<|iP l p.1.1=t?:=h!<|by rw[U];exact S4 l
  clear U;go_enter func203,ntmps203;go_wp2;go_ret;exact⟨dW HN.symm,l4 _ _⟩
 have ag:p.toList.isEmpty=f?:=by
  rw[X!]
  cases h:p.1.1 with
  |nil=>exact absurd h U|cons a l=>rfl
 have am:J?<|p.1.1≠[]:=U;clear U;go_enter func203,ntmps203;go_wp2;go_loopw [5,6] (λx i wr=>∃(k:Nat)(nx:Int),k<=l? l/\i=n? i? k/\x=n? i? nx/\Seen l p.1.1 k nx/\-1<=nx/\nx<=255/\B? w wr) (λ_ i _=>l? l-(intOf i).toNat);exact⟨0,-1,ZP _,q?,q?,Ro _ _,o!,o!,l4 _ _⟩;obtain⟨k,nx,hk,rfl,rfl,V,an,ao,O⟩:=hrel;have W:=h! V;clear V;have HS:=O.4;by_cases J:k<l? l
 .obtain⟨b,off,rfl,c0,c1,c2,c3,c4⟩:=jo (HV.below O) k J
  have ah:(⟨l[k].3.toArray⟩:b?).size<=1099511627776:=by have:=HT.o _<|Zw J;show l[k].3.toArray.size<=_;simp;omega
  go_wp2_with fail;apply (pZ _ _ ah).mono;rintro e w1 ⟨rfl,ai⟩;obtain⟨B,af⟩:∃B:b?,B=⟨(dF l[k]).toArray⟩:=⟨_,q?⟩;have ae:(⟨(dP (⟨l[k].3.toArray⟩:b?).1.1).toArray⟩:b?)=B:=by rw[af];rfl
  have HK:J?<|B.1.1=dF l[k]:=h!<|by rw[af]
  rw[ae];clear af ae ah;have Y:=O.trans<|ai.mono HS;clear c0 c1 c2 c3 c4 ai;go_wp2_with fail;apply g!<|sP B p w1
  cases aa:ji B.1.1 p.1.1 with
  |false=>
   have HB:J?<|ji (dF l[k]) p.1.1=f?:=h!<|by rwa[<-HK.o]
   clear aa;go_wp2;go_roundw
   .exact⟨k+1,nx,o!,by go_num,q?,VI W J HB,an,ao,Y⟩
   exact M!
  |true=>
   have HB:J?<|ji (dF l[k]) p.1.1=t?:=h!<|by rwa[<-HK.o]
   by_cases ab:B.1.1=p.1.1
   .have ap:(B.toList==p.toList)=t?:=by rw[X!,X!,ab];simp
    have HN:J?<|iP l p.1.1=t?:=Ij J (by rwa[<-HK.o]);clear aa ab;go_wp2;go_ret;exact⟨dW HN.symm,Y⟩
   have ap:(B.toList==p.toList)=f?:=by rwa[X!,X!,beq_eq_false_iff_ne]
   have aq:p.size<B.size:=by have:=oz ((fy _ _).1 aa) ab;simpa using this
   have aj:(dF l[k]).getD p.1.1.length 0=B[p.size]:=by rw[<-HK.o];have:=ir B _ aq;simpa using this
   have ac:J?<|(((dF l[k]).getD p.1.1.length 0).toNat:Int)=(B[p.size].toNat:Int):=h!<|by rw[aj]
   have ak:J?<|dF l[k]≠p.1.1:=h!<|by rwa[<-HK.o]
   have au:=B[p.size].toNat_lt;clear aa ab aj;by_cases av:nx<0
   .go_wp2;go_roundw
    .exact⟨k+1,(B[p.size].toNat:Int),o!,by go_num,q?,by rw[<-ac.o];exact Jv W J HB ak<|.inl o!,o!,o!,Y⟩
    exact M!
   by_cases ad:(B[p.size].toNat:Int)=nx
   .have al:((B[p.size].toNat:Int)==nx)=t?:=by rw[ad];simp
    have ar:=h! ad.symm;clear ad;go_wp2;go_roundw
    .exact⟨k+1,(B[p.size].toNat:Int),o!,by go_num,q?,by rw[<-ac.o];exact Jv W J HB ak<|.inr (by rw[ac.o];exact ar),o!,o!,Y⟩
    exact M!
   have al:((B[p.size].toNat:Int)==nx)=f?:=by rwa[beq_eq_false_iff_ne]
   have HN:=h! (Qx W J HB o!<|by rwa[ac.o]);clear ad;go_wp2;go_ret;exact⟨dW HN.symm,Y⟩
 have ek:k=l? l:=o!;subst ek;have HN:=h!<|Rs am W;go_wp2;go_ret;exact⟨dW HN.symm,O⟩
def ia(a:Wd)(c:UInt8)(row:List Nat)(z:Nat):Nat->List Nat
 |0=>[z]
 |i+1=>ia a c row z i++[min (min (row.getD i 0+(if a.getD i 0=c then 0 else 1))<|row.getD (i+1) 0+1)<|(ia a c row z i).getD i 0+1]
def jy(a s:Wd):Nat->List Nat
 |0=>b6<|l? a+1|k+1=>ia a (s.getD k 0) (jy a s k) (k+1) a.length
def pH(a s:Wd)(k:Nat):Nat:=(jy a s k).getD a.length 0
def kq(a)(c)(row)(z):∀i,(ia a c row z i).length=i+1:=by
 intro i;induction i with
 |zero=>rfl|succ i B=>rw[ia,Zh,B];rfl
def rU(a s)(k):(jy a s k).length=l? a+1:=by
 cases k with
 |zero=>simp[jy]|succ k=>rw[jy,kq]
def L7(a s)(n):∀k,k<=n->jy a (s.take n) k=jy a s k:=by
 intro k;induction k with
 |zero=>intro _;rfl|succ k B=>intro h;rw[jy,jy,B o!];rw[AS,AS,Zi,if_pos o!]
def sC(a)(c)(row)(z m)(V:z<=m)(O:∀x∈row,x+1<=m):∀i,i<l? row->∀x∈ia a c row z i,x<=m:=by
 intro i;induction i with
 |zero=>intro _ x B;simp[ia]at B;omega|succ i U=>
  intro J x B;obtain h|h:=Z3.1 B
  exact U o! x h;simp only[Zm,q!,or_false]at h;have W:=O (row.getD _ 0) (by rw[AS,BY J];exact Zw J);omega
def Ai(a s):∀k,∀x∈jy a s k,x<=l? a+k:=by
 intro k;induction k with
 |zero=>intro x B;simp[jy]at B;omega|succ k J=>intro x B;exact sC a _ _ _ _ o! (λy O=>by have:=J y O;omega) _ (by rw[rU];omega) x B
def iz(mode:Nat)(q s:Wd):Bool:=
 if mode=0 then ji s q
 else if mode=1 then(b6 s.length).any λi=>fp s i&&ji (s.drop i) q
 else(b6<|l? s+1).any λk=>decide<|pH q s k<mode
def Jt{a c}(h:p=min (min (o.getD i 0+(if a.getD i 0=c then 0 else 1))<|o.getD (i+1) 0+1) ((ia a c o f i).getD i 0+1)):dZ (ia a c o f<|i+1)=dZ (ia a c o f i)++[n? i? p]:=by rw[ia,pn,h]
def uo{x y:UInt8}:(x.toNat==(y.toNat:Int))=decide (x=y):=by rw[Z8,beq_iff_eq,decide_eq_true_eq];constructor;intro h;exact H?.1 o!;intro h;rw[h]
def row_one{w:w?}:R? (w.alloc<|c? #[n? i? C] 3) w.1.size 3 1 (.slice (y? ⟨w.1.size,0,x?⟩) 1 1) 1 [n? i? C]:=
 World.ownsRow_lit (base:=w.1.size) (size:=1) (e:=3) w _ 1 (Zu _) (by unfold dq;omega) rfl
def FV(a b:b?)(w)(ha:a.size<=1048576)(hb:b.size<=1048576) :
  dn prog 208 #[s? a,s? b] w λe w'=>e=e? (n? i?<|pH a.1.1 b.1.1 b.size)/\B? w w':=by
 obtain⟨i3,aq,ar,au,av⟩:=Zz NS;have aw:l? a.1.1=a.size:=i!;have W:=h! aw;clear aw;go_enter func208,ntmps208;go_wp2;go_loopw [5,6] (λv i wr=>∃k:Nat,k<=a.size+1/\i=n? i? k/\R? wr w.1.size 3 1 v k (dZ (b6 k))/\B? w wr) (λ_ i _=>a.size+1-(intOf i).toNat);exact⟨0,ZP _,q?,Z9 _ _ _ _,l4 _ _⟩;obtain⟨k,hk,rfl,J,B⟩:=hrel;have HS:=B.4;by_cases ah:k<=a.size
 .have ax:(k:Int)<=(a.size:Int):=o!;go_wp2_with (at_builtin;go_must (refine dU _ q? _ _ 26 q? _ 3 i3 _ 8 ol aq ar au av q? _ _ _ q? (J.alloc _) _ [n? i? k] q? ?c0 ?c00 ?c1 ?c2 ?c3 ?_))
  case c0=>go_light;exact Rd.one<|jn q?
  case c00=>intro u hu;simp at hu;subst hu;rfl
  case c1=>simp;omega
  case c2=>simp[dq];omega
  case c3=>simp;omega
  intro v' w1 ai aa _;have aj:=h!<|(B.alloc HS _).grown aa j!<|λb hb=>(J.lt b hb).1
  have ak:J?<|R? w1 w.1.size 3 1 v' (k+1)<|dZ<|b6<|k+1:=by show ld _ _ _ _ _ _ _;rwa[D!,pn]
  clear ai aa;go_wp2;go_roundw
  .exact⟨k+1,o!,by go_num,ak,aj⟩
  exact M!
 have al:k=a.size+1:=o!;subst al;obtain⟨aR,cR,rfl,aL⟩:=dC J
 have HO:J?<|R? wr w.1.size 3 1 (.slice aR (a.size+1) cR) (a.size+1)<|dZ<|jy a.1.1 b.1.1 0:=by show ld _ _ _ _ _ _ _;rwa[jy,W]
 have ay:=h! B;have aM:¬((a.size:Int)+1<=(a.size:Int)):=o!;clear J B hk ah HS;go_wp2;go_loopw [5,7] (λv kv wx=>∃k:Nat,k<=b.size/\kv=n? i? k/\R? wx w.1.size 3 1 v (a.size+1) (dZ (jy a.1.1 b.1.1 k))/\B? w wx) (λ_ i _=>b.size-(intOf i).toNat);exact⟨0,ZP _,q?,HO,ay⟩;obtain⟨k,hk,rfl,J,B⟩:=hrel;obtain⟨aQ,cQ,rfl,aO⟩:=dC J;have HS:=B.4;by_cases ah:k<b.size
 .have ax:(k:Int)<(b.size:Int):=o!;obtain⟨row,U⟩:∃row,row=jy a.1.1 b.1.1 k:=⟨_,q?⟩;have az:l? row=a.size+1:=by rw[U,rU,W.o]
  have a0:∀x∈row,x<=2097152:=λx hx=>by rw[U]at hx;have:=Ai _ _ _ x hx;rw[W.o]at this;omega
  rw[<-U]at J;have ae:=h! U;have a3:=h!<|Rd.eo J;have am:=h! a0;have ab:=h! az;have a4:=h! B;clear U J B a0 az HO ay;generalize wr=wo at *;go_wp2;go_loopw [8,9] (λv iv wy=>∃i:Nat,i<=a.size/\iv=n? i? i/\R? wy wo.1.size 3 1 v (i+1) (dZ (ia a.1.1 b[k] row (k+1) i))/\B? wo wy) (λ_ i _=>a.size-(intOf i).toNat);exact⟨0,ZP _,q?,row_one,(l4 _ _).alloc (Zu _) _⟩;obtain⟨i,hi,rfl,J,B⟩:=hrel;obtain⟨aN,cN,rfl,aP⟩:=dC J;have an:=h! J;have a5:=h! B;have aS:=B.4;by_cases a6:i<a.size
  .have aH:(i:Int)<(a.size:Int):=o!;obtain⟨r0,ac⟩:∃r0,r0=row.getD i 0:=⟨_,q?⟩;obtain⟨V,ad⟩:∃V,V=row.getD (i+1) 0:=⟨_,q?⟩;obtain⟨x,hx⟩:∃x,x=(ia a.1.1 b[k] row (k+1) i).getD i 0:=⟨_,q?⟩;have aI:r0<=2097152:=by rw[ac,AS,BY (by rw[ab.o];omega)];exact am _<|Zw _
   have aJ:V<=2097152:=by rw[ad,AS,BY (by rw[ab.o];omega)];exact am _<|Zw _
   have aT:x<=4194304:=by rw[hx,AS,BY (by rw[kq];omega)];exact sC _ _ row _ _ o! (λy hy=>by have:=am.o y hy;omega) i (by rw[ab.o];omega) _<|Zw _
   let ⟨aU,aV,he,_,_,hq⟩:=a3.o;simp only[Value.slice.injEq]at he;obtain⟨rfl,a7,rfl⟩:=he;clear a7;obtain⟨bQ,oQ,rfl,q0⟩:=hq i _<|fJ row i (by rw[ab.o];omega);let ⟨aW,aX,a1,q1⟩:=hq _ _<|fJ row (i+1) (by rw[ab.o];omega);simp only[m?,O!]at a1;obtain⟨rfl,rfl,_⟩:=a1;obtain⟨bN,oN,rfl,q2⟩:=eM J i _<|fJ _ i (by rw[kq];omega);have p0:=Z0 B q0;have p1:=Z0 B q1;rw[<-ac]at p0;rw[<-ad]at p1;rw[<-hx]at q2;have a8:=h! ac.symm;have a9:=h! ad.symm;have a':=h! hx.symm;have aY:IntKind.i64.wrap _=i+1:=xR _ _ q? o! o!;have aA:=h!<|ir a i a6;have aK:(i:Int)+1<(a.size:Int)+1:=o!;clear hq q0 q1 ac ad hx J B ae
   obtain⟨Y,HM,aB⟩:∃Y:Nat,J? (Y=min (min (r0+(if a.1.1.getD i 0=b[k]then 0 else 1))<|V+1) (x+1))/\
     (((a[i].toNat==(b[k].toNat:Int))=t?/\(((V:Int)+1<r0/\((x:Int)+1<V+1/\Y=(x:Int)+1\/¬(x:Int)+1<(V:Int)+1/\(Y:Int)=(V:Int)+1))\/(¬(V:Int)+1<r0/\((x:Int)+1<r0/\(Y:Int)=(x:Int)+1\/¬(x:Int)+1<r0/\(Y:Int)=r0))))\/
     ((a[i].toNat==(b[k].toNat:Int))=f?/\(((V:Int)+1<r0+1/\((x:Int)+1<(V:Int)+1/\(Y:Int)=(x:Int)+1\/¬(x:Int)+1<(V:Int)+1/\(Y:Int)=(V:Int)+1))\/(¬(V:Int)+1<(r0:Int)+1/\((x:Int)+1<(r0:Int)+1/\(Y:Int)=(x:Int)+1\/¬(x:Int)+1<(r0:Int)+1/\(Y:Int)=r0+1))))):=by
    refine⟨_,q?,?_⟩;rw[aA.o,uo];by_cases hc:a[i]=b[k];rw[if_pos hc,decide_eq_true hc];refine .inl ⟨q?,?_⟩;omega;rw[if_neg hc,decide_eq_false hc];refine .inr ⟨q?,?_⟩;omega
   have HM:J?<|dZ _=dZ (ia a.1.1 b[k] row (k+1) i)++[n? i? (Y:Int)]:=Jt (by rw[a8.o,a9.o,a'.o];exact HM);obtain⟨aC,⟨h2,⟨h3,O⟩|⟨h3,O⟩⟩|⟨h2,⟨h3,O⟩|⟨h3,O⟩⟩⟩|⟨aC,⟨h2,⟨h3,O⟩|⟨h3,O⟩⟩|⟨h2,⟨h3,O⟩|⟨h3,O⟩⟩⟩:=aB
   all_goals
    have aD:=h! O;clear O;go_wp2;go_quiet (fail);have af:J?<|R? (wr.drewN nq) _ 3 1 _ _ _:=an.o;have ag:=h!<|j5 a5 nq;go_wp2_with (at_builtin;go_must (refine dU _ q? _ _ 26 q? _ 3 i3 _ 8 ol aq ar au av q? _ _ _ q? (af.alloc _) _ [n? i? Y] q? ?c0 ?c00 ?c1 ?c2 ?c3 ?_))
    case c0=>go_light;rw[aD.o];exact Rd.one<|jn q?
    case c00=>intro u hu;simp at hu;subst hu;rfl
    case c1=>simp;omega
    case c2=>simp[dq];omega
    case c3=>simp;omega
    intro v' w1 ai aa _;have aj:=h!<|(ag.alloc ag.4 _).grown aa j!<|λb hb=>(af.lt b hb).1
    have ak:J?<|R? w1 wo.1.size 3 1 v' (i+1+1)<|dZ<|ia a.1.1 b[k] row (k+1)<|i+1:=by show ld _ _ _ _ _ _ _;rwa[HM.o]
    clear ai aa;go_wp2;go_roundw
    .exact⟨i+1,o!,by go_num,ak,aj⟩
    exact M!
  have aE:i=a.size:=o!;subst aE
  have a2:J?<|R? wr w.1.size 3 1 (.slice aN (a.size+1) cN) (a.size+1)<|dZ<|jy a.1.1 b.1.1<|k+1:=by
   show ld _ _ _ _ _ _ _
   have e:jy a.1.1 b.1.1 (k+1)=ia a.1.1 b[k] row (k+1) a.size:=by rw[jy,W.o,ae.o,ir b k ah]
   rw[e];exact eH an HS
  have ao:=h!<|a4.trans<|B.mono HS;clear J B an;go_wp2;go_roundw
  .exact⟨k+1,o!,by go_num,a2,ao⟩
  exact M!
 have al:k=b.size:=o!;subst al;obtain⟨bQ,oQ,rfl,q0⟩:=eM J _ _<|fJ _ a.size (by rw[rU,W.o];omega);have aF:J?<|(jy a.1.1 b.1.1 b.size).getD a.size 0=pH a.1.1 b.1.1 b.size:=h!<|by unfold pH;rw[W.o]
 have aZ:(a.size:Int)<(a.size:Int)+1:=o!;have ao:=h! B;rw[aF.o]at q0;obtain⟨dd,ap⟩:∃dd,dd=pH a.1.1 b.1.1 b.size:=⟨_,q?⟩;rw[<-ap]at q0;have aG:=h! ap;clear ap;clear J B;go_wp2;go_ret;exact⟨dQ<|by rw[aG.o],ao⟩
def P7(q s)(k):pH q (s.take k) k=pH q s k:=by unfold pH;rw[L7 q s k k<|Zu _]
def Ix(s:b?)(n):(s.extract n s.size).1.1=s.1.1.drop n:=by simp;rw[If i!]
def any_none{p:Nat->Bool}(h:∀i,i<f->p i=f?):(b6 f).any p=f?:=by rw[List.any_eq_false];intro x B;rw[h x<|G!.1 B];simp
def any_some{p}(i)(B:i<f)(h:p i=t?):(b6 f).any p=t?:=
 C!.2 ⟨i,G!.2 B,h⟩
def SS(m:Nat)(query text:b?)(w)(hm:m<=3)(hq:query.size<=1048576)(ht:text.size<=1048576) :
  dn prog 152 #[n? i? m,s? query,s? text] w λe w'=>e=e? (.bool<|iz m (dP query.1.1)<|dP text.1.1)/\B? w w':=by
 obtain⟨U,ad⟩:∃U:b?,U=⟨(dP query.1.1).toArray⟩:=⟨_,q?⟩;obtain⟨B,ae⟩:∃B:b?,B=⟨(dP text.1.1).toArray⟩:=⟨_,q?⟩;have HQ:J?<|U.1.1=dP query.1.1:=h!<|by rw[ad]
 have aq:J?<|B.1.1=dP text.1.1:=h!<|by rw[ae]
 have ar:U.size<=1048576:=by rw[ad];show(dP query.1.1).toArray.size<=_;rw[bZ,eB];simp;omega
 have ay:B.size<=1048576:=by rw[ae];show(dP text.1.1).toArray.size<=_;rw[bZ,eB];simp;omega
 have af:J? (∀y:w?,dn _ 200 _ y λe w'=>e=e? (s? U)/\Below _ y w'):=λy=>by rw[ad];exact pZ query y o!
 have ag:J? (∀y:w?,dn _ 200 _ y λe w'=>e=e? (s? B)/\Below _ y w'):=λy=>by rw[ae];exact pZ text y o!
 have HR:J?<|iz m (dP query.1.1) (dP text.1.1)=iz m U.1.1 B.1.1:=h!<|by rw[HQ.o,aq.o]
 clear ad ae hq ht;by_cases h0:m=0
 .subst h0;have HF:J?<|iz 0 U.1.1 _=ji B.1.1 _:=rfl;go_enter pc,oS;go_wp2_with fail;apply (af _).mono;rintro e w1 ⟨rfl,J⟩;go_wp2_with fail;apply (ag _).mono;rintro e w2 ⟨rfl,O⟩;have aa:=h!<|J.trans<|O.mono J.4;clear J O;go_wp2_with fail;apply g!<|sP B U _;go_wp2;go_ret;exact⟨dW<|by rw[HR.o,HF.o],aa⟩
 by_cases h1:m=1
 .subst h1
  have HF:J?<|iz 1 U.1.1 B.1.1=(b6 B.size).any λi=>fp B.1.1 i&&ji (B.1.1.drop i) U.1.1:=by show _=_;unfold iz;simp
  clear h0;go_enter pc,oS;go_wp2_with fail;apply (af _).mono;rintro e w1 ⟨rfl,J⟩;go_wp2_with fail;apply (ag _).mono;rintro e w2 ⟨rfl,O⟩;have aa:=h!<|J.trans<|O.mono J.4;clear J O;go_wp2;go_loopw [9] (λiv wr=>∃i:Nat,i<=B.size/\iv=n? i? i/\(∀j,j<i->(fp B.1.1 j&&ji (B.1.1.drop j) U.1.1)=f?)/\B? w wr) (λi _=>B.size-(intOf i).toNat);exact⟨0,ZP _,q?,λj hj=>o!,aa⟩;obtain⟨i,hi,rfl,ab,V⟩:=hrel;have Y:=h! ab;have W:=h! V;clear ab V;by_cases ah:i<B.size
  .have am:(i:Int)<(B.size:Int):=o!;have ax:(i:Int)<=(B.size:Int):=o!;obtain⟨b1,J⟩:∃b1,b1=fp B.1.1 i:=⟨_,q?⟩;obtain⟨b2,O⟩:∃b2,b2=ji (B.1.1.drop i) U.1.1:=⟨_,q?⟩;have ai:=wB B i wr o! ah;have aj:=sP (B.extract i B.size) U wr;rw[<-J]at ai;rw[Ix,<-O]at aj;have an:=h! J;have ac:=h! O;clear J O;go_wp2_with fail;apply g! ai;clear ai;go_wp2_with fail;apply g! aj;clear aj
   cases b1 with
   |false=>
    go_wp2;go_roundw
    case rel=>exact⟨i+1,o!,by go_num,λj hj=>by
     obtain h|h:=H! j i
     exact Y j h;have e:j=i:=o!
     subst e;rw[<-an.o];rfl,W⟩
    exact M!
   |true=>
    cases b2 with
    |false=>
     go_wp2;go_roundw
     case rel=>exact⟨i+1,o!,by go_num,λj hj=>by
      obtain h|h:=H! j i
      exact Y j h;have e:j=i:=o!
      subst e;rw[<-ac.o];simp,W⟩
     exact M!
    |true=>
     have HY:J?<|iz 1 U.1.1 B.1.1=t?:=by show _=_;rw[HF.o];exact any_some i ah (by rw[<-an.o,<-ac.o];rfl)
     go_wp2;go_ret;exact⟨dW<|by rw[HR.o,HY.o],W⟩
  have au:i=B.size:=o!;subst au
  have HY:J?<|iz 1 U.1.1 B.1.1=f?:=by show _=_;rw[HF.o];exact any_none Y
  go_wp2;go_ret;exact⟨dW<|by rw[HR.o,HY.o],W⟩
 have az:((m:Int)==0)=f?:=by rw[beq_eq_false_iff_ne];omega
 have a0:((m:Int)==1)=f?:=by rw[beq_eq_false_iff_ne];omega
 have HF:J?<|iz m U.1.1 B.1.1=(b6<|B.size+1).any λk=>decide<|pH U.1.1 B.1.1 k<m:=by show _=_;unfold iz;rw[if_neg h0,if_neg h1];simp
 clear h0 h1;go_enter pc,oS;go_wp2_with fail;apply (af _).mono;rintro e w1 ⟨rfl,J⟩;go_wp2_with fail;apply (ag _).mono;rintro e w2 ⟨rfl,O⟩;have aa:=h!<|J.trans<|O.mono J.4;clear J O;go_wp2;go_loopw [12] (λiv wr=>∃k:Nat,k<=B.size+1/\iv=n? i? k/\(∀j,j<k->¬pH U.1.1 B.1.1 j<m)/\B? w wr) (λi _=>B.size+1-(intOf i).toNat);exact⟨0,ZP _,q?,λj hj=>o!,aa⟩;obtain⟨k,hk,rfl,ab,V⟩:=hrel;have Y:=h! ab;have W:=h! V;have HS:=V.4;clear ab V;by_cases ah:k<=B.size
 .have am:(k:Int)<=(B.size:Int):=o!;obtain⟨dd,ak⟩:∃dd,dd=pH U.1.1 B.1.1 k:=⟨_,q?⟩;have al:=FV U (B.extract 0 k) wr ar j!;have e1:(B.extract 0 k).1.1=B.1.1.take k:=by rw[xT]
  have e2:(B.extract 0 k).size=k:=j!;rw[e1,e2,P7,<-ak]at al;have ao:=h! ak;clear ak e1 e2;go_wp2_with fail;apply al.mono;rintro e w3 ⟨rfl,ap⟩;have ac:=h!<|W.trans<|ap.mono HS;clear al ap;by_cases hd:dd<m
  .have av:(dd:Int)<(m:Int):=o!
   have HY:J?<|iz m U.1.1 B.1.1=t?:=by show _=_;rw[HF.o];exact any_some k o! (by rw[<-ao.o];simpa using hd)
   go_wp2;go_ret;exact⟨dW<|by rw[HR.o,HY.o],ac⟩
  have av:¬((dd:Int)<(m:Int)):=o!;go_wp2;go_roundw
  case rel=>exact⟨k+1,o!,by go_num,λj hj=>by
   obtain h|h:=H! j k
   exact Y j h;have e:j=k:=o!
   subst e;rwa[<-ao.o],ac⟩
  exact M!
 have aw:k=B.size+1:=o!;subst aw;have a1:¬((B.size:Int)+1<=(B.size:Int)):=o!
 have HY:J?<|iz m U.1.1 B.1.1=f?:=by show _=_;rw[HF.o];exact any_none (λi hi=>by simpa using Y.o i hi)
 go_wp2;go_ret;exact⟨dW<|by rw[HR.o,HY.o],W⟩
def fw(x y:eE):Bool:=if x.4=y.4 then(if dF x=dF y then si x.1 y.1 else si (dF x) (dF y))else decide (y.4<x.4)
def vN(e:eE):v?:=.agg #[s? ⟨a? e.1⟩,.bool e.2,s? ⟨a? e.3⟩,n? i? e.4,n? i? e.5]
def RO(x y)(w)(hx:l? x.3<=1048576)(hy:l? y.3<=1048576) :
  dn prog 153 #[vN x,vN y] w λe w'=>e=e? (.bool<|fw x y)/\B? w w':=by
 obtain⟨n1,O,t1,w1,U⟩:=x;obtain⟨n2,V,t2,w2,W⟩:=y;unfold vN;simp only at hx hy⊢;have hB:Below _ w<|(w.alloc<|c? #[s? ⟨a? n1⟩,.bool O,s? ⟨a? t1⟩,n? i? w1,n? i? U] 202).alloc<|c? #[s? ⟨a? n2⟩,.bool V,s? ⟨a? t2⟩,n? i? w2,n? i? W] 202:=((l4 _ _).alloc (Zu _) _).alloc i! _;by_cases hw:w1=w2
 .subst hw;obtain⟨k1,aa⟩:∃k1:b?,k1=⟨(dP t1).toArray⟩:=⟨_,q?⟩;obtain⟨Y,ab⟩:∃Y:b?,Y=⟨(dP t2).toArray⟩:=⟨_,q?⟩;have ag:J? (∀y:w?,dn _ 200 _ y λe w'=>e=e? (s? k1)/\Below _ y w'):=λy=>by rw[aa];exact pZ _ y (by show t1.toArray.size<=_;simp;omega)
  have ah:J? (∀y:w?,dn _ 200 _ y λe w'=>e=e? (s? Y)/\Below _ y w'):=λy=>by rw[ab];exact pZ _ y (by show t2.toArray.size<=_;simp;omega)
  have ac:J?<|k1.1.1=dP t1:=h!<|by rw[aa]
  have ad:J?<|Y.1.1=dP t2:=h!<|by rw[ab]
  clear aa ab;have ak:(w1==w1)=t?:=i!
  have d1:C? ((w.alloc<|c? #[s? ⟨a? n1⟩,.bool O,s? ⟨a? t1⟩,n? i? w1,n? i? U] 202).alloc<|c? #[s? ⟨a? n2⟩,.bool V,s? ⟨a? t2⟩,n? i? w1,n? i? W] 202) ⟨w.1.size,0,x?⟩=y? (s? ⟨a? n1⟩):=by rw[lk _ _ _ i!,Zl _ _ _ _ rfl];rfl
  have d2:C? ((w.alloc<|c? #[s? ⟨a? n1⟩,.bool O,s? ⟨a? t1⟩,n? i? w1,n? i? U] 202).alloc<|c? #[s? ⟨a? n2⟩,.bool V,s? ⟨a? t2⟩,n? i? w1,n? i? W] 202) ⟨w.1.size+1,0,x?⟩=y? (s? ⟨a? n2⟩):=by rw[Zl _ _ _ _ i!];rfl
  have d3:C? ((w.alloc<|c? #[s? ⟨a? n1⟩,.bool O,s? ⟨a? t1⟩,n? i? w1,n? i? U] 202).alloc<|c? #[s? ⟨a? n2⟩,.bool V,s? ⟨a? t2⟩,n? i? w1,n? i? W] 202) ⟨w.1.size+1,2,x?⟩=y? (s? ⟨a? t2⟩):=by rw[Zl _ _ _ _ i!];rfl
  go_enter func153,ntmps153;go_wp2_with fail;generalize ((w.alloc<|c? #[s? ⟨a? n1⟩,.bool O,s? ⟨a? t1⟩,n? i? w1,n? i? U] 202).alloc<|c? #[s? ⟨a? n2⟩,.bool V,s? ⟨a? t2⟩,n? i? w1,n? i? W] 202)=w0 at *;apply (ag _).mono;rintro e u1 ⟨rfl,B⟩;have e1:=Z0 B d1;have e2:=Z0 B d2;have e3:=Z0 B d3;have ae:=h!<|hB.trans<|B.mono hB.4;clear d1 d2 d3 B hB;go_wp2_with fail;apply (ah _).mono;rintro e u2 ⟨rfl,J⟩;have f1:=Z0 J e1;have f2:=Z0 J e2;have af:=h!<|ae.trans<|J.mono ae.4;clear e1 e2 e3 J;by_cases hk:k1.1.1=Y.1.1
  .have ai:(k1.toList==Y.toList)=t?:=by rw[X!,X!,hk];simp
   have HA:J?<|fw ⟨n1,O,t1,w1,U⟩ ⟨n2,V,t2,w1,W⟩=si n1 n2:=by show _=_;unfold fw dF;rw[if_pos q?,if_pos<|by rwa[<-ac.o,<-ad.o]]
   clear hk;go_wp2;go_ret;exact⟨dW<|by rw[HA.o],af⟩
  have ai:(k1.toList==Y.toList)=f?:=by rwa[X!,X!,beq_eq_false_iff_ne]
  have HA:J?<|fw ⟨n1,O,t1,w1,U⟩ ⟨n2,V,t2,w1,W⟩=si k1.1.1 Y.1.1:=by show _=_;unfold fw dF;rw[if_pos q?,if_neg<|by rwa[<-ac.o,<-ad.o],<-ac.o,<-ad.o]
  clear hk;go_wp2;go_ret;exact⟨dW (by rw[HA.o];first|rfl|simp[X!]),af⟩
 have al:(w1==w2)=f?:=by rwa[beq_eq_false_iff_ne]
 have HA:J?<|fw ⟨n1,O,t1,w1,U⟩ ⟨n2,V,t2,w2,W⟩=decide (w2<w1):=by show _=_;unfold fw;rw[if_neg hw]
 have aj:=h! hB;clear hw hB;go_enter func153,ntmps153;go_wp2;go_ret;exact⟨dW<|by rw[HA.o],aj⟩
def oE(n:Nat):Wd:=if h:n<=9 then [48+rf n]else oE (n / 10)++[48+rf (n % 10)]
termination_by n
decreasing_by omega
def BW(h:f<=9):oE f=[48+rf f]:=by rw[oE,dif_pos h]
def yL(h:¬f<=9):oE f=oE (f / 10)++[48+rf (f % 10)]:=by rw[oE,dif_neg h]
def TJ(d)(h:d<=9):(⟨#[48,49,50,51,52,53,54,55,56,57]⟩:b?).extract d (d+1)=⟨#[48+rf d]⟩:=by have B:d=0\/d=1\/d=2\/d=3\/d=4\/d=5\/d=6\/d=7\/d=8\/d=9:=o!;obtain rfl|rfl|rfl|rfl|rfl|rfl|rfl|rfl|rfl|rfl:=B<;>decide +kernel
def JG:∀(k n),n<10 ^ k->1<=k->(oE n).length<=k:=by
 intro k;induction k with
 |zero=>omega|succ k J=>
  intro n h _;by_cases B:n<=9;rw[BW B];simp;rw[yL B]
  have O:1<=k:=by
   obtain e|e:=ZJ k
   subst e;omega;exact e
  have:=J (n / 10) o! O;simp;omega
def Nd(N:Nat)(w)(hN:N<=16777215) :
  dn prog 154 #[n? i? N] w λe w'=>e=e? (s? ⟨(oE N).toArray⟩)/\w=w':=by
 go_enter func154,ntmps154;go_wp2;go_loopw [0,3] (λnv sv wr=>∃(n:Nat)(B:b?),n<=N/\nv=n? i? n/\sv=s? B/\oE N=oE n++B.1.1/\B.size+n<=16777216/\wr=w) (λn _ _=>(intOf n).toNat);exact⟨N,⟨#[]⟩,Zu _,q?,q?,i!,by show 0+N<=_;omega,q?⟩;obtain⟨n,B,hn,rfl,rfl,V,aa,rfl⟩:=hrel;have W:=h! V;clear V;by_cases O:n<=9
 .have U:¬((9:Int)<(n:Int)):=o!;have ab:=TJ n O;have ac:¬(9223372036854775807<1+B.size):=o!
  have J:J?<|⟨#[48+rf n]⟩++B=(⟨(oE N).toArray⟩:b?):=by show _=_;rw[W.o,BW O];apply ByteArray.ext;apply Array.toList_inj.1;simp[ByteArray.data_append]
  have Y:(n:Int)+1<=10:=o!;go_wp2;go_ret;exact⟨xv J,q?⟩
 have U:(9:Int)<(n:Int):=o!
 have J:J?<|oE N=oE (n / 10)++((⟨#[48,49,50,51,52,53,54,55,56,57]⟩:b?).extract (n % 10) (n % 10+1)++B).1.1/\((⟨#[48,49,50,51,52,53,54,55,56,57]⟩:b?).extract (n % 10) (n % 10+1)++B).size+n / 10<=16777216:=by rw[TJ _ o!];refine⟨?_,?_⟩;rw[W.o,yL O];simp[ByteArray.data_append];rw[ByteArray.size_append];show 1+B.size+n / 10<=_;omega
 go_wp2;exact⟨⟨n / 10,_,o!,i!,q?,J.1,J.2,t!⟩,by simp[intOf];omega⟩
def xB(x):fw x x=f?:=by unfold fw;rw[if_pos q?,if_pos q?,jl]
def qI{z}(O:fw I J=t?)(B:fw J z=t?):fw I z=t?:=by unfold fw at *;by_cases a:I.4=J.4;rw[if_pos a]at O;by_cases b:J.4=z.4;rw[if_pos b]at B;rw[if_pos<|a.trans b];by_cases c:dF I=dF J;rw[if_pos c]at O;by_cases d:dF J=dF z;rw[if_pos d]at B;rw[if_pos<|c.trans d];exact lQ _ _ _ O B;rw[if_neg d]at B;rwa[if_neg<|λe=>d<|c.symm.trans e,c];rw[if_neg c]at O;by_cases d:dF J=dF z;rwa[if_neg<|λe=>c<|e.trans d.symm,<-d];rw[if_neg d]at B;have U:=lQ _ _ _ O B;rwa[if_neg<|Fu U];rw[if_neg b]at B;rwa[if_neg<|λe=>b<|a.symm.trans e,a];rw[if_neg a,decide_eq_true_eq]at O;by_cases b:J.4=z.4;rw[if_neg<|λe=>a<|e.trans b.symm,decide_eq_true_eq];omega;rw[if_neg b,decide_eq_true_eq]at B;rw[if_neg o!,decide_eq_true_eq];omega
def Im(h:I.1≠J.1):fw I J=t?\/fw J I=t?:=by
 unfold fw;by_cases a:I.4=J.4;rw[if_pos a,if_pos a.symm];by_cases c:dF I=dF J;rw[if_pos c,if_pos c.symm];obtain B|B|B:=jz ..
 exact .inl B;exact absurd B h;exact .inr B;rw[if_neg c,if_neg<|λe=>c e.symm];obtain B|B|B:=jz ..
 exact .inl B;exact absurd B c;exact .inr B;rw[if_neg a,if_neg<|λe=>a e.symm,decide_eq_true_eq,decide_eq_true_eq];omega
def Ny(h:fw I J=t?):fw J I=f?:=by rw[j?];intro B;have:=qI h B;rw[xB]at this;cases this
def je:eE:=⟨[],f?,[],0,0⟩
def jY(l:E?)(ok:Nat->Bool):Nat->Option Nat
 |0=>x?|k+1=>match jY l ok k with
  |none=>if ok k=t? then y? k else x?|some b=>if ok k=t?/\fw (l.getD k je) (l.getD b je)=t? then y? k else y? b
def ib(l:E?)(ok:Nat->Bool):Nat->List Nat->List Nat
 |0,_=>[]
 |n+1,told=>match jY l (λi=>ok i && !told.contains i) l.length with
  |none=>[]
  |some b=>b::ib l ok n (told++[b])
def CW{ok}:∀k,jY g ok k=x?->∀i,i<k->ok i=f?:=by
 intro k;induction k with
 |zero=>omega|succ k J=>
  intro h i U;rw[jY]at h
  cases hb:jY g ok k with
  |none=>
   rw[hb]at h;simp only at h;split at h
   cases h;rename_i O;obtain B|B:=H! i k
   exact J hb i B;have e:i=k:=o!;subst e;simpa using O
  |some b=>rw[hb]at h;simp only at h;split at h<;>cases h
def wF{ok}(hn:(g.map eE.name).Nodup):∀k b,k<=l? g->jY g ok k=y? b->b<k/\ok b=t?/\∀i,i<k->ok i=t?->i≠b->fw (g.getD b je) (g.getD i je)=t?:=by
 have V:∀i j,i<l? g->j<l? g->i≠j->(g.getD i je).1≠(g.getD j je).1:=λi j O Y h e=>by rw[AS,AS,BY O,BY Y]at e;exact h<|(List.getElem_inj (h₀:=by simpa using O) (h₁:=by simpa using Y) hn).1<|u! e
 intro k;induction k with
 |zero=>intro b _ h;cases h
 |succ k ih=>
  intro b hk h;rw[jY]at h
  cases hb:jY g ok k with
  |none=>
   rw[hb]at h;simp only at h;split at h
   rename_i B;simp only[m?]at h;subst h;refine⟨o!,B,λi O J U=>?_⟩;have:=CW k hb i o!;rw[this]at J;cases J
   cases h
  |some c=>
   rw[hb]at h;simp only at h;obtain⟨c1,c2,c3⟩:=ih c o! hb;split at h
   rename_i B;simp only[m?]at h;subst h;refine⟨o!,B.1,λi O J U=>?_⟩;by_cases e:i=c;subst e;exact B.2;exact qI B.2<|c3 i o! J e
   rename_i B;simp only[m?]at h;subst h;refine⟨o!,c2,λi O J U=>?_⟩;obtain h3|h3:=H! i k
   exact c3 i h3 J U;have e:i=k:=o!;subst e;obtain W|W:=Im<|V i c o! o! U
   exact absurd ⟨J,W⟩ B;exact W
def qe(l:E?)(ok:Nat->Bool)(told:List Nat):List Nat:=(b6 l.length).filter λi=>ok i && !told.contains i
def K9{ok}:i∈qe g ok o↔i<l? g/\(ok i && !o.contains i)=t?:=by unfold qe;rw[Zb,G!]
def Rh{ok b}(hb:b∈qe g ok o):(qe g ok o).Perm (b::qe g ok (o++[b])):=by
 have J:(qe g ok o).Nodup:=List.Nodup.sublist List.filter_sublist List.nodup_range
 have e:qe g ok (o++[b])=(qe g ok o).erase b:=by rw[J.erase_eq_filter];unfold qe;rw[List.filter_filter];refine List.filter_congr λi _=>?_;rw[Z8];simp only[IT,Bool.not_eq_true',bne_iff_ne,List.contains_eq_mem,Z3,Zg,decide_eq_false_iff_not];constructor;rintro⟨O,B⟩;exact⟨λh=>B<|.inr h,O,λh=>B<|.inl h⟩;rintro⟨O,B,U⟩;exact⟨B,λh=>h.elim U O⟩
 rw[e];exact List.perm_cons_erase hb
def D8(l:E?)(hn:(l.map eE.name).Nodup)(ok):∀(n)(told)(S:E?),S.Pairwise (λx y=>fw x y=t?)->S.Perm ((qe l ok told).map λi=>l.getD i je)->(ib l ok n told).map (λi=>l.getD i je)=S.take n:=by
 intro n;induction n with
 |zero=>simp[ib]|succ n ih=>
  intro told S Y O;rw[ib]
  cases hb:jY l .. with
  |none=>
   have hc:qe l ok told=[]:=by unfold qe;rw[List.filter_eq_nil_iff];intro i U;rw[(CW _ hb) i<|G!.1 U];simp
   rw[hc]at O;have:=ra O;subst this;simp
  |some b=>
   obtain⟨b1,b2,b3⟩:=wF hn _ b (Zu _) hb;have B:=O.trans<|(Rh<|K9.2 ⟨b1,b2⟩).map<|λi=>l.getD i je
   cases S with
   |nil=>exact absurd B.symm.eq_nil i!|cons h V=>
    have hh:h=l.getD b je:=by
     refine ZX λJ=>?_
     have m1:l.getD b je∈V:=by
      have:l.getD b je∈h::V:=B.mem_iff.2 i!;obtain e|e:=Zm.1 this
      exact absurd e.symm J;exact e
     have m2:h∈(qe l ok told).map _:=O.mem_iff.1 i!;let ⟨i,U,e⟩:=Zv.1 m2;have On:=K9.1 U;have W:=b3 i On.1 On.2 (λe2=>J<|by rw[<-e,e2]);rw[e]at W;rw[Ny<|(ZS.1 Y).1 _ m1]at W;cases W
    subst hh;simp only[ZK,List.take_succ_cons];rw[ih _ V (ZS.1 Y).2<|(List.perm_cons _).1 B]
def zy(t e j:Nat):Bool:=(t / 2 ^ j % 2==0) || (e / 2 ^ j % 2==1)
def nB(t e:Nat):Bool:=e &&& t==t
def AA(n j):n.testBit j=(n / 2 ^ j % 2==1):=by rw[Nat.testBit_eq_decide_div_mod_eq];rfl
def RH(U:f<256):nB f p=(b6 8).all λj=>zy f p j:=by
 rw[Z8,Zy];unfold nB zy;rw[beq_iff_eq];constructor;intro h j _;have B:(p &&& f).testBit j=f.testBit j:=by rw[h]
 rw[ka,AA,AA]at B;have J:f / 2 ^ j % 2=0\/f / 2 ^ j % 2=1:=o!;obtain J|J:=J
 simp[J];rw[J]at B;simp only[beq_self_eq_true,Bool.and_true]at B;simp only[Z7];exact .inr B;intro h;apply Nat.eq_of_testBit_eq;intro j;rw[ka];obtain O|O:=H! j 8
 have B:=h j<|G!.2 O;rw[AA,AA];simp only[Z7,beq_iff_eq]at B;obtain B|B:=B
 simp[B];simp[B];rw[Nat.testBit_lt_two_pow<|AT U<|Nat.pow_le_pow_right (n:=2) o! O];simp
def jV(e:eE):Wd:=e.1++(32::(oE e.4.toNat++(32::e.3)))
def pT(mode dY:Nat)(q:Wd)(e:eE):Bool:=nB dY e.5.toNat&&iz mode (dP q) (dF e)
def kW(l:E?)(mode:Int)(q:Wd)(dY most:Int):W?×Nat:=
 if mode<0\/3<mode\/dY<0\/255<dY\/most<1\/20<most then([],3)
 else if eh q=t? then((ib l (λi=>pT mode.toNat dY.toNat q<|l.getD i je) most.toNat []).map<|λi=>jV<|l.getD i je,0)else([],2)
def FX{S:E?}(J:(g.map eE.name).Nodup){mode dY most:Int}(O:S.Pairwise<|λx y=>fw x y=t?)(W:S.Perm<|g.filter λe=>pT mode.toNat dY.toNat l e) :
  (ib g (λi=>pT mode.toNat dY.toNat l<|g.getD i je) most.toNat []).map (λi=>jV<|g.getD i je)=(S.take most.toNat).map jV:=by
 have U:(qe g (λi=>pT mode.toNat dY.toNat l<|g.getD i je) []).map (λi=>g.getD i je)=g.filter λe=>pT mode.toNat dY.toNat l e:=by
  unfold qe
  have B:(λi=>pT mode.toNat dY.toNat l (g.getD i je) && !([]).contains i)=(λe=>pT mode.toNat dY.toNat l e) ∘ λi=>g.getD i je:=by funext i;simp
  rw[B,<-List.filter_map];congr 1;apply cE;simp;intro i B V;simp[AS,V]
 have e:(λi=>jV _)=jV ∘ λi=>g.getD i je:=rfl;rw[e,<-List.map_map,D8 g J _ most.toNat [] S O<|by rwa[U]]
def Hu(s p:b?)(w) :
  dn prog 267 #[s? s,s? p] w λe w'=>e=e? (.bool<|ji s.1.1 p.1.1)/\w=w':=by
 by_cases h:p.size<=s.size
 .go_wp2;go_ret;rw[AF,X!,X!];simp[h]
 go_wp2;go_ret;rw[AF];simp[h]
def Dh(s p:b?)(w) :
  dn prog 240 #[s? s,s? p] w λe w'=>e=e? (.bool<|ji s.1.1 p.1.1)/\w=w':=by
 go_enter func240,ntmps240;go_wp2_with fail;apply g!<|Hu s p w;go_wp2;go_ret;exact⟨q?,q?⟩
def BA(s:b?)(k)(w)(hs:s.size<=1099511627776)(hk:k<s.size) :
  dn prog 268 #[s? s,n? i? k] w λe w'=>e=e? (.bool<|fp s.1.1 k)/\w=w':=by
 have Y:=ir s k hk;have ab:(k:Int)<(s.size:Int):=o!;obtain⟨U,B⟩:∃U,U=eS s[k]:=⟨_,q?⟩;have J:=pe s[k] w;rw[<-B]at J;by_cases h0:k=0
 .subst h0
  have V:J?<|fp s.1.1 0=U:=by show _=_;unfold fp;rw[Y,<-B];simp
  clear Y B;go_enter func268,ntmps268;go_wp2_with fail;apply g! J;clear J
  cases U with
  |false=>go_wp2;go_ret;exact⟨dW V.symm,q?⟩
  |true=>go_wp2;go_ret;exact⟨dW V.symm,q?⟩
 have ac:((k:Int)==0)=f?:=by rw[beq_eq_false_iff_ne];omega
 have aa:k-1<s.size:=o!;have e2:=ir s _ aa;obtain⟨b2,O⟩:∃b2,b2=eS s[k-1]:=⟨_,q?⟩;have W:=pe s[k-1] w;rw[<-O]at W
 have V:J?<|fp s.1.1 k=(U && !b2):=by show _=_;unfold fp;rw[Y,e2,<-B,<-O];simp[h0]
 have ad:(k:Int)-1=((k-1:Nat):Int):=o!;have ae:(k:Int)-1<(s.size:Int):=o!;have af:(0:Int)<=k-1:=o!;clear Y e2 B O;go_enter func268,ntmps268;go_wp2_with fail;apply g! J
 cases U with
 |false=>go_wp2;go_ret;exact⟨dW (by rw[V.o];rfl),q?⟩
 |true=>go_wp2_with fail;apply g! W;go_wp2;go_ret;exact⟨dW (by rw[V.o];rfl),q?⟩
def FL(J B:b?)(w)(hs:B.size<=1048576) :
  dn prog 241 #[s? J,s? B] w λe w'=>e=e? (.bool<|iz 1 J.1.1 B.1.1)/\w=w':=by
 have HF:J?<|iz 1 J.1.1 B.1.1=(b6 B.size).any λi=>fp B.1.1 i&&ji (B.1.1.drop i) J.1.1:=by show _=_;unfold iz;simp
 go_enter func241,ntmps241;go_wp2;go_loopw [8] (λiv wr=>∃i:Nat,i<=B.size/\iv=n? i? i/\(∀j,j<i->(fp B.1.1 j&&ji (B.1.1.drop j) J.1.1)=f?)/\w=wr) (λi _=>B.size-(intOf i).toNat);exact⟨0,ZP _,q?,λj hj=>o!,q?⟩;obtain⟨i,hi,rfl,aa,rfl⟩:=hrel;have O:=h! aa;clear aa;by_cases ab:i<B.size
 .have af:(i:Int)<(B.size:Int):=o!;have ag:(i:Int)<=(B.size:Int):=o!;obtain⟨b1,U⟩:∃b1,b1=fp B.1.1 i:=⟨_,q?⟩;obtain⟨b2,V⟩:∃b2,b2=ji (B.1.1.drop i) J.1.1:=⟨_,q?⟩;have W:=BA B i w o! ab;have Y:=Dh (B.extract i B.size) J w;rw[<-U]at W;rw[Ix,<-V]at Y;have ac:=h! U;have ad:=h! V;clear U V;go_wp2_with fail;apply g! W;clear W
  cases b1 with
  |false=>
   go_wp2;go_roundw
   case rel=>exact⟨i+1,o!,by go_num,λj hj=>by
    obtain h|h:=H! j i
    exact O j h;have e:j=i:=o!
    subst e;rw[<-ac.o];rfl,t!⟩
   exact M!
  |true=>
   go_wp2_with fail;apply g! Y;clear Y
   cases b2 with
   |false=>
    go_wp2;go_roundw
    case rel=>exact⟨i+1,o!,by go_num,λj hj=>by
     obtain h|h:=H! j i
     exact O j h;have e:j=i:=o!
     subst e;rw[<-ad.o];simp,t!⟩
    exact M!
   |true=>
    have HY:J?<|iz 1 J.1.1 B.1.1=t?:=by show _=_;rw[HF.o];exact any_some i ab (by rw[<-ac.o,<-ad.o];rfl)
    go_wp2;go_ret;exact⟨dW HY.symm,q?⟩
 have ae:i=B.size:=o!;subst ae
 have HY:J?<|iz 1 J.1.1 B.1.1=f?:=by exact any_none O
 go_wp2;go_ret;exact⟨dW HY.symm,q?⟩
def Ez(n):(ey #[Value.int i? 0] n).1=dZ (bV n 0):=by apply cE;simp[ey,dZ];simp[ey,dZ,Nat.mod_one]
def nd(n i:Nat):List Nat:=b6 i++bV (n-i) 0
def Lk(h:i<=f):(nd f i).length=f:=by simp[nd];omega
def Kc(h:i<f):(dZ<|nd f i).set i (n? i? i)=dZ (nd f<|i+1):=by
 have e:f-i=(f-(i+1))+1:=o!
 have B:nd f (i+1)=(nd f i).set i i:=by unfold nd;rw[e,bX,D!];simp
 rw[B];unfold dZ;rw[cG]
def NB(n):nd n n=b6 n:=by simp[nd]
def Az(B:b?)(w)(hq:B.size<=1048576) :
  dn prog 269 #[s? B] w λe w'=>∃g,e=e? (.slice (y? ⟨g,0,x?⟩) (B.size+1)<|B.size+1)/\R? w' w.1.size 3 1 (.slice (y? ⟨g,0,x?⟩) (B.size+1)<|B.size+1) (B.size+1) (dZ<|b6<|B.size+1)/\Below w.1.size w w':=by
 obtain⟨i3,ac,ad,ae,hy2⟩:=Zz NS;go_enter func269,ntmps269;go_wp2_with (at_make;go_must (refine gg _ q? _ _ 26 q? w.1.size 3 i3 _ 1 ol ac ad ae _ _ _ _ (B.size+1) q? q? q? q? ?m1 ?m2 ?m3 ?_))
 case m1=>rw[hy2];omega
 case m2=>unfold dq;omega
 case m3=>exact Zu _
 intro w5 af W;have ag:=h!<|(l4 _ _).grown W (Zu _) i!
 have ah:J?<|R? w5 w.1.size 3 1 (.slice (y? ⟨w.1.size,0,x?⟩) (B.size+1)<|B.size+1) (B.size+1)<|dZ<|nd (B.size+1) 0:=by
  show ld _ _ _ _ _ _ _;have e:(ey #[Value.int i? 0]<|B.size+1).1=dZ (nd (B.size+1) 0):=by rw[Ez];simp[nd]
  rwa[<-e]
 clear af W;generalize hg:w.1.size=g at *;have Y:=h! hg;clear hg;go_wp2;go_loopw [11] (λiv wr=>∃i:Nat,i<=B.size+1/\iv=n? i? i/\R? wr g 3 1 (.slice (y? ⟨g,0,x?⟩) (B.size+1) (B.size+1)) (B.size+1) (dZ<|nd (B.size+1) i)/\Below g w wr) (λi _=>B.size+1-(intOf i).toNat);exact⟨0,ZP _,q?,ah.o,ag.o⟩;obtain⟨i,hi,rfl,J,O⟩:=hrel;by_cases aa:i<B.size+1
 .have ak:(i:Int)<(B.size:Int)+1:=o!;let ⟨bt,ot,ab,ai⟩:=eM J i _ (fJ _ i<|by rwa[Lk hi]);simp only[m?,O!]at ab;obtain⟨rfl,rfl,_⟩:=ab;rw[ZD]at ai;have al:=mB J i
  have U:J?<|R? (wr.setCell ⟨g,i,x?⟩<|n? i? i) g 3 1 (.slice (y? ⟨g,0,x?⟩) (B.size+1)<|B.size+1) (B.size+1)<|dZ<|nd (B.size+1)<|i+1:=by show ld _ _ _ _ _ _ _;rw[<-Kc aa];exact rF J i _ aa
  have V:J?<|Below g w<|wr.setCell ⟨g,i,x?⟩<|n? i? i:=by exact mp O (Zu _) _
  clear J O;go_wp2;go_roundw
  .exact⟨i+1,o!,by go_num,U.o,V.o⟩
  exact M!
 have aj:i=B.size+1:=o!;subst aj
 have U:J?<|R? wr g 3 1 (.slice (y? ⟨g,0,x?⟩) (B.size+1)<|B.size+1) (B.size+1)<|dZ<|b6<|B.size+1:=by rwa[<-NB]
 have V:=h! O;go_wp2;go_ret;exact⟨g,q?,by rw[Y.o];exact U.o,by rw[Y.o];exact V.o⟩
def oR(q:Wd)(c:UInt8)(row:List Nat)(z n i:Nat):List Nat:=ia q c row z i++bV (n-i) 0
def Em{c}(h:i<=p):(oR l c o f p i).length=p+1:=by unfold oR;rw[Zh,kq,List.length_replicate];omega
def QA{c}:(oR l c o f p i).getD i 0=(ia l c o f i).getD i 0:=by unfold oR;rw[AS,AS,Zt (by rw[kq];omega)]
def Dy{c m}(h:i<p)(hm:m=min (min (o.getD i 0+(if l.getD i 0=c then 0 else 1))<|o.getD (i+1) 0+1) ((ia l c o f i).getD i 0+1)) :
  (dZ<|oR l c o f p i).set (i+1) (n? i? m)=dZ (oR l c o f p<|i+1):=by
 have e:p-i=(p-(i+1))+1:=o!
 have B:oR l c o f p (i+1)=(oR l c o f p i).set (i+1) m:=by unfold oR;rw[List.set_append_right _ _ (by rw[kq];omega),kq,e,bX,ia,<-hm];simp
 rw[B];unfold dZ;rw[cG]
def PX(q)(c)(row)(z n):oR q c row z n n=ia q c row z n:=by simp[oR]
def Lm(q)(c)(row)(z n:Nat):(dZ<|bV (n+1) 0).set 0 (n? i? z)=dZ (oR q c row z n 0):=by simp[oR,ia,dZ,bX]
def NK(row)(B:b?)(c)(v)(w)(hq:B.size<=1048576)(hv:Rd w v<|dZ row)(hl:l? row=B.size+1)(am:∀x∈row,x<=2097152) :
  dn prog 270 #[v,s? B,n? .u8 c.toNat] w λe w'=>∃g,e=e? (.slice (y? ⟨g,0,x?⟩) (B.size+1)<|B.size+1)/\R? w' w.1.size 3 1 (.slice (y? ⟨g,0,x?⟩) (B.size+1)<|B.size+1) (B.size+1) (dZ<|ia B.1.1 c row (row.getD 0 0+1) B.size)/\B? w w':=by
 obtain⟨i3,a4,a5,a6,hy2⟩:=Zz NS;have W:=h! hl;have ab:=h! am;obtain⟨aQ,cQ,rfl,_,_,an⟩:=hv;have ag:=h! an;have ao:(dZ row).length=B.size+1:=by rw[Dq,hl]
 rw[ao];clear an hl am ao;obtain⟨bQ,oQ,rfl,qz⟩:=ag.o 0 _<|fJ row 0 (by rw[W.o];omega);rw[Nat.add_zero]at qz;obtain⟨z0,ah⟩:∃z0,z0=row.getD 0 0:=⟨_,q?⟩;have aE:z0<=2097152:=by rw[ah,AS,BY (by rw[W.o];omega)];exact ab _<|Zw _
 rw[<-ah]at qz⊢;clear ah;have aM:(0:Int)<(B.size:Int)+1:=o!;have aN:bQ<w.1.size:=lf w _ qz;go_enter func270,ntmps270;go_wp2_with (at_make;go_must (refine gg _ q? _ _ 26 q? w.1.size 3 i3 _ 1 ol a4 a5 a6 _ _ _ _ (B.size+1) q? q? q? q? ?m1 ?m2 ?m3 ?_))
 case m1=>rw[hy2];omega
 case m2=>unfold dq;omega
 case m3=>exact Zu _
 intro w5 aa ap;have ai:=h!<|(l4 _ _).grown ap (Zu _) i!;have e:(ey _<|B.size+1).1=dZ _:=Ez _;rw[e]at aa;have a7:=Z0 ai qz;let ⟨bt,ot,U,af⟩:=eM aa 0 _<|fJ _ 0 i!;simp only[m?,O!]at U;obtain⟨rfl,rfl,_⟩:=U;rw[ZD]at af;have aq:=mB aa 0
 have ar:J?<|R? (w5.setCell ⟨w.1.size,0,x?⟩<|n? i?<|(z0:Int)+1) w.1.size 3 1 (.slice (y? ⟨w.1.size,0,x?⟩) (B.size+1)<|B.size+1) (B.size+1)<|dZ<|oR B.1.1 c row (z0+1) B.size 0:=by show ld _ _ _ _ _ _ _;rw[<-Lm];have h:=rF aa 0 (n? i?<|(z0+1:Nat)) o!;simpa using h
 have au:J?<|B? w<|w5.setCell ⟨w.1.size,0,x?⟩<|n? i?<|(z0:Int)+1:=by exact mp ai (Zu _) _
 clear aa ap e;go_wp2;go_loopw [22] (λiv wr=>∃i:Nat,i<=B.size/\iv=n? i? i/\R? wr w.1.size 3 1 (.slice (y? ⟨w.1.size,0,x?⟩) (B.size+1) (B.size+1)) (B.size+1) (dZ<|oR B.1.1 c row (z0+1) B.size i)/\B? w wr) (λi _=>B.size-(intOf i).toNat);exact⟨0,ZP _,q?,ar,au⟩;obtain⟨i,hi,rfl,J,O⟩:=hrel;by_cases aj:i<B.size
 .have aF:(i:Int)<(B.size:Int):=o!;have aG:(i:Int)<(B.size:Int)+1:=o!;have aH:(i:Int)+1<(B.size:Int)+1:=o!;have aO:(0:Int)<=(i:Int)+1:=o!;obtain⟨r0,ac⟩:∃r0,r0=row.getD i 0:=⟨_,q?⟩;obtain⟨Y,ad⟩:∃Y,Y=row.getD (i+1) 0:=⟨_,q?⟩;obtain⟨x,hx⟩:∃x,x=(ia B.1.1 c row (z0+1) i).getD i 0:=⟨_,q?⟩;have aI:r0<=2097152:=by rw[ac,AS,BY (by rw[W.o];omega)];exact ab _<|Zw _
  have aJ:Y<=2097152:=by rw[ad,AS,BY (by rw[W.o];omega)];exact ab _<|Zw _
  have aP:x<=4194304:=by rw[hx,AS,BY (by rw[kq];omega)];exact sC _ _ row _ _ o! (λy hy=>by have:=ab.o y hy;omega) i (by rw[W.o];omega) _<|Zw _
  let ⟨b0,o0,av,q0⟩:=ag.o i _<|fJ row i (by rw[W.o];omega);simp only[m?,O!]at av;obtain⟨rfl,rfl,_⟩:=av;let ⟨b1,o1,aw,q1⟩:=ag.o _ _<|fJ row (i+1) (by rw[W.o];omega);simp only[m?,O!]at aw;obtain⟨rfl,rfl,_⟩:=aw;have p0:=Z0 O q0;have p1:=Z0 O q1;rw[<-ac]at p0;rw[<-ad]at p1;let ⟨bt,ot,U,ax⟩:=eM J i _<|fJ _ i (by rw[Em hi];omega);simp only[m?,O!]at U;obtain⟨rfl,rfl,_⟩:=U;rw[ZD,QA,<-hx]at ax;let ⟨bt,ot,U,ak⟩:=eM J _ _<|fJ _ (i+1) (by rw[Em hi];omega);simp only[m?,O!]at U;obtain⟨rfl,rfl,_⟩:=U;rw[ZD]at ak;obtain⟨ov,aR⟩:∃ov:Int,C? wr _=y? _:=⟨_,ak⟩;have aS:=mB J<|i+1;have ay:=h! ac.symm;have az:=h! ad.symm;have a0:=h! hx.symm;have aT:=xR _ _ q? o! o!;have aK:IntKind.i64.wrap _=Y+1:=xR _ _ q? o! o!;have aL:IntKind.i64.wrap _=x+1:=xR _ _ q? o! o!;have a1:=h!<|ir B i aj;have a2:=h! J;have a8:=h! O;clear q0 q1 ac ad hx J O ak ar au ai af aq a7;by_cases hc:B[i]=c
  case' pos=>
   have a9:((B[i].toNat:Int)==(c.toNat:Int))=t?:=by rw[uo,hc];simp
   have al:J?<|(if B.1.1.getD i 0=c then 0 else 1)=0:=h!<|by rw[a1.o,if_pos hc]
   have HM:J? (∀m:Nat,m=min (min (r0) _) _->(dZ _).set _ (n? _ m)=dZ _):=λm hm=>Dy aj (by rw[ay.o,az.o,a0.o,al.o];omega);clear hc;go_wp2
  case' neg=>
   have a9:((B[i].toNat:Int)==(c.toNat:Int))=f?:=by rw[uo];simpa using hc
   have al:J?<|(if B.1.1.getD i 0=c then 0 else 1)=1:=h!<|by rw[a1.o,if_neg hc]
   have HM:J? (∀m:Nat,m=min _ _->(dZ _).set _ (n? _ m)=dZ _):=λm hm=>Dy aj (by rw[ay.o,az.o,a0.o,al.o];omega);clear hc;go_wp2
  all_goals
   have s0:C? (wr.drew) _=y? _:=p1;have V:C? (wr.drew) _=y? _:=ax;refine wp_region_held (S:=λw'=>C? w' ⟨bQ,oQ+(i+1),x?⟩=y? (n? i? Y)/\C? w' ⟨w.1.size,i,x?⟩=y? (n? i? x)) k! ?_;refine gf 0 ?_ ⟨s0,V⟩ ?_<|gf 1 ?_ ⟨s0,V⟩ ?_<|gf 2 ?_ ⟨s0,V⟩ ?_<|gf 3 ?_ ⟨s0,V⟩ ?_<|gf 4 ?_ ⟨s0,V⟩ ?_<|gf 5 ?_ ⟨s0,V⟩ ?_<|gf 6 ?_ ⟨s0,V⟩ ?_<|gf 7 ?_ ⟨s0,V⟩ ?_<|gf 8 ?_ ⟨s0,V⟩ ?_<|gf 9 ?_ ⟨s0,V⟩ ?_<|gf 10 ?_ ⟨s0,V⟩ ?_<|gf 11 ?_ ⟨s0,V⟩ ?_<|gf 12 ?_ ⟨s0,V⟩ ?_<|gf 13 ?_ ⟨s0,V⟩ ?_<|gf 14 ?_ ⟨s0,V⟩ ?_<|gf 15 ?_ ⟨s0,V⟩ ?_<|gf 16 ?_ ⟨s0,V⟩ ?_ ?_
   any_goals(rintro w' ⟨t0,t1⟩;exact n!)
   refine kY 17 λK' a3=>?_;unfold r5;go_simp
  case' pos=>
   obtain⟨m,hm⟩:∃m:Nat,m=min (min (r0)<|Y+1) (x+1):=⟨_,q?⟩
   have ae:(if(x:Int)+1<(if(Y:Int)+1<(r0:Int)then(Y:Int)+1 else(r0:Int))then(x:Int)+1 else(if(Y:Int)+1<(r0:Int)then(Y:Int)+1 else(r0:Int)))=(m:Int):=by rw[hm];split<;>split at * <;> omega
   rw[ae]
  case' neg=>
   obtain⟨m,hm⟩:∃m:Nat,m=min (min (r0+1)<|Y+1) (x+1):=⟨_,q?⟩
   have ae:(if(x:Int)+1<(if Y<r0 then(Y:Int)+1 else((r0:Int)+1))then(x:Int)+1 else(if Y<r0 then(Y:Int)+1 else((r0:Int)+1)))=(m:Int):=by rw[hm];split<;>split at * <;> omega
   rw[ae]
  all_goals
   have a':J?<|R? (wr.setCell ⟨w.1.size,i+1,x?⟩<|n? i? m).drew w.1.size 3 1 (.slice (y? ⟨w.1.size,0,x?⟩) (B.size+1)<|B.size+1) (B.size+1)<|dZ<|oR B.1.1 c row (z0+1) B.size<|i+1:=by show ld _ _ _ _ _ _ _;rw[<-HM.o m hm];exact rF a2 _ _ o!
   have aA:J?<|Below _ w (wr.setCell ⟨w.1.size,i+1,x?⟩<|n? i? m).drew:=(mp a8 (Zu _) _).drew;refine a3 _ _ ⟨⟨?_,?_⟩,wpAnyH_done k! ?_ _⟩;show(wr.setCell ⟨w.1.size,i+1,x?⟩<|n? i? m).cell? _=_;rwa[World.cell?_setCell_far _ _ _ _ (by show w.1.size≠bQ;omega)]
   .show(wr.setCell ⟨w.1.size,i+1,x?⟩<|n? i? m).cell? _=_;rwa[World.cell?_setCell_other _ _ _ _ (by intro e;simp at e)]
   clear a3 ae hm;go_wp2;go_roundw
   .exact⟨i+1,o!,by go_num,a',aA⟩
   exact M!
 have aB:i=B.size:=o!;subst aB
 have aC:J?<|R? wr w.1.size 3 1 (.slice (y? ⟨w.1.size,0,x?⟩) (B.size+1)<|B.size+1) (B.size+1)<|dZ<|ia B.1.1 c row (z0+1) B.size:=by show ld _ _ _ _ _ _ _;rwa[<-PX]
 have aD:=h! O;clear J O;go_wp2;go_ret;exact⟨w.1.size,q?,aC,aD⟩
def Lc(a)(c)(row)(z):∀i,(ia a c row z i).getD 0 0=z:=by
 intro i;induction i with
 |zero=>rfl|succ i B=>rwa[ia,AS,Zt (by rw[kq];omega)]
def Mv(a s)(k):(jy a s k).getD 0 0=k:=by
 cases k with
 |zero=>simp[jy]|succ k=>rw[jy,Lc]
def tw(B J:b?)(most:Nat)(w)(au:1<=most)(av:most<=2)(hq:B.size<=1048576)(hs:J.size<=1048576) :
  dn prog 242 #[s? B,s? J,n? i? most] w λe w'=>e=e? (.bool<|iz (most+1) B.1.1 J.1.1)/\B? w w':=by
 have ac:l? B.1.1=B.size:=i!;have U:=h! ac
 have HF:J?<|iz (most+1) B.1.1 J.1.1=(b6<|J.size+1).any λk=>decide<|pH B.1.1 J.1.1 k<most+1:=by show _=_;unfold iz;rw[if_neg o!,if_neg o!];simp
 clear ac;go_enter func242,ntmps242;go_wp2_with fail;apply (Az B w hq).mono;rintro e w1 ⟨g1,rfl,aj,ad⟩
 have ak:J?<|R? w1 w.1.size 3 1 (.slice (y? ⟨g1,0,x?⟩) (B.size+1)<|B.size+1) (B.size+1)<|dZ<|jy B.1.1 J.1.1 0:=by show ld _ _ _ _ _ _ _;rwa[jy,U]
 have al:=h! ad;clear aj ad;go_wp2;go_loopw [7,13] (λv iv wr=>∃(k g:Nat),k<=J.size/\iv=n? i? k/\v=.slice (y? ⟨g,0,x?⟩) (B.size+1) (B.size+1)/\R? wr w.1.size 3 1 (.slice (y? ⟨g,0,x?⟩) (B.size+1)<|B.size+1) (B.size+1) (dZ<|jy B.1.1 J.1.1 k)/\(∀j,j<k->¬pH B.1.1 J.1.1 j<most+1)/\B? w wr) (λ_ i _=>J.size-(intOf i).toNat);exact⟨0,g1,ZP _,q?,q?,ak,λj hj=>o!,al⟩;obtain⟨k,g,hk,rfl,rfl,O,ae,V⟩:=hrel;have af:=h! ae;have aa:=h! V;have HS:=V.4;have aw:(B.size:Int)<(B.size:Int)+1:=o!;obtain⟨dd,ab⟩:∃dd,dd=pH B.1.1 J.1.1 k:=⟨_,q?⟩;let ⟨bt,ot,ag,am⟩:=eM O _ _<|fJ _ B.size (by rw[rU,U.o];omega);simp only[m?,O!]at ag;obtain⟨rfl,rfl,_⟩:=ag;have e1:(jy B.1.1 J.1.1 k).getD B.size 0=dd:=by rw[ab];unfold pH;rw[U.o]
 rw[ZD,e1]at am;have W:=h! ab;clear ae V ab e1;by_cases an:k<J.size
 .have ar:(k:Int)<(J.size:Int):=o!;by_cases hd:dd<=most
  .have ao:(dd:Int)<=(most:Int):=o!
   have HY:J?<|iz (most+1) B.1.1 J.1.1=t?:=by show _=_;rw[HF.o];exact any_some k o! (by rw[<-W.o];simp;omega)
   clear O;go_wp2;go_ret;exact⟨dW HY.symm,aa⟩
  have ao:¬((dd:Int)<=(most:Int)):=o!;have Y:=NK _ B J[k] _ wr hq (Rd.eo O) (by rw[rU,U.o]) (λx hx=>by have:=Ai _ _ _ x hx;rw[U.o]at this;omega);rw[Mv]at Y
  have e2:ia B.1.1 J[k] (jy B.1.1 J.1.1 k) (k+1) B.size=jy B.1.1 J.1.1 (k+1):=by rw[jy,U.o,ir J k an]
  rw[e2]at Y;clear O e2;go_wp2_with fail;apply Y.mono;rintro e w3 ⟨g3,rfl,ah,ai⟩;have HO3:=h!<|eH ah HS;have ap:=h!<|aa.trans<|ai.mono HS;clear Y ah ai;go_wp2;go_roundw
  case rel=>exact⟨k+1,g3,o!,by go_num,q?,HO3,λj hj=>by
   obtain h|h:=H! j k
   exact af j h;have e:j=k:=o!
   subst e;rw[<-W.o];omega,ap⟩
  exact M!
 have aq:k=J.size:=o!;subst aq
 have HY:J?<|iz (most+1) B.1.1 J.1.1=decide (dd<=most):=by
  show _=_;rw[HF.o];by_cases hd:dd<=most;rw[any_some J.size o! (by rw[<-W.o];simp;omega)];simp;omega;rw[any_none<|λi hi=>?_];simp;omega;obtain h|h:=H! i J.size
  have:=af.o i h;simpa using this;have e:i=J.size:=o!;subst e;rw[<-W.o];simp;omega
 go_wp2;go_ret;exact⟨dW HY.symm,aa⟩
def RX(m:Nat)(B J:b?)(w)(hm:m<=3)(U:B.size<=1048576)(O:J.size<=1048576) :
  dn prog 215 #[n? i? m,s? B,s? J] w λe w'=>e=e? (.bool<|iz m B.1.1 J.1.1)/\B? w w':=by
 have V:m=0\/m=1\/m=2\/m=3:=o!;obtain rfl|rfl|rfl|rfl:=V
 .have W:J?<|iz 0 B.1.1 _=ji J.1.1 _:=rfl;go_enter oC,ow;go_wp2_with fail;apply g!<|Dh J B w;go_wp2;go_ret;exact⟨dW W.symm,l4 _ _⟩
 .go_enter oC,ow;go_wp2_with fail;apply g!<|FL B J w O;go_wp2;go_ret;exact⟨q?,l4 _ _⟩
 .go_enter oC,ow;go_wp2_with fail;apply (tw B J 1 w o! o! U O).mono;rintro e w' ⟨rfl,hb⟩;go_wp2;go_ret;exact⟨q?,hb⟩
 go_enter oC,ow;go_wp2_with fail;apply (tw B J 2 w o! o! U O).mono;rintro e w' ⟨rfl,hb⟩;go_wp2;go_ret;exact⟨q?,hb⟩
def qN(i){P ops md Q oi listed C a}
  (h:WX gR P md ops Q f (S? listed i t?) C<|a.put oi.1 sp) (B:ops[i]?=y? oi:=by rfl) (J:i4 ops=t?:=by kernel_rfl) (O:i5 md ops listed i=t?:=by kernel_rfl) (U:(hQ md ops listed).contains i=t?:=by kernel_rfl) (hC:gp gR C:=by exact fK _)
  (V:hO oi (dk ops a.1)=f?:=by rfl):WX gR P md ops Q (f+1) listed C a:=
 Ko B (hY J) f listed C a (ip B O) (u! U) hC (.inr ⟨V,q?⟩) h
def PP(x y:Nat)(B:x<256)(J:y<256):bits .and i? x y=((x &&& y:Nat)):=by
 show IntKind.i64.wrap ((BitVec.ofInt 64 x &&& BitVec.ofInt 64 y).toNat)=_;rw[BitVec.toNat_and]
 have e:∀n:Nat,n<256->(BitVec.ofInt 64 n).toNat=n:=λn O=>by rw[BitVec.toNat_ofInt];omega
 rw[e x B,e y J];have U:x &&& y<=x:=Nat.and_le_left;exact xR _ _ q? o! o!
def Xf(m tg:Nat)(qb:b?)(nm tx:b?)(wt O)(w)(hm:m<=3)(ag:tg<256)(ak:0<=O)(al:O<=255)(hq:qb.size<=1048576)(ht:tx.size<=1048576) :
  dn prog 160 #[.agg #[n? i? m,s? qb,n? i? tg],.agg #[s? nm,s? tx,n? i? wt,n? i? O]] w λe w'=>e=e? (.bool<|nB tg O.toNat&&iz m qb.1.1 (dP tx.1.1))/\B? w w':=by
 obtain⟨w0,U⟩:∃w0,((w.alloc<|c? #[n? i? m,s? qb,n? i? tg] 94).alloc<|c? #[s? nm,s? tx,n? i? wt,n? i? O] 96)=w0:=⟨_,q?⟩;have aa:=h!<|U▸((l4 _ _).alloc (Zu _) _).alloc i! _;have q0:w0.1[w.1.size]?=y? (c? #[n? i? m,s? qb,n? i? tg] 94):=by rw[<-U,e! _ _ _ i!];simp[lx,-lw]
 have V:w0.1[w.1.size+1]?=y? (c? #[s? nm,s? tx,n? i? wt,n? i? O] 96):=by rw[<-U];simp[lx,-lw,Array.getElem_push]
 have d0:=dx q0 0;have d1:=dx q0 1;have d2:=dx q0 2;have d3:=dx V 3;have d4:=dx V 1;simp at d0 d1 d2 d3 d4;clear q0 V;have HW:=h! U;clear U;go_enter func160,ntmps160;go_wp2_with fail;rw[HW.o];clear HW;obtain⟨fb,ab⟩:∃fb,fb=iz m qb.1.1 (dP tx.1.1):=⟨_,q?⟩;obtain⟨kb,ac⟩:∃kb:b?,kb=⟨(dP tx.1.1).toArray⟩:=⟨_,q?⟩
 have af:kb.size<=1048576:=by rw[ac];show(dP tx.1.1).toArray.size<=_;rw[bZ,eB];simp;omega
 have ah:J? (∀y:w?,dn _ 50 _ y λe w'=>e=e? (s? kb)/\gR y w'):=λy=>by rw[ac];exact rJ tx y o!
 have ai:J? (∀y:w?,dn _ 215 _ y λe w'=>e=e? _/\gR y w'):=λy=>by
  have h:=RX m qb kb y hm hq af;have e1:kb.1.1=dP tx.1.1:=by rw[ac]
  rwa[e1,<-ab]at h
 have J:=PP O.toNat tg o! ag;rw[(o!:((O.toNat:Nat))=O)]at J;clear ac af hm hq ht;by_cases W:O.toNat &&& tg=tg
 .have aj:bits .and i? O (tg:Int)=(tg:Int):=by rw[J,W]
  have Y:J?<|fb=(nB tg O.toNat&&iz m qb.1.1 (dP tx.1.1)):=by show _=_;unfold nB;rw[W,<-ab];simp
  clear J W ab;refine j0 k! ?_;refine dA 0 ?_ ?_<|dA 1 ?_ ?_<|dA 2 ?_ ?_<|dA 3 ?_ ?_<|dA 4 ?_ ?_<|dA 5 ?_ ?_<|dA 6 ?_ ?_<|dA 7 ?_ ?_<|dA 8 ?_ ?_ ?_
  any_goals(intro y B;have q:=Z0 B d3;have V:=Z0 B d2;exact x!)
  go_simp;refine dA 9 ?_ ?_ ?_
  any_goals(intro y B;have q:=Z0 B d0;have V:=Z0 B d1;have q2:=Z0 B d4;exact x!)
  go_simp;refine dA 10 ?_ ?_ ?_
  any_goals(intro y B;have q:=Z0 B d0;have V:=Z0 B d1;have q2:=Z0 B d4;exact x!)
  go_simp;refine dA 11 ?_ ?_ ?_
  any_goals(intro y B;have q:=Z0 B d0;have V:=Z0 B d1;have q2:=Z0 B d4;exact x!)
  go_simp;refine dA 12 ?_ ?_ ?_
  any_goals(intro y B;have q:=Z0 B d0;have V:=Z0 B d1;have q2:=Z0 B d4;exact x!)
  go_simp;refine dA 13 ?_ ?_ ?_
  any_goals(intro y B;have q:=Z0 B d0;have V:=Z0 B d1;have q2:=Z0 B d4;exact x!)
  go_simp;refine dA 14 ?_ ?_ ?_
  any_goals(intro y B;have q:=Z0 B d0;have V:=Z0 B d1;have q2:=Z0 B d4;exact x!)
  go_simp;refine dA 15 ?_ ?_ ?_;rotate_left
  .intro y B;exact z!<|ah y
  go_simp;refine dA 16 ?_ ?_ ?_;rotate_left
  .intro y B;exact z!<|ai y
  go_simp;refine dA 17 ?_ ?_<|dA 18 ?_ ?_ ?_
  any_goals(intro y B;exact x!)
  refine qF k! ?_ _;intro y B;have ae:=h!<|aa.trans<|Below.mono B aa.4;clear B;go_simp;go_wp2;go_ret;exact⟨dW Y,ae⟩
 obtain⟨an,ad⟩:∃an:Nat,an=O.toNat &&& tg:=⟨_,q?⟩;have aj:bits .and i? O (tg:Int)=(an:Int):=by rw[J,ad]
 have ao:((an:Int)==(tg:Int))=f?:=by rw[beq_eq_false_iff_ne];rw[ad];omega
 have am:¬an=tg:=by rwa[ad]
 have Y:J?<|f?=(nB tg O.toNat&&iz m qb.1.1 (dP tx.1.1)):=by show _=_;unfold nB;rw[beq_eq_false_iff_ne.2 W];rfl
 clear J W ab ad;refine j0 k! ?_;refine dA 0 ?_ ?_<|dA 1 ?_ ?_<|dA 2 ?_ ?_<|dA 3 ?_ ?_<|dA 4 ?_ ?_<|dA 5 ?_ ?_<|dA 6 ?_ ?_<|dA 7 ?_ ?_<|dA 8 ?_ ?_ ?_
 any_goals(intro y B;have q:=Z0 B d3;have V:=Z0 B d2;exact x!)
 go_simp;apply qN 9;go_simp;apply qN 10;go_simp;apply qN 11;go_simp;apply qN 12;go_simp;apply qN 13;go_simp;apply qN 14;go_simp;apply qN 15;go_simp;apply qN 16;go_simp;refine dA 17 ?_ ?_<|dA 18 ?_ ?_ ?_
 any_goals(intro y B;exact x!)
 refine qF k! ?_ _;intro y B;have ae:=h!<|aa.trans<|Below.mono B aa.4;clear B;go_simp;go_wp2;go_ret;exact⟨dW Y,ae⟩
def lX(w:w?)(o)(h:f=w.1.size):(w.alloc o).1[f]?=y? o:=by subst h;show(w.1.push o)[w.1.size]?=y? o;simp
def jO(w:w?)(o)(h:f<w.1.size):(w.alloc o).1[f]?=w.1[f]?:=by exact e! w o f h
def Eb(k at':Int)(nm:b?)(b:Bool)(n2 tx:b?)(wt B:Int):v?:=.agg #[n? i? k,n? i? at',s? nm,.bool b,s? n2,s? tx,n? i? wt,n? i? B]
def Tg:b?:=⟨#[]⟩
def JJ(k at')(nm:b?)(g)(n2 tx:b?)(wt et)(m tg:Nat)(U:b?)(w)(hm:m<=3)(aa:tg<256)(V:g=f?->0<=et/\et<=255)(hq:U.size<=1048576)(ht:tx.size<=1048576) :
  dn prog 119 #[.agg #[n? i? k,n? i? at'],s? nm,.agg #[.bool g,s? n2,s? tx,n? i? wt,n? i? et],.agg #[n? i? m,s? U,n? i? tg]] w λe w'=>e=e? (if(!g&&(nB tg et.toNat&&iz m U.1.1 (dP tx.1.1)))=t? then Eb k at' nm t? n2 tx wt et else Eb k at' nm f? Tg Tg 0 0)/\B? w w':=by
 obtain⟨b,hb⟩:∃b,b=(nB tg et.toNat&&iz m U.1.1 (dP tx.1.1)):=⟨_,q?⟩
 have HC:J? (g=f?->∀y:w?,dn _ 160 _ y λe w'=>e=e? (.bool b)/\Below _ y w'):=λhg y=>by rw[hb];exact Xf m tg U n2 tx wt et y hm aa (V hg).1 (V hg).2 hq ht
 rw[<-hb];clear hb hm aa V hq ht;obtain⟨w0,O⟩:∃w0,w0=(((w.alloc<|c? #[n? i? k,n? i? at'] 170).alloc<|c? #[.bool g,s? n2,s? tx,n? i? wt,n? i? et] 111).alloc<|c? #[n? i? m,s? U,n? i? tg] 94).alloc (c? #[n? i? 0,n? i? 0,s? ⟨#[]⟩,.bool f?,s? ⟨#[]⟩,s? ⟨#[]⟩,n? i? 0,n? i? 0] 172):=⟨_,q?⟩;have hz:w0.1.size=w.1.size+4:=by rw[O];simp
 have hB:B? w w0:=by rw[O];exact((((l4 _ _).alloc (Zu _) _).alloc i! _).alloc j! _).alloc j! _
 have g0:w0.1[w.1.size]?=y? (c? #[n? i? k,n? i? at'] 170 (0,0)):=by rw[O];(repeat(first|(rw[lX _ _<|by simp only[la]];done)|rw[jO _ _ (by simp only[la];omega)]))
 have Y:w0.1[w.1.size+1]?=y? (c? #[.bool g,s? n2,s? tx,n? i? wt,n? i? et] 111 (0,0)):=by rw[O];(repeat(first|(rw[lX _ _<|by simp only[la]];done)|rw[jO _ _ (by simp only[la];omega)]))
 have g2:w0.1[w.1.size+1+1]?=y? (c? #[n? i? m,s? U,n? i? tg] 94 (0,0)):=by rw[O];(repeat(first|(rw[lX _ _<|by simp only[la]];done)|rw[jO _ _ (by simp only[la];omega)]))
 have g3:w0.1[w.1.size+1+1+1]?=y? (c? #[n? i? 0,n? i? 0,s? ⟨#[]⟩,.bool f?,s? ⟨#[]⟩,s? ⟨#[]⟩,n? i? 0,n? i? 0] 172 (0,0)):=by rw[O];(repeat(first|(rw[lX _ _<|by simp only[la]];done)|rw[jO _ _ (by simp only[la];omega)]))
 go_enter func119,ntmps119;go_upto_region 1 with fail;rw[<-O];obtain⟨B0,ab⟩:∃B,B=w.1.size:=⟨_,q?⟩;obtain⟨B3,ac⟩:∃B,B=w.1.size+1+1+1:=⟨_,q?⟩;obtain⟨B2,ad⟩:∃B,B=w.1.size+1+1:=⟨_,q?⟩;obtain⟨B1,ae⟩:∃B,B=w.1.size+1:=⟨_,q?⟩;rw[<-ac]at g3⊢;rw[<-ad]at g2⊢;rw[<-ae]at Y⊢;rw[<-ab]at g0⊢;have HB:=h! hB;have HN:J?<|B0<w0.1.size/\B1<w0.1.size/\B2<w0.1.size/\B3<w0.1.size/\w.1.size<=B3:=⟨o!,o!,o!,o!,o!⟩;clear O hB ab ae ad ac hz;cases g
 .have c0:C? w0 ⟨B1,0,x?⟩=y? (.bool f?):=by rw[dx Y];rfl
  have c1:=dx Y;have c5:=dx g2;go_upto_if 17 with(go_at_call 160;apply (HC q? _).mono;rintro e y ⟨rfl,hy⟩);have af:=(hy.5 B0 HN.1).trans g0;have ag:=(hy.5 B1 HN.2.1).trans Y;have W:=(hy.5 B3 HN.2.2.2.1).trans g3;have HY:=h!<|HB.trans<|Below.mono hy HB.4;clear c0 c1 c5 hy HC g0 Y g2 g3 HB;have c0:=dx af;have c2:=dx ag;have ah:=dO W;have kO:=dx W;have e0:=dx W;have J:=HN.2.2.2.2;cases b
  .go_wp2;refine fv (v:=Eb k at' nm f? Tg Tg 0 0) (by simp[dN,oB,go_sem,e0,Eb,Tg]) q? ⟨q?,(((((((HY.setCell J _).setCell J _).setCell J _).setCell J _).setCell J _).setCell J _).setCell J _).setCell J _⟩
  go_wp2;refine fv (v:=Eb k at' nm t? n2 tx wt et) (by simp[dN,oB,go_sem,e0,Eb,Tg]) q? ⟨q?,(((((((HY.setCell J _).setCell J _).setCell J _).setCell J _).setCell J _).setCell J _).setCell J _).setCell J _⟩
 have c0:C? w0 ⟨B0,0,x?⟩=y? (n? i? k):=by rw[dx g0];rfl
 have c1:=dx g0 1;have c2:=dx Y 0;have ah:=dO g3;have kO:=dx g3;have e0:=dx g3;have J:=HN.2.2.2.2;clear HC;go_wp2;refine fv (v:=Eb k at' nm f? Tg Tg 0 0) (by simp[dN,oB,go_sem,e0,Eb,Tg]) q? ⟨q?,(((((((HB.setCell J _).setCell J _).setCell J _).setCell J _).setCell J _).setCell J _).setCell J _).setCell J _⟩
end
section
open Shelf
def Qv:Go.Shelf.Ren:=⟨fun|7=>122|10=>163|n=>n,fun|23=>85|26=>9|3=>111|28=>177|0=>0|27=>176|33=>81|4=>4|n=>n,fun|n=>n⟩
def Ya:Go.Proofs.SlLaysZ.n7 prog Qv:=by refine' {f7:=⟨f122.1,d!,k? func122⟩,f10:=⟨f163.1,d!,k? func163⟩,..}<;>intros<;>kernel_rfl
def zD:Go.Shelf.Ren:=⟨fun|6=>121|8=>161|9=>162|11=>216|13=>125|12=>217|23=>172|24=>173|14=>243|15=>244|16=>245|17=>246|18=>247|19=>248|20=>249|21=>250|22=>251|25=>271|26=>219|27=>220|28=>272|29=>273|30=>175|31=>279|n=>n,fun|26=>9|28=>177|24=>31|0=>0|3=>3|37=>184|48=>229|50=>141|4=>4|40=>222|39=>221|45=>226|5=>5|9=>9|51=>272|55=>276|57=>292|58=>212|33=>81|n=>n,fun|n=>n⟩
def WE:Go.Proofs.SlLaysZ.n6 prog zD:=by refine' {f6:=⟨f121.1,d!,k? func121⟩,f8:=⟨f161.1,d!,k? func161⟩,f11:=⟨f216.1,d!,k? func216⟩,..}<;>intros<;>kernel_rfl
def JF:Go.Shelf.Ren:=⟨fun|6=>83|15=>125|14=>124|28=>172|29=>173|20=>164|21=>165|22=>166|23=>167|24=>168|25=>169|26=>170|27=>171|46=>218|47=>219|48=>220|49=>221|50=>222|57=>252|n=>n,fun|22=>82|24=>96|25=>133|3=>3|39=>184|0=>0|53=>229|55=>141|4=>4|46=>222|45=>221|50=>226|5=>5|9=>9|66=>272|70=>276|76=>292|77=>212|n=>n,fun|n=>n⟩
def Ol:Go.Proofs.SlLaysF0.n6 prog JF:=by refine' {f6:=⟨f83.1,d!,k? func83⟩,f14:=⟨f124.1,d!,k? func124⟩,f20:=⟨f164.1,d!,k? func164⟩,f21:=⟨f165.1,d!,k? func165⟩,f22:=⟨f166.1,d!,k? func166⟩,f23:=⟨f167.1,d!,k? func167⟩,f24:=⟨f168.1,d!,k? func168⟩,f25:=⟨f169.1,d!,k? func169⟩,f26:=⟨f170.1,d!,k? func170⟩,f27:=⟨f171.1,d!,k? func171⟩,f46:=⟨f218.1,d!,k? func218⟩,f49:=⟨f221.1,d!,k? func221⟩,f50:=⟨f222.1,d!,k? func222⟩,f57:=⟨f252.1,d!,k? func252⟩,..}<;>intros<;>kernel_rfl
def FW:Go.Shelf.Ren:=⟨fun|171=>85|243=>129|246=>176|283=>223|284=>224|285=>225|286=>226|129=>173|317=>253|318=>254|319=>255|320=>256|337=>274|338=>275|n=>n,fun|3=>3|9=>9|2=>2|4=>4|171=>278|0=>0|53=>141|37=>60|5=>5|173=>280|212=>295|51=>229|20=>20|213=>296|46=>184|232=>312|233=>313|n=>n,fun|17=>2|18=>3|19=>4|n=>n⟩
def TO:Go.Proofs.LaysM.n171 prog FW:=by
 constructor
 .constructor<;>intros<;>kernel_rfl
 all_goals(intros;kernel_rfl)
open RowKit Maps Go.Sort
def TM(m):AnyZ.SortsIn prog zD Fence.wide m:=
 ⟨λblk off cap ss W O B J=>ep.2<|Any.slices_Sort_string AB blk off cap ss W O B J,
  λp cap W=>ep.2<|Any.slices_Sort_string_none AB p cap W⟩
def T9(B)(w):dn prog 122 #[.map<|y? B] w λe w'=>e=e? (.func (.func 163) #[] #[p?<|y? ⟨w.1.size,0,x?⟩])/\w'=w.alloc (c? #[.map<|y? B] 85):=
 ep.1 (AnyZ.keys_in Ya _ 5 trivial q? _ w)
def IZ(B)(l)(w)(h:ed prog 9 w B l)(hl:l? l<=100000) :
  dn prog 121 #[.func (.func 163) #[] #[p?<|y? ⟨w.1.size,0,x?⟩]] (w.alloc<|c? #[.map<|y? B] 85) λe w'=>∃v,e=e? v/\
   R? w' (w.1.size+1) 9 1 v l.length (du<|(l.map qr).mergeSort λx y=>decide<|x<=y)/\Below (w.1.size+1) (w.alloc<|c? #[.map<|y? B] 85) w':=by
 obtain⟨D,J,U⟩:=h;have ab:=J.lt
 have V:SeqGives Fence.wide 2 _ _ #[p?<|y? ⟨w.1.size,0,x?⟩] encStr _ _<|w.alloc<|c? #[.map<|y? B] 85:=
  AnyZ.keys_gives {Ya with} _ _ trivial q? o! _ B _ D _ i! i! (by
   obtain⟨es,clock,hb,Ft,U,hD⟩:=J
   exact⟨es,clock,(e! _ _ B ab).trans hb,Ft,U,hD⟩)
 apply (ep.1<|AnyZ.sorted_in WE _ 5 trivial trivial trivial trivial q? o! (TM _) (enters_of func162 k! q?) _ _ trivial (enters_of func163 k! q?) _ _ (by rw[U.3];unfold dq;omega) (by rw[U.3];omega) _ V).mono;rintro e w' ⟨v,ss,rfl,hp,O,_,hb⟩
 have W:Collected D (λ_=>f?) _:=⟨U.1,λx=>by
  rw[U.4 x]
  simp⟩
 have Y:=hp.trans (W.perm J (string_keyed k!) k!<|λ_=>rfl).symm;have aa:l? ss=l? l:=by rw[Y.length_eq];simp
 rw[la]at O hb;refine⟨v,q?,?_,hb⟩;rwa[aa,mergeSort_of_perm Y]at O
end
section
open Conc RowKit Maps
variable {f C:w?}{g o:Nat}{i:L?}{l:E?}
structure Ask where
 m:Nat
 q:b?
 t:Nat
structure Ask.Ok(A:Ask):Prop where
 m:A.m<=3
 t:A.t<256
 q:A.q.size<=1048576
def Ask.has(A:Ask)(e:eE):Bool:=!e.2&&(nB A.t e.5.toNat&&iz A.m A.q.1.1 (dP e.3))
def bytes(l:Wd):b?:=⟨a? l⟩
def pJ(A:Ask)(k:Nat)(p:Nat×eE):v?:=if A.has p.2=t? then Eb k p.1 (bytes p.2.1) t? (bytes<|Gy p.2) (bytes p.2.3) p.2.4 p.2.5 else Eb k p.1 (bytes p.2.1) f? Tg Tg 0 0
def tu(es:E?):List eE:=es.mergeSort λa b=>decide<|a.1<=b.1
def iO(es:E?):List<|Nat×eE:=(tu es).zipIdx.map λp=>(p.2,p.1)
def qm(es:E?):(tu es).Perm es:=List.mergeSort_perm ..
def J8(es:E?):(tu es).map eE.name=(es.map eE.name).mergeSort λx y=>decide<|x<=y:=List.map_mergeSort λ_ _ _ _=>rfl
def uk(es:E?)(k:Nat):(iO es)[k]?=((tu es)[k]?).map λe=>(k,e):=by simp[iO,List.getElem?_zipIdx];cases(tu es)[k]?<;>rfl
def Ib(es:E?):(iO es).length=l? es:=by simp[iO,(qm es).length_eq]
def Kx(B:g<l? l):∃e,(tu l)[g]?=y? e/\e∈l/\((l.map eE.name).mergeSort λx y=>decide<|x<=y)[g]?=y? e.1:=by
 have h:g<(tu l).length:=by rwa[(qm l).length_eq]
 refine⟨(tu l)[g],BY h,(qm l).mem_iff.1<|Zw h,?_⟩;rw[<-J8,ZZ,BY h];rfl
def R7(B:(l.map eE.name).Nodup){e}(J:e∈l)(z):qp (l.map mQ) e.1 z=ve e:=by
 have:(l.map mQ).find? (λp=>p.1==e.1)=y? (mQ e):=by
  induction l with
  |nil=>cases J
  |cons x l U=>
   rw[ZK,Z2]at B;rw[ZK,bT];by_cases O:x.1=e.1;obtain rfl|h:=Zm.1 J
   simp[mQ];exact absurd (List.mem_map_of_mem h)<|O▸B.1;have:((mQ x).1==e.1)=f?:=by simpa[mQ]using O
   rw[this];obtain rfl|h:=Zm.1 J
   exact absurd q? O;exact U B.2 h
 unfold qp;rw[this];rfl
structure SW(w:w?)(num:Nat)(es:E?)(A:Ask)(cap:Nat)(ms:L?):Prop where
 c0:C? w ⟨5,0,none⟩=some (.chan (some 10))
 c1:C? w ⟨6,0,none⟩=some (.map (some 11))
 c2:C? w ⟨7,0,none⟩=some (.int .i64 num)
 c3:C? w ⟨8,0,none⟩=some (.int .i64 A.m)
 c4:C? w ⟨8,1,none⟩=some (.string A.q)
 c5:C? w ⟨8,2,none⟩=some (.int .i64 A.t)
 ch:w.1[10]?=some (.chan cap ms.toArray false ms.length 0 false)
 sm:fN w 11 es
variable {p:Ask}
def SW.lt(h:SW f g l p o i):11<f.1.size:=h.8.lt
def SW.ext(h:SW f g l p o i)(B:gR f C):SW C g l p o i:=by have J:=h.lt;exact⟨(B.cell (by show(5)<_;omega)).trans h.1,(B.cell (by show(6)<_;omega)).trans h.2,(B.cell (by show(7)<_;omega)).trans h.3,(B.cell (by show(8)<_;omega)).trans h.4,(B.cell (by show(8)<_;omega)).trans h.5,(B.cell (by show(8)<_;omega)).trans h.6,(B.5 10 o!).trans h.7,h.8.below B⟩
def SW.tp(h:SW f g l p o i)(τ:Tape):SW (tp f τ) g l p o i:=by obtain⟨B,J,O,U,V,W,Y,D,h8,h9⟩:=h;exact⟨B,J,O,U,V,W,Y,D,h8,h9⟩
def SW.zd(h:SW f g l p o i)(B:lu f C):SW C g l p o i:=by obtain⟨τ,B⟩:=B;exact(h.tp τ).ext B
def SW.jx{cap}(h:SW f g l p cap i)(v):SW {f with heap:=S? f.1 10<|.chan cap (i.toArray.push v) f? (l? i+1) 0 f?} g l p cap (i++[v]):=by
 have O:=h.lt;have hb:∀k,k≠10->(S? f.1 10<|.chan cap (i.toArray.push v) f? (l? i+1) 0 f?)[k]?=f.1[k]?:=λk J=>by rw[Zd<|Ne.symm J]
 have B:∀(k o:Nat),k≠10->ln {f with heap:=S? f.1 10<|.chan cap (i.toArray.push v) f? (l? i+1) 0 f?} ⟨k,o,x?⟩=C? f ⟨k,o,x?⟩:=λk o J=>by simp only[ln,hb k J]
 refine⟨(B 5 0 o!).trans h.1,(B 6 0 o!).trans h.2,(B 7 0 o!).trans h.3,(B 8 0 o!).trans h.4,(B 8 1 o!).trans h.5,(B 8 2 o!).trans h.6,?_,h.8.stay<|hb 11 o!⟩;rw[ZR o!];simp
def tM:List Deferred:=[⟨.collected 9,#[.chan<|y? 10]⟩]
def EH{f}{tm:V?}{rest Kp Q}(h:rest.wp prog Q ⟨tm,tM⟩ C)
  (V:∀e a w',Q e a w'->(e=.normal\/e=.ret)/\a.2=tM/\(∃cap O s r t,w'.1[10]?=y? (.chan cap O f? s r t)/\O.1=i)/\Kp w') :
  ∃n B,gn prog n (gc ⟨f,tm,[.code rest],tM,.run,.normal,x?⟩ [door prog] C)=.next (LS.m B)/\T4 prog f i Kp B:=by
 obtain⟨e,a,w',W,J⟩:=h ⟨f,#[],[],[],.run,.normal,x?⟩ [] _;obtain⟨Y,hd,hh,hk⟩:=V e a w' W
 have hr:∃td n,gn prog n (gc ⟨f,tm,[.code rest],tM,.run,.normal,x?⟩ [door prog] C)=.next (gc ⟨f,a.1,td,a.2,.returning,.normal,x?⟩ [door prog] w'):=by
  obtain rfl|rfl:=Y
  obtain⟨n,U⟩:=(show Steps .. from J).trans<|.one step_end;exact⟨[],n,U⟩;obtain⟨td,n,U⟩:=J;exact⟨td,n,U⟩
 let ⟨td,n,U⟩:=hr;exact⟨n,⟨⟨f,a.1,td,a.2,.returning,.normal,x?⟩,[door _],w'⟩,U,q?,q?,hd,q?,hh,hk⟩
def ZaP(L:L?)(o:Option Obj):Exit->Act->w?->Prop:=λe a w'=>(e=.normal\/e=.ret)/\a.2=tM/\(∃cap B s r t,w'.1[10]?=y? (.chan cap B f? s r t)/\B.1=L)/\w'.1[11]?=o
def Qi{w':w?}{e sz n:Nat}{v}(h:R? f o e sz v n i)(hb:∀g,o<=g->g<f.1.size->w'.1[g]?=f.1[g]?):R? w' o e sz v n i:=by
 obtain⟨U,B⟩:=h;refine⟨U,?_⟩;obtain B|⟨g,cap,cur,V,J,O,W⟩:=B
 exact .inl B;exact .inr ⟨g,cap,cur,V,J,(hb g J (AI.1 O).1).trans O,W⟩
def BU(h:lu f C)(g)(B:g<f.1.size):C.1[g]?=f.1[g]?:=by obtain⟨τ,h⟩:=h;exact h.5 g B
def ZaZ(num)(es:E?)(A)(hA:A.Ok)(cap)(w)(h:SW w num es A cap [])(ag:l? es<=cap)(hl:l? es<=100000)(ah:∀e∈es,l? e.1<=dq/\l? e.3<=1048576/\(e.2=f?->0<=e.5/\e.5<=255))(aC:num<=1000) :
  (yi pp).wp prog (ZaP ((iO es).map<|pJ A num)<|w.1[11]?) ⟨(yJ 120 27 6 .skip).2,tM⟩ w:=by
 have HS:=h! h;have c1:=h.2;obtain⟨D,hD⟩:∃D,D=(iO es).map (pJ A num):=⟨_,q?⟩;have HD:=h! hD;rw[<-hD];clear hD;have U:=IZ 11 _ w h.8<|u! hl;have HK:J? (∀y,y=w->dn _ 122 _ y _):=λy J=>by subst J;exact T9 11 _
 rw[show(yJ 120 27 6 _).2=#[p?<|y? ⟨5,0,x?⟩,p?<|y? ⟨6,0,x?⟩,p?<|y? ⟨7,0,x?⟩,p?<|y? ⟨8,0,x?⟩,sp,sp,.chan _,sp,sp,sp,sp,sp,sp,sp,sp,sp,sp,sp,sp,sp,sp,sp,sp,sp,sp,sp,sp]from rfl];show Code.wp prog (Code.seq (Code.region 1 _ f?)<|Code.block 0<|Code.loop _) _ _ _;obtain⟨N,hN⟩:∃N,N=(es.map eE.name).mergeSort λx y=>decide<|x<=y:=⟨_,q?⟩;have ai:(es.map mQ).map qr=es.map eE.name:=by simp[mQ]
 rw[ai,<-hN,Z5]at U;have V:l? es=l? N:=by rw[hN];simp
 rw[V]at U ag hl;have aj:=U;have HN:=h! hN;have ak:=h! V;have a5:=h! ah;have a6:=h.lt;clear U hN V ai ah h;go_wp2_with (go_at_call 122;apply (HK _ q?).mono;rintro e y ⟨rfl,rfl⟩);apply aj.mono;rintro e y ⟨v,rfl,O,hb⟩;obtain⟨av,cv,rfl,aD⟩:=dC O
 have HX:J?<|gR w y:=by show Below _ _ _;exact((l4 _ _).alloc (Zu _) _).trans<|Below.mono hb o!
 have HR:J?<|R? y 12 9 1 _ _ _:=ownsRow_base_a O o!;clear O hb HK aj;have al:=h!<|HS.ext HX;have am:=h!<|HX.5 11 a6;clear HX HS c1;go_wp2_with fail;go_loopw [11] (λi wr=>∃k:Nat,k<=l? N/\i=n? i? k/\SW wr num es A cap (D.take k)/\R? wr 12 9 1 (.slice av N.length cv) N.length (du N)/\wr.1[11]?=w.1[11]?) (λi _=>l? N-(intOf i).toNat);exact⟨0,ZP _,q?,al,HR,am⟩;obtain⟨k,hk,rfl,an,ao,ap⟩:=hrel;have B:=h! an;have W:=h! ao;have Y:=h! ap;clear an ao ap al HR am;have aq:J?<|l? D=l? N:=h!<|by rw[HD.o,Z5,Ib,ak.o]
 by_cases aa:k<l? N
 .obtain⟨bg,og,rfl,ab⟩:=eM W k _<|fI N k aa;go_upto_region 4 with fail;obtain⟨e,ar,ac,au⟩:=Kx (by rwa[ak.o])
  have aw:N[k]=e.1:=by rwa[<-HN.o,BY aa,m?]at au
  rw[aw];let ⟨ax,ay,az⟩:=a5.o e ac
  have HM:J? (∀y:w?,dn _ 119 #[.agg _,s? _,ve e,.agg _] y λx w'=>x=e? (pJ A num (k,e))/\gR y w'):=λy=>by apply (JJ num k ⟨a? e.name⟩ e.gone ⟨(Gy e).toArray⟩ ⟨a? e.text⟩ e.dR e.dY A.m A.t A.q y hA.m hA.t az hA.q (by show e.text.toArray.size<=_;simpa using ay)).mono;rintro x w' ⟨h1,h2⟩;exact⟨h1,h2⟩
  have ad:J? (∀y,SW y num es A cap (D.take k)->(Instr.lookup 85 _ _ f?).run _ y=.ok _ y):=λy J=>by rw[(ed.look J.8 om underlying85 (O7 y) _ ax).1,R7 (by have:=J.8.nodup;simpa[mQ]using this) ac]
  have a0:D[k]?=y? (pJ A num (k,e)):=by rw[HD.o,ZZ,uk,ar];rfl
  have HT:J?<|D.take (k+1)=D.take k++[pJ A num (k,e)]:=by obtain⟨a7,a8⟩:=Zs.1 a0;show _=_;rw[List.take_succ_eq_append_getElem a7,a8]
  obtain⟨sv,a1⟩:∃sv,sv=ve e:=⟨_,q?⟩;obtain⟨mv,a2⟩:∃mv,mv=pJ A num (k,e):=⟨_,q?⟩;rw[<-a1]at HM ad;rw[<-a2]at HM HT;clear a1 a2 aw ax ay az ar ac au a0 ab;refine jS (Sd:=λa y=>qP _ _ _ [10] a y) (last:=10) (tl:=[]) k! ?_<|λa y h _=>h;refine ew 0 ?_ ?_<|ew 1 ?_ ?_<|ew 2 ?_ ?_<|ew 3 ?_ ?_<|ew 4 ?_ ?_<|ew 5 ?_ ?_<|ew 6 ?_ ?_<|ew 7 ?_ ?_<|ew 8 ?_ ?_ ?_
  any_goals(intro y J;have q:=(B.zd J).1;have q1:=(B.zd J).3;have q2:=(B.zd J).2;have q3:=ad.o y<|B.zd J;have q4:=(B.zd J).4;have q5:=(B.zd J).5;have q6:=(B.zd J).6;exact x!)
  go_simp;refine ew 9 ?_ ?_ ?_;rotate_left
  .intro y J;exact z!<|HM y
  go_simp;refine sJ k! (λt=>TT k! _ _) ?_;intro y J;have ae:=B.zd J;have a9:=aq.o;apply B7 (v:=mv) q? q? q? q? q? q? ae.ch j!;have af:=ae.jx mv;rw[<-HT.o]at af
  have a3:=Qi (w':={y with heap:=S? y.1 10<|.chan cap ((D.take k).toArray.push mv) f? ((D.take k).length+1) 0 f?}) W (λg h1 h2=>by
   show(S? y.1 10 _)[g]?=_;rw[Zd o!]
   exact BU J g h2)
  have a4:({y with heap:=S? y.1 10<|.chan cap ((D.take k).toArray.push mv) f? ((D.take k).length+1) 0 f?}:w?).1[11]?=w.1[11]?:=by show(S? y.1 10 _)[11]?=_;rw[Zd o!,BU J 11 B.lt];exact Y
  generalize ({y with heap:=S? y.1 10<|.chan cap ((D.take k).toArray.push mv) f? ((D.take k).length+1) 0 f?}:w?)=w3 at *;have a':=h! af;have aA:=h! a3;have aB:=h! a4;clear af a3 a4 J ae a9 HM ad HT B W Y;go_wp2;go_roundw;exact⟨k+1,aa,i!,a',aA,aB⟩;exact M!
 obtain rfl:k=l? N:=o!;go_wp2;exact⟨.inl q?,q?,⟨_,_,_,_,_,B.7,by rw[<-aq.o,List.take_length]⟩,Y⟩
end
section
open Conc
def rK:Item->Item
 |.code y=>.code<|E3 y|.inLoop y=>.inLoop<|E3 y|x=>x
def mh:Item->Bool
 |.code _|.inLoop _|.inBlock _=>t?|_=>f?
def Vl{m}:∀{k},k.all mh=t?->eA (lG m) (k.map rK) k
 |[],_=>.nil|x::k,h=>by simp only[ck,IT]at h;refine .cons ?_ (Vl h.2);cases x<;>first|exact .Ie _|exact .nW _|exact .inBlock _|(simp[mh]at h)
def Iv{m}:∀{k k'},k.all mh=t?->eA (lG m) (k.map rK) k'->k'=k
 |[],_,_,h=>by cases h;rfl
 |x::k,_,U,h=>by
  simp only[ck,IT]at U
  cases h with
  |cons J V=>
   rw[Iv U.2 V]
   cases x with
   |code y=>
    simp only[rK]at J;generalize B:Item.code _=z at J
    cases J with
    |Ie W=>simp only[E3,Item.code.injEq,Code.cond.injEq]at B;rw[B.2.1]|code c O=>simp only[Item.code.injEq]at B;rw[<-B]at O;exact O.1.elim|_=>cases B
   |inLoop y=>
    simp only[rK]at J;generalize B:Item.inLoop _=z at J
    cases J with
    |nW W=>simp only[E3,Item.inLoop.injEq,Code.cond.injEq]at B;rw[B.2.1]|inLoop c O=>simp only[Item.inLoop.injEq]at B;rw[<-B]at O;exact O.1.elim|_=>cases B
   |inBlock i=>cases J;rfl
   |_=>simp[mh]at U
def tG(id):∀(k:List Item),eC id (k.map rK)=(eC id k).map (·.map rK)
 |[]=>rfl|x::k=>by
  cases x with
  |inBlock i=>simp only[ZK,rK];unfold eC;split;rfl;exact tG id k
  |_=>exact tG id k
def exitTo_plain{id}:∀{k k'},k.all mh=t?->eC id k=y? k'->k'.all mh=t?
 |[],_,_,e=>by cases e
 |x::k,k',B,e=>by
  simp only[ck,IT]at B
  cases x with
  |inBlock i=>
   unfold eC at e;split at e
   cases e;exact B.2;exact exitTo_plain B.2 e
  |_=>exact exitTo_plain B.2 e
def jZ.Yu{P}{E:Env P}{fn}{tm:V?}{os}{V:List<|Nat×Option (L?)}{k S}(hk:k.all mh=t?)(hf:yy E os)(W:S.2=[door P])(Y:S.1=iw fn tm (k.map rK))(h:dv E (⟨fn,tm,k⟩::os) S.w V):jZ E S os V:=by
 intro m Pd ρ gs w sl t fr' cs' Tc aa ab ac B J h0;have hF:=J.sX;rw[W]at J;have O:=xL hf B
 obtain⟨rfl,U⟩:cs'=Tc/\fr'.6=.normal:=by
  cases J with
  |one _ _ hb _=>
   refine⟨q?,?_⟩;obtain⟨x,_⟩|⟨_,ps,e,x⟩:=hb
   exact x;exact absurd x<|O ps e
  |cons _ _ _ hx=>cases hx
 rw[Y]at hF;let ⟨f1,f2,f3,f4,f5,f6⟩:=hF;let ⟨ad,ae,af,ag,ah,ai,aj⟩:=fr';have:=Iv hk f3;subst this f1 U;cases f4;cases f5;cases f6;exact h m Pd ρ gs w sl t _ _ aa ab ac (.cons f2 B) h0
def dv.code{P}{E:Env P}{fn}{tm:V?}{os wl}{V:List<|Nat×Option (L?)}{k c Q}(aj:gU E.8 c)(hk:k.all mh=t?)(hf:yy E os)(h:∀τ,DN τ wl->c.wp P Q ⟨tm,[]⟩ (tp wl τ))
  (hn:∀e a w',Q e a w'->a.2=[]/\∃k',((e=.normal/\k'=k)\/∃id,e=.exit id/\eC id k=y? k')/\dv E (⟨fn,a.1,k'⟩::os) w' V):dv E (⟨fn,tm,.code c::k⟩::os) wl V:=by
 have hS:jZ E ⟨iw fn tm (.code c::k.map rK),[door P],wl⟩ os V:=by
  let O:LS->Prop:=λS=>S.2=[door P]/\∃U k',k'.all mh=t?/\S.1=iw fn U (k'.map rK)/\dv E (⟨fn,U,k'⟩::os) S.w V;refine jZ.IW (Stop:=λS=>∃τ,O<|S.on τ) (λS τ ⟨B,h⟩=>⟨B,h⟩) (λB aa=>?_) λS' ⟨B,hc,U,k',h1,h2,h3⟩=>?_;obtain⟨e,a,w',hq,J⟩:=h B aa (iw fn #[] []) (k.map rK) [door P];obtain⟨hd,k',ae,hW⟩:=hn e a w' hq;obtain⟨W,ak⟩:=a;subst hd
  have Y:Steps P (gc (iw fn tm (.code c::k.map rK)) [door P]<|tp wl B) (gc (iw fn W<|k'.map rK) [door P] w')/\k'.all mh=t?:=by
   obtain⟨rfl,rfl⟩|⟨id,rfl,he⟩:=ae
   exact⟨J,hk⟩;exact⟨J _ (by rw[tG,he];rfl),exitTo_plain hk he⟩
  obtain⟨⟨n,Y⟩,af⟩:=Y;exact⟨n,⟨iw fn W _,[door P],w'⟩,Y,⟨w'.2,q?,W,k',af,q?,hW⟩,i!⟩;exact jZ.tape<|jZ.Yu h1 hf hc h2 h3
 intro m Pd ρ gs w sl t fr' cs' ab ag ah ac h0;obtain⟨ai,l',e,ht,ad⟩:=ac.head;cases e;exact hS m Pd ρ gs w sl t _ _ cs' ab ag ah ad (eD.one (fr':=iw fn ai _) ⟨q?,ht,.cons (.code c<|by rwa[ab.5])<|Vl hk,.nil,.run,.none⟩ q? (.inl ⟨q?,xL hf ad⟩) q?) h0
end
section
open Conc RowKit Maps
section
variable {f x0:w?}{g:List OF}{l:V?}{o:List Item}{p:d'}{C:P?}{I:Oper}{J P i:Nat}{U:Bool}
def phX(dd q K:Nat)(m:Ren):Prop:=(m.7=λr=>r=dd)/\m.8 dd=q/\∀r,m.3 r->r<K
def qw(P)(Z:oJ P)(w:w?)(T:List Frame)(dd q K:Nat)(B:Bool):Env P where
 Z:=Z
 qW:=λb=>b<w.1.size/\(B=t?->b≠q)
 w0:=w
 T:=T
 gl:=λg=>Gv g=t?
 st:=f?
 nu:=λf=>Se f=t?
 ok:=Sy P Se Gv f?
 X:=phX dd q K
 le:=λm J h ⟨O,W,U⟩=>⟨h.9.trans O,by rwa[h.dm],λr V=>U r<|h.4 r V⟩
def Gg{Z T K}(m)(B:m.4=(qw prog Z f T J P K U).8)(O:m.5=(qw prog Z f T J P K U).7)(V:m.G=prog.globals.size):nj prog m (qw prog Z f T J P K U).5 (qw prog Z f T J P K U).6:=ZaF B O<|V.trans Cu
def dv.qg{E:Env C}{V:List<|Nat×Option (L?)}(τ)(h:dv E g f V):dv E g (tp f τ) V:=dv.tape (τ:=f.2) h
def Lw(E:Env C)(fn:d')(k:List Item)(os:List OF)(V:List<|Nat×Option (L?)):Exit->Act->w?->Prop:=λe a w'=>a.2=[]/\∃k',((e=.normal/\k'=k)\/∃id,e=.exit id/\eC id k=y? k')/\dv E (⟨fn,a.1,k'⟩::os) w' V
def dv.OC{E:Env C}{V:List<|Nat×Option (L?)}{c}(B:gU E.8 c)(J:o.all mh=t?)(O:yy E g)(h:∀τ,DN τ f->c.wp C (Lw E p o g V) ⟨l,[]⟩ (tp f τ)):dv E (⟨p,l,.code c::o⟩::g) f V:=dv.code B J O h λ_ _ _ h=>h
def dv.YJ{E:Env C}{V:List<|Nat×Option (L?)}{ops rest}(O:ops[i]?=y? I)(J:hO I (dk ops l)=t?)(U:OkOp C E.7 E.5 E.6 I.2)
  (B:∀τ,lO C I ⟨l,[]⟩ (tp f τ)<|λv y=>dv E (⟨p,(Act.put ⟨l,[]⟩ I.1 v).1,r? ops rest::o⟩::g) y V):dv E (⟨p,l,r? ops (i::rest)::o⟩::g) f V:=by
 refine dv.any O J U λτ=>?_;have:=B τ;refine iR.mono (λv y h=>?_) this;rwa[xY]at h
def Same(y B:w?):Prop:=B=y
def dv.pu{E:Env C}{V:List<|Nat×Option (L?)}{ops rest v}(J:ops[i]?=y? I)(B:hO I (dk ops l)=t?)(O:OkOp C E.7 E.5 E.6 I.2)(U:∀y,lO C I ⟨l,[]⟩ y λu W=>Same y W/\u=v)
  (h:dv E (⟨p,(Act.put ⟨l,[]⟩ I.1 v).1,r? ops rest::o⟩::g) f V):dv E (⟨p,l,r? ops (i::rest)::o⟩::g) f V:=
 dv.YJ J B O λτ=>(U _).mono λ_ _ Y=>by obtain⟨rfl,rfl⟩:=Y;exact dv.qg τ h
def ZaC{Z T K}{V:List<|Nat×Option (L?)}{ops rest}(W:ops[i]?=y? I)(O:hO I (dk ops l)=t?)(Y:KQ prog Se Gv f? I.2=t?)
  (B:∀τ,lO prog I ⟨l,[]⟩ (tp x0 τ)<|λv y=>dv (qw prog Z f T J P K U) (⟨p,(Act.put ⟨l,[]⟩ I.1 v).1,r? ops rest::o⟩::g) y V):dv (qw prog Z f T J P K U) (⟨p,l,r? ops (i::rest)::o⟩::g) x0 V:=
 dv.YJ W O (yI Y) B
def fO{Z T K}{V:List<|Nat×Option (L?)}{ops rest v}(h:dv (qw prog Z f T J P K U) (⟨p,(Act.put ⟨l,[]⟩ I.1 v).1,r? ops rest::o⟩::g) x0 V)(O:ops[i]?=y? I:=by rfl)(W:∀y,lO prog I ⟨l,[]⟩ y<|λu Y=>Same y Y/\u=v:=by intro y;unfold lO;go_simp;refine⟨q?,?_⟩;with_reducible rfl)
  (B:hO I (dk ops l)=t?:=by rfl) (ho:KQ prog Se Gv f? I.2=t?:=by kernel_rfl):dv (qw prog Z f T J P K U) (⟨p,l,r? ops (i::rest)::o⟩::g) x0 V:=dv.pu O B (yI ho) W h
def qo{Z T K}{V:List<|Nat×Option (L?)}{ops rest}(W:ops[i]?=y? I)(O:hO I (dk ops l)=t?)(Y:KQ prog Se Gv f? I.2=t?)
  (B:∀y0:w?,y0.1=x0.1->y0.4=x0.4->lO prog I ⟨l,[]⟩ y0 (λv y=>dv (qw prog Z f T J P K U) (⟨p,(Act.put ⟨l,[]⟩ I.1 v).1,r? ops rest::o⟩::g) y V)):dv (qw prog Z f T J P K U) (⟨p,l,r? ops (i::rest)::o⟩::g) x0 V:=
 ZaC W O Y λτ=>B _ q? rfl
def li{Z T K}{V:List<|Nat×Option (L?)}{k c}(B:lD (λo=>KQ prog Se Gv f? o.2) c=t?)(O:k.all mh=t?)(W:yy (qw prog Z f T J P K U) g)(h:∀y0:w?,y0.1=x0.1->y0.4=x0.4->c.wp prog (Lw (qw prog Z f T J P K U) p k g V) ⟨l,[]⟩ y0):dv (qw prog Z f T J P K U) (⟨p,l,.code c::k⟩::g) x0 V:=
 dv.OC (rE B) O W λτ _=>h _ q? rfl
def dv.rG{V:List<|Nat×Option (L?)}{E:Env C}{c x y}(B:yN c)(e:mE l c=.bool t?)(h:dv E (⟨p,l,.code x::o⟩::g) f V):dv E (⟨p,l,.code (.cond c x y)::o⟩::g) f V:=dv.cond B e h
def dv.ni{V:List<|Nat×Option (L?)}{E:Env C}{c x y}(B:yN c)(e:mE l c=.bool f?)(h:dv E (⟨p,l,.code y::o⟩::g) f V):dv E (⟨p,l,.code (.cond c x y)::o⟩::g) f V:=dv.cond B e h
def kA(d)(tm:V?)(v):fV d tm v=(Act.put ⟨tm,[]⟩ d v).1:=by rw[xY]
def ja{V:List<|Nat×Option (L?)}{E:Env C}(h:dv E (⟨p,l,o⟩::g) f V):Lw E p o g V .normal ⟨l,[]⟩ f:=⟨q?,o,.inl ⟨q?,q?⟩,h⟩
end
section
open Conc RowKit Maps
structure uF(ex:Obj)(es:E?):Prop where
 isMap:∃a c,ex=.map a c
 Zdp:∀m:Ren,OR m ex ex
 inv:∀(m:Ren)o',OR m ex o'->o'=ex
 say:∀(w:w?)(B:Nat),w.1[B]?=some ex->fN w B es
def bb(s:Nat):Nat->Nat|0=>s+4|1=>s+1|2=>s|_=>s+2
def Zaa(A:Ask):Array v?:=#[n? i? A.m,s? A.q,n? i? A.t]
def cmV(s:Nat)(v:v?)(num:Nat)(A:Ask):Nat->Array v?|0=>#[.chan<|y?<|s+3]|1=>#[v]|2=>#[n? i? num]|_=>Zaa A
abbrev cmB(s dd num:Nat)(A:Ask):Nat->Array v?:=cmV s (.map (y? dd)) num A
def cdB(num:Nat)(A:Ask):Nat->Array v?|0=>#[.chan<|y? 10]|1=>#[.map<|y? 11]|2=>#[n? i? num]|_=>Zaa A
def teV(t:dw):Nat->dw|0=>167|1=>t|2=>3|_=>94
abbrev teB:Nat->dw:=teV 85
def NN(s i):s<=bb s i/\bb s i<s+5:=by unfold bb;split<;>omega
def Uy(s):∀i j,i<4->j<4->bb s i=bb s j->i=j:=by intro i j B J h;have:i=0\/i=1\/i=2\/i=3:=o!;have:j=0\/j=1\/j=2\/j=3:=o!;obtain rfl|rfl|rfl|rfl:=‹i=0\/_›<;>obtain rfl|rfl|rfl|rfl:=‹j=0\/_›<;>simp[bb]at h⊢
def Flat.arr{c:V?}(h:∀i(B:i<c.size),Flat c[i]){m mi}{J:V?}(O:fh m c J):fh mi c J:=by
 have:J=c:=by apply cU;intro i;by_cases B:i<c.size;obtain⟨U,V,W⟩:=O.get<|Z1 B;rw[V,(h i B).eq m U W,Z1 B];rw[ZB (by rw[<-O.size];omega),ZB o!]
 subst this;exact fh.jb q? λi B _=>(h i B).refl mi
def Il(A)(k)(p):Flat<|pJ A k p:=by
 unfold pJ;split;refine .agg λi B=>?_;have:=B;match i,this with
 |0,_|1,_|6,_|7,_=>exact .int ..|2,_|4,_|5,_=>exact .string _|3,_=>exact .bool _
 refine .agg λi B=>?_;have:=B;match i,this with
 |0,_|1,_|6,_|7,_=>exact .int ..|2,_|4,_|5,_=>exact .string _|3,_=>exact .bool _
def Qt{Z w T dd q K num s A}{es:E?}{ex V os}(hA:A.Ok)(hK:K<=s+5)(h5:5<=s)(af:dd<s)
  (hc:∀i,i<4->V.1[bb s i]?=y? (c? (cmB s dd num A i) (teB i) (0,0))) (aa:5<=q) (hq:q<w.1.size) (ab:w.1[q]?=y? ex) (W:uF ex es) (ac:∀(m)(r:Nat)(o),V.1[r]?=y? o->¬OR m o ex)
  (hl:l? es<=100000) (ad:∀e∈es,l? e.1<=dq/\l? e.3<=1048576/\(e.2=f?->0<=e.5/\e.5<=255)) (O:num<=1000) :
  Sends (qw prog Z w T dd q K f?) (qw prog Z w T dd q (s+5) t?) 120 (CI<|bb s) os os V (xf V [bb s 0,bb s 1,bb s 2,bb s 3]) (s+3) ((iO es).map<|pJ A num):=by
 refine ID (cd:=cdB num A) (M:=y? q) (ex:=ex) (cap:=l? es) ZaS q? q? d! d! d! ZaX (λv hv=>?_) ⟨q?,q?,q?,q?,q?,Gg,λm B=>?_,λb=>?_,λi hi=>?_,Uy s,hc,λm B i hi=>?_,q?,q?,λi J h4 m mi w' a' B hw ae Y=>?_,λb hb=>?_⟩ λτ=>?_;obtain⟨p,_,rfl⟩:=Zv.1 hv;exact Il A num p;obtain⟨x1,x2,x3⟩:=B.x;refine⟨x1,x2,λr B=>?_⟩;obtain B|B:=B
 have:=x3 r B;omega;simp only[Zm,q!,or_false,bb]at B;omega;simp only[qw,ne_eq,m?];constructor;rintro⟨J,U⟩;exact⟨⟨J,λh=>by cases h⟩,λe=>U trivial e.symm⟩;rintro⟨⟨J,_⟩,U⟩;exact⟨J,λ_ e=>U e.symm⟩;have:=NN s i;omega;obtain⟨x1,_,_⟩:=B.x;rw[x1];have:=(NN s i).1;show ¬(bb s i=dd);omega;obtain⟨x1,x2,_⟩:=B.x;have:i=1\/i=2\/i=3:=o!;obtain rfl|rfl|rfl:=this
 let ⟨v',e1,e2⟩:=Y.get (show(cmB s dd num A 1)[0]?=y? (.map _)from rfl)
 have hv:v'=.map (y? q):=by
  cases e2 with
  |gone hd=>rw[x2]|map hb=>rw[(hw.10 dd<|by rw[x1]).1]at hb;cases hb
 subst hv
 have:a'=#[.map<|y? q]:=by
  apply cU;intro j;match j with
  |0=>rw[e1];rfl|j+1=>rw[ZB (by rw[<-Y.size];show 1<=j+1;omega),ZB (by show 1<=j+1;omega)]
 subst this;exact fh.one<|.map<|ae q q?
 exact Flat.arr (λj hj=>by
  have:=hj;match j,this with
  |0,_=>exact .int ..) Y
 exact Flat.arr (λj hj=>by
  have:=hj;match j,this with
  |0,_=>exact .int ..|1,_=>exact .string _|2,_=>exact .int ..) Y
 cases hb;obtain⟨a,c,e⟩:=W.1;exact⟨aa,⟨hq,nofun⟩,ab,W.2,W.3,λa' e' f' h=>(by rw[h]at e;cases e),ac⟩;exact EH (ZaZ num es A hA _ _ (by refine⟨q?,q?,q?,q?,q?,q?,q?,W.4 _ _ q?⟩) (Zu _) hl ad O) λe a w' ⟨J,U,h3,h4⟩=>⟨J,U,h3,.inr<|h4.trans q?⟩
end
section
open Conc RowKit Maps
variable {f g:w?}{l o i:Nat}
def eG(f:Func):Code:=match f.9 with
 |some c=>c|none=>.skip
def dv.Qq{P}{E:Env P}{fn}{tm:V?}{os}{V:List<|Nat×Option (L?)}{k ops rest o}(U:ops[i]?=y? o)(B:hO o (dk ops tm)=t?)
  (J:∀(O:V?)(w),(dl (mE O) o).runT P w #[]=(.ok (.value<|.chan<|y? w.1.size) {w with heap:=w.1.push<|.chan 0 #[] f? 0 0 f?},#[]))
  (h:dv E (⟨fn,(Act.put ⟨tm,[]⟩ o.1<|.chan<|y? f.1.size).1,r? ops rest::k⟩::os) {f with heap:=f.1.push mf} ((f.1.size,x?)::V)):dv E (⟨fn,tm,r? ops (i::rest)::k⟩::os) f V:=
 dv.makeChan U B J (by rwa[xY]at h)
def Qs{P}{E:Env P}{m}{Y:F?}{ρ gs t a c}(O:E.2 l)(hw:E.3.1[l]?=y? (.map a c))(B:Co P E.2 E.3 Y ρ m f gs g t)(j)(m')(r')(U:(ρ j).vh=y? m'):m'.1 r'≠y? l:=by intro hb;let ⟨aa,J⟩:=B.wr U;let ⟨c1,e1,f1,hc⟩:=J.9 r' l hb<|B.ff j m' U r' l hb O;let ⟨o,o',V,W,h3⟩:=J.1 r' l hb;rw[(B.14 l O).2,hw]at W;cases W;rw[hc]at V;cases V;cases h3
def Vg(dd:Nat):Option b?->v?
 |none=>.map<|y? dd|some S=>s? S
def Zao:Option b?->dw
 |none=>85|some _=>9
def Za1:Option b?->d'
 |none=>80|some _=>79
noncomputable def ZaL:Option b?->Func
 |none=>f80|some _=>f79
def ZbG:Option b?->d'
 |none=>120|some _=>116
def Jj{Z T q K ae fn}{tm:V?}{os}{V:List<|Nat×Option (L?)}{k}(x:Option b?)(num)(A)(L:L?){lent' ops i rest}{o:Oper}(s)(hs:s=g.1.size)(hi:ops[i]?=y? o)(ak:∀(r:Nat)a c,g.1[r]?≠y? (.map a c))(hV:∀x∈V,x.1<s)
  (hS:∀(U:w?)(os),(∀j,j<4->U.1[bb s j]?=y? (c? (cmV s (Vg l x) num A j) (teV (Zao x) j) (0,0)))->(∀(r:Nat)a c,U.1[r]?≠y? (.map a c))->Sends (qw prog Z f T l q K ae) (qw prog Z f T l q (s+5) lent') (ZbG x) (CI<|bb s) os os U (xf U [bb s 0,bb s 1,bb s 2,bb s 3]) (s+3) L)
  (al:∀q',(qw prog Z f T l q K ae).2 q'->¬(qw prog Z f T l q (s+5) lent').2 q'->∃a c,f.1[q']?=y? (.map a c))
  (hn:∀w2:w?,w2.1.size=s+5->(∀r,r<s->w2.1[r]?=g.1[r]?)->(∀(r:Nat)a c,w2.1[r]?≠y? (.map a c))->w2.4=g.4->dv (qw prog Z f T l q (s+5) lent') (⟨fn,fV o.1 tm<|.chan<|y?<|s+3,r? ops rest::k⟩::os) w2 ((s+3,y? L)::V)) :
  dv (qw prog Z f T l q K ae) (⟨Za1 x,#[n? i? num,Vg l x,.agg #[n? i? A.m,s? A.q,n? i? A.t],sp,sp,sp,sp,sp,sp,sp,sp],[.code<|eG<|ZaL x]⟩::⟨fn,tm,r? ops (i::rest)::k⟩::os) g V:=by
 obtain⟨v1,ah⟩:∃v,v=Vg l x:=⟨_,q?⟩;obtain⟨t1,ai⟩:∃t,t=Zao x:=⟨_,q?⟩;have HV:=h!<|A? ah ai;have am:=h! hS;clear ah ai hS;cases x
 all_goals
  simp only[Vg,Za1,ZaL];show dv _ (⟨_,_,[.code<|.seq (.region 0 _ f?)<|.seq (.region 1 _ f?)<|.seq (.region 2 _ f?)<|.seq (.region 3 _ f?) .ret]⟩::_) _ _;apply dv.seq;have HS:=h! hs;clear hs;refine li k! q? (.inl i!) λy0 B J=>?_;have HY:J?<|y0.1=g.1/\y0.4=g.4:=⟨B,J⟩;clear B J;go_wp2;apply ja;obtain⟨B,J⟩:=HY.o;obtain⟨w3,W⟩:∃w3,w3=(((y0.alloc<|c? #[n? i? num] 3).alloc<|c? #[v1] t1).alloc<|c? #[n? i? A.m,s? A.q,n? i? A.t] 94):=⟨_,q?⟩;have O:y0.1.size=s:=by rw[B];exact HS.symm
  have z3:w3.1.size=s+3:=by rw[W];simp[O]
  have o3:∀r,r<s->w3.1[r]?=g.1[r]?:=λr Y=>by rw[W,jO _ _ (by simp[O];omega),jO _ _ (by simp[O];omega),jO _ _ (by rw[O];omega),B]
  have g0:w3.1[s]?=y? (c? #[n? i? num] 3 (0,0)):=by rw[W,jO _ _ (by simp only[la,O];omega),jO _ _ (by simp only[la,O];omega),lX _ _ O.symm]
  have g1:w3.1[s+1]?=y? (c? #[v1] t1 (0,0)):=by rw[W,jO _ _<|by simp[O],lX _ _<|by simp[O]]
  have g2:w3.1[s+2]?=y? (c? #[n? i? A.m,s? A.q,n? i? A.t] 94 (0,0)):=by rw[W,lX _ _<|by simp[O]]
  have p3:w3.4=g.4:=by rwa[W]
  rw[HV.1,HV.2]at W;simp only[Vg,Zao]at W;rw[<-W,O];clear W B J O HY y0;refine dv.seq<|dv.region ?_;refine dv.Qq (i:=0) q? q? (λao f=>k!) ?_;rw[z3];obtain⟨w4,ab⟩:∃w4:w?,w4={w3 with heap:=w3.1.push mf}:=⟨_,q?⟩;have z4:w4.1.size=s+4:=by rw[ab];simp[z3]
  have o4:∀r,r<s+3->w4.1[r]?=w3.1[r]?:=λr Y=>by rw[ab];show(w3.1.push _)[r]?=_;rw[cW,if_neg o!]
  have g3:w4.1[s+3]?=y? mf:=by rw[ab];show(w3.1.push _)[s+3]?=_;rw[<-z3];simp
  have p4:w4.4=g.4:=by rwa[ab]
  rw[<-ab];clear ab;have aj:s+1+1=s+2:=rfl;rw[aj];clear aj;go_simp;refine qo q? l! k! λy0 B J=>?_;have HY:J?<|y0.1=w4.1/\y0.4=w4.4:=⟨B,J⟩;clear B J;unfold lO;go_simp;simp only[iR];let ⟨B,J⟩:=HY.o;obtain⟨w5,ac⟩:∃w5,w5=y0.alloc (c? #[.chan x?] 167):=⟨_,q?⟩;have z5:w5.1.size=s+5:=by rw[ac];simp[B,z4]
  have o5:∀r,r<s+4->w5.1[r]?=w4.1[r]?:=λr Y=>by rw[ac,jO _ _<|by rwa[B,z4],B]
  have g4:w5.1[s+4]?=y? (c? #[.chan x?] 167 (0,0)):=by rw[ac,lX _ _<|by rw[B,z4]]
  have p5:w5.4=g.4:=by rw[ac];exact J.trans p4
  rw[<-ac,B,z4];clear ac B J HY y0;refine qo q? l! k! λy0 B J=>?_;have c4:=dx (by rwa[B]) 0;have f4:=dO (by rwa[B]) 0;have HY:J?<|y0.1=w5.1/\y0.4=w5.4:=⟨B,J⟩;clear B J;unfold lO;go_simp;simp only[iR];let ⟨B,J⟩:=HY.o;obtain⟨U,ad⟩:∃U,U=y0.setCell ⟨s+4,0,x?⟩ (.chan<|y?<|s+3):=⟨_,q?⟩;have z6:U.1.size=s+5:=by rw[ad];simp[B,z5]
  have o6:∀r,r≠s+4->U.1[r]?=w5.1[r]?:=λr Y=>by rw[ad,ZH _ _ _ _ Y,B]
  have g6:U.1[s+4]?=y? (c? #[.chan<|y?<|s+3] 167 (0,0)):=by rw[ad];exact heap_setCell_box_a _ (by rwa[B])
  have p6:U.4=g.4:=by rw[ad];exact J.trans p5
  rw[<-ad];clear ad B J HY c4 f4 y0;refine dv.inRegion<|dv.seq<|dv.region ?_;have k0:U.1[s]?=y? (c? #[n? i? num] 3 (0,0)):=by rwa[o6 _ o!,o5 _ o!,o4 _ o!]
  have k1:U.1[s+1]?=y? (c? #[v1] t1 (0,0)):=by rwa[o6 _ o!,o5 _ o!,o4 _ o!]
  have k2:U.1[s+2]?=y? (c? #[n? i? A.m,s? A.q,n? i? A.t] 94 (0,0)):=by rwa[o6 _ o!,o5 _ o!,o4 _ o!]
  have k3:U.1[s+3]?=y? mf:=by rwa[o6 _ o!,o5 _ o!]
  have ko:∀r,r<s->U.1[r]?=g.1[r]?:=λr Y=>by rw[o6 _ o!,o5 _ o!,o4 _ o!,o3 _ Y]
  clear g0 g1 g2 g3 g4 o3 o4 o5 o6 z3 z4 z5 p3 p4 p5
  have ag:∀j,j<4->U.1[bb s j]?=y? (c? (cmV s v1 num A j) (teV t1 j) (0,0)):=by
   intro j hj;match j,hj with
   |0,_=>exact g6|1,_=>exact k1|2,_=>exact k0|3,_=>exact k2
  have af:∀(r:Nat)a c,U.1[r]?≠y? (.map a c):=by
   intro r a c h;by_cases h1:r<s;rw[ko r h1]at h;exact ak r a c h;have h2:=(AI.1 h).1;rw[z6]at h2;have:r=s\/r=s+1\/r=s+2\/r=s+3\/r=s+4:=o!;obtain rfl|rfl|rfl|rfl|rfl:=this
   rw[k0]at h;cases h;rw[k1]at h;cases h;rw[k2]at h;cases h;rw[k3]at h;cases h;rw[g6]at h;cases h
  rw[HV.1,HV.2]at ag;have hS:=λos=>am.o U os ag af;have e:∀v,Array.map (mE #[Value.int IntKind.i64 ↑num,v,Value.agg #[Value.int IntKind.i64 ↑A.m,Value.string A.q,Value.int IntKind.i64 ↑A.t],Value.pointer<|y? {block:=s,off:=0},Value.pointer<|y? {block:=s+1,off:=0},Value.pointer<|y? {block:=s+2,off:=0},Value.chan x?,Value.pointer<|y? {block:=s+4,off:=0},Value.chan<|y?<|s+3,sp,sp]) #[Operand.tmp 7,Operand.tmp 4,Operand.tmp 3,Operand.tmp 5]=CI (bb s):=λv=>by kernel_rfl
  refine dv.go (q:=9) (V₂:=(s+3,y? L)::V) q? q? q? q? q? q? q? q? ?_ ?_ (by rw[e];exact hS _) ?_ ?_ ?_ ?_ ?_ ?_;intro x hx;simp only[Zm,q!,or_false]at hx;obtain rfl|rfl|rfl|rfl:=hx<;>trivial
  show 9<11;decide;intro q' h1 h2 m Pd ρ gs w' t ap an aq j m' r' Y;obtain⟨a,c,hx⟩:=al q' h1 h2;exact Qs h1 hx an j m' r' Y;simp;intro x hx;obtain rfl|hx:=Zm.1 hx
  exact .inl rfl;refine .inr ⟨ZG _ hx,λe=>?_⟩;have:=hV x hx;rw[e]at this;exact absurd this (by show ¬(s+3<s);omega);simp;intro r vs Y;obtain Y|Y:=Zm.1 Y
  cases Y;exact ZG _ Y;obtain⟨w7,aa⟩:∃w7,w7=xf U [bb s 0,bb s 1,bb s 2,bb s 3]:=⟨_,q?⟩;have z7:w7.1.size=s+5:=by rwa[aa,Db]
  have o7:∀r,r<s->w7.1[r]?=g.1[r]?:=λr Y=>by rw[aa,uI _ (by simp only[Zm,q!,or_false,bb];omega)];exact ko r Y
  have g7:w7.1[s+4]?=y? (c? #[.chan<|y?<|s+3] 167 (0,1)):=by rw[aa];exact GC U (by simp[bb]) g6
  have m7:∀(r:Nat)a c,w7.1[r]?≠y? (.map a c):=by
   intro r a c h;rw[aa,Gi]at h
   cases he:U.1[r]? with
   |none=>rw[he]at h;cases h
   |some o=>
    rw[he]at h;simp only[N!,m?]at h;split at h
    cases o<;>simp[Xh]at h;exact af _ _ _ he;exact af r a c (by rw[he,h])
  have p7:w7.4=g.4:=by rwa[aa]
  rw[<-aa];clear aa hS ag af k0 k1 k2 k3 ko g6 z6 p6;refine dv.inRegion<|dv.seq ?_;refine li k! q? (.inl i!) λy0 B J=>?_;have c7:=dx (by rwa[B]) 0;have HY:J?<|y0.1=w7.1/\y0.4=w7.4:=⟨B,J⟩;clear B J;simp only[List.setIfInBounds_toArray,List.set_cons_succ,List.set_cons_zero];go_wp2;apply ja;obtain⟨B,J⟩:=HY.o;refine dv.back (.inr ⟨_,q?⟩) (by first|exact func80|exact func79) hi (λτ=>?_)<|hn y0 (by rwa[B]) (λr Y=>by rw[B];exact o7 r Y) (λr a c=>by rw[B];exact m7 r a c)<|J.trans p7;kernel_rfl
def Df{Z T q K fn}{tm:V?}{os}{V:List<|Nat×Option (L?)}{k}(num)(A)(es:E?)(ex){ops i rest}{o:Oper}(s)(hs:s=g.1.size)(hi:ops[i]?=y? o)(hA:A.Ok)(hK:K<=s+5)(h5:5<=s)(W:l<s)(Y:5<=q)(hq:q<f.1.size)(J:f.1[q]?=y? ex)(hM:uF ex es)(aa:∀(r:Nat)a c,g.1[r]?≠y? (.map a c))
  (hl:l? es<=100000) (ab:∀e∈es,l? e.1<=dq/\l? e.3<=1048576/\(e.2=f?->0<=e.5/\e.5<=255)) (O:num<=1000) (hV:∀x∈V,x.1<s)
  (hn:∀w2:w?,w2.1.size=s+5->(∀r,r<s->w2.1[r]?=g.1[r]?)->(∀(r:Nat)a c,w2.1[r]?≠y? (.map a c))->w2.4=g.4->dv (qw prog Z f T l q (s+5) t?) (⟨fn,fV o.1 tm<|.chan<|y?<|s+3,r? ops rest::k⟩::os) w2 ((s+3,y?<|(iO es).map<|pJ A num)::V)) :
  dv (qw prog Z f T l q K f?) (⟨80,#[n? i? num,.map<|y? l,.agg #[n? i? A.m,s? A.q,n? i? A.t],sp,sp,sp,sp,sp,sp,sp,sp],[.code<|eG f80]⟩::⟨fn,tm,r? ops (i::rest)::k⟩::os) g V:=by
 obtain⟨ac,ad,B⟩:=hM.1
 exact Jj x? num A _ s hs hi aa hV (λw6 os ae af=>Qt hA hK h5 W ae Y hq J hM (λm r o h1 U=>by
  rw[B]at U;cases U
  exact af _ _ _ h1) hl ab O) (λq' h1 U=>by
  have:=ZX λag=>U ⟨h1.1,λ_=>ag⟩;subst this
  exact⟨ac,ad,J.trans<|by rw[B]⟩) hn
end
section
open Conc RowKit Maps
variable {f x9:Nat}{g i l o p C I J P U x0 x1 x2 x3 x4 x5:v?}{x6 x7 x8:b?}{y0 y1 y2 y3:Int}
def Ts:v?:=.agg #[n? i? 0,n? i? 0,s? ⟨#[]⟩,.bool f?,s? ⟨#[]⟩,s? ⟨#[]⟩,n? i? 0,n? i? 0]
def yk(cl:Nat->Option Nat):Array v?:=#[.chan<|cl 0,.chan<|cl 1,.chan<|cl 2,.chan<|cl 3,.chan<|cl 4,.chan<|cl 5,.chan<|cl 6]
def SO(v:v?):Prop:=∃(a b:Int)(c:b?)(d:Bool)(e f:b?)(g h:Int),v=.agg #[n? i? a,n? i? b,s? c,.bool d,s? e,s? f,n? i? g,n? i? h]
def xC(w:w?)(s:Nat)(B J O U v4 V v6 W:v?):w?:=(((((((w.setCell ⟨s,0,x?⟩ B).setCell ⟨s,1,x?⟩ J).setCell ⟨s,2,x?⟩ O).setCell ⟨s,3,x?⟩ U).setCell ⟨s,4,x?⟩ v4).setCell ⟨s,5,x?⟩ V).setCell ⟨s,6,x?⟩ v6).setCell ⟨s,7,x?⟩ W
def BX{w t f}(h:w.1[x9]?=y? (c? #[P,U,x0,x1,x2,x3,x4,x5] t f)):(xC w x9 g i l o p C I J).1[x9]?=y? (c? #[g,i,l,o,p,C,I,J] t f):=by unfold xC;rw[heap_set (heap_set (heap_set (heap_set (heap_set (heap_set (heap_set (heap_set h 0 g) 1 i) 2 l) 3 o) 4 p) 5 C) 6 I) 7 J];rfl
def Bu(w)(v0 v1 v2 v3 v4 v5 v6 v7)(h:x9≠f):(xC w f v0 v1 v2 v3 v4 v5 v6 v7).1[x9]?=w.1[x9]?:=by unfold xC;rw[ZH _ _ _ _ h,ZH _ _ _ _ h,ZH _ _ _ _ h,ZH _ _ _ _ h,ZH _ _ _ _ h,ZH _ _ _ _ h,ZH _ _ _ _ h,ZH _ _ _ _ h]
def yR(w)(s)(v0 v1 v2 v3 v4 v5 v6 v7):(xC w s v0 v1 v2 v3 v4 v5 v6 v7).1.size=w.1.size:=by unfold xC;simp
def sS(w:w?)(p)(v):(w.setCell p v).4=w.4:=by unfold World.setCell;split <;>(try split) <;>(try split)<;>rfl
def Gw(w)(s)(v0 v1 v2 v3 v4 v5 v6 v7):(xC w s v0 v1 v2 v3 v4 v5 v6 v7).4=w.4:=by unfold xC;simp only[sS]
def nb:Code->Nat->Code
 |.cond _ x _,0=>x|.cond _ _ y,n+1=>nb y n|_,_=>.skip
def Xu(c:Code):Code:=match c with
 |.seq _ (.seq _<|.seq _<|.block _ c)=>c|_=>.skip
def ZaK(Ey:Bool)(v x0 x2 x3 x4 x5 x6 x7 x8:v?):Nat->Array v?
 |0=>#[x0,.bool Ey,v,x3,x4,x5,x6,x7,x8]|1=>#[x0,.bool Ey,x2,v,x4,x5,x6,x7,x8]|2=>#[x0,.bool Ey,x2,x3,v,x5,x6,x7,x8]|3=>#[x0,.bool Ey,x2,x3,x4,v,x6,x7,x8]|4=>#[x0,.bool Ey,x2,x3,x4,x5,v,x7,x8]|5=>#[x0,.bool Ey,x2,x3,x4,x5,x6,v,x8]|_=>#[x0,.bool Ey,x2,x3,x4,x5,x6,x7,v]
def Tr{tmps:V?}{Ey w3 v3 v7}(B:w3.1[f]?=y? (c? #[n? i? y1,n? i? y2,s? x6,.bool v3,s? x7,s? x8,n? i? y3,n? i? v7] 172 (0,0)))(τ)(J:tmps[2]?=y? (n? i? y0))(O:tmps[3]?=y? (p?<|y? ⟨f,0,x?⟩))(U:tmps[4]?=y? (.bool Ey)) :
  (dN pi tmps).run prog (tp w3 τ)=.ok (.tuple #[n? i? y0,.agg #[n? i? y1,n? i? y2,s? x6,.bool v3,s? x7,s? x8,n? i? y3,n? i? v7],.bool Ey]) (tp w3 τ):=by
 have B:(tp w3 τ).1[f]?=y? _:=B;generalize tp w3 τ=w4 at *;have V:=dx B 0;have f0:=dO B 0;have W:=dx B 1;have f1:=dO B 1;have Y:=dx B 2;have f2:=dO B 2;have e3:=dx B 3;have f3:=dO B 3;have e4:=dx B 4;have f4:=dO B 4;have e5:=dx B 5;have f5:=dO B 5;have e6:=dx B 6;have f6:=dO B 6;have e7:=dx B 7;have f7:=dO B 7;simp[dN,results123,go_sem,V,W,Y,e3,e4,e5,e6,e7,J,O,U]
def zX{Z:oJ prog}{w}{T:List Frame}{K lent fn}{tm:V?}{os:List OF}{wl:w?}{V:List<|Nat×Option (L?)}{k:List Item}{ops:Array Oper}{i}{rest:List Nat}{o:Oper}{s Ey}{a1 ac ad ae af ag ah ai aj ak al am an ao ap aq ar au av aw ax ay az a0 a2 a3 a4 a5 a6 a7 a8 a9 a' aA aB aC aD aE aF aG aH aI aJ aK aL aM aN aO aP aQ aR aS aT aU aV aW aX aY aZ x0 x2 x3 x4 x5 x6 x7 x8:v?}{v2:b?}{v3}{v4 v5:b?}{v7}(j:Nat)(hj:j<7)(hi:ops[i]?=y? o)(z1:wl.1.size=s+1)(B:wl.1[s]?=y? (c? #[n? i? 0,n? i? 0,s? ⟨#[]⟩,.bool f?,s? ⟨#[]⟩,s? ⟨#[]⟩,n? i? 0,n? i? 0] 172 (0,0)))
  (hn:∀w2:w?,w2.1.size=s+1->(∀r,r<s->w2.1[r]?=wl.1[r]?)->w2.4=wl.4->dv (qw prog Z w T f x9 K lent) (⟨fn,fV o.1 tm<|.tuple #[n? i? (j:Int),.agg #[n? i? y0,n? i? y2,s? v2,.bool v3,s? v4,s? v5,n? i? y3,n? i? v7],.bool Ey],r? ops rest::k⟩::os) w2 V) :
  dv (qw prog Z w T f x9 K lent) (⟨123,#[g,a1,l,p?<|y? ⟨s,0,x?⟩,p,C,I,J,P,U,ac,x1,ad,ae,af,ag,ah,ai,aj,ak,al,am,an,ao,ap,aq,ar,au,av,aw,ax,ay,az,.tuple<|ZaK Ey (.agg #[n? i? y0,n? i? y2,s? v2,.bool v3,s? v4,s? v5,n? i? y3,n? i? v7]) x0 x2 x3 x4 x5 x6 x7 x8 j,a0,a2,a3,a4,a5,a6,a7,a8,a9,a',aA,aB,aC,aD,aE,aF,aG,aH,aI,aJ,aK,aL,aM,aN,aO,aP,aQ,aR,aS,aT,aU,aV,aW,aX,aY,aZ],[.code<|nb (Xu<|eG pi) j,.inBlock 0]⟩::⟨fn,tm,r? ops (i::rest)::k⟩::os) wl V:=by
 obtain⟨P1,W⟩:∃x,wl.4=x:=⟨_,q?⟩;obtain⟨H0,h0⟩:∃x,wl.1=x:=⟨_,q?⟩;rw[W,h0]at hn;have Y:∀r,r<s->wl.1[r]?=H0[r]?:=λr _=>by rw[h0]
 clear h0;have HC:=h! hn;clear hn;rcases(o!:j=0\/j=1\/j=2\/j=3\/j=4\/j=5\/j=6)with rfl|rfl|rfl|rfl|rfl|rfl|rfl
 all_goals
  show dv _ (⟨_,_,[.code<|.seq (.region _ _ f?)<|.seq (.region _ _ t?) .ret,.inBlock 0]⟩::_) _ _;dsimp only[ZaK];apply dv.seq;refine li k! q? (.inl i!) λy1 ab O=>?_;rw[<-ab]at z1 Y B;have W:=O.trans W;clear ab O;have e0:=dx B 0;have f0:=dO B 0;have e1:=dx B 1;have f1:=dO B 1;have e2:=dx B 2;have f2:=dO B 2;have e3:=dx B 3;have f3:=dO B 3;have e4:=dx B 4;have f4:=dO B 4;have e5:=dx B 5;have f5:=dO B 5;have e6:=dx B 6;have f6:=dO B 6;have e7:=dx B 7;have f7:=dO B 7;have HZ:=h!<|A? z1<|A? Y W;have HG:=B;clear z1 Y W B;go_wp2;apply ja;clear e0 e1 e2 e3 e4 e5 e6 e7 f0 f1 f2 f3 f4 f5 f6 f7;obtain⟨z1,Y,W⟩:=HZ.o;obtain⟨w2,hw2⟩:∃w2,w2=xC y1 s (n? i? y0) (n? i? y2) (s? v2) (.bool v3) (s? v4) (s? v5) (n? i? y3) (n? i? v7):=⟨_,q?⟩;replace z1:w2.1.size=s+1:=by rwa[hw2,yR]
  replace Y:∀r,r<s->w2.1[r]?=H0[r]?:=λr hr=>by rw[hw2,Bu _ _ _ _ _ _ _ _ _ o!];exact Y r hr
  have B:w2.1[s]?=y? (c? #[n? i? y0,n? i? y2,s? v2,.bool v3,s? v4,s? v5,n? i? y3,n? i? v7] 172 (0,0)):=by rw[hw2];exact BX HG
  replace W:w2.4=P1:=by rwa[hw2,Gw]
  unfold xC at hw2;rw[<-hw2];clear hw2 HZ HG;apply dv.seq;refine li k! q? (.inl i!) λy1 ab O=>?_;rw[<-ab]at z1 Y B;have W:=O.trans W;clear ab O;have e0:=dx B 0;have f0:=dO B 0;have e1:=dx B 1;have f1:=dO B 1;have e2:=dx B 2;have f2:=dO B 2;have e3:=dx B 3;have f3:=dO B 3;have e4:=dx B 4;have f4:=dO B 4;have e5:=dx B 5;have f5:=dO B 5;have e6:=dx B 6;have f6:=dO B 6;have e7:=dx B 7;have f7:=dO B 7;have HZ:=h!<|A? z1<|A? Y W;have HG:=B;clear z1 Y W B;go_region;apply ja;clear e0 e1 e2 e3 e4 e5 e6 e7 f0 f1 f2 f3 f4 f5 f6 f7;obtain⟨z1,Y,W⟩:=HZ.o;obtain⟨w2,hw2⟩:∃w2,w2=xC y1 s (n? i? y0) (n? i? y2) (s? v2) (.bool v3) (s? v4) (s? v5) (n? i? y3) (n? i? v7):=⟨_,q?⟩;replace z1:w2.1.size=s+1:=by rwa[hw2,yR]
  replace Y:∀r,r<s->w2.1[r]?=H0[r]?:=λr hr=>by rw[hw2,Bu _ _ _ _ _ _ _ _ _ o!];exact Y r hr
  have B:w2.1[s]?=y? (c? #[n? i? y0,n? i? y2,s? v2,.bool v3,s? v4,s? v5,n? i? y3,n? i? v7] 172 (0,0)):=by rw[hw2];exact BX HG
  replace W:w2.4=P1:=by rwa[hw2,Gw]
  unfold xC at hw2;rw[<-hw2];clear hw2 HZ HG;obtain⟨w3,aa⟩:∃w3,w3=w2.drew:=⟨_,q?⟩;replace B:w3.1[s]?=y? (c? #[n? i? y0,n? i? y2,s? v2,.bool v3,s? v4,s? v5,n? i? y3,n? i? v7] 172 (0,0)):=by rwa[aa]
  have HC:=HC.o w3 (by rwa[aa]) (λr hr=>by rw[aa];exact Y r hr) (by rwa[aa]);rw[<-aa];clear aa z1 Y W;exact dv.back (.inr ⟨_,q?⟩) func123 hi (λτ=>Tr B τ q? q? q?) HC
end
section
open Conc RowKit Maps
def EV{v}(h:SO v):Flat v:=by
 obtain⟨a,b,c,d,e,f,g,h,rfl⟩:=h;refine .agg λi B=>?_;have:=B;match i,this with
 |0,_|1,_|6,_|7,_=>exact .int ..|2,_|4,_|5,_=>exact .string _|3,_=>exact .bool _
def RL:SO Ts:=⟨0,0,⟨#[]⟩,f?,⟨#[]⟩,⟨#[]⟩,0,0,q?⟩
def Qo{Z:oJ prog}{w}{T:List Frame}{dd q K lent fn}{tm:V?}{os:List OF}{wl:w?}{V:List<|Nat×Option (L?)}{k:List Item}{ops:Array Oper}{i}{rest:List Nat}{o}{cl:Nat->Option Nat}(b s)(hs:s=wl.1.size)(ab:b<s)(hi:ops[i]?=y? o)(hb:wl.1[b]?=y? (c? (yk cl) 125 (0,0)))
  (kO:∀k r,k<7->cl k=y? r->∃vs,(r,y? vs)∈V) (wK:∀k k' r,k<7->k'<7->cl k=y? r->cl k'=y? r->k=k') (O:∃k r,k<7/\cl k=y? r) (iS:(V.map qr).Nodup) (h8:∀r vs,(r,y? vs)∈V->∀v∈vs,SO v)
  (hv:∀(k' r)v vs(w2:w?),k'<7->cl k'=y? r->(r,y? (v::vs))∈V->w2.1.size=s+1->(∀r,r<s->w2.1[r]?=wl.1[r]?)->w2.4=wl.4->dv (qw prog Z w T dd q K lent) (⟨fn,fV o.1 tm<|.tuple #[n? i? k',v,.bool t?],r? ops rest::k⟩::os) w2 (xN V r vs))
  (he:∀(k' r)(w2:w?),k'<7->cl k'=y? r->(r,y? [])∈V->w2.1.size=s+1->(∀r,r<s->w2.1[r]?=wl.1[r]?)->w2.4=wl.4->dv (qw prog Z w T dd q K lent) (⟨fn,fV o.1 tm<|.tuple #[n? i? k',Ts,.bool f?],r? ops rest::k⟩::os) w2 (A0 V r)) :
  dv (qw prog Z w T dd q K lent) (⟨123,#[p?<|y? ⟨b,0,x?⟩,sp,sp,sp,sp,sp,sp,sp,sp,sp,sp,sp,sp,sp,sp,sp,sp,sp,sp,sp,sp,sp,sp,sp,sp,sp,sp,sp,sp,sp,sp,sp,sp,sp,sp,sp,sp,sp,sp,sp,sp,sp,sp,sp,sp,sp,sp,sp,sp,sp,sp,sp,sp,sp,sp,sp,sp,sp,sp,sp,sp,sp,sp,sp,sp,sp,sp,sp,sp,sp],[.code<|eG pi]⟩::⟨fn,tm,r? ops (i::rest)::k⟩::os) wl V:=by
 show dv _ (⟨_,_,[.code<|.seq (.region 0 _ f?)<|.seq (.seq (.region 1 _ f?)<|.seq (.region 2 _ f?)<|.seq (.region 3 _ f?)<|.seq (.region 4 _ f?)<|.seq (.region 5 _ f?)<|.seq (.region 6 _ f?)<|.region 7 _ f?)<|.seq (.region 8 _ f?)<|.block 0 _]⟩::_) _ _
 have HC:J? ((∀(k' r:Nat)v vs(w2:w?),k'<7->cl k'=y? r->(r,y? _)∈V->w2.1.size=s+1->(∀r,r<s->w2.1[r]?=wl.1[r]?)->w2.4=wl.4->dv _ _ w2 _)/\
  (∀(k' r:Nat)(w2:w?),k'<7->cl k'=y? r->(r,y? [])∈V->w2.1.size=s+1->(∀r,r<s->w2.1[r]?=wl.1[r]?)->w2.4=wl.4->dv _ _ w2 _)/\
  (∀k r,k<7->cl k=y? r->∃vs,(r,y? vs)∈V)/\(∀k k' r,k<7->k'<7->cl k=y? r->cl k'=y? r->k=k')/\(∃k r,k<7/\cl k=y? r)/\(V.map _).Nodup/\(∀r vs,(r,y? vs)∈V->∀v∈vs,SO v)):=⟨hv,he,kO,wK,O,iS,h8⟩
 have HS:J?<|s=wl.1.size/\b<s:=⟨hs,ab⟩;have HB:=h! hb;clear hv he kO wK O iS h8 hs ab hb;apply dv.seq;refine li k! q? (.inl i!) λy0 B J=>?_;have HY:J?<|y0.1=wl.1/\y0.4=wl.4:=⟨B,J⟩;clear B J;go_wp2;apply ja;obtain⟨B,J⟩:=HY.o;obtain⟨w3,U⟩:∃w3,w3=y0.alloc (c? #[n? i? 0,n? i? 0,s? ⟨#[]⟩,.bool f?,s? ⟨#[]⟩,s? ⟨#[]⟩,n? i? 0,n? i? 0] 172):=⟨_,q?⟩;have Y:y0.1.size=s:=by rw[B];exact HS.1.symm
 have z3:w3.1.size=s+1:=by rw[U];simp[Y]
 have o3:∀r,r<s->w3.1[r]?=wl.1[r]?:=λr W=>by rw[U,jO _ _ (by rw[Y];omega),B]
 have g0:w3.1[s]?=y? (c? #[n? i? 0,n? i? 0,s? ⟨#[]⟩,.bool f?,s? ⟨#[]⟩,s? ⟨#[]⟩,n? i? 0,n? i? 0] 172 (0,0)):=by rw[U,lX _ _ Y.symm]
 have p3:w3.4=wl.4:=by rwa[U]
 rw[<-U,Y];clear U B J Y HY y0;have gb:w3.1[b]?=y? (c? (yk cl) 125 (0,0)):=by rw[o3 b HS.2];exact HB
 apply dv.seq;refine li k! q? (.inl i!) λy0 B J=>?_;have d0:C? y0 ⟨b,0,x?⟩=y? (.chan<|cl 0):=by rw[dx<|by rwa[B]];rfl
 have d1:C? y0 ⟨b,1,x?⟩=y? (.chan<|cl 1):=by rw[dx<|by rwa[B]];rfl
 have d2:C? y0 ⟨b,2,x?⟩=y? (.chan<|cl 2):=by rw[dx<|by rwa[B]];rfl
 have d3:C? y0 ⟨b,3,x?⟩=y? (.chan<|cl 3):=by rw[dx<|by rwa[B]];rfl
 have d4:C? y0 ⟨b,4,x?⟩=y? (.chan<|cl 4):=by rw[dx<|by rwa[B]];rfl
 have d5:C? y0 ⟨b,5,x?⟩=y? (.chan<|cl 5):=by rw[dx<|by rwa[B]];rfl
 have d6:C? y0 ⟨b,6,x?⟩=y? (.chan<|cl 6):=by rw[dx<|by rwa[B]];rfl
 have HY:J?<|y0.1=w3.1/\y0.4=w3.4:=⟨B,J⟩;have HW:J?<|w3.1.size=s+1/\(∀r,r<s->w3.1[r]?=wl.1[r]?)/\w3.1[s]?=y? _/\w3.4=wl.4:=⟨z3,o3,g0,p3⟩;clear B J z3 o3 g0 p3 gb;go_wp2;apply ja;clear d0 d1 d2 d3 d4 d5 d6;obtain⟨z3,o3,g0,p3⟩:=HW.o;obtain⟨B,J⟩:=HY.o;rw[<-B]at z3 o3 g0;have p3:=J.trans p3;clear B J HY HW;let ⟨hv,he,kO,wK,O,iS,h8⟩:=HC.o;refine dv.seq<|dv.region ?_;refine dv.select (i:=0) (x0:=8) (x1:=12) (x2:=16) (x3:=20) (x4:=24) (x5:=28) (x6:=32) (z:=Ts) (cl:=cl) q? q? (λac w=>k!) (EV RL) q? q? q? q? q? q? q? kO wK O iS (λr vs W v hv=>EV<|h8 r vs W v hv) ?_ ?_
 .intro k' r v vs aa W hm;have hn:=λw2 a b c=>hv k' r v vs w2 aa W hm a b c;obtain⟨v0,v1,v2,v3,v4,v5,v6,v7,rfl⟩:=h8 r _ hm v<|ZT ..;have HN:=h! hn;clear hv he kO wK O iS h8 HC hn hm HS HB;rcases(o!:k'=0\/k'=1\/k'=2\/k'=3\/k'=4\/k'=5\/k'=6)with rfl|rfl|rfl|rfl|rfl|rfl|rfl
  all_goals
   rw[kA];simp only[DG,goInt];go_simp
   iterate 8 (refine fO ?_;go_simp)
   refine dv.inRegion<|dv.block ?_
   repeat refine dv.ni trivial q? ?_
   refine dv.rG trivial q? ?_;apply zX _ d! hi z3 g0 λw2 a b c=>HN.o w2 a (λr W=>(b r W).trans<|o3 r W)<|c.trans p3;exact sp
 intro k' r aa W hm;have hn:=λw2 a b c=>he k' r w2 aa W hm a b c;have HN:=h! hn;clear hv he kO wK O iS h8 HC hn hm HS HB;rcases(o!:k'=0\/k'=1\/k'=2\/k'=3\/k'=4\/k'=5\/k'=6)with rfl|rfl|rfl|rfl|rfl|rfl|rfl
 all_goals
  rw[kA];simp only[DG,goInt,Ts];go_simp
  iterate 8 (refine fO ?_;go_simp)
  refine dv.inRegion<|dv.block ?_
  repeat refine dv.ni trivial q? ?_
  refine dv.rG trivial q? ?_;apply zX _ d! hi z3 g0 λw2 a b c=>HN.o w2 a (λr W=>(b r W).trans<|o3 r W)<|c.trans p3;exact sp
end
section
open RowKit Maps
variable {f:P?}{g C:List (v?×v?)}{i I:Nat}{o:w?}
structure Jl(P:P?)(k:dw)(D:DataW v?)(l:List (v?×v?)):Prop where
 nodup:(l.map qr).Nodup
 ok:∀p∈l,∃kl,fi P k p.1=some kl
 size:Maps.size D=l? l
 has:∀key kl,fi P k key=some kl->(Maps.has D kl=true↔∃p∈l,p.1=key)
 at_:∀p∈l,∀kl,fi P k p.1=some kl->∀z,D.atKey kl z=.held p.2
def lI(P:P?)(k:dw)(w:w?)(B:Nat)(l:List<|v?×v?):Prop:=∃D:DataW v?,w.ownsMap P k mT B l.length D/\Jl P k D l
def ij(P:P?)(k:dw)(w:w?)(B r:Nat)(l rest:List<|v?×v?):Prop:=
 (rest.map qr).Nodup/\(∀p∈rest,p∈l)/\∃D left cnt,w.ranges P k mT B r l.length D left cnt/\Jl P k D l/\∀key J,fi P k key=y? J->(left J=t?↔∃p∈rest,p.1=key)
def Jl.perm{k D}(h:Jl f k D g)(B:g.Perm C):Jl f k D C where
 nodup:=(B.map qr).nodup_iff.1 h.1
 ok:=λp hm=>h.2 p<|B.mem_iff.2 hm;size:=by rw[h.3,B.length_eq]
 has:=λkey J O=>(h.4 key J O).trans ⟨λ⟨p,a,b⟩=>⟨p,B.mem_iff.1 a,b⟩,λ⟨p,a,b⟩=>⟨p,B.mem_iff.2 a,b⟩⟩;at_:=λp hm=>h.5 p<|B.mem_iff.2 hm
def lI.perm{k}(h:lI f k o i g)(B:g.Perm C):lI f k o i C:=by obtain⟨D,O,J⟩:=h;exact⟨D,by rwa[<-B.length_eq],J.perm B⟩
def lI.lt{k}(h:lI f k o i g):i<o.1.size:=by obtain⟨D,B,_⟩:=h;exact B.lt
def lI.stay{k w'}(h:lI f k o i g)(hb:w'.1[i]?=o.1[i]?):lI f k w' i g:=by obtain⟨D,⟨es,clock,B,J⟩,O⟩:=h;exact⟨D,⟨es,clock,hb.trans B,J⟩,O⟩
def lI.below{k w}(h:lI f k w i g)(hb:B? w o):lI f k o i g:=h.stay<|hb.5 i h.lt
def lI.made{k}(w:w?):lI f k (w.alloc<|.map #[] 0) w.1.size []:=
 ⟨.map [],World.ownsMap_made ..,⟨List.Pairwise.nil,nofun,q?,λ_ _ _=>⟨λh=>(by simp[Maps.has]at h),nofun⟩,nofun⟩⟩
def lI.put{k t e key kl}(h:lI f k o i g)(K:Keyed f k)(ht:f.underlying t=y? (.map k e))(hn:l? g<dq)(iV:fi f k key=y? kl)(B:∀p∈g,p.1≠key)(v) :
  ∃w',(Instr.mapUpdate t (.map<|y? i) key v).run f o=.ok () w'/\lI f k w' i (g++[(key,v)])/\o.grownBy w' (y? i)/\w'.1.size=o.1.size:=by
 obtain⟨D,Y,U⟩:=h;obtain⟨w',hr,ho,V⟩:=Y.store K ht hn iV (val:=v) rfl
 have ab:Maps.has D kl=f?:=by
  cases hh:Maps.has D kl with
  |false=>rfl|true=>obtain⟨p,J,e⟩:=(U.4 key kl iV).1 hh;exact absurd e<|B p J
 have W:Maps.size (D.put kl<|.held v)=(g++[(key,v)]).length:=by rw[size_put<|Y.tidy K,ab,U.3];simp
 refine⟨w',hr,⟨_,by rw[<-W];exact BD ho,⟨?_,?_,W,?_,?_⟩⟩,V.grown,?_⟩;rw[Z4,ZK,ZU,Zn];refine⟨U.1,i!,?_⟩;intro a ha b hb;simp only[Zg]at hb;subst hb;obtain⟨p,J,rfl⟩:=Zv.1 ha;exact B p J;intro p J;obtain h|h:=Z3.1 J
 exact U.2 p h;simp only[Zg]at h;subst h;exact⟨kl,iV⟩;intro y ly hy;by_cases e:ly=kl;subst e;rw[has_put_same Y.isMap<|K.1 iV];exact⟨λ_=>⟨(key,v),i!,K.3 iV hy⟩,λ_=>rfl⟩;rw[has_put_other e,U.4 y ly hy];constructor;rintro⟨p,J,e⟩;exact⟨p,List.mem_append_left _ J,e⟩;rintro⟨p,J,e2⟩;obtain h|h:=Z3.1 J
 exact⟨p,h,e2⟩;simp only[Zg]at h;subst h;rw[<-e2,iV]at hy;exact absurd (u! hy.symm) e;intro p J lp O z;obtain h|h:=Z3.1 J
 rw[atKey_put_other (λe=>by subst e;exact B p h<|K.3 O iV)];exact U.5 p h lp O z;simp only[Zg]at h;subst h;rw[iV]at O;simp only[m?]at O;subst O;rw[atKey_put_same Y.isMap<|K.1 iV];obtain⟨es,clock,ac,aa,_,rfl⟩:=V;simp[ChangeMaps.setBlock]
def ij.owns{k}(h:ij f k o i I g C):lI f k o i g:=by obtain⟨_,_,D,left,cnt,B,J,_⟩:=h;exact⟨D,B.owns,J⟩
def ij.lt{k}(h:ij f k o i I g C):I<o.1.size:=by obtain⟨_,_,D,left,cnt,B,J,_⟩:=h;exact B.lt
def ij.stay{k w'}(h:ij f k o i I g C)(J:w'.1[i]?=o.1[i]?)(O:w'.1[I]?=o.1[I]?):ij f k w' i I g C:=by obtain⟨a,b,D,left,cnt,⟨es,clock,B,dS,c0,U,V,W,Y,g5,g6⟩,h2,h3⟩:=h;exact⟨a,b,D,left,cnt,⟨es,clock,B,dS,c0,J.trans U,V,W,Y,O.trans g5,g6⟩,h2,h3⟩
def lI.range{k t e}(h:lI f k o i g)(K:Keyed f k)(J:f.underlying t=y? (.map k e)) :
  ∃w',(Instr.range t<|.map<|y? i).run f o=.ok (p?<|y? ⟨o.1.size,0,x?⟩) w'/\ij f k w' i o.1.size g g/\o.grownBy w' x?/\w'.1.size=o.1.size+1:=by
 obtain⟨D,O,B⟩:=h;obtain⟨w',U,V,W,Y⟩:=O.range K J;exact⟨w',U,⟨B.1,λ_ h=>h,D,_,_,V,B,B.4⟩,W,Y⟩
def ij.next{k}(h:ij f k o i I g C)(K:Keyed f k)(ty) :
  (C=[]/\(rv (p?<|y? ⟨I,0,x?⟩) f? ty).run f o=.ok (.tuple #[.bool f?]) o)\/
  ∃p B w',C.Perm (p::B)/\(rv (p?<|y? ⟨I,0,x?⟩) f? ty).run f o=.ok (.tuple #[.bool t?,p.1,p.2]) w'/\ij f k w' i I g B/\w'.rangeLeft i I<o.rangeLeft i I/\
   o.grownBy w' (y? I)/\w'.1.size=o.1.size/\(rt<|p?<|y? ⟨I,0,x?⟩).run f w'=.ok (.tuple #[p.1,p.2]) w':=by
 obtain⟨hn,J,D,left,cnt,h1,h2,h3⟩:=h;obtain⟨_,hl,hr⟩|⟨key,v,Y,y,w',aa,iV,af,hv,ag,hr,ab,al,hg,hs,ah⟩:=h1.next K ty
 left;refine⟨?_,hr⟩
 cases C with
 |nil=>rfl|cons p C=>obtain⟨Y,ai⟩:=h2.2 p<|J p i!;have:=(h3 _ Y ai).2 ⟨p,i!,q?⟩;rw[hl Y]at this;cases this
 right;obtain⟨p,hp,aj⟩:=(h3 key Y iV).1 af;subst aj
 have ak:=by have e1:=h2.5 p (J p hp) Y iV<|.held v;rw[ag]at e1;simp only[mT,m?]at hv;rw[<-hv]at e1;simpa using e1
 subst ak;obtain⟨x,z,rfl⟩:=bJ hp;have O:(x++p::z).Perm _:=p!;have W:=(O.map _).nodup_iff.1 hn;rw[ZK,Z2]at W;refine⟨p,x++z,w',O,hr,⟨W.2,λq V=>J q<|O.mem_iff.2<|ZG _ V,D,_,aa,ab,h2,λac ad U=>?_⟩,?_,hg,hs,ah⟩;rw[IT,h3 ac ad U];constructor;rintro⟨⟨q,V,e⟩,ae⟩;obtain rfl|V:=Zm.1<|O.mem_iff.1 V
 rw[e,U]at iV;simp only[m?]at iV;subst iV;rw[WideAt.sameKey_self<|K.1 U]at ae;cases ae;exact⟨q,V,e⟩;rintro⟨q,V,e⟩;refine⟨⟨q,O.mem_iff.2<|ZG _ V,e⟩,?_⟩
 have:ad≠Y:=λe2=>by subst e2;have:=K.3 U iV;exact W.1<|Zv.2 ⟨q,V,e.trans this⟩
 rw[sameKey_ne this];rfl;rwa[ab.left_eq,h1.left_eq]
def Ef{k}(w){ops rest}{o:Oper}{a:Act}{Q}(U:o.6=x?)(m)(t)(J:o.2=Op.range t m)(e)(K:Keyed f k)(V:f.underlying t=y? (.map k e))
  (hm:a.eval m=.map (y? i)) (h:lI f k w i g)
  (W:∀w',ij f k w' i w.1.size g g->w.grownBy w' x?->w'.1.size=w.1.size+1->dB f ops Q rest (a.put o.1<|p?<|y? ⟨w.1.size,0,x?⟩) w') :
  dB f ops Q (o::rest) a w:=by
 refine ZW U λK' O=>?_;obtain⟨w',B,Y,r2,r3⟩:=h.range K V;unfold r5;simp[dl,J,hm,B,r4];exact O _ _<|W w' Y r2 r3
def FC{k}(w){ops rest}{o:Oper}{a:Act}{Q}(hg:o.6=x?)(it)(U:o.2=Op.next it f?)(K:Keyed f k)(r)(left)
  (V:a.eval it=p? (y? ⟨r,0,x?⟩)) (h:ij f k w i r g left)
  (O:left=[]->dB f ops Q rest (a.put o.1<|.tuple #[.bool f?]) w)
  (hMore:∀p B w',left.Perm (p::B)->ij f k w' i r g B->w'.rangeLeft i r<w.rangeLeft i r->w.grownBy w' (y? r)->w'.1.size=w.1.size->(rt<|p?<|y? ⟨r,0,x?⟩).run f w'=.ok (.tuple #[p.1,p.2]) w'->
    dB f ops Q rest (a.put o.1<|.tuple #[.bool t?,p.1,p.2]) w') :
  dB f ops Q (o::rest) a w:=by
 refine ZW hg λK' W=>?_;unfold r5;obtain⟨h0,J⟩|⟨p,B,w',hp,J,Y,aa,ab,ac,ad⟩:=h.next K o.3
 simp[dl,U,V,J,r4];exact W _ _<|O h0;simp[dl,U,V,J,r4];exact W _ _<|hMore p B w' hp Y aa ab ac ad
def Ke{k}(w){ops rest}{o:Oper}{a:Act}{Q key kl}(V:o.6=x?)(m x v)(t)(O:o.2=Op.mapUpdate t m x v)(e)(K:Keyed f k)(W:f.underlying t=y? (.map k e))
  (hm:a.eval m=.map (y? i)) (h:lI f k w i g) (Y:l? g<dq) (iV:fi f k key=y? kl) (B:∀p∈g,p.1≠key) (hx:a.eval x=key) (u) (hv:a.eval v=u)
  (hK:∀w',lI f k w' i (g++[(key,u)])->w.grownBy w' (y? i)->w'.1.size=w.1.size->dB f ops Q rest (a.put o.1 sp) w') :
  dB f ops Q (o::rest) a w:=by
 refine ZW V λK' U=>?_;obtain⟨w',J,r1,r2,r3⟩:=h.put K W Y iV B u;unfold r5;simp[dl,O,hm,hx,hv,J,r4];exact U _ _<|hK w' r1 r2 r3
def V3(a b:Nat):v?:=.agg #[n? i? (a:Int),n? i? (b:Int)]
def Yq:(match prog.underlying 170 with|some (.array _ _)|some (.struct _)=>t?|_=>f?)=t?:=by rw[ou]
def ZaM:170<prog.types.size:=of_decide_eq_true k!
def Gh:Keyed prog 170:=Keyed.of_law<|deep_law_laid Tryz.xn (m:=2) o! ZaM k! Yq
def O3:prog.cellsOf 170=2:=by kernel_rfl
def Ul:prog.cellsOf 3=1:=by kernel_rfl
def QX:prog.keyType 170=t?:=by kernel_rfl
def Jw(d)(n:Nat)(B:n<4611686018427387904):prog.keyLits (d+1) 3 [.int i? n]=y? [.int i? n]:=by unfold Program.keyLits;simp[underlying3,Lit.wf,IntKind.min,IntKind.max,IntKind.bits,IntKind.signed];omega
def Y6(a b)(B:a<4611686018427387904)(hb:b<4611686018427387904):∃l,fi prog 170 (V3 a b)=y? l:=by
 obtain⟨d,J⟩:=NQ;unfold fi V3;rw[QX,J];have O:(Value.agg #[.int i? a,.int i? b]).formed prog 170=t?:=by simp[Value.formed,ou,O3]
 rw[O];unfold Program.keyLits;simp[ou,O3,Ul,rz,Jw d a B,Jw d b hb]
end
section
open Conc RowKit Maps
variable {f J:Nat}{i U:L?}{o:w?}{C:v?}{I:Os}
abbrev Vs:=List (Nat×Option (L?))
def vk(V:Vs):List v?:=V.flatMap λx=>x.2.getD []
variable {g P:Vs}
def Ma{a:Option<|L?}(h:((g++(f,a)::P).map qr).Nodup):xN (g++(f,a)::P) f i=g++(f,y? i)::P:=by
 rw[Z4,ZK,Zn,Z2]at h;obtain⟨U,⟨J,V⟩,O⟩:=h;unfold xN;rw[Z4,ZK,if_pos rfl];congr 1
 conv=>rhs;rw[<-cI g]
 refine ZM λx B=>?_;rw[if_neg λe=>O _ (Zv.2 ⟨x,B,q?⟩) f i! e];rfl;congr 1;conv=>rhs;rw[<-cI P]
 refine ZM λx B=>?_;rw[if_neg λe=>J<|Zv.2 ⟨x,B,e⟩];rfl
def Nj{a:Option<|L?}(h:((g++(f,a)::P).map qr).Nodup):A0 (g++(f,a)::P) f=g++P:=by rw[Z4,ZK,Zn,Z2]at h;obtain⟨U,⟨J,V⟩,O⟩:=h;unfold A0;rw[Zj,A!,if_neg i!];congr 1;rw[ZO];intro x B;simpa using λe=>O _ (Zv.2 ⟨x,B,q?⟩) f i! e;rw[ZO];intro x B;simpa using λe=>J<|Zv.2 ⟨x,B,e⟩
def uz(J:(g.map qr).Nodup)(h:(f,y? (C::i))∈g):(vk g).Perm (C::vk (xN g f i))/\(xN g f i).length=l? g/\(xN g f i).map qr=g.map qr/\∀x∈xN g f i,x∈g\/x=(f,y? i):=by
 obtain⟨X,Y,rfl⟩:=bJ h;rw[Ma J];refine⟨?_,i!,i!,?_⟩;unfold vk;simp only[List.flatMap_append,List.flatMap_cons,I!,List.cons_append];exact p!;intro x B;simp only[Z3,Zm]at B⊢;obtain h|h|h:=B
 exact .inl (.inl h);exact .inr h;exact .inl (.inr<|.inr h)
def BO(J:(g.map qr).Nodup)(h:(f,y? [])∈g):(vk g).Perm (vk<|A0 g f)/\(A0 g f).length+1=l? g/\((A0 g f).map qr).Nodup/\∀x∈A0 g f,x∈g/\x.1≠f:=by obtain⟨X,Y,rfl⟩:=bJ h;have B:=Nj J;refine⟨?_,?_,?_,?_⟩;rw[B];unfold vk;simp;rw[B];simp;omega;rw[B];refine J.sublist<|List.Sublist.map _ ?_;exact List.Sublist.append_left (List.sublist_cons_self ..) X;intro x O;have:=Zb.1 O;exact⟨this.1,u! this.2⟩
def Met(v:v?):Prop:=∃(a b:Nat)(c:b?)(d:Bool)(e f:b?)(g h:Int),a<4611686018427387904/\b<4611686018427387904/\v=.agg #[n? i? (a:Int),n? i? (b:Int),s? c,.bool d,s? e,s? f,n? i? g,n? i? h]
def Met.ZbK(h:Met C):SO C:=by obtain⟨a,b,c,d,e,f,g,h,_,_,rfl⟩:=h;exact⟨a,b,c,d,e,f,g,h,q?⟩
def Sf:v?->v?
 |.agg a=>.agg #[a.getD 0 sp,a.getD 1 sp]|v=>v
def Met.dF(h:Met C):∃B,fi prog 170 (Sf C)=y? B:=by obtain⟨a,b,c,d,e,f,g,h,J,hb,rfl⟩:=h;exact Y6 a b J hb
structure wm(M0:L?)(H0:Array Obj)(P0:Os)(b mb:Nat)(cl:Nat->Option Nat)(l:List (v?×v?))(V:Vs)(wl:w?):Prop where
 hb:wl.1[b]?=some (.cells (yk cl) 125 (0,0))
 LW:b<mb
 hm:lI prog 170 wl mb l
 kO:∀k r,k<7->cl k=some r->∃vs,(r,some vs)∈V
 fu:∀x∈V,∃k vs,k<7/\cl k=some x.1/\x.2=some vs
 wK:∀k k' r,k<7->k'<7->cl k=some r->cl k'=some r->k=k'
 iS:(V.map qr).Nodup
 fL:(l.map qs++vk V).Perm M0
 iV:∀p∈l,p.1=Sf p.2
 old:∀r,r<mb->r≠b->wl.1[r]?=H0[r]?
 os:wl.4=P0
structure S8(M0:L?):Prop where
 met:∀v∈M0,Met v
 nodup:(M0.map Sf).Nodup
 len:l? M0<dq
def wm.h8{H0 P0 b cl l}(G:S8 i)(I:wm i H0 P0 b f cl l g o):∀r vs,(r,y? vs)∈g->∀v∈vs,Met v:=λr vs h v B=>G.1 v<|I.8.mem_iff.1<|Z' _<|r!.2 ⟨_,h,B⟩
def wm.ZaU{H0 P0 b cl l}(I:wm i H0 P0 b f cl l g o)(h:g≠[]):∃k r,k<7/\cl k=y? r:=by
 cases g with
 |nil=>exact absurd q? h|cons x g=>obtain⟨k,vs,B,J,_⟩:=I.5 x i!;exact⟨k,x.1,B,J⟩
def wm.fresh{H0 P0 b cl l}(G:S8 i)(I:wm i H0 P0 b f cl l g o)(h:(J,y? (C::U))∈g):(∀p∈l,p.1≠Sf C)/\l? l<dq:=by obtain⟨V,_⟩:=uz I.7 h;have O:=((I.8.symm.trans<|I? _ V).map Sf).nodup_iff.1 G.2;constructor;intro p B e;rw[Z4,Zn]at O;exact O.2.2 _ (Zv.2 ⟨p.2,Zv.2 ⟨p,B,q?⟩,q?⟩) _ i!<|(I.9 p B).symm.trans e;have:=I.8.length_eq;have W:=G.3;simp only[Zh,Z5]at this;omega
def wm.take{H0 P0 b cl l}(I:wm i H0 P0 b f cl l g o)(h:(J,y? (C::U))∈g){w2}(hm:lI prog 170 w2 f<|l++[(Sf C,C)])(hold:∀J,J<f->w2.1[J]?=o.1[J]?)(Y:w2.4=o.4) :
  wm i H0 P0 b f cl (l++[(Sf C,C)]) (xN g J U) w2:=by
 obtain⟨hp,h1,h2,h3⟩:=uz I.7 h
 have B:∀r' vs',(r',y? vs')∈g->∃O,(r',y? O)∈xN g J U:=λr' vs' V=>by by_cases e:r'=J;subst e;exact⟨U,Zv.2 ⟨_,h,if_pos q?⟩⟩;exact⟨vs',Zv.2 ⟨_,V,if_neg e⟩⟩
 refine⟨(hold b I.2).trans I.1,I.2,hm,λk r' hk hr=>?_,λx hx=>?_,I.6,by rw[h2];exact I.7,?_,?_,λr' W aa=>(hold r' W).trans<|I.10 r' W aa,Y.trans I.os⟩;obtain⟨vs',V⟩:=I.4 k r' hk hr;exact B r' vs' V;obtain V|rfl:=h3 x hx
 exact I.5 x V;obtain⟨k,vs',a,b,_⟩:=I.5 _ h;exact⟨k,U,a,b,q?⟩;refine List.Perm.trans ?_ I.8;rw[Z4,Zq];exact I? _ hp.symm;intro p hp;obtain h|h:=Z3.1 hp
 exact I.9 p h;simp only[Zg]at h;subst h;rfl
def Bd(cl:Nat->Option Nat)(k':Nat):Nat->Option Nat:=λk=>if k=k' then x? else cl k
def Wv{cl}(h:f<7):(yk cl).set! f (.chan x?)=yk (Bd cl f):=by rcases(o!:f=0\/f=1\/f=2\/f=3\/f=4\/f=5\/f=6)with rfl|rfl|rfl|rfl|rfl|rfl|rfl<;>rfl
def wm.ends{H0 P0 b cl l}(I:wm i H0 P0 b f cl l g o){k'}(W:k'<7)(hr:cl k'=y? J)(h:(J,y? [])∈g){w2}(hb:w2.1[b]?=y? (c? (yk<|Bd cl k') 125 (0,0)))(hm:lI prog 170 w2 f l)(hold:∀J,J<f->J≠b->w2.1[J]?=o.1[J]?)(Y:w2.4=o.4) :
  wm i H0 P0 b f (Bd cl k') l (A0 g J) w2:=by
 obtain⟨hp,h1,h2,h3⟩:=BO I.7 h
 have O:∀k r',Bd cl k' k=y? r'->k≠k'/\cl k=y? r':=λk r' e=>by
  unfold Bd at e;split at e
  cases e;exact⟨a!,e⟩
 refine⟨hb,I.2,hm,λk U hk e=>?_,λx hx=>?_,λk k2 U a b e1 e2=>I.6 k k2 U a b (O _ _ e1).2 (O _ _ e2).2,h2,?_,I.9,λr' V B=>(hold r' V B).trans<|I.10 r' V B,Y.trans I.os⟩;obtain⟨B,e⟩:=O _ _ e;obtain⟨vs,h'⟩:=I.4 k U hk e;have:U≠J:=λe2=>B<|I.6 k k' U hk W e<|e2▸hr;exact⟨vs,Zb.2 ⟨h',u! this⟩⟩;obtain⟨aa,B⟩:=h3 x hx;obtain⟨k,vs,a,b,c⟩:=I.5 x aa;refine⟨k,vs,a,?_,c⟩;have:k≠k':=λe=>B (by rw[e,hr]at b;exact(l3 b).symm);unfold Bd;rwa[if_neg this];exact(I? _ hp.symm).trans I.8
end
section
open Conc RowKit Maps
section
variable {f:w?}{g:V?}{i:P?}
def Jk(c:Code):Code:=match c with
 |.seq _ (.seq _<|.seq (.block _<|.loop x) _)=>x|_=>.skip
def ZaJ(c:Code):Code:=match c with
 |.seq _ (.seq _<|.seq _ y)=>y|_=>.skip
def Rt:pi.1≠ "runtime.NumGoroutine":=by decide
def rM{E:Env i}{fn os}{V:List<|Nat×Option (L?)}{k x}(h:∀B,J? (B=k)->dv E (⟨fn,g,x::B⟩::os) f V):dv E (⟨fn,g,x::k⟩::os) f V:=h k rfl
def dv.sc{E:Env i}{fn os}{V:List<|Nat×Option (L?)}{k c d}(h:∀B,J? (B=.code d::k)->dv E (⟨fn,g,.code c::B⟩::os) f V):dv E (⟨fn,g,.code (.seq c d)::k⟩::os) f V:=dv.seq<|h _ q?
def dv.sr{E:Env i}{fn os}{V:List<|Nat×Option (L?)}{k id ops d}(h:∀B,J? (B=.code d::k)->dv E (⟨fn,g,r? ops (b6 ops.size)::B⟩::os) f V):dv E (⟨fn,g,.code (.seq (.region id ops f?) d)::k⟩::os) f V:=dv.seq<|dv.region<|h _ q?
def dv.ie{E:Env i}{fn os}{V:List<|Nat×Option (L?)}{k ops kk}(B:J?<|kk=k)(h:dv E (⟨fn,g,k⟩::os) f V):dv E (⟨fn,g,r? ops []::kk⟩::os) f V:=by rw[B.o];exact dv.inRegion h
def dv.su{P}{E:Env P}{fn os wl}{V:List<|Nat×Option (L?)}{k ops i rest o f iI c xs ts}(O:V?)(U:ops[i]?=y? o)(B:hO o (dk ops g)=t?)(W:P.2[f]?=y? iI)(hb:iI.9=y? c)(Y:iI.1≠ "runtime.NumGoroutine") (ho:o.2=.call {callee:=.value<|.func f,args:=xs,argTypes:=ts}) (J:∀x∈xs.1,eI E.7 E.5 x)
  (ha:xs.map (mE g)++cK (iI.7-xs.size) sp=O) (h:dv E (⟨f,O,[.code c]⟩::⟨fn,g,r? ops (i::rest)::k⟩::os) wl V):dv E (⟨fn,g,r? ops (i::rest)::k⟩::os) wl V:=
 dv.outer U B W hb Y ho J (by rwa[ha])
end
section
variable {f o:w?}{g l p i:Nat}{C I J P U x0 x1 x2 x3 x4 x5 x6 x7 x8 x9 y0 y1 y2 y3 y4 y5 y6 y7 y8 y9:v?}
def Zae(Z:oJ prog)(w:w?)(T:List Frame)(dd q K:Nat)(B:Bool)(J:L?)(O:Array Obj)(U:Os)(b mb:Nat)(f:v?->List OF):Prop:=∀(w2:w?)(l:List<|v?×v?),(l.map qs).Perm J->(∀p∈l,p.1=Sf p.2)->lI prog 170 w2 mb l->(∀r,r<mb->r≠b->w2.1[r]?=O[r]?)->w2.4=U->dv (qw prog Z w T dd q K B) (f<|.map<|y? mb) w2 []
def gR3(c:Code):Array Oper:=match c with
 |.seq _ (.block _<|.seq (.region _ ops _) _)=>ops|_=>#[]
def Ds{Z T K lent b Ey}{V:Vs}{wl:w?}{os' n k' kk a12 v0 v1}{v2:b?}{v3}{v4 v5:b?}{v6 v7}(z:wl.1.size=i)
  (hn:∀w2:w?,w2.1.size=i+1->(∀r,r<i->w2.1[r]?=wl.1[r]?)->w2.1[i]?=y? (c? #[n? i? v0,n? i? v1,s? v2,.bool v3,s? v4,s? v5,n? i? v6,n? i? v7] 172 (0,0))->w2.4=wl.4->dv (qw prog Z f T g l K lent) (⟨82,#[p?<|y? ⟨b,0,x?⟩,n? i? n,C,I,J,.map<|y? p,n? i? k',p?<|y? ⟨i,0,x?⟩,.bool Ey,x1,x2,x3,.tuple #[n? i? k',.agg #[n? i? v0,n? i? v1,s? v2,.bool v3,s? v4,s? v5,n? i? v6,n? i? v7],.bool Ey],p?<|y? ⟨b,0,x?⟩,.tuple #[n? i? k',.agg #[n? i? v0,n? i? v1,s? v2,.bool v3,s? v4,s? v5,n? i? v6,n? i? v7],.bool Ey],n? i? k',.agg #[n? i? v0,n? i? v1,s? v2,.bool v3,s? v4,s? v5,n? i? v6,n? i? v7],.bool Ey,x7,x8,x9,y1,y2,y3,y4,y5,y6,y7,y8,y9],kk⟩::os') w2 V) :
  dv (qw prog Z f T g l K lent) (⟨82,#[p?<|y? ⟨b,0,x?⟩,n? i? n,C,I,J,.map<|y? p,P,U,x0,x1,x2,x3,a12,p?<|y? ⟨b,0,x?⟩,.tuple #[n? i? k',.agg #[n? i? v0,n? i? v1,s? v2,.bool v3,s? v4,s? v5,n? i? v6,n? i? v7],.bool Ey],x4,x5,x6,x7,x8,x9,y1,y2,y3,y4,y5,y6,y7,y8,y9],r? (gR3<|Jk<|eG f82) [2,3,4,5,6,7,8,9]::kk⟩::os') wl V:=by
 have HN:=h! hn;clear hn;have HZ:=h! z;clear z;show dv _ (⟨_,_,r? #[_,_,_,_,_,_,_,_,_,_] _::_⟩::_) _ _
 (iterate 4 (refine fO ?_;go_simp));refine qo q? l! k! λy0 W B=>?_;have HY:J?<|y0.1=wl.1/\y0.4=wl.4:=⟨W,B⟩;clear W B;unfold lO;go_simp;simp only[iR];let ⟨W,B⟩:=HY.o;obtain⟨w5,Y⟩:∃w5,w5=y0.alloc (c? #[n? i? 0,n? i? 0,s? ⟨#[]⟩,.bool f?,s? ⟨#[]⟩,s? ⟨#[]⟩,n? i? 0,n? i? 0] 172):=⟨_,q?⟩;have aa:y0.1.size=i:=by rw[W];exact HZ
 have z5:w5.1.size=i+1:=by rw[Y];simp[aa]
 have o5:∀r,r<i->w5.1[r]?=wl.1[r]?:=λr hr=>by rw[Y,jO _ _<|by rwa[aa],W]
 have g5:w5.1[i]?=y? (c? #[n? i? 0,n? i? 0,s? ⟨#[]⟩,.bool f?,s? ⟨#[]⟩,s? ⟨#[]⟩,n? i? 0,n? i? 0] 172 (0,0)):=by rw[Y,lX _ _ aa.symm]
 have p5:w5.4=wl.4:=by rwa[Y]
 rw[<-Y,aa];clear Y W B HY aa y0;have HW:J?<|w5.1.size=i+1/\(∀r,r<i->w5.1[r]?=wl.1[r]?)/\w5.1[i]?=y? _/\w5.4=wl.4:=⟨z5,o5,g5,p5⟩;clear z5 o5 g5 p5
 (refine fO ?_;go_simp);refine qo q? l! k! λy0 W B=>?_;obtain⟨z5,o5,g5,p5⟩:=HW.o;rw[<-W]at z5 o5 g5;have p5:=B.trans p5;have O:=g5;clear W B HW g5;have e0:=dx O 0;have f0:=dO O 0;have e1:=dx O 1;have f1:=dO O 1;have e2:=dx O 2;have f2:=dO O 2;have e3:=dx O 3;have f3:=dO O 3;have e4:=dx O 4;have f4:=dO O 4;have e5:=dx O 5;have f5:=dO O 5;have e6:=dx O 6;have f6:=dO O 6;have e7:=dx O 7;have f7:=dO O 7;have HY:J?<|y0.1.size=i+1/\(∀r,r<i->y0.1[r]?=wl.1[r]?)/\y0.4=wl.4:=⟨z5,o5,p5⟩;have HG:=h! O;clear z5 o5 p5 O;unfold lO;go_simp;simp only[iR];clear e0 e1 e2 e3 e4 e5 e6 e7 f0 f1 f2 f3 f4 f5 f6 f7;let ⟨z5,o5,p5⟩:=HY.o;obtain⟨w2,hw2⟩:∃w2,w2=xC y0 i (n? i? v0) (n? i? v1) (s? v2) (.bool v3) (s? v4) (s? v5) (n? i? v6) (n? i? v7):=⟨_,q?⟩;have z1:w2.1.size=i+1:=by rwa[hw2,yR]
 have o1:∀r,r<i->w2.1[r]?=wl.1[r]?:=λr hr=>by rw[hw2,Bu _ _ _ _ _ _ _ _ _ o!];exact o5 r hr
 have O:w2.1[i]?=y? (c? #[n? i? v0,n? i? v1,s? v2,.bool v3,s? v4,s? v5,n? i? v6,n? i? v7] 172 (0,0)):=by rw[hw2];exact BX HG
 have p1:w2.4=wl.4:=by rwa[hw2,Gw]
 unfold xC at hw2;rw[<-hw2];clear hw2 HG HY z5 o5 p5;have HN:=HN.o w2 z1 o1 O p1;have HN:J? _:=HN;clear z1 o1 O p1
 (refine fO ?_;go_simp);exact dv.inRegion HN
def zZ{Z:oJ prog}{T:List Frame}{K:Nat}{B:Bool}{fn:d'}{tm:V?}{os:List OF}{k:List Item}{M0:L?}{H0:Array Obj}{P0:Os}{b mb:Nat}{ops:Array Oper}{i:Nat}{rest:List Nat}{o:Oper}{wl:w?}{V:Vs}{cl:Nat->Option Nat}{l:List<|v?×v?}{Y aa ab:v?}{n:Int}(I:wm M0 H0 P0 b mb cl l V wl)(hV:V=[])(hn:n=l? V)(hi:ops[i]?=y? o)(O:Zae Z f T g p K B M0 H0 P0 b mb λv=>⟨fn,fV o.1 tm v,r? ops rest::k⟩::os) :
  dv (qw prog Z f T g p K B) (⟨82,#[p?<|y? ⟨b,0,x?⟩,n? i? n,C,J,P,.map<|y? mb,U,x0,x1,x2,x3,x4,x5,x6,x7,x8,x9,y0,y1,y2,y3,y4,y5,y6,y7,y8,y9,Y,aa,ab],[.code<|Jk<|eG f82,.inLoop<|Jk<|eG f82,.inBlock 0,.code<|ZaJ<|eG f82]⟩::⟨fn,tm,r? ops (i::rest)::k⟩::os) wl V:=by
 subst hV;have hp:¬(0<n):=by rw[hn];simp
 have HN:J? _:=hn;clear hn;have W:=h! I;have HE:J? _:=O;clear I O;show dv _ (⟨_,_,[.code<|.seq (.seq _ _) _,.inLoop _,.inBlock 0,.code _]⟩::_) ..;refine dv.sc λkk HK=>?_;refine dv.seq<|dv.region ?_
 (iterate 2 (refine fO ?_;go_simp));apply dv.inRegion;refine dv.ni trivial q? ?_;rw[HK.o];apply dv.exit (k':=[.code _]) rfl;refine dv.seq<|dv.region ?_
 (iterate 2 (refine fO ?_;go_simp));apply dv.inRegion;refine dv.back (v:=.map<|y? mb) (.inr ⟨_,q?⟩) func82 hi (λτ=>by simp[dN,results82,go_sem]) ?_;have hp:=W.8;simp only[vk,List.flatMap_nil,Z6]at hp;exact HE wl l hp W.9 W.3 W.10 W.os
def JR{Z:oJ prog}{T:List Frame}{K:Nat}{ag:Bool}{fn:d'}{tm:V?}{os:List OF}{k:List Item}{M0:L?}{H0:Array Obj}{P0:Os}{b mb:Nat}{ops:Array Oper}{i:Nat}{rest:List Nat}{o:Oper}(G:S8 M0)(hi:ops[i]?=y? o)(aa:Zae Z f T g p K ag M0 H0 P0 b mb λv=>⟨fn,fV o.1 tm v,r? ops rest::k⟩::os) :
  ∀(N:Nat)(wl:w?)(V:Vs)(cl:Nat->Option Nat)(l:List<|v?×v?)(a2 a3 a4 a6 a7 a8 a9 ah ai aj ak al am an ao ap aq ar au av aw ax ay az a0 a1 a5:v?)(n:Int),(vk V).length+l? V<=N->n=l? V->l? V<=1000->wm M0 H0 P0 b mb cl l V wl->
  dv (qw prog Z f T g p K ag) (⟨82,#[p?<|y? ⟨b,0,x?⟩,n? i? n,a2,a3,a4,.map<|y? mb,a6,a7,a8,a9,ah,ai,aj,ak,al,am,an,ao,ap,aq,ar,au,av,aw,ax,ay,az,a0,a1,a5],[.code<|Jk<|eG f82,.inLoop<|Jk<|eG f82,.inBlock 0,.code<|ZaJ<|eG f82]⟩::⟨fn,tm,r? ops (i::rest)::k⟩::os) wl V:=by
 intro N;induction N with
 |zero=>intro wl V cl l a2 a3 a4 a6 a7 a8 a9 ah ai aj ak al am an ao ap aq ar au av aw ax ay az a0 a1 a5 n hN hn hB I;exact zZ I (List.eq_nil_of_length_eq_zero o!) hn hi aa
 |succ N ih=>
  intro wl V cl l a2 a3 a4 a6 a7 a8 a9 ah ai aj ak al am an ao ap aq ar au av aw ax ay az a0 a1 a5 n hN hn hB I;by_cases hV:V=[]
  .exact zZ I hV hn hi aa
  have hp:0<n:=by rw[hn];exact Int.natCast_pos.2<|List.length_pos_iff.2 hV
  have HI:J?<|(vk V).length+l? V<=N+1/\n=l? V/\wm M0 H0 P0 b mb cl l V wl/\V≠[]/\0<n/\l? V<=1000:=⟨hN,hn,I,hV,hp,hB⟩;have IH:=h! ih;have HE:J? _:=aa;clear hN hn I hV ih aa hB;show dv _ (⟨_,_,[.code<|.seq (.seq (.region 2 _ f?)<|.cond _ .skip<|.exit 0)<|.block 1<|.seq (.region 3 _ f?)<|.seq (.seq (.region 4 _ f?)<|.cond _ (.seq (.region 5 _ f?)<|.exit 1) .skip)<|.seq (.region 6 _ f?)<|.region 7 _ f?,.inLoop _,.inBlock 0,_]⟩::_) _ _;refine dv.sc λkk B=>?_;refine dv.seq<|dv.region ?_
  (iterate 2 (refine fO ?_;go_simp));apply dv.inRegion;refine dv.rG trivial q? (dv.skip ?_);clear hp;rw[B.o];clear B kk;refine dv.block<|dv.sr λkk B=>?_
  (refine fO ?_;go_simp);obtain⟨hN,hn,I,hV,hp,hB⟩:=HI.o;refine dv.su #[p?<|y? ⟨b,0,x?⟩,sp,sp,sp,sp,sp,sp,sp,sp,sp,sp,sp,sp,sp,sp,sp,sp,sp,sp,sp,sp,sp,sp,sp,sp,sp,sp,sp,sp,sp,sp,sp,sp,sp,sp,sp,sp,sp,sp,sp,sp,sp,sp,sp,sp,sp,sp,sp,sp,sp,sp,sp,sp,sp,sp,sp,sp,sp,sp,sp,sp,sp,sp,sp,sp,sp,sp,sp,sp,sp] (i:=1) (iI:=pi) (c:=eG pi) q? q? func123 k! Rt q? (by simp[eI]) k! ?_;apply Qo b wl.1.size q? (kc I.LW I.hm.lt) q? I.hb I.kO I.wK (I.ZaU hV) I.iS<|λr vs h v hv=>(I.h8 G r vs h v hv).ZbK
  .intro k' r v vs w2 a' hr hm z2 o2 p2;obtain⟨v0,v1,v2,v3,v4,v5,v6,v7,ha,hb,hv⟩:=I.h8 G r _ hm v<|ZT ..;obtain⟨kl,ac⟩:=(I.h8 G r _ hm v<|ZT ..).dF;obtain⟨ad,ae⟩:=I.fresh G hm;have hT:=λw3 a b c=>I.take hm (w2:=w3) a b c;have hL:=(uz I.7 hm).1.length_eq;have U:=(uz I.7 hm).2.1;have Y:=I.3.lt;have LW:=I.2;subst hv;obtain⟨s,hs⟩:∃s,s=wl.1.size+1:=⟨_,q?⟩;rw[<-hs]at z2;have Y:mb<s:=o!;clear hs;have HA:=h!<|(A? hT<|A? hL<|A? U<|A? ac<|A? ad<|A? ae<|A? o2<|A? p2<|A? Y LW);have HM:=h!<|I.3.stay<|o2 mb I.3.lt;clear hT hL U ac ad ae o2 p2 hm hr I LW Y hn hp hV hN hB;rw[kA];go_simp;refine Ds z2 λw3 z3 o3 g3 p3=>?_;have HW:=h!<|A? z3<|A? o3 p3;have HG:=h! g3;clear z3 o3 p3 g3 z2;rw[B.o];refine dv.seq<|dv.seq ?_;clear B kk;refine rM λkk B=>?_;apply dv.region
   (refine fO ?_;go_simp);apply dv.ie B;clear B kk;refine dv.rG trivial q? (dv.sc λkk B=>?_);refine li k! (by rw[B.o];rfl) (.inl i!) λy0 J O=>?_;have W:=HG.o;rw[<-J]at W;have e0:=dx W 0;have f0:=dO W 0;have e1:=dx W 1;have f1:=dO W 1;have e2:=dx W 2;have f2:=dO W 2;have e3:=dx W 3;have f3:=dO W 3;have e4:=dx W 4;have f4:=dO W 4;have e5:=dx W 5;have f5:=dO W 5;have e6:=dx W 6;have f6:=dO W 6;have e7:=dx W 7;have f7:=dO W 7;have ac:=HA.2.2.2.1;have ad:=HA.2.2.2.2.1;have ae:=HA.2.2.2.2.2.1;have HY:J?<|y0.1=w3.1/\y0.4=w3.4:=⟨J,O⟩;have H1:J? _:=(HM.stay (by rw[J];exact HW.2.1 mb HA.2.2.2.2.2.2.2.2.1));have H2:=h! ac;have H3:=h! ad;have H4:=h! ae;clear J O W ac ad ae;go_wp2_with (first|(at_mapUpdate;apply Ke _ rfl _ _ _ 129 rfl 172 Gh oT rfl H1 H4 H2 H3 rfl _ rfl;intro w4 aD aA aF));apply ja;rw[B.o];clear B e0 e1 e2 e3 e4 e5 e6 e7 f0 f1 f2 f3 f4 f5 f6 f7;refine dv.exit rfl (dv.inLoop ?_);obtain⟨hT,hL,U,ac,ad,ae,o2,p2,Y,LW⟩:=HA.o;obtain⟨hN,hn,I,hV,hp,hB⟩:=HI.o;obtain⟨J,O⟩:=HY.o;obtain⟨z3,o3,p3⟩:=HW.o;refine IH.o w4 _ cl _ _ _ _ _ _ _ _ _ _ _ _ _ _ _ _ _ _ _ _ _ _ _ _ _ _ _ _ n ?_ ?_ (by rwa[U])<|hT w4 aD (λr' aB=>?_) ?_;simp only[List.length_cons]at hL;rw[U];omega;rwa[U];rw[aA.5 r' (by rw[J,z3];omega) j!,J,o3 r' o!,o2 r'<|kc aB I.3.lt];rw[aA.1,O,p3,p2]
  intro k' r w2 a' hr hm z2 o2 p2;have hE:=λw3 a b c d=>I.ends a' hr hm (w2:=w3) a b c d;have hL:=(BO I.7 hm).1.length_eq;have U:=(BO I.7 hm).2.1;have Y:=I.3.lt;have LW:=I.2;obtain⟨s,hs⟩:∃s,s=wl.1.size+1:=⟨_,q?⟩;rw[<-hs]at z2;have ab:mb<s:=o!;clear hs;have HA:=h!<|A? hE<|A? hL<|A? U<|A? o2<|A? p2<|A? ab<|A? LW Y;have HM:=h!<|I.3.stay<|o2 mb I.3.lt;have HB:=h!<|(o2 b o!).trans I.1;clear hE hL U o2 p2 hm hr I LW Y ab hn hp hV hN hB;rw[kA];simp only[Ts];go_simp;refine Ds z2 λw3 z3 o3 g3 p3=>?_;have HW:=h!<|A? z3<|A? o3 p3;clear z3 o3 p3 g3 z2;rw[B.o];refine dv.seq<|dv.seq ?_;clear B kk;refine rM λkk B=>?_;apply dv.region
  (refine fO ?_;go_simp);apply dv.ie B;clear B kk;refine dv.ni trivial q? (dv.skip<|dv.sc λkk B=>?_);refine li k! (by rw[B.o];rfl) (.inl i!) λy0 J O=>?_;have gb:y0.1[b]?=y? (c? (yk cl) 125 (0,0)):=by rw[J,HW.2.1 b<|v! HA.o];exact HB
  have e0:C? y0 ⟨b,k',x?⟩=y? (.chan<|cl k'):=by rw[dx gb];rcases(o!:k'=0\/k'=1\/k'=2\/k'=3\/k'=4\/k'=5\/k'=6)with rfl|rfl|rfl|rfl|rfl|rfl|rfl<;>rfl
  have f0:=dO gb k';have HY:J?<|y0.1=w3.1/\y0.4=w3.4:=⟨J,O⟩;have HG:=h! gb;clear J O gb;go_wp2;apply ja;clear e0 f0;obtain⟨w4,af⟩:∃w4,w4=y0.setCell ⟨b,k',x?⟩ (.chan x?):=⟨_,q?⟩;have g4:w4.1[b]?=y? (c? (yk<|Bd cl k') 125 (0,0)):=by rw[af,heap_set HG.o k' _,<-Wv a'];simp only[Array.set!_eq_setIfInBounds]
  have o4:∀r,r≠b->w4.1[r]?=w3.1[r]?:=λr hr=>by rw[af,ZH _ _ _ _ hr,HY.1]
  have p4:w4.4=w3.4:=by rw[af,sS];exact HY.2
  rw[<-af];clear af HG HY y0;have HG:=h!<|A? g4<|A? o4 p4;clear g4 o4 p4;rw[B.o];clear B kk;refine rM λkk B=>?_;apply dv.region;have h1 : -9223372036854775808<=n-1:=by have:=HI.2.2.2.2.1;omega
  have h2:n-1<=9223372036854775807:=by have:=HI.2.1;have:=HI.2.2.2.2.2;omega
  (iterate 3 (refine fO ?_;go_simp));apply dv.ie B;have aC:IntKind.i64.wrap (n-1)=n-1:=by simp only[IntKind.wrap_i64];omega
  rw[aC];clear B h1 h2 aC;refine dv.inBlock<|dv.inLoop ?_;obtain⟨hE,hL,U,o2,p2,ab,LW,Y⟩:=HA.o;obtain⟨hN,hn,I,hV,hp,hB⟩:=HI.o;obtain⟨g4,o4,p4⟩:=HG.o;obtain⟨z3,o3,p3⟩:=HW.o;refine IH.o w4 _ _ l _ _ _ _ _ _ _ _ _ _ _ _ _ _ _ _ _ _ _ _ _ _ _ _ _ _ _ _ ?_ ?_ o!<|hE w4 g4 (HM.stay ?_) (λr' aB aE=>?_) ?_;omega;rw[hn];omega;rw[o4 mb o!,o3 mb ab];rw[o4 r' aE,o3 r' o!,o2 r' o!];rw[p4,p3,p2]
def KW{Z T K lent fn}{tm:V?}{os k}{M0:L?}{b mb ops rest}{o:Oper}{wl}{V:Vs}{cl}(hi:ops[i]?=y? o)(G:S8 M0)(O:mb=wl.1.size)(LW:b<mb)
  (hb:wl.1[b]?=y? (c? (yk cl) 125 (0,0))) (kO:∀k r,k<7->cl k=y? r->∃vs,(r,y? vs)∈V) (fu:∀x∈V,∃k vs,k<7/\cl k=y? x.1/\x.2=y? vs) (wK:∀k k' r,k<7->k'<7->cl k=y? r->cl k'=y? r->k=k') (iS:(V.map qr).Nodup) (hB:l? V<=1000) (hM:vk V=M0)
  (W:Zae Z f T g l K lent M0 wl.1 wl.4 b mb λv=>⟨fn,fV o.1 tm v,r? ops rest::k⟩::os) :
  dv (qw prog Z f T g l K lent) (⟨82,#[p?<|y? ⟨b,0,x?⟩,n? i?<|l? V,sp,sp,sp,sp,sp,sp,sp,sp,sp,sp,sp,sp,sp,sp,sp,sp,sp,sp,sp,sp,sp,sp,sp,sp,sp,sp,sp,sp],[.code<|eG f82]⟩::⟨fn,tm,r? ops (i::rest)::k⟩::os) wl V:=by
 have HL:=JR G hi W;obtain⟨n,Y⟩:∃n:Int,n=l? V:=⟨_,q?⟩;have HA:=h!<|A? hb<|A? kO<|A? fu<|A? wK<|A? iS<|A? hB<|A? hM<|A? O<|A? LW Y;rw[<-Y];clear hb kO fu wK iS hB hM O W Y LW;refine dv.sr λkk HK=>?_
 (refine fO ?_;go_simp);apply dv.ie HK;refine dv.sc λkk HK=>?_;refine li k! (by rw[HK.o];rfl) (.inl i!) λy0 B J=>?_;have HY:J?<|y0.1=wl.1/\y0.4=wl.4:=⟨B,J⟩;clear B J;have aa:=@run_makeMap prog;go_wp2;apply ja;rw[HK.o];obtain⟨hb,kO,fu,wK,iS,hB,hM,O,LW,Y⟩:=HA.o;obtain⟨B,J⟩:=HY.o;have hz:y0.1.size=mb:=by rw[B,O]
 obtain⟨w2,U⟩:∃w2,w2=y0.alloc (.map #[] 0):=⟨_,q?⟩;have o2:∀r,r<mb->w2.1[r]?=wl.1[r]?:=λr hr=>by rw[U,jO _ _<|by rwa[hz],B]
 rw[<-U,hz];refine dv.seq<|dv.block<|dv.loop ?_;exact(h! HL).o _ w2 V cl [] _ _ _ _ _ _ _ _ _ _ _ _ _ _ _ _ _ _ _ _ _ _ _ _ _ _ _ n (Zu _) Y hB ⟨(o2 b LW).trans hb,LW,(by rw[U,<-hz];exact lI.made y0),kO,fu,wK,iS,by rw[hM];exact .refl _,nofun,λr hr _=>o2 r hr,(by rwa[U])⟩
end
end
section
open RowKit Maps
variable {f:Nat}
structure rj where
 seg:Nat
 at':Nat
 name:Wd
 wanted:Bool
 n2:Wd
 tx:Wd
 wt:Int
 tg:Int
def rj.val(m:rj):v?:=.agg #[n? i? (m.1:Int),n? i? (m.2:Int),s? ⟨a? m.3⟩,.bool m.4,s? ⟨a? m.5⟩,s? ⟨a? m.6⟩,n? i? m.7,n? i? m.8]
def rj.kv(m:rj):v?×v?:=(V3 m.1 m.2,m.val)
def rj.Og(m:rj):eE:=⟨m.5,f?,m.6,m.7,m.8⟩
def fR:List rj->Wd->Nat
 |[],_=>0|m::l,x=>if m.3=x then max m.1 (fR l x)else fR l x
def zo{l m}(h:l.Perm m)(x):fR l x=fR m x:=by
 induction h with
 |nil=>rfl|cons a _ B=>simp only[fR,B]|swap a b l=>simp only[fR];split<;>split<;>omega
 |trans _ _ J O=>rw[J,O]
def Hw(l)(m)(x):fR (l++[m]) x=if m.3=x then max (fR l x) m.1 else fR l x:=by rw[zo<|List.perm_append_comm];show(if m.3=x then max _ (fR l x)else fR l x)=_;split;rw[Nat.max_comm];rfl
def yj:∀(l)(x),(∀m∈l,m.1<=f)->fR l x<=f
 |[],_,_=>ZP _
 |m::l,x,h=>by
  have B:=h m i!
  have J:=yj l x (λm hm=>h m<|by simp[hm]);simp only[fR];split<;>omega
def gw(all l:List rj):List eE:=(l.filter λm=>m.4&&m.1==fR all m.3).map rj.Og
def KO(all l)(m):gw all (l++[m])=gw all l++(if(m.4&&m.1==fR all m.3)=t? then [m.Og]else []):=by unfold gw;rw[Zj,Z4];rw[A!];split<;>rfl
def ED(all l):(gw all l).length<=l? l:=by unfold gw;rw[Z5];exact No ..
def J0{all l m}(h:l.Perm m):(gw all l).Perm<|gw all m:=(h.filter _).map _
def oD(e:eE):List v?:=[s? ⟨a? e.1⟩,s? ⟨a? e.3⟩,n? i? e.4,n? i? e.5]
def l6(es:E?):List v?:=es.flatMap oD
def N2(es:E?)(x:eE):l6 (es++[x])=l6 es++oD x:=by simp[l6]
def EA:∀(ws:E?)(i c)(h),c<4->(l6 ws)[i*4+c]?=(oD ws[i])[c]?:=by
 intro ws;induction ws with
 |nil=>intro i c h;simp at h|cons a l B=>
  intro i c h J;have e:l6 (a::l)=oD a++l6 l:=by simp[l6]
  rw[e]
  cases i with
  |zero=>rw[Zt (by simp[oD];omega)];simp|succ i=>rw[List.getElem?_append_right (by simp[oD];omega)];have O:(oD a).length=4:=rfl;rw[O,(o!:(i+1)*4+c-4=i*4+c),B i c (u! h) J];simp
def KJ(x):∀v∈oD x,v.oneCell'=t?:=by intro v B;simp[oD]at B;obtain rfl|rfl|rfl|rfl:=B<;>rfl
def Q4(l:List<|Wd×v?){x y}(e:y≠x):(l.filter λp=>p.1 != x).find? (λp=>p.1==y)=l.find? (λp=>p.1==y):=by
 induction l with
 |nil=>rfl|cons p l J=>
  rw[A!];by_cases B:p.1=x;rw[if_neg<|u! B,bT];have:(p.1==y)=f?:=by simpa[B]using λh=>e h.symm
  rwa[this];rw[if_pos<|u! B,bT,bT];split;rfl;exact J
def Rf(l)(x y)(v z):qp (tL l x v) y z=if y=x then v else qp l y z:=by
 by_cases e:y=x;subst e;unfold qp tL
 have:(l.filter λp=>p.1 != y).find? (λp=>p.1==y)=x?:=by rw[c8];intro p B;have:=(Zb.1 B).2;simpa using this
 rw[cB,this];simp;rw[if_neg e];unfold qp tL
 have J:([(x,v)]).find? (λp=>p.1==y)=x?:=by rw[c8];intro p B;simp only[Zg]at B;subst B;simpa using λh=>e h.symm
 rw[cB,J,Option.or_none,Q4 l e]
def Sl(l)(x)(v):(tL l x v).length<=l? l+1:=by unfold tL;rw[Zh,T?];have:=No (λp=>p.1 != x) l;omega
def ij.Zba{P k w r l rest rest'}(h:ij P k w f r l rest)(B:rest.Perm rest'):ij P k w f r l rest':=by obtain⟨a,b,D,left,cnt,J,O,U⟩:=h;exact⟨(B.map _).nodup_iff.1 a,λp hm=>b p<|B.mem_iff.2 hm,D,left,cnt,J,O,λkey V W=>(U key V W).trans ⟨λ⟨p,x,y⟩=>⟨p,B.mem_iff.1 x,y⟩,λ⟨p,x,y⟩=>⟨p,B.mem_iff.2 x,y⟩⟩⟩
def DK{J O:Type}(f){l:List J}{p}{t:List O}(h:(l.map f).Perm (p::t)):∃m B,l.Perm (m::B)/\p=f m/\t.Perm (B.map f):=by obtain⟨m,hm,e⟩:=Zv.1<|h.mem_iff.2<|ZT ..;obtain⟨a,b,rfl⟩:=bJ hm;refine⟨m,a++b,p!,e.symm,?_⟩;rw[<-e]at h;exact(rb<|h.symm.trans<|by exact p!.map f)
abbrev QD(w:w?)(B:Nat)(ms:List rj):Prop:=lI prog 170 w B (ms.map rj.kv)
abbrev tP(w:w?)(B r:Nat)(ms J:List rj):Prop:=ij prog 170 w B r (ms.map rj.kv) (J.map rj.kv)
def vH{ms}(w){ops rest o a Q}(J:o.6=x?)(m)(B:o.2=Op.range 129 m)(hm:a.eval m=.map (y? f))(h:QD w f ms)
  (O:∀w',tP w' f w.1.size ms ms->w.grownBy w' x?->w'.1.size=w.1.size+1->dB prog ops Q rest (a.put o.1<|p?<|y? ⟨w.1.size,0,x?⟩) w') :
  dB prog ops Q (o::rest) a w:=
 Ef w J m _ B _ Gh oT hm h O
def xa{ms:List rj}(w:w?){ops:Array Oper}{rest:List Oper}{o:Oper}{a:Act}{Q:Exit->Act->w?->Prop}(hg:o.6=x?)(it:Operand)(U:o.2=Op.next it f?)(r:Nat)(J:List rj)(V:a.eval it=p? (y? ⟨r,0,x?⟩))(h:tP w f r ms J)
  (O:J=[]->dB prog ops Q rest (a.put o.1<|.tuple #[.bool f?]) w)
  (hMore:∀(m:rj)(B:List rj)(w':w?),J.Perm (m::B)->tP w' f r ms B->w'.rangeLeft f r<w.rangeLeft f r->w.grownBy w' (y? r)->w'.1.size=w.1.size->(rt<|p?<|y? ⟨r,0,x?⟩).run prog w'=.ok (.tuple #[V3 m.1 m.2,m.val]) w'->
    dB prog ops Q rest (a.put o.1<|.tuple #[.bool t?,V3 m.1 m.2,m.val]) w') :
  dB prog ops Q (o::rest) a w:=by
 apply FC w hg it U Gh r _ V h<|λh0=>O<|u! h0;intro p W w' hp hr Y aa hs he;obtain⟨m,l',h1,rfl,h2⟩:=DK _ hp;exact hMore m l' w' h1 (hr.Zba h2) Y aa hs he
end
section
open RowKit
variable {f:w?}{g i:V?}
def oM(F:v?->Prop)(w:w?)(v:v?):Prop:=∀g cs e f,O? v=y? g->w.1[g]?=y? (c? cs e f)->∀u∈cs.1,F u
def Lo(F)(w)(n c):oM F w<|.slice x? n c:=nofun
def oM.stay{F w w' v}(h:oM F w v)(J:∀g,O? v=y? g->w'.1[g]?=w.1[g]?):oM F w' v:=λg cs e f B O=>h g cs e f B (by rwa[<-J g B])
def vu{k:Nat}{u:v?}(h:u∈(Builtin.zeroCells g k).1):u∈g.1:=by
 unfold Builtin.zeroCells at h;simp at h;obtain⟨i,B,rfl⟩:=h
 have J:0<g.size:=by
  obtain h|h:=ZJ g.size
  rw[h]at B;simp at B;exact h
 rw[getElem!_pos g _<|kd _ J];simp
def Ob{w:w?}{e J:dw}{f:Nat×Nat}(h:(w.drew.alloc<|c? g e).1[w.1.size]?=y? (c? i J f)):i=g:=by have B:(w.1.push _)[w.1.size]?=y? _:=h;simp at B;exact B.1.symm
def Nn{w:w?}{g:Nat}{cs cs':V?}{e B:dw}{f f':Nat×Nat}(J:w.1[g]?=y? (c? i e f))(h:(w.setRow g cs).1[g]?=y? (c? cs' B f')):cs'=cs:=by unfold World.setRow at h;simp only[Ze,if_true,J,N!,m?,Obj.cells.injEq]at h;exact h.1.symm
def M2{F P w base t ty e i z size bytes}(ht:P.underlying t=y? (.slice e))(hi:P.info? e=y? i)(hz:i.8=y? z)
  (J:i.3=size) (ae:i.4=bytes) (al:z.cells.size=size) (ah:0<size)
  {v} {n} {xs:L?} (V:R? w base e size v n xs)
  {x} {m} {news:L?} (hx:jB w size x m news) (h1:∀u∈news,u.oneCell'=t?)
  (U:(n+m)*bytes<=140737488355328) (af:n+m<=dq) (ai:0<m) {v'} {w'} (hr:(Builtin.append_ #[t,t] ty #[v,x]).run P w=.ok v' w')
  (hF:oM F w v) (hN:∀u∈news,F u) (hZ:∀u∈z.cells.1,F u):oM F w' v':=by
 obtain⟨a,cap,rfl,hc,hm,hl,ag⟩:=hx;let ⟨b,off,ha,_⟩:=ag 0 _<|BY (by rw[hl];exact Nat.mul_pos ai ah);subst ha
 have O:∀j u,news[j]?=y? u->C? w ((⟨b,off,x?⟩:Addr).add j)=y? u:=by intro j u hj;obtain⟨b',ak,he,aj⟩:=ag j u hj;obtain⟨rfl,rfl,_⟩:=he;rwa[Addr.add_lit]
 have ab:l? news=m*i.3:=by rwa[J]
 obtain⟨rfl,rfl⟩|⟨g,c,cur,rfl,am,hg,an,ao,ac,ad⟩:=V.2
 rw[run_append_nil w t ty e i z ht hi hz _ m cap news ab O o! (by simp only[dq]at af;omega) (by rw[ae];simp only[ZD]at U;omega)]at hr;obtain⟨rfl,rfl⟩:=hr;intro g cs e' f hg ac u B;simp only[ry,m?]at hg;subst hg;have:=Ob ac;subst this;simp at B;obtain B|B:=B
 exact hN u B;exact hZ u<|vu<|u! B;by_cases W:n+m<=c;rw[run_append_room w t ty e i ht hi g n c cur hg _ m cap news ab O h1 W (by rw[ab,ac,J,<-Nat.add_mul];exact IN _ W)]at hr;obtain⟨rfl,rfl⟩:=hr;intro g' cs e' f Y aa u B;simp only[ry,m?]at Y;subst Y;have:=Nn hg aa;subst this;simp at B;obtain B|B|B:=B
 exact hF g cur e _ q? hg u<|Za B;exact hN u B;exact hF g cur e _ q? hg u<|List.mem_of_mem_drop B;rw[run_append_grow w t ty e i z ht hi hz _ n c xs (by rw[J];exact V.1) (V.cells (g:=g) q?) _ m cap news ab O o! (by simp only[dq]at af;omega) (by rw[ae];exact growslice_fits o! U)]at hr;obtain⟨rfl,rfl⟩:=hr;intro g' cs e' f Y aa u B;simp only[ry,m?]at Y;subst Y;have:=Ob aa;subst this;simp at B;obtain B|B|B:=B
 rw[<-ad]at B;exact hF g cur e _ q? hg u<|Za B;exact hN u B;exact hZ u<|vu<|u! B
def yH{F P}(w){ops rest o a Q}(ab:o.6=x?)(s x)(t)
  (ho:o.2=.call {callee:=.builtin .append,args:=#[s,x],argTypes:=#[t,t]})
  (base) (e) (i) (z) (size bytes) (ht:P.underlying t=y? (.slice e)) (hi:P.info? e=y? i) (hz:i.8=y? z)
  (J:i.3=size) (V:i.4=bytes) (W:z.cells.size=size) (Y:0<size)
  (v) (n) (xs:L?) (hs:a.eval s=v) (O:R? w base e size v n xs)
  (y) (m) (news:L?) (hx:a.eval x=y) (hy:jB w size y m news) (h1:∀u∈news,u.oneCell'=t?)
  (B:(n+m)*bytes<=140737488355328) (aa:n+m<=dq) (U:base<=w.1.size) (ac:0<m) (hF:oM F w v) (hN:∀u∈news,F u) (hZ:∀u∈z.cells.1,F u)
  (h:∀v' w',R? w' base e size v' (n+m) (xs++news)->w.grownBy w' (O? v)->oM F w' v'->dB P ops Q rest (a.put o.1 v') w'):dB P ops Q (o::rest) a w:=by
 refine ZW ab λ_ hK=>?_;obtain⟨v',w',hr,h2,h3,h4⟩:=sL w base t o.3 e i z size bytes ht hi hz J V W Y v n xs O y m news hy h1 B aa U;unfold r5 dl;simp only[ho,resolve,invoke,builtin,Sem.run_bind,Sem.run_pure,Result.andThen_ok,List.map_toArray,ZK,ZU,hs,hx,hr];exact hK _ _<|h v' w' h2 h3<|M2 ht hi hz J V W Y O hy h1 B aa ac hr hF hN hZ
end
section
open RowKit Maps
def Ry:(prog.info? 96).map (λi=>(i.8,i.3,i.4))=y? (y?<|.agg #[s? ⟨#[]⟩,s? ⟨#[]⟩,n? i? 0,n? i? 0],4,48):=by kernel_rfl
def sM{B:Type}{vis rst rst' es}{e:B}(h:(vis++rst).Perm es)(J:rst.Perm (e::rst')):((vis++[e])++rst').Perm es:=by refine List.Perm.trans ?_ h;rw[Zq];exact(q8 vis).append J.symm
def Ar{w}{base e size n:Nat}{v}{xs:L?}(h:R? w base e size v n xs)(o):R? (w.alloc o) base e size v n xs:=dJ h (λk B=>by rw[jO _ _ (h.lt k B).2])
def EN(x):∀v∈oD x,Flat v:=by
 intro v B;simp[oD]at B;obtain rfl|rfl|rfl|rfl:=B
 exact .string _;exact .string _;exact .int ..;exact .int ..
def Rv:∀u∈(Value.agg #[s? ⟨#[]⟩,s? ⟨#[]⟩,n? i? 0,n? i? 0]).cells.1,Flat u:=by
 intro v B;simp[rz]at B;obtain rfl|rfl:=B
 exact .string _;exact .int ..
def SU{w:w?}{b e t}(hb:b=w.1.size):jB (w.alloc<|c? #[s? ⟨a? e.1⟩,s? ⟨a? e.3⟩,n? i? e.4,n? i? e.5] t) 4 (.slice (y? ⟨b,0,x?⟩) 1 1) 1<|oD e:=by
 refine⟨y? _,1,q?,Zu _,by unfold dq;omega,q?,λj u B=>⟨b,0,q?,?_⟩⟩;rw[Zl _ _ _ _ hb];match j,B with
 |0,B=>simpa[oD]using B|1,B=>simpa[oD]using B|2,B=>simpa[oD]using B|3,B=>simpa[oD]using B|j+4,B=>simp[oD]at B
def Ha(B)(ms)(w)(hs:QD w B ms)(hl:ms.length<=1048576)(aF:∀m∈ms,m.1<=1000/\m.3.length<=dq) :
  dn prog 81 #[.map<|y? B] w λen w'=>∃v O,en=.returned v/\List.Perm O ms/\R? w' w.1.size 96 4 v (gw ms O).length (l6<|gw ms O)/\B? w w'/\oM Flat w' v:=by
 obtain⟨i0,hi,aT,aU,aV⟩:=Zz Ry;have bn:=@run_makeMap prog;have HS:=h! hs;have a6:=h! aF;have bo:=hs.lt;obtain⟨w0,ay⟩:∃w0,w.alloc (.map #[] 0)=w0:=⟨_,q?⟩;have a4:w0.1.size=w.1.size+1:=by rw[<-ay];simp
 have az:B? w w0:=by rw[<-ay];exact(l4 _ _).alloc (Zu _) _
 have aG:ed prog 9 w0 w.1.size []:=by rw[<-ay];exact ed.made w
 have aH:J?<|QD w0 B ms:=lI.below hs az;clear hs aF;go_enter func81,ntmps81;go_wp2_with (first|(at_range;apply vH _ rfl _ rfl rfl aH.o;intro w1 W ae an));rw[a4]at W an⊢;clear ay;go_frame;go_loopw [4] (λ_ wr=>∃(O af:List rj)(nl:List (Wd×v?)),(O++af).Perm ms/\tP wr B (w.1.size+1) ms af/\ed prog 9 wr w.1.size nl/\nl.length<=O.length/\(∀x,qp nl x (.int i? 0)=.int i? (fR O x:Nat))/\B? w wr/\w.1.size+2<=wr.1.size) (λ_ wr=>wr.rangeLeft B<|w.1.size+1);exact⟨[],ms,[],q8 _,W,ed.kept aG ae i!,Zu _,λ_=>rfl,az.grown ae az.4<|λk hk=>(by cases hk),o!⟩;obtain⟨O,af,nl,fL,hr,hm,aW,aI,hb,hz⟩:=hrel;have HP:=h! fL;have HR:=h! hr;have HM:=h! hm;have a0:=h! aI;have HB:=h! hb
 have aJ:O.length<=ms.length:=by have h2:=fL.length_eq;rw[Zh]at h2;omega
 clear fL hr hb hm aI aH aG az a4 W ae an;go_wp2_with (first|(at_next;refine xa _ q? _ q? _ af q? HR.o ?_ ?_))
 .intro h0
  have hE:O.Perm ms:=by have:=HP.o;rwa[h0,Z6]at this
  have aX:J? (∀x,qp nl x (.int i? 0)=.int i? (fR ms x:Nat)):=by intro x;rw[a0.o x,zo hE]
  have aK:J?<|QD wr B ms:=ij.owns HR.o;clear h0 hE HP HR a0;go_wp2_with (first|(at_range;apply vH _ q? _ q? q? aK.o;intro w1 W ae an));have aL:w.1.size+3<=w1.1.size:=o!;have aM:wr.1.size<w1.1.size:=o!;have aj:=h! (HB.o.grown ae HB.o.4<|λk hk=>by cases hk);have ak:=h!<|ed.kept HM.o ae i!;have ah:=h! W;obtain⟨r,hr⟩:∃r,r=wr.1.size:=⟨_,q?⟩;rw[<-hr]at ah aM hz an⊢;have bp:=hz;clear W ae aK HM HB aW aJ hz HS;clear hr;generalize wr=wo at *;go_frame;go_loopw [6] (λg wr=>∃(O af:List rj),(O++af).Perm ms/\tP wr B r ms af/\ed prog 9 wr w.1.size nl/\R? wr (r+1) 96 4 g (gw ms O).length (l6<|gw ms O)/\B? w wr/\r+1<=wr.1.size/\oM Flat wr g) (λ_ wr=>wr.rangeLeft B r);exact⟨[],ms,q8 _,ah.o,ak.o,Z9 _ _ _ _,aj.o,o!,Lo _ _ _ _⟩;obtain⟨J,aN,fL,hr,hm,ao,hb,hz,aO⟩:=hrel;have HP:=h! fL;have HR:=h! hr;have HM:=h! hm;obtain⟨ag,cg,rfl,bq⟩:=dK ao;have HO:=h! ao;have HB:=h! hb;have HF:=h! aO;clear aO
  have aJ:(gw ms J).length<=ms.length:=by have h1:=ED ms J;have h2:=fL.length_eq;rw[Zh]at h2;omega
  clear fL hr hb hm ao ah ak aj an aL aM;go_wp2_with (first|(at_next;refine xa _ q? _ q? r aN q? HR.o ?_ ?_))
  .intro h0
   have hE:J.Perm ms:=by have:=HP.o;rwa[h0,Z6]at this
   have HE:=h! hE;clear h0 hE HP HR;go_wp2;go_ret;exact⟨_,J,q?,HE.o,eH HO.o o!,HB.o,HF.o⟩
  intro m V w2 ai Y ab aa a7 ap;have aq:=ij.lt Y;have ar:=lI.lt<|ij.owns Y;have aj:=h!<|nF HB.o aa o!;have ah:=h! Y;have ak:=h!<|ed.stay HM.o<|aa.5 _ o! j!;have a8:=h! ab;have au:=h! ai;have a9:=h!<|dJ HO.o<|λk hk=>aa.5 k (HO.o.lt k hk).2 (by have:=(HO.o.lt k hk).1;intro e;cases e;omega);have aY:=h!<|HF.o.stay<|λk hk=>aa.5 k (HO.o.lt k hk).2 (by have:=(HO.o.lt k hk).1;intro e;cases e;omega);have aP:r+1<=w2.1.size:=o!;have av:=a6.o m<|HP.o.mem_iff.1<|Z' _<|ai.mem_iff.2<|ZT ..;have aw:=h!<|KO ms J m;have a1:=h! av;have br:=yj ms m.3<|λm hm=>(a6.o m hm).1;clear ai Y ab aa a7 av HR HM HB HO;obtain⟨sg,at',nm,wd,n2,tx,wt,tg⟩:=m;simp only[rj.val,V3]at ap⊢;obtain⟨wa,ac⟩:∃wa,wa=((w2.alloc<|.cells #[.int i? sg,.int i? at'] 170).alloc<|.cells #[.int i? sg,.int i? at',.string ⟨a? nm⟩,.bool wd,.string ⟨a? n2⟩,.string ⟨a? tx⟩,.int i? wt,.int i? tg] 172):=⟨_,q?⟩;have U:B? w2 wa:=by rw[ac];exact(((l4 _ _).alloc (Zu _) _).alloc i! _)
  have bs:wa.1.size=w2.1.size+2:=by rw[ac];simp
  have a2:J?<|tP wa B r ms V:=ij.stay ah.o (U.5 B ar)<|U.5 _ aq;have a3:=h!<|ed.below ak.o U;have al:=h!<|dJ a9.o<|λk hk=>U.5 k (a9.o.lt k hk).2;have a':=h!<|aY.o.stay<|λk hk=>U.5 k (a9.o.lt k hk).2;have aA:=h!<|aj.o.trans<|U.mono o!
  have aB:J?<|wa.rangeLeft B r<wr.rangeLeft B r:=by show _<_;rw[fg.l7 (U.5 B ar)<|U.5 _ aq];exact a8.o
  cases wd with
  |false=>
   have ad:J?<|gw ms (J++[⟨sg,at',nm,f?,n2,tx,wt,tg⟩])=gw ms J:=h!<|by rw[aw.o];simp
   clear U;go_wp2;rw[<-ac];go_roundw;exact⟨J++[⟨sg,at',nm,f?,n2,tx,wt,tg⟩],V,sM HP.o au.o,a2.o,a3.o,by rw[ad.o];exact al.o,aA.o,o!,a'.o⟩;exact aB.o
  |true=>
   have am:=(a3.o.look (z:=.int i? 0) om oo k! nm a1.o.2).1;rw[aX.o nm,ac]at am;by_cases hq:sg=fR ms nm
   .have ad:J?<|gw ms (J++[⟨sg,at',nm,t?,n2,tx,wt,tg⟩])=gw ms J++[⟨n2,f?,tx,wt,tg⟩]:=h!<|by rw[aw.o];simp[hq,rj.Og]
    rw[<-hq]at am;clear U hq
    go_wp2_with (first
     |(at_builtin;rw[<-ac];refine yH _ rfl _ _ 82 rfl _ 96 i0 _ 4 48 underlying82 hi aT aU aV rfl d! _ _ _ rfl (Ar al.o _) _ 1 _ rfl (SU (e:=⟨n2,f?,tx,wt,tg⟩) o!) (KJ _) ?c1 ?c2 ?c3 d! (a'.o.stay<|λk hk=>jO _ _ (al.o.lt k hk).2) (EN _) Rv ?_))
    case c1=>omega
    case c2=>unfold dq;omega
    case c3=>first|omega|(simp;omega)
    intro v3 w3 aC ax a5;rw[<-ac]at ax;have bm:wa.1.size<=w3.1.size:=by have:=ax.4;simp at this;omega
    have hold:∀j,j<wa.1.size->j<r+1->w3.1[j]?=wa.1[j]?:=λj hj bt=>by rw[ax.5 j j! (λe=>by have:=(al.o.lt j e.symm).1;omega),jO _ _ hj]
    have aQ:=lI.lt<|ij.owns a2.o;have aZ:J?<|tP w3 B r ms V:=ij.stay a2.o (hold B aQ o!)<|hold r o! o!;have ba:=h!<|ed.stay a3.o<|hold _ o! o!
    have bc:J?<|R? w3 (r+1) 96 4 v3 (gw ms<|J++[⟨sg,at',nm,t?,n2,tx,wt,tg⟩]).length<|l6<|gw ms<|J++[⟨sg,at',nm,t?,n2,tx,wt,tg⟩]:=by show R? w3 _ _ _ _ _ _;rwa[ad.o,N2,Zh]
    have bd:=h!<|(aA.o.alloc o! _).grown ax j! (λb hb=>by have:=(al.o.lt b hb).1;omega)
    have be:J?<|w3.rangeLeft B r<wr.rangeLeft B r:=by show _<_;rw[fg.l7 (hold B aQ o!)<|hold r o! o!];exact aB.o
    have bf:=h! a5;clear a5 aC ax hold am ap ac;go_wp2;go_roundw;exact⟨J++[⟨sg,at',nm,t?,n2,tx,wt,tg⟩],V,sM HP.o au.o,aZ.o,ba.o,bc.o,bd.o,o!,bf.o⟩;exact be.o
   have ad:J?<|gw ms (J++[⟨sg,at',nm,t?,n2,tx,wt,tg⟩])=gw ms J:=h!<|by rw[aw.o];simp[hq]
   have bu:¬((sg:Int)=(fR ms nm:Int)):=o!;clear U;go_wp2;rw[<-ac];go_roundw;exact⟨J++[⟨sg,at',nm,t?,n2,tx,wt,tg⟩],V,sM HP.o au.o,a2.o,a3.o,by rw[ad.o];exact al.o,aA.o,o!,a'.o⟩;exact aB.o
 intro m V w2 ai Y ab aa a7 ap;have aq:=ij.lt Y;have ar:=lI.lt<|ij.owns Y;have aj:=h!<|nF HB.o aa o!;have ah:=h! Y;have ak:=h!<|ed.stay HM.o<|aa.5 _ o! i!;have a8:=h! ab;have au:=h! ai;have aP:w.1.size+2<=w2.1.size:=o!;have av:=a6.o m<|HP.o.mem_iff.1<|Z' _<|ai.mem_iff.2<|ZT ..;have aR:=Hw O m;have aw:=h! aR;have a1:=h! av;clear ai Y ab aa a7 aR av;obtain⟨sg,at',nm,wd,n2,tx,wt,tg⟩:=m;simp only[rj.val,V3]at ap⊢
 have aD:J?<|ed _ 9 ((w2.alloc<|.cells #[.int i? sg,.int i? at'] 170).alloc<|.cells #[.int i? sg,.int i? at',.string ⟨a? nm⟩,.bool wd,.string ⟨a? n2⟩,.string ⟨a? tx⟩,.int i? wt,.int i? tg] 172) _ nl:=
  ed.below ak.o (((l4 _ _).alloc (Zu _) _).alloc i! _)
 have am:=(aD.o.look (z:=.int i? 0) om oo k! nm a1.o.2).1;rw[a0.o nm]at am;go_wp2_with (first|(at_mapUpdate;refine lq _ q? _ _ _ 179 q? 3 om oo q? aD.o ?c1 nm a1.o.2 q? _ q? ?_))
 case c1=>unfold dq;omega
 intro w5 aS aE bv;have bg:J? _:=aS;have U:Below _ w2<|(w2.alloc<|.cells #[.int i? sg,.int i? at'] 170).alloc<|.cells #[.int i? sg,.int i? at',.string ⟨a? nm⟩,.bool wd,.string ⟨a? n2⟩,.string ⟨a? tx⟩,.int i? wt,.int i? tg] 172:=(((l4 _ _).alloc (Zu _) _).alloc i! _);have hold:∀j,j<w2.1.size->j≠w.1.size->w5.1[j]?=w2.1[j]?:=λj hj bh=>(aE.5 j j! (by simp;exact bh)).trans<|U.5 j hj;have bi:J?<|tP w5 B _ ms V:=ij.stay ah.o (hold B ar o!)<|hold _ aq o!
 have bj:J?<|w5.rangeLeft B (w.1.size+1)<wr.rangeLeft B (w.1.size+1):=by show _<_;rw[fg.l7 (hold B ar o!)<|hold _ aq o!];exact a8.o
 have bk:J?<|B? w w5:=by show Below _ _ _;refine(aj.o.trans<|U.mono o!).grown aE j!<|λb hb=>?_;cases hb;exact Zu _
 have bl:w.1.size+2<=w5.1.size:=o!;clear am aE aS hold U aD ap;go_wp2;go_roundw;refine⟨O++[⟨sg,at',nm,wd,n2,tx,wt,tg⟩],V,_,sM HP.o au.o,bi.o,bg.o,?_,λx=>?_,bk.o,bl⟩;have:=Sl nl nm<|.int i?<|max (fR O nm) sg;rw[Zh,T?];omega;rw[Rf,aw.o x,a0.o x];by_cases e:x=nm;subst e;rw[if_pos q?,if_pos rfl];simp;omega;rw[if_neg e,if_neg<|λh=>e h.symm];exact bj.o
end
namespace D
open RowKit Go.Sort
def UB{w y}(h:gR w y):∃q os,y=grow (w.drewN q) os:=by obtain⟨⟨B,J,O,W,U⟩,Y⟩:=h;refine⟨y.3-w.3,y.1.extract w.1.size y.1.size,?_⟩;obtain⟨yh,yt,yd,yo,yu⟩:=y;obtain⟨wh,wt,wd,wo,wu⟩:=w;simp only at B J O W U Y;subst B J O;unfold grow World.drewN;simp only[World.mk.injEq,and_true,true_and];constructor;apply cU;intro i;by_cases V:i<wh.size;rw[P! V];exact U i V;rw[Array.getElem?_append_right o!,Array.getElem?_extract];by_cases h:i<yh.size;rw[if_pos o!];congr 1;omega;rw[if_neg o!];exact ZB o!;omega
def FA(x y:Int):Int:=if x<y then -1 else if y<x then 1 else 0
def NI(x y)(w):dn prog 127 #[n? i? x,n? i? y] w λe w'=>e=e? (n? i?<|FA x y)/\w=w':=by
 unfold FA;by_cases B:x<y
 .go_wp2;go_ret;exact⟨q?,q?⟩
 by_cases J:y<x
 .go_wp2;go_ret;exact⟨q?,q?⟩
 go_wp2;go_ret;exact⟨q?,q?⟩
def Wu(x y z)(g)(w)(Y:C? w ⟨g,0,x?⟩=y? (n? i? x))(h1:C? w ⟨g,1,x?⟩=y? (n? i? y))(h2:C? w ⟨g,2,x?⟩=y? (n? i? z)):dn prog 126 #[.slice (y? ⟨g,0,x?⟩) 3 3] w λe w'=>e=e? (n? i? (if x≠0 then x else if y≠0 then y else z))/\w=w':=by
 by_cases B:x=0
 .subst B;rw[if_neg i!];by_cases J:y=0
  .subst J;rw[if_neg i!];by_cases O:z=0
   .subst O;go_enter oK,oA;go_wp2;apply ZI 4;rw[h?];go_wp2;rw[h?];go_wp2;rw[h?];go_wp2;rw[h?];go_wp2;go_ret;exact⟨q?,q?⟩
   have U:(z==0)=f?:=by simpa using O
   go_enter oK,oA;go_wp2;apply ZI 3;rw[h?];go_wp2;rw[h?];go_wp2;rw[h?];go_wp2;go_ret;exact⟨q?,q?⟩
  have V:(y==0)=f?:=by simpa using J
  rw[if_pos J];go_enter oK,oA;go_wp2;apply ZI 2;rw[h?];go_wp2;rw[h?];go_wp2;go_ret;exact⟨q?,q?⟩
 rw[if_pos B];have W:(x==0)=f?:=by simpa using B
 go_enter oK,oA;go_wp2;apply ZI 1;rw[h?];go_wp2;go_ret;exact⟨q?,q?⟩
def ZaA{w:w?}{x y z t g}(B:g=w.1.size):(C? (w.alloc<|c? #[x,y,z] t) ⟨g,0,x?⟩=y? x/\C? (w.alloc<|c? #[x,y,z] t) ⟨g,1,x?⟩=y? y)/\C? (w.alloc<|c? #[x,y,z] t) ⟨g,2,x?⟩=y? z:=by subst B;refine⟨⟨?_,?_⟩,?_⟩<;>rw[Zl _ _ _ _ rfl]<;>rfl
def cfA(x y:eE):Int:=if FA y.4 x.4≠0 then FA y.4 x.4 else if vd (dF x) (dF y)≠0 then vd (dF x) (dF y)else vd x.1 y.1
def JH(x y)(w)(hx:x.3.length<=1048576)(B:y.3.length<=1048576):dn prog 84 #[.agg #[.string ⟨a? x.1⟩,.string ⟨a? x.3⟩,.int i? x.4,.int i? x.5],.agg #[.string ⟨a? y.1⟩,.string ⟨a? y.3⟩,.int i? y.4,.int i? y.5]] w λe w'=>e=.returned (.int i?<|cfA x y)/\gR w w':=by
 obtain⟨z1,V⟩:∃z,z=FA y.4 x.4:=⟨_,q?⟩;obtain⟨z2,Y⟩:∃z,z=vd (dF x) (dF y):=⟨_,q?⟩;obtain⟨z3,aa⟩:∃z,z=vd x.1 y.1:=⟨_,q?⟩;obtain⟨Ot,J⟩:∃Ot,Ot=if z1≠0 then z1 else if z2≠0 then z2 else z3:=⟨_,q?⟩
 have e:cfA x y=Ot:=by rw[J,V,Y,aa];rfl
 rw[e];clear e;obtain⟨kx,ab⟩:∃k,k=dF x:=⟨_,q?⟩;obtain⟨ky,ac⟩:∃k,k=dF y:=⟨_,q?⟩;have H1:J? (∀W,dn _ 127 _ W λe w'=>e=.returned (.int _ z1)/\W=w'):=λW=>by rw[V];exact NI _ _ W
 have H2:J? (∀W,dn _ 128 _ W λe w'=>e=.returned (.int _ z2)/\W=w'):=λW=>by rw[Y,<-ab,<-ac];exact s4 _ _ W
 have H3:J? (∀W,dn _ 128 _ W λe w'=>e=.returned (.int _ z3)/\W=w'):=λW=>by rw[aa];exact s4 _ _ W
 have HX:J? (∀W,dn _ 50 _ W λe w'=>e=.returned (.string ⟨a? kx⟩)/\gR W w'):=λW=>by have h:=vR ⟨a? x.3⟩ W (by show x.3.toArray.size<=_;simp;omega);rwa[ab]
 have HY:J? (∀W,dn _ 50 _ W λe w'=>e=.returned (.string ⟨a? ky⟩)/\gR W w'):=λW=>by have h:=vR ⟨a? y.3⟩ W (by show y.3.toArray.size<=_;simp;omega);rwa[ac]
 have HO:J? (∀(g:Nat)(W:w?),C? W _=y? _->C? W _=y? _->C? W _=y? _->dn _ 126 _ W λe w'=>e=.returned (.int _ Ot)/\W=w'):=λg W k0 k1 k2=>by rw[J];exact Wu z1 z2 z3 g W k0 k1 k2
 clear J V Y aa ab ac hx B;obtain⟨nx,_,tx,wx,gx⟩:=x;obtain⟨ny,_,ty,wy,gy⟩:=y;simp only at H1 H3 HX HY⊢;obtain⟨w0,O⟩:∃w0,w0=(w.alloc<|.cells #[.string ⟨a? nx⟩,.string ⟨a? tx⟩,.int i? wx,.int i? gx] 96).alloc (.cells #[.string ⟨a? ny⟩,.string ⟨a? ty⟩,.int i? wy,.int i? gy] 96):=⟨_,q?⟩
 have hA:∀j,C? w0 ⟨w.1.size,j,x?⟩=(#[Value.string ⟨a? nx⟩,.string ⟨a? tx⟩,.int i? wx,.int i? gx])[j]?:=λj=>by rw[O,lk _ _ _ i!,Zl _ _ _ _ rfl]
 have U:∀j,C? w0 ⟨w.1.size+1,j,x?⟩=(#[Value.string ⟨a? ny⟩,.string ⟨a? ty⟩,.int i? wy,.int i? gy])[j]?:=λj=>by rw[O,Zl _ _ _ _ i!]
 have ad:J?<|gR w w0:=by rw[O];exact(gR.alloc _ _).trans<|gR.alloc _ _
 have a0:C? w0 _=y? (.string _):=hA 0;have a1:C? w0 _=y? (.string _):=hA 1;have a2:C? w0 _=y? (.int _ wx):=hA 2;have b0:C? w0 _=y? (.string _):=U 0;have b1:C? w0 _=y? (.string _):=U 1;have b2:C? w0 _=y? (.int _ wy):=U 2;clear hA U;go_enter func84,ntmps84;go_wp2_with fail;rw[<-O];clear O;refine j0 k! ?_;refine dA 0 ?_ ?_<|dA 1 ?_ ?_<|dA 2 ?_ ?_<|dA 3 ?_ ?_ ?_
 any_goals(intro y B;have q:=Z0 B.1 b2;have q1:=Z0 B.1 a2;exact x!)
 go_simp;refine dA 4 ?_ ?_ ?_;rotate_left
 .intro y B;exact y!<|H1.o y
 refine dA 5 ?_ ?_<|dA 6 ?_ ?_ ?_
 any_goals(intro y B;have q:=Z0 B.1 a1;exact x!)
 go_simp;refine dA 7 ?_ ?_ ?_;rotate_left
 .intro y B;exact z!<|HX.o y
 refine dA 8 ?_ ?_<|dA 9 ?_ ?_ ?_
 any_goals(intro y B;have q:=Z0 B.1 b1;exact x!)
 go_simp;refine dA 10 ?_ ?_ ?_;rotate_left
 .intro y B;exact z!<|HY.o y
 go_simp;refine dA 11 ?_ ?_ ?_;rotate_left
 .intro y B;exact y!<|H2.o y
 refine dA 12 ?_ ?_<|dA 13 ?_ ?_<|dA 14 ?_ ?_<|dA 15 ?_ ?_ ?_
 any_goals(intro y B;have q:=Z0 B.1 a0;have q1:=Z0 B.1 b0;exact x!)
 go_simp;refine dA 16 ?_ ?_ ?_;rotate_left
 .intro y B;exact y!<|H3.o y
 go_simp;refine GR (rs:=[17]) k! i! ?_;intro i hi;simp only[Zg]at hi;subst hi;apply Gu (λg=>.slice (y? ⟨g,0,x?⟩) 3 3) (λg y=>(C? y ⟨g,0,x?⟩=y? (.int i? z1)/\C? y ⟨g,1,x?⟩=y? (.int i? z2))/\C? y ⟨g,2,x?⟩=y? (.int i? z3)) q? (fK _) (λg=>((eL _ _).and<|eL _ _).and<|eL _ _) l!
 .intro y B;unfold lO;go_simp;exact⟨gR.alloc _ _,q?,ZaA q?⟩
 intro g;go_simp;refine dA 18 ?_ ?_ ?_ (hC:=((fK _).and<|((eL _ _).and<|eL _ _).and<|eL _ _));rotate_left
 .intro y B;obtain⟨_,⟨k0,k1⟩,k2⟩:=B;exact y!<|HO.o _ y k0 k1 k2
 go_simp;refine dA 19 ?_ ?_ ?_ (hC:=((fK _).and<|((eL _ _).and<|eL _ _).and<|eL _ _));rotate_left
 .intro y B;exact x!
 refine qF k! ?_ _;rintro y ⟨B,_⟩;have ae:=h!<|gR.trans ad.o B;clear B;go_simp;go_wp2;go_ret;exact⟨q?,ae.o⟩
end D
section
open RowKit Go.Sort D
def VK(x y):FA x y<0↔x<y:=by unfold FA;split;exact⟨λ_=>a!,λ_=>o!⟩;split<;>constructor<;>intro h<;>omega
def Fa(x y):FA x y=0↔x=y:=by unfold FA;split;constructor<;>intro h<;>omega;split<;>constructor<;>intro h<;>omega
def Yp(x y):ltOf cfA x y=t?↔fw x y=t?:=by unfold ltOf cfA fw;rw[decide_eq_true_eq];by_cases h:x.4=y.4;rw[if_pos h,if_neg (by rw[n8];exact(Fa ..).2 h.symm)];by_cases B:dF x=dF y;rw[if_pos B,if_neg (by rw[n8];exact(uA ..).2 B),AG];rw[if_neg B,if_pos<|λe=>B<|(uA ..).1 e,AG];rw[if_neg h,if_pos<|λe=>h ((Fa ..).1 e).symm,VK];simp
def EU(x y):fw x y=t?\/(x.4=y.4/\dF x=dF y/\x.1=y.1)\/fw y x=t?:=by
 unfold fw;by_cases h:x.4=y.4;rw[if_pos h,if_pos h.symm];by_cases J:dF x=dF y;rw[if_pos J,if_pos J.symm];obtain B|B|B:=jz ..
 exact .inl B;exact .inr (.inl ⟨h,J,B⟩);exact .inr (.inr B);rw[if_neg J,if_neg<|λe=>J e.symm];obtain B|B|B:=jz ..
 exact .inl B;exact absurd B J;exact .inr (.inr B);rw[if_neg h,if_neg<|λe=>h e.symm];simp only[decide_eq_true_eq];omega
def Mt{x y z}(h:x.4=y.4/\dF x=dF y/\x.1=y.1)(B:fw x z=t?):fw y z=t?:=by unfold fw at *;rwa[<-h.1,<-h.2.1,<-h.2.2]
def A7(e:eE):eE:={e with text:=e.3.take 1048576}
def FU{e}(h:l? e.3<=1048576):A7 e=e:=by unfold A7;rw[If h]
def Ic(e):(A7 e).3.length<=1048576:=by show(e.3.take _).length<=_;rw[List.length_take];omega
def cfC(x y:eE):Int:=cfA (A7 x)<|A7 y
def zh(e:eE):List v?:=oD<|A7 e
def yV(x y):ltOf cfC x y=t?↔fw (A7 x) (A7 y)=t?:=Yp ..
def XC:SWO (ltOf cfC) where
 irrefl x:=by
  cases h:ltOf cfC x x with
  |false=>rfl|true=>rw[yV,xB]at h;cases h
 trans x y z h1 h2:=by rw[yV]at *;exact qI h1 h2
 ntrans x y z h1 h2:=by
  cases B:ltOf cfC x z with
  |false=>rfl|true=>
   rw[yV]at B;have n2:¬fw (A7 y) (A7 z)=t?:=by rw[<-yV,h2];simp
   obtain h|h|h:=EU (A7 x)<|A7 y
   exact absurd h (by rw[<-yV,h1];simp);exact absurd (Mt h B) n2;exact absurd (qI h B) n2
def Vm(blk off size)(w):CmpLays prog 84 #[] zh 4 cfC blk off size w:=by intro m os B _ x y;apply (JH _ _ _ (Ic x)<|Ic y).mono;rintro e w' ⟨rfl,h⟩;exact⟨q?,UB h⟩
def UU(x):∀v∈zh x,v.oneCell'=t?:=KJ _
def zf(es:E?):(l6 es).length=l? es*4:=by
 induction es with
 |nil=>rfl|cons a l B=>
  have e:l6 (a::l)=oD a++l6 l:=by simp[l6]
  rw[e];simp[oD];omega
def Bp(es:E?)(h:∀e∈es,l? e.3<=1048576):(sb zh 4 es.toArray).1=l6 es:=by
 apply cC;intro j;by_cases O:j<l? es*4;have U:j<(sb zh 4 es.toArray).size:=by simpa using O
 have J:j / 4<l? es:=o!;have V:es.toArray[j / 4]! = es[j / 4]:=by rw[getElem!_pos _ _<|u! J];simp
 have g:=get_flatK zh 4 es.toArray j<|u! O;rw[V]at g;have B:=FU<|h _<|Zw J;unfold zh at g;rw[B]at g;have:=EA es _ (j % 4) J o!;rw[(o!:j / 4*4+j % 4=j)]at this;rw[this];have B:j % 4<(oD es[j / 4]).length:=by simp[oD];omega
 rw[getElem!_pos (oD _) _ B,getElem!_pos _ j U]at g;rw[BY B,<-g,ZL,Z1 U];rfl;rw[ZA j!,ZA (by rw[zf];omega)]
def R9{w}{base e n m cap g:Nat}{ws:E?}(h:R? w base e 4 (.slice (y? ⟨g,0,x?⟩) m cap) n<|l6 ws)(Y:n=l? ws)(hb:∀e∈ws,l? e.3<=1048576):HoldsK zh 4 w g 0 ws.toArray:=by
 subst Y;intro j O;rw[sd]at O;have U:j<(sb zh 4 ws.toArray).size:=by simpa using O
 have B:(l6 ws)[j]?=y? ((sb zh 4 ws.toArray)[j]!):=by rw[<-Bp ws hb,getElem!_pos _ j U,ZL,Z1 U]
 obtain⟨h0,_⟩|⟨g',V,cur,he,_,W,_,_,aa,J⟩:=h.2
 simp at h0;obtain⟨⟨rfl,_⟩,_,rfl⟩:=he;constructor;rw[dx W];rw[<-J,Zi,if_pos o!]at B;simpa using B;simp[World.frozen?,W]
def Ti{F cur:V?}(h:F.size<=cur.size):(sa id 0 F cur).1.take F.size=F.1:=by apply cC;intro j;by_cases B:j<F.size;rw[Zi,ZL];unfold sa;rw[de,Z1 o!];simp only[N!,ZP,ZD,true_and,B,if_true,Nat.sub_zero,id];rw[getElem!_pos F j B,ZL,Z1 B];rw[ZA j!,ZA j!]
def WU{F cur:V?}{u}(h:u∈(sa id 0 F cur).1):u∈F.1\/u∈cur.1:=by unfold sa at h;simp at h;obtain⟨i,J,rfl⟩:=h;split;rename_i B;rw[getElem!_pos F i B];simp;simp
def T1(base)(au)(cu)(es:E?)(w)(O:R? w base 96 4 (.slice au es.length cu) es.length<|l6 es)(aj:(es.map eE.name).Nodup)(hl:l? es<=1048576)(hb:∀e∈es,l? e.3<=1048576)(ae:oM Flat w<|.slice au es.length cu) :
  dn prog 83 #[.slice au es.length cu,.func (.func 84) #[] #[]] w λe w2=>e=e? (.tuple #[])/\Below base w w2/\
   ∃L:E?,L.Perm es/\L.Pairwise (λx y=>fw x y=t?)/\R? w2 base 96 4 (.slice au es.length cu) es.length (l6 L)/\oM Flat w2 (.slice au es.length cu):=by
 obtain⟨he,hn⟩|⟨g,cap,cur,he,U,Y,h1,h2,h3,h4⟩:=O.2
 have hG:=List.length_eq_zero_iff.1<|u! hn;subst hG;have J:=AnyF.slices_SortFunc_none Ol au cu (.func (.func 84) #[] #[]) w;change dn prog 83 _ _ _ at J;apply J.mono;rintro e w2 ⟨rfl,rfl⟩;exact⟨q?,l4 _ _,[],q8 _,List.Pairwise.nil,O,ae⟩;simp only[Value.slice.injEq]at he;obtain⟨rfl,_,rfl⟩:=he;have aa:=(AI.1 Y).1
 have J:=AnyQ.slices_SortFunc Ol 4 isAgg96 sizeOf96 zh (λ_=>rfl) UU cfC XC 84 #[] g 0 cu es.toArray w
  (enters_of func84 k! q?) (Vm g 0 _ w) (R9 O q? hb) aa j!
 change dn prog 83 _ _ _ at J;apply J.mono;rintro e w2 ⟨rfl,B,nq,os,hp,hs,rfl⟩;have ab:B.size=l? es:=by rw[hp.1];simp
 have af:(sortWorldK zh 4 w g 0 nq B os).1[g]?=y? (c? (sa id 0 (sb zh 4 B) cur) 96 (0,0)):=by unfold sortWorldK putRowK;rw[heap_grow_old _ _<|u! aa];simp[putRow,mapBlock,Sort.ahead,Ze,Y,onCells]
 have fL:B.1.Perm es:=by
  have e1:B.extract 0 es.toArray.size=B:=by rw[<-hp.1];simp
  have e2:es.toArray.extract 0 es.toArray.size=es.toArray:=i!;have p3:=hp.2.2;rwa[e1,e2]at p3
 have ac:∀e∈B.1,l? e.3<=1048576:=λe he=>hb e<|fL.mem_iff.1 he
 have hF:=by have:=Bp _ ac;simpa using this
 have ag:(sb zh 4 B).size=l? es*4:=by rw[sd,ab]
 have ad:B.1.Pairwise<|λx y=>fw x y=t?:=by
  have V:=(fL.map _).nodup_iff.2 aj;rw[Zr];intro i j hi hj ah;have ak:l? B.1=es.toArray.size:=by simpa using ab
  have h:=hs i j (ZP _) ah o!;have gi:B[i]! = B.1[i]:=by rw[getElem!_pos B i _];rfl
  have gj:B[j]! = B.1[j]:=by rw[getElem!_pos B j _];rfl
  rw[gi,gj]at h;obtain h'|h'|h':=EU _ _
  exact h';rw[List.Nodup,List.pairwise_map,Zr]at V;exact absurd h'.2.2<|V i j hi hj ah;have:ltOf cfC B.1[j] _=t?:=(yV ..).2 (by rwa[FU<|ac _<|Zw hi,FU<|ac _<|Zw hj]);rw[h]at this;cases this
 refine⟨q?,zY U aa,B.1,fL,ad,⟨by rw[zf];simp[ab],.inr ⟨g,cu,_,q?,U,af,h1,h2,by simp[sa,h3],?_⟩⟩,?_⟩;rw[<-ag,Ti (by rw[ag,h3];exact IN _ h1),hF];intro g' cs e' f ai W u hu;simp only[ry,m?]at ai;subst ai;rw[af]at W;obtain⟨rfl,_⟩:=W;obtain h|h:=WU hu
 rw[hF]at h;obtain⟨x,_,hx⟩:=r!.1 h;exact EN x u hx;exact ae g cur _ _ q? Y u h
end
