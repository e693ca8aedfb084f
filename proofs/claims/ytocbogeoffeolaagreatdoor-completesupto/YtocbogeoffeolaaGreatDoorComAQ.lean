import Derived.Test.YtocbogeoffeolaaGreatDoorComAP
import Derived.Conc.Holds
import Derived.ChangeMaps5
set_option linter.all false
set_option maxHeartbeats 8000000
set_option maxRecDepth 1000000
open Go.Proofs.YtocbogeoffeolaaGreatDoor.Rows renaming uptoBulkAll->a5,uptoBulk->a6,completesSpec->a7,completesUptoRow->a8
open Go.OpenClaim renaming world->a9,startTold->a',startFits->aA,pre_eq_preRow->aB,post_not_still->aC,okInput->aD,namedList->aE,lists->aF,form->aG,atReturn->aH,always->aI
open List renaming range->aJ
open Go renaming joinedFacts->aK,ReturnsInLeavingWide->aM,TypeId->aN
open Bool renaming false->f?,true->t?
open Go renaming Value->v?,World->w?
open List renaming length->l?
open Option renaming none->x?,some->y?
namespace Go.Proofs.YtocbogeoffeolaaGreatDoor
open Go.Proofs.Tryz
section
open Go
def uq{p s c}(f)(fn)(hn:c.program=p.name)(hs:c.sum=p.sum)(aa:c.spec=s.name)(B:c.start=.entering)(ho:c.outside=[])(ht:c.inits=[]/\c.under=x?/\c.initsInPlace=[]/\c.initsUnfollowed=f?/\c.initsRecurse=f?/\c.initsNamed=[]/\c.initsPassed=[])(hb:c.noBlocks=f?)(ab:c.leaving=t?)(O:c.followed=x?)(U:c.narrowed=s.cond.isSome)(ac:c.still=f?)
  (ad:p.checked.prog.funcNamed c.func=y? f) (hf:p.checked.prog.funcs[f]?=y? fn) (closed:aK p.checked.prog f fn s.bare c=t?) (hi:fn.isInstance p.checked.prog c.origin c.targs) (hw:fn.isWrapper p.checked.prog c.wrapper c.mainSum)
  (h:∀os,os.Started->∀(H)(enc:aN×v?->H),∀F,aM c.assume p.checked os f .any (c.pre enc p.checked.prog fn s) ((s.at F).post enc p.checked.prog fn c.apart c.fresh c.handsOn c.again)):c.holds p s:=by
 simp only[aK,Bool.and_eq_true,beq_iff_eq,Array.all_eq_true_iff_forall_mem,List.all_eq_true,decide_eq_true_eq]at closed;obtain⟨⟨⟨⟨⟨⟨⟨⟨⟨⟨⟨⟨⟨⟨⟨⟨⟨⟨⟨⟨⟨⟨⟨⟨⟨⟨⟨⟨⟨⟨⟨k1,k2⟩,k3⟩,k4⟩,k5⟩,k6⟩,k7⟩,k8⟩,k9⟩,ae⟩,af⟩,ag⟩,ah⟩,ai⟩,aj⟩,ak⟩,al⟩,am⟩,an⟩,ao⟩,ap⟩,aq⟩,ar⟩,W⟩,au⟩,Y⟩,av⟩,aw⟩,ax⟩,ay⟩,az⟩,a0⟩:=closed;have hq:∀os:Os,Stop.quiet p.checked.prog os:=λos k hk=>by rw[k9]at hk;cases hk
 have hd:c.startFits p.checked.prog:=by unfold aA;rw[B];exact Y
 have a1:c.startTold p.checked.prog:=by unfold a';rw[B];exact⟨ht.1,ht.2.1,ht.2.2⟩
 refine⟨k1,hn,hs,aa,k2,k3,hd,a1,f,fn,ad,hf,⟨k4,ao⟩,(λx=>by rw[hb]at x;cases x),by unfold aE;rw[O];exact k5,hi,hw,k6.trans k7.symm,⟨k8.trans k9.symm,by unfold Program.envWorded;rw[k9];rfl,au⟩,ae,af,ag,ah,ai,⟨aj,az,a0⟩,⟨ak,ap⟩,⟨al,aq,ax,ay⟩,⟨ar,av,aw,am⟩,?_,λn a2=>varReadable_some (an n a2),⟨_,by unfold a9;rw[ho,B];exact WideRow.started_initial,hq _⟩,[],by unfold aF;rw[O],λos st _ H enc _=>?_⟩;rw[ho,U]
 cases a3:c.shortTexts with
 |none=>simp|some _=>rw[a3]at W;cases W
 have a4:os.Started:=by unfold a9 at st;rw[ho,B]at st;exact st
 have h0:=λF=>h os a4 H enc F Y;rw[aC ac];unfold aG aD aH aI;simp only[B,k6,hb,ab,O,ho];exact λF=>h0 F
end
section
open Go.ChangeMaps Go.ChangeShapes Go.WideShapes Go.ChangeAt Go.RowKit Go.Conc
variable {H:Type}
def GH(l:List (DataW H)):l? l*2<=a5 l+l? l:=by
 induction l with
 |nil=>simp[a5]|cons d r B=>
  have:1<=a6 d:=by
   cases d with
   |lit l=>cases l<;>simp[a6]
   |nil=>simp[a6]|ptr d=>simp[a6]|slice elems spare=>simp[a6]|agg parts=>simp[a6]|iface t d=>simp[a6]|map entries=>simp[a6]|held h=>simp[a6]
  simp only[a5,List.length_cons];omega
def PB(D:Nat->DataW H):∀(n),(∀i,i<n->2<=a6 (D i))->2*n<=a5 ((aJ n).map D):=by
 have B:∀l r:List (DataW H),a5 (l++r)=a5 l+a5 r:=by
  intro l r;induction l with
  |nil=>simp[a5]|cons x l O=>simp only[List.cons_append,a5,O];omega
 intro n;induction n with
 |zero=>intro _;omega|succ n O=>intro h;have U:=O (λi W=>h i o!);have Y:=h n o!;rw[List.range_succ,List.map_append,B];simp only[List.map_cons,List.map_nil,a5];omega
def Hh{enc:aN×v?->H}{W}{a0:Option Addr}{B cap0}{d0:DataW H}{p0:List MemPlace}(h0:DataW.Trod enc prog W 0 (λ_=>t?) t? 22 (.slice a0 B cap0) d0 p0)(hk:a5 [d0]<=1048576):TZ W a0 B/\B<=600000:=by
 obtain⟨aj,hf⟩:=h0;obtain⟨O,_⟩|⟨x,l,c,m,n,D,Pl,O,_,hl,hm,ad,hx,Y⟩:=Deep.open_slice underlying22 hf
 simp[Value.cells]at O;obtain⟨rfl,rfl,rfl⟩:=O;exact⟨λk hk=>o!,o!⟩;simp[Value.cells]at O;obtain⟨rfl,rfl,rfl⟩:=O;have al:B<=m:=by rw[ad];split<;>omega
 have fl:a5 ((aJ B).map D)<=1048576:=by
  have U:=hk
  have hd:d0=.slice ((aJ B).map D) ((aJ (m-B)).map λj=>D (B+j)):=by have:=congrArg Prod.fst hx;exact this
  rw[hd]at U;simp only[a5,a6]at U;omega
 constructor;intro k hk;obtain⟨b,off,spot⟩:=x
 have ae:spot=x?:=by obtain⟨am,ab,_⟩:=Y 0 o!;rw[KM]at ab;obtain⟨_,ak,aa⟩:=World.cells?_some ab;have h1:=aa 0 o!;rw[List.getElem?_eq_getElem o!]at h1;simpa[Addr.add]using World.cell?_spot h1
 subst ae;obtain⟨cs,hc,ht⟩:=Y k o!;rw[KM,Addr.add_lit]at hc;obtain⟨ac,Wn,N,M,K,S,T,aL,nL,cL,made,af⟩:=Sp hc ht (Nat.le_trans (sT _ k (D k) (by simp[hk])) fl);exact⟨b,off,ac,Wn,N,M,K,S,T,aL,nL,cL,made,q?,af⟩;have U:=hk
 have hd:d0=.slice ((aJ B).map D) ((aJ (m-B)).map λj=>D (B+j)):=by have:=congrArg Prod.fst hx;exact this
 have hD:∀i,i<B->2<=a6 (D i):=λi hi=>by
  obtain⟨cs,hc,ht⟩:=Y i o!;obtain⟨xs,n',rfl,ag,_,ah,_⟩:=DataW.trod_struct underlying77 ht;have ai:D i=.agg (xs.map (·.1)):=by have:=congrArg Prod.fst ag;exact this
  have an:(xs.map (·.1)).length=9:=by rw[List.length_map];exact ah
  have:=GH (xs.map (·.1));rw[ai];simp only[a6];omega
 have:=PB D B hD;rw[hd]at U;simp only[a5,a6]at U;omega
def M6(os)(args:Array v?):laidMet prog TJ ((World.doorLaid prog 29 os).forCall (λ_ _=>0) ⟨#[],args,[]⟩).memory:=
 laidMet_of_run' 8 k! k!
def TF(os)(enc:aN×v?->H):∃places,DataW.whole enc prog ((World.doorLaid prog 29 os).forCall (λ_ _=>0) ⟨#[],#[.slice x? 0 0],[]⟩).memory Tryz.f4.params.toList a7.vars f? #[Value.slice x? 0 0].toList 8=y? ([.nil],[],places):=
 ⟨[],k!⟩
def SU(os)(B:os.Started)(H)(enc:aN×v?->H)(F) :
  aM {} checked os 4 .any ((Rows.OpenSpec.upto a7).preRow enc prog Tryz.f4 a8.domain f? TJ) (((Rows.OpenSpec.upto a7).at F).post enc prog Tryz.f4 f? t? f? f?):=by
 obtain⟨places,hx⟩:=TF os enc
 refine qL (C:=checked) (s:=Rows.OpenSpec.upto a7) (F:=F) UL B func4
  (witness_row_at (enc:=enc) (C:=checked) f? (World.doorLaid prog 29 os) #[.slice x? 0 0] q? k! k! k!
    (OpenSpec.preRow_of_cond 8 hx k! (λk hk=>by cases hk;kernel_rfl) k! (M6 os _))) ?_
 intro W base args ds gs ae O hW Y hL af _;have U:∀(j:Nat)t v,Tryz.f4.params[j]?=y? t->args[j]?=y? v->Value.okWide prog W .any base t v:=O;have ab:=hW;obtain⟨p,q,ac,hV,rfl,_,_⟩:=hW;have hA:DataW.TrodAll enc prog W 0 (λ_=>t?) t? Tryz.f4.params.toList args.toList ds p:=ac;rw[params4]at hA U;obtain⟨v0,ak,d0,al,p0,q0,aa,rfl,rfl,h0,r0⟩:=trodAll_cons hA;obtain⟨rfl,rfl,rfl⟩:=trodAll_nil r0;obtain rfl:args=#[v0]:=by cases args;simp_all
 obtain⟨rfl,rfl⟩:=trodVars_none hV;obtain⟨a0,ai,aj,rfl⟩:=okWide_slice underlying22 (U 0 22 v0 q? q?);have ag:=U 0 22 _ q? rfl;have k0:=h0;have ah:∀x∈p0,x.block<W.1.size:=by obtain⟨m,hm⟩:=k0;exact DataW.trod_lt m _ _ _ hm
 obtain⟨hs,hn⟩:=Hh h0 (of_decide_eq_true (Y _ q?));clear ac O aa;simp only[List.append_nil]at ab;refine(Ae af (Ql hL) hs (λx hx=>by subst hx;exact(Mo underlying22 ag).2) hn).mono λv w ⟨hv,ad⟩=>?_;subst hv;refine⟨{w with tape:=W.tape},rfl,?_⟩;exact⟨_,_,_,[],_,[],ab,trodAll_mk1 (shut_bool underlying4 _),trodAll_cons_mk (Below.trod zG k! (of_decide_eq_true k!) k0 ad ah) trodAll_mk0,q?,ad.frame _,λh=>by cases h⟩
def R4:aK prog 4 Tryz.f4 (Rows.OpenSpec.upto a7).bare a8=t?:=by unfold aK;simp only[Bool.and_eq_true];and_intros <;>(as_aux_lemma=>kernel_rfl)
def BA:Rows.CompletesUptoSaid:=
 uq 4 Tryz.f4 q? q? q? q? q? ⟨q?,q?,q?,q?,q?,q?,q?⟩ q? q? q? q? q? k! func4 R4
  (of_decide_eq_true k!) (by unfold Func.isWrapper;first|(rw[if_pos (by decide +kernel)];kernel_rfl)|(rw[if_neg (by decide +kernel)];exact⟨q?,q?⟩))
  (λos B H enc F=>by rw[aB];exact SU os B H enc F)
def AQ(f)(fn)(U:Tryz.pinned.checked.prog.funcNamed a8.func=y? f)(B:Tryz.pinned.checked.prog.funcs[f]?=y? fn) :
  t?=Tryz.pinned.checked.prog.looks []/\∀(j:Nat)t,fn.params[j]?=y? t->Tryz.pinned.checked.prog.wantsStandIn t=f?:=by
 obtain rfl:f=4:=Option.some.inj ((k!:prog.funcNamed a8.func=y? 4).symm.trans U) |>.symm
 obtain rfl:fn=Tryz.f4:=(Option.some.inj (func4.symm.trans B)).symm;refine⟨k!,λj t O=>?_⟩;rw[params4]at O;obtain rfl:t=22:=by simpa using Array.mem_of_getElem? O
 exact(k!:prog.wantsStandIn 22=f?)
end
