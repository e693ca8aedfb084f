import Derived.Test.YtocbogeoffeolaaGreatDoorRefAN
import Derived.JoinedCond
import Derived.Conc.Holds
import Derived.ChangeMaps5
set_option linter.all false
set_option maxHeartbeats 8000000
set_option maxRecDepth 1000000
open Go renaming trodAll_cons_mk->a2,ReturnsInLeavingWide->aC,joinedFacts->aD,TypeId->aE
open Go.Proofs.YtocbogeoffeolaaGreatDoor.Rows renaming refusedSpec->aF,refusedUptoRow->aG
open Go.OpenClaim renaming world->aH,startTold->aI,startFits->aJ,pre_eq_preRow->aK,post_not_still->aL,okInput->aM,namedList->aN,lists->aO,form->aP,atReturn->aQ,always->aR
open Go.Proofs.Tryz renaming underlying3->aS,checked->aT,underlying9->aU,func11->aV
namespace Go.Proofs.YtocbogeoffeolaaGreatDoor
open Go.Proofs.Tryz
section
open Go
theorem uU{p:Pinned}{s:OpenSpec}{c:OpenClaim}(f:FuncId)(fn:Func)(hn:c.program=p.name)(hs:c.sum=p.sum)(ab:c.spec=s.name)(B:c.start=.entering)(ho:c.outside=[])(ht:c.inits=[]/\c.under=none/\c.initsInPlace=[]/\c.initsUnfollowed=false/\c.initsRecurse=false/\c.initsNamed=[]/\c.initsPassed=[])(hb:c.noBlocks=false)(ac:c.leaving=true)(O:c.followed=none)(U:c.narrowed=s.cond.isSome)(ad:c.still=false)
  (ae:p.checked.prog.funcNamed c.func=some f) (hf:p.checked.prog.funcs[f]?=some fn) (closed:aD p.checked.prog f fn s.bare c=true) (hi:fn.isInstance p.checked.prog c.origin c.targs) (hw:fn.isWrapper p.checked.prog c.wrapper c.mainSum)
  (h:∀os:Os,os.Started->∀(H:Type)(enc:aE×Value->H),∀F:Stop.Interp,aC c.assume p.checked os f .any (c.pre enc p.checked.prog fn s) ((s.at F).post enc p.checked.prog fn c.apart c.fresh c.handsOn c.again)):c.holds p s:=by
 simp only[aD,Bool.and_eq_true,beq_iff_eq,Array.all_eq_true_iff_forall_mem,List.all_eq_true,decide_eq_true_eq]at closed;obtain⟨⟨⟨⟨⟨⟨⟨⟨⟨⟨⟨⟨⟨⟨⟨⟨⟨⟨⟨⟨⟨⟨⟨⟨⟨⟨⟨⟨⟨⟨⟨k1,k2⟩,k3⟩,k4⟩,k5⟩,k6⟩,k7⟩,k8⟩,k9⟩,af⟩,ag⟩,ah⟩,ai⟩,aj⟩,ak⟩,al⟩,am⟩,an⟩,ao⟩,ap⟩,aq⟩,ar⟩,au⟩,Y⟩,av⟩,aa⟩,aw⟩,ax⟩,ay⟩,az⟩,a0⟩,a3⟩:=closed;have hq:∀os:Os,Stop.quiet p.checked.prog os:=λos k hk=>by rw[k9]at hk; cases hk
 have hd:c.startFits p.checked.prog:=by unfold aJ; rw[B]; exact aa
 have a4:c.startTold p.checked.prog:=by unfold aI; rw[B]; exact⟨ht.1,ht.2.1,ht.2.2⟩
 refine⟨k1,hn,hs,ab,k2,k3,hd,a4,f,fn,ae,hf,⟨k4,ap⟩,(λx=>by rw[hb]at x; cases x),by unfold aN; rw[O]; exact k5,hi,hw,k6.trans k7.symm,⟨k8.trans k9.symm,by unfold Program.envWorded; rw[k9]; rfl,av⟩,af,ag,ah,ai,aj,⟨ak,a0,a3⟩,⟨al,aq⟩,⟨am,ar,ay,az⟩,⟨au,aw,ax,an⟩,?_,λn a5=>varReadable_some (ao n a5),⟨_,by unfold aH; rw[ho,B]; exact WideRow.started_initial,hq _⟩,[],by unfold aO; rw[O],λos st _ H enc _=>?_⟩
 .rw[ho,U]
  cases a6:c.shortTexts with
  |none=>simp
  |some _=>rw[a6]at Y; cases Y
 .have a7:os.Started:=by unfold aH at st; rw[ho,B]at st; exact st
  have h0:=λF=>h os a7 H enc F aa;rw[aL ad];unfold aP aM aQ aR;simp only[B,k6,hb,ac,O,ho];exact λF=>h0 F
end
section
open Go.ChangeMaps Go.ChangeShapes Go.WideShapes Go.ChangeAt Go.RowKit Go.Conc
theorem N0(os:Os)(args:Array Value):laidMet prog RX ((World.doorLaid prog 29 os).forCall (λ_ _=>0) ⟨#[],args,[]⟩).memory:=
 laidMet_of_run' 8 (by kernel_rfl) (by kernel_rfl)
theorem T8(os:Os){H:Type}(enc:aE×Value->H):∃places,DataW.whole enc prog ((World.doorLaid prog 29 os).forCall (λ_ _=>0) ⟨#[],#[.slice none 0 0,.slice none 0 0,.string ⟨#[]⟩,.int .i64 0,.int .i64 0,.int .i64 0],[]⟩).memory Tryz.f11.params.toList aF.vars false #[Value.slice none 0 0,.slice none 0 0,.string ⟨#[]⟩,.int .i64 0,.int .i64 0,.int .i64 0].toList 8=some ([.nil,.nil,.lit (.string []),.lit (.int .i64 0),.lit (.int .i64 0),.lit (.int .i64 0)],[],places):=
 ⟨[],by kernel_rfl⟩
theorem Ry(os:Os)(O:os.Started)(H:Type)(enc:aE×Value->H)(F:Stop.Interp) :
  aC {} aT os 11 .any ((Rows.OpenSpec.upto aF).preRow enc prog Tryz.f11 aG.domain false RX) (((Rows.OpenSpec.upto aF).at F).post enc prog Tryz.f11 false true false false):=by
 obtain⟨places,hx⟩:=T8 os enc
 refine rh (C:=aT) (s:=Rows.OpenSpec.upto aF) (F:=F) US O aV
  (witness_row_at (enc:=enc) (C:=aT) false (World.doorLaid prog 29 os) #[.slice none 0 0,.slice none 0 0,.string ⟨#[]⟩,.int .i64 0,.int .i64 0,.int .i64 0] rfl (by kernel_rfl) (by kernel_rfl) (by kernel_rfl)
    (OpenSpec.preRow_of_cond 8 hx (by kernel_rfl) (λk hk=>by cases hk; kernel_rfl) (by kernel_rfl) (N0 os _))) ?_
 intro W base args ds gs ag U hW Y hL ah _;have B:∀(j:Nat)t v,Tryz.f11.params[j]?=some t->args[j]?=some v->Value.okWide prog W .any base t v:=U;have ae:=hW;obtain⟨p,q,af,hV,rfl,_,_⟩:=hW;have hA:DataW.TrodAll enc prog W 0 (λ_=>true) true Tryz.f11.params.toList args.toList ds p:=af;rw[params11]at hA B;obtain⟨v0,ay,d0,az,p0,q0,aa,rfl,rfl,h0,r0⟩:=trodAll_cons hA;obtain⟨v1,a3,d1,a4,p1,q1,rfl,rfl,rfl,h1,r1⟩:=trodAll_cons r0;obtain⟨v2,a5,d2,a6,p2,q2,rfl,rfl,rfl,h2,r2⟩:=trodAll_cons r1;obtain⟨v3,a7,d3,a8,p3,q3,rfl,rfl,rfl,h3,r3⟩:=trodAll_cons r2;obtain⟨v4,a9,d4,a',p4,q4,rfl,rfl,rfl,h4,r4⟩:=trodAll_cons r3;obtain⟨v5,aA,d5,aB,p5,q5,rfl,rfl,rfl,h5,r5⟩:=trodAll_cons r4;obtain⟨rfl,rfl,rfl⟩:=trodAll_nil r5;obtain rfl:args=#[v0,v1,v2,v3,v4,v5]:=by cases args; simp_all
 obtain⟨rfl,rfl⟩:=trodVars_none hV;obtain⟨a0,au,av,rfl⟩:=okWide_slice underlying25 (B 0 25 v0 rfl rfl);obtain⟨a1,aw,ax,rfl⟩:=okWide_slice underlying26 (B 1 26 v1 rfl rfl);have ai:=B 0 25 _ rfl rfl;have aj:=B 1 26 _ rfl rfl;obtain⟨sb,rfl,rfl,rfl,ws⟩:=open_string aU (B 2 9 v2 rfl rfl) h2;obtain⟨qa,rfl,rfl,rfl,wa⟩:=open_int aS (B 3 3 v3 rfl rfl) h3;obtain⟨qb,rfl,rfl,rfl,wb⟩:=open_int aS (B 4 3 v4 rfl rfl) h4;obtain⟨qc,rfl,rfl,rfl,wc⟩:=open_int aS (B 5 3 v5 rfl rfl) h5;have k0:=h0;have k1:=h1;have ak:∀x∈p0,x.block<W.heap.size:=by obtain⟨m,hm⟩:=k0; exact DataW.trod_lt m _ _ _ hm
 have Uq:∀x∈p1,x.block<W.heap.size:=by obtain⟨m,hm⟩:=k1; exact DataW.trod_lt m _ _ _ hm
 obtain⟨ls,rfl,al,am,an,ab⟩:=OM ai h0;obtain⟨rs,rfl,ao,ap,aq,ac⟩:=RV aj h1
 have ar:sb.size+1<=maxLen:=by
  have hk:=of_decide_eq_true (Y _ rfl);simp only[List.cons_append,Rows.uptoBulkAll,Rows.uptoBulk]at hk;have:sb.size=sb.data.toList.length:=by show sb.data.size=_; rw[Array.length_toList]
  unfold maxLen;omega
 clear af U aa;simp only[List.append_nil]at ae
 refine(EG ah (F6 hL) (Pl hL) al ao (λa ha=>by
  simp only[List.mem_cons,List.not_mem_nil,or_false]at ha;rcases ha with ha|ha
  .exact ab a ha.symm
  .exact ac a ha.symm) am ap an aq ar (AD wa).1 (AD wa).2).mono λv w ⟨hv,ad⟩=>?_
 subst hv;refine⟨{w with tape:=W.tape},rfl,?_⟩;exact⟨_,_,_,[],_,[],ae,trodAll_mk1 (shut_bool underlying4 _),a2 (Below.trod tz (by kernel_rfl) (of_decide_eq_true (by kernel_rfl)) k0 ad ak) (a2 (Below.trod tz (by kernel_rfl) (of_decide_eq_true (by kernel_rfl)) k1 ad Uq) (a2 (shut_string aU ws) (a2 (shut_int aS wa) (a2 (shut_int aS wb) (a2 (shut_int aS wc) trodAll_mk0))))),rfl,ad.frame _,λh=>by cases h⟩
theorem Gr:Rows.RefusedUptoSaid:=
 uU 11 Tryz.f11 rfl rfl rfl rfl rfl ⟨rfl,rfl,rfl,rfl,rfl,rfl,rfl⟩ rfl rfl rfl rfl rfl (by kernel_rfl) aV (by kernel_rfl)
  (of_decide_eq_true (by kernel_rfl)) (by unfold Func.isWrapper; first|(rw[if_pos (by decide +kernel)]; kernel_rfl)|(rw[if_neg (by decide +kernel)]; exact⟨rfl,rfl⟩))
  (λos B H enc F=>by rw[aK]; exact Ry os B H enc F)
theorem DS(f:FuncId)(fn:Func)(U:Tryz.pinned.checked.prog.funcNamed aG.func=some f)(B:Tryz.pinned.checked.prog.funcs[f]?=some fn) :
  true=Tryz.pinned.checked.prog.looks []/\∀(j:Nat)t,fn.params[j]?=some t->Tryz.pinned.checked.prog.wantsStandIn t=false:=by
 obtain rfl:f=11:=Option.some.inj ((show prog.funcNamed aG.func=some 11 by kernel_rfl).symm.trans U) |>.symm
 obtain rfl:fn=Tryz.f11:=(Option.some.inj (aV.symm.trans B)).symm;refine⟨by kernel_rfl,λj t O=>?_⟩;rw[params11]at O;have:t=25\/t=26\/t=9\/t=3:=by simpa using Array.mem_of_getElem? O
 rcases this with rfl|rfl|rfl|rfl
 .exact(show prog.wantsStandIn 25=false by kernel_rfl)
 .exact(show prog.wantsStandIn 26=false by kernel_rfl)
 .exact(show prog.wantsStandIn 9=false by kernel_rfl)
 .exact(show prog.wantsStandIn 3=false by kernel_rfl)
end
end Go.Proofs.YtocbogeoffeolaaGreatDoor
