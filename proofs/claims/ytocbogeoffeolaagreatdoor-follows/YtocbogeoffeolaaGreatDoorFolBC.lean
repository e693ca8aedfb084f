import Derived.Test.YtocbogeoffeolaaGreatDoorFolBB
import Derived.OpenShut
set_option linter.unusedVariables false
set_option linter.unusedSimpArgs false
set_option maxHeartbeats 8000000
set_option maxRecDepth 1000000
open Go.Proofs.YtocbogeoffeolaaGreatDoor.Rows renaming followsSpec->aq,followsRow->ar
open Go.Proofs.Tryz renaming underlying3->au,underlying26->av,checked->aw,func10->ax
namespace Go.Proofs.YtocbogeoffeolaaGreatDoor
open Go.Proofs.Tryz
section
open Go.ChangeShapes Go.WideShapes Go.ChangeAt Go.RowKit Go.Conc
theorem wH{n:Int}(h:(Lit.int .i64 n).wf=true) : -9223372036854775808<=n/\n<=9223372036854775807:=by
 simpa[Lit.wf,IntKind.min,IntKind.max,IntKind.signed,IntKind.bits]using h
theorem Mq:prog.cellsOf 3=1:=by kernel_rfl
theorem P'{H:Type}{enc:TypeId×Value->H}{W:World}{base:Nat}{a:Option Addr}{l c:Nat}{d:DataW H}{p:List MemPlace}(O:Value.okWide prog W .any base 26 (.slice a l c))(h:DataW.Trod enc prog W 0 (λ_=>true) true 26 (.slice a l c) d p) :
  ∃rs:List Int,rs.length=l/\QH W a rs/\l<=c/\l<=9223372036854775807/\∀x,a=some x->∃c e f,W.heap[x.block]?=some (.cells c e f):=by
 obtain⟨ad,hf⟩:=h;rcases open_ints av au Mq hf with⟨B,U⟩|⟨x,ae,af,zs,B,_,hl,hm,hz,U,D,Y⟩
 .simp[Value.cells]at B;obtain⟨rfl,rfl,rfl⟩:=B;exact⟨[],rfl,⟨λj hj=>absurd hj (by simp),λx U=>absurd U (by simp),λx U=>absurd U (by simp)⟩,Nat.le_refl _,by omega,λx e=>by cases e⟩
 .simp[Value.cells]at B;obtain⟨rfl,rfl,rfl⟩:=B;simp only[if_true]at hz;obtain⟨aa,ab⟩:=LD av O;have ag:c<=9223372036854775807:=hm;refine⟨zs.take l,by simp; omega,⟨λj hj=>?_,λy hy=>(wH (Y y (List.mem_of_mem_take hy))).1,λy hy=>(wH (Y y (List.mem_of_mem_take hy))).2⟩,hl,by omega,λy e=>by cases e; exact ab⟩;obtain⟨b,off,spot⟩:=x;simp only at aa;subst aa;have ac:j<zs.length:=by simp at hj; omega
  have:=D j ac;rw[Addr.add_lit]at this;refine⟨b,off,rfl,?_⟩;rw[this];simp[List.getD,ac]
theorem LR(os:Os)(args:Array Value):laidMet prog Sb ((World.doorLaid prog 29 os).forCall (λ_ _=>0) ⟨#[],args,[]⟩).memory:=
 laidMet_of_run' 8 (by kernel_rfl) (by kernel_rfl)
theorem Rq(os:Os){H:Type}(enc:TypeId×Value->H):∃places,DataW.whole enc prog ((World.doorLaid prog 29 os).forCall (λ_ _=>0) ⟨#[],#[.slice none 0 0,.int .i64 0,.int .i64 0],[]⟩).memory Tryz.f10.params.toList aq.vars false #[Value.slice none 0 0,.int .i64 0,.int .i64 0].toList 8=some ([.nil,.lit (.int .i64 0),.lit (.int .i64 0)],[],places):=
 ⟨[],by kernel_rfl⟩
theorem PX(os:Os)(B:os.Started)(H:Type)(enc:TypeId×Value->H) :
  ReturnsInLeavingWide {} aw os 10 .any ((OpenSpec.ofChange aq).preRow enc prog Tryz.f10 ar.domain false Sb) (aq.post enc prog Tryz.f10 false true false false):=by
 obtain⟨places,hx⟩:=Rq os enc
 refine rh (C:=aw) (s:=OpenSpec.ofChange aq) (F:=λ_ _ _=>0) Ta B ax
  (witness_row_at (enc:=enc) (C:=aw) false (World.doorLaid prog 29 os) #[.slice none 0 0,.int .i64 0,.int .i64 0] rfl (by kernel_rfl) (by kernel_rfl) (by kernel_rfl)
    (OpenSpec.preRow_of_cond 8 hx (by kernel_rfl) (λk hk=>by cases hk) (by kernel_rfl) (LR os _))) ?_
 intro W base args ds gs ad D hW _ hL ae _;have y:∀(j:Nat)t v,Tryz.f10.params[j]?=some t->args[j]?=some v->Value.okWide prog W .any base t v:=D;have U:=hW;obtain⟨p,q,Y,hV,rfl,_,_⟩:=hW;have hA:DataW.TrodAll enc prog W 0 (λ_=>true) true Tryz.f10.params.toList args.toList ds p:=Y;rw[params10]at hA y;obtain⟨v0,ak,d0,al,p0,q0,O,rfl,rfl,h0,r0⟩:=trodAll_cons hA;obtain⟨v1,am,d1,an,p1,q1,rfl,rfl,rfl,h1,r1⟩:=trodAll_cons r0;obtain⟨v2,ao,d2,ap,p2,q2,rfl,rfl,rfl,h2,r2⟩:=trodAll_cons r1;obtain⟨rfl,rfl,rfl⟩:=trodAll_nil r2;obtain rfl:args=#[v0,v1,v2]:=by cases args; simp_all
 obtain⟨rfl,rfl⟩:=trodVars_none hV;obtain⟨a0,ai,aj,rfl⟩:=okWide_slice av (y 0 26 v0 rfl rfl);have af:=y 0 26 _ rfl rfl;obtain⟨qa,rfl,rfl,rfl,wa⟩:=open_int au (y 1 3 v1 rfl rfl) h1;obtain⟨qb,rfl,rfl,rfl,wb⟩:=open_int au (y 2 3 v2 rfl rfl) h2;have k0:=h0;have ag:∀x∈p0,x.block<W.heap.size:=by obtain⟨m,hm⟩:=k0; exact DataW.trod_lt m _ _ _ hm
 obtain⟨rs,rfl,hR,ah,aa,ab⟩:=P' af h0;clear Y D O;simp only[List.append_nil]at U;refine(Da ae (DW hL) hR (λa ha=>ab a (List.mem_singleton.1 ha).symm) ah aa (wH wa).1 (wH wa).2 (wH wb).1 (wH wb).2).mono λv w ⟨hv,ac⟩=>?_;subst hv;refine⟨{w with tape:=W.tape},rfl,?_⟩;exact⟨_,_,_,[],_,[],U,trodAll_mk1 (shut_bool underlying4 _),trodAll_cons_mk (Below.trod vT (by kernel_rfl) (of_decide_eq_true (by kernel_rfl)) k0 ac ag) (trodAll_cons_mk (shut_int au wa) (trodAll_cons_mk (shut_int au wb) trodAll_mk0)),rfl,ac.frame _,λh=>by cases h⟩
theorem E2:Rows.FollowsSaid:=
 OpenClaim.holds_of_wide_leaving 10 Tryz.f10 rfl rfl rfl rfl rfl rfl rfl ⟨rfl,rfl,rfl,rfl,rfl⟩ rfl rfl rfl rfl rfl (by kernel_rfl) ax (by kernel_rfl)
  (of_decide_eq_true (by kernel_rfl)) (by unfold Func.isWrapper; first|(rw[if_pos (by decide +kernel)]; kernel_rfl)|(rw[if_neg (by decide +kernel)]; exact⟨rfl,rfl⟩))
  (λos y H enc _=>by rw[OpenClaim.pre_eq_preRow]; exact PX os y H enc)
theorem Dj(f:FuncId)(fn:Func)(D:Tryz.pinned.checked.prog.funcNamed ar.func=some f)(y:Tryz.pinned.checked.prog.funcs[f]?=some fn) :
  true=Tryz.pinned.checked.prog.looks []/\∀(j:Nat)t,fn.params[j]?=some t->Tryz.pinned.checked.prog.wantsStandIn t=false:=by
 obtain rfl:f=10:=Option.some.inj ((show prog.funcNamed ar.func=some 10 by kernel_rfl).symm.trans D) |>.symm
 obtain rfl:fn=Tryz.f10:=(Option.some.inj (ax.symm.trans y)).symm;refine⟨by kernel_rfl,λj t B=>?_⟩;rw[params10]at B;have:t=26\/t=3:=by simpa using Array.mem_of_getElem? B
 rcases this with rfl|rfl
 .exact(show prog.wantsStandIn 26=false by kernel_rfl)
 .exact(show prog.wantsStandIn 3=false by kernel_rfl)
end
end Go.Proofs.YtocbogeoffeolaaGreatDoor
