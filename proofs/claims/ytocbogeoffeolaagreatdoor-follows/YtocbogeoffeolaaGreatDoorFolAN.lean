import Derived.Test.YtocbogeoffeolaaGreatDoorFolAM
import Derived.Conc.Listed
import Derived.DyingOn
set_option linter.unusedVariables false
set_option linter.unusedSimpArgs false
set_option maxHeartbeats 8000000
set_option maxRecDepth 1000000
open Go renaming tryRecover->av,doReturn->aw,communicate->ax,stepG->ay,unwind->az,TypeId->a0,lone->a1,endThrow->a2,step_lone_ended->a3,step_lone_go->a4,callDeferred->a5,FuncId->a6,runN->a7,seen->a8,yielded->a9,findLabel->aA,oneG->aB,dieOf->aC,loadBytes->aD,nilAhead->aE,resolve->aF,gotoIn->aG,exitTo->aH,execOp->aI,variablesAt->aJ,goexitEntry->aK,method->aL,results->aM,partners->aN,callFunc->aO,eqGuard->aP,underlying->aQ,commResult->aR
open Go.Op renaming operands->aS,maxDepth->aT,equal->aU,eqGuardIn->aV
open Go.stepG renaming apply->aW,exec->aX
open Go.GStep renaming after->aY
open Go.Instr renaming endRound->aZ,takeDeferred->ba,beginRound->bc,deferInRound->bd,getLoop->be,enterLoop->bf,endLoop->bg,yield->bh
open Go.Sem renaming run->bi,runT_fst->bj,run_bind'->bk,bind->bm
open Go.Frame renaming pos->bn,eval->bo,catches->bp,raise->bq,round->br,enter->bs,finish->bt,oper?->bu
open Array renaming mapM_eq_mapM_toList->bv,empty_append->bw,mem_toList_iff->bx,foldl_toList->bz,mem_flatMap->b1,toList_zip->b2,toList_map->b3,mem_append->b4,swapAt!->b5
open Go.Builtin renaming clear_->b6,copy_->b7,min_->b8,max_->b9,len_->bA,cap_->bB,unsafeString_->bC,min2->bD,max2->bE
open Nat renaming le_trans->bF,le_refl->bG,lt_of_lt_of_le->bH,lt_of_succ_le->bI,le_of_succ_le->bJ,le_succ->bK
open Go.Call renaming operands->bL
open Go.GStep.go renaming injEq->bM
open Go.Goroutine.mk renaming injEq->bN
open Option renaming getD_some->bO,map_some->bP,bind_some->bQ
open Bool renaming false_eq_true->bR
open List renaming getElem?_cons_zero->bS,getElem?_toArray->bT
open Go.Extern.SlicesOverlaps renaming overlaps->bU
open Go.Extern.Bytes renaming loadBytes->bV,bytesOf->bW
open Option.some renaming injEq->bX,inj->bY
open Go.Made renaming depth->bZ
open Go.Stepped.next renaming injEq->cd
open Go.Region renaming wanted->ce,schedule->cf
open Go.Conv renaming runesToString->cg,bytesToString->ci
namespace Go.Proofs.YtocbogeoffeolaaGreatDoor
section
variable {ats:Array a0} {args args':Array Value} {t:a0} {x x' y y':Value}
section
variable {P:Program} {m:Ren}
theorem Ry(h:iI m args args'):gU P VR m (b7 ats t args) (b7 ats t args'):=by
 unfold b7
 cases ats[0]? with
 |none=>exact .gW trivial
 |some st=>
 cases W:args[0]? with
 |none=>exact .gW trivial
 |some s=>
 cases Y:args[1]? with
 |none=>exact .gW trivial
 |some x=>
 obtain⟨s',D,hs⟩:=h.get W;obtain⟨x',O,B⟩:=h.get Y;rw[D,O];refine gX λd hd=>?_;cases d<;>first|exact .gW trivial|skip
 cases hs<;>first|exact .gW trivial|skip
 .exact rj B λn=>iT λsz=>iL B λc c' U=>.pure (.int _ _)
 .rename_i ha;exact rj B λn=>iT λsz=>iL B λc c' U=>hU (nZ ha 0 U) λm' _ _ _ _=>.pure (.int _ _)
def qm(P:Program)(t:a0):Bool:=match P.underlying t with|some (.chan ..)=>false|_=>true
theorem Tm(B:∀t,ats[0]?=some t->qm P t=true)(h:iI m args args'):gU P VR m (bB ats t args) (bB ats t args'):=by
 unfold bB
 cases O:ats[0]? with
 |none=>exact .gW trivial
 |some st=>
 cases U:args[0]? with
 |none=>exact .gW trivial
 |some s=>
 obtain⟨s',D,W⟩:=h.get U;rw[D];have B:=B st O;refine gX λd Y=>?_;cases d<;>first|exact .gW trivial|exact .pure (.int _ _)|skip
 .refine gX λd2 _=>?_;cases d2<;>first|exact .gW trivial|exact .pure (.int _ _)
 .cases W<;>first|exact .gW trivial|exact .pure (.int _ _)
 .simp[qm,Y]at B
theorem SI(B:∀t,ats[0]?=some t->qm P t=true)(h:iI m args args'):gU P VR m (bA ats t args) (bA ats t args'):=by
 unfold bA
 cases Y:ats[0]? with
 |none=>exact .gW trivial
 |some st=>
 cases h0:args[0]? with
 |none=>exact .gW trivial
 |some s=>
 obtain⟨s',D,O⟩:=h.get h0;rw[D];have B:=B st Y;refine gX λd hd=>?_
 cases d with
 |array n e=>exact .pure (.int _ _)
 |pointer e=>
  refine gX λd2 _=>?_;cases d2<;>first|exact .gW trivial|exact .pure (.int _ _)
 |string=>cases O<;>first|exact .gW trivial|exact .pure (.int _ _)
 |slice e=>cases O<;>first|exact .gW trivial|exact .pure (.int _ _)
 |map k e=>
  cases O<;>first|exact .gW trivial|exact .pure (.int _ _)|skip
  case gone=>exact .gone ‹_›
  rename_i hb;refine jB hb λo o' ho=>?_;cases ho<;>first|exact .gW trivial|skip
  rename_i U;have W:=U.length;simp only[Array.length_toList]at W;dsimp only;rw[W];exact .pure (.int _ _)
 |chan a b=>simp[qm,hd]at B
 |_=>exact .gW trivial
theorem Qq(O:oJ P)(h:iI m args args'):gU P VR m (b6 ats t args) (b6 ats t args'):=by
 have fin:∀m',gU P VR m' (pure (.tuple #[])) (pure (.tuple #[])):=λm'=>.pure (.undef m');unfold b6
 cases ht:ats[0]? with
 |none=>exact .gW trivial
 |some st=>
 cases U:args[0]? with
 |none=>exact .gW trivial
 |some s=>
 obtain⟨s',B,W⟩:=h.get U;rw[B];refine gX λd D=>?_
 cases W with
 |pa=>exact fin m
 |jq l c=>exact fin m
 |map hb=>
  refine jB hb λo o' Y=>?_;cases Y<;>first|exact .gW trivial|exact mB hb (.map _ .nil) pF (fin m)
 |gone D=>exact .gone D
 |slice l c ha=>
  cases l with
  |zero=>exact fin m
  |succ l=>
   cases d<;>first|exact .gW trivial|skip
   exact j6 O λz hz=>hU (nZ ha 0 (sV hz.cells _)) λm' _ _ _ _=>fin m'
 |_=>exact .gW trivial
theorem RF(B:VR m x x')(h:VR m y y'):gU P VR m (bE x y) (bE x' y'):=by
 cases B with
 |int k n=>cases h<;>first|exact .gW trivial|exact .pure (.int _ _)
 |string s=>
  cases h with
  |string t=>exact .pure (.string _)
  |_=>exact .gW trivial
 |ptr D=>exact .gW trivial
 |_=>cases h<;>exact .gW trivial
theorem Sm(B:VR m x x')(h:VR m y y'):gU P VR m (bD x y) (bD x' y'):=by
 cases B with
 |int k n=>cases h<;>first|exact .gW trivial|exact .pure (.int _ _)
 |string s=>
  cases h with
  |string t=>exact .pure (.string _)
  |_=>exact .gW trivial
 |ptr D=>exact .gW trivial
 |_=>cases h<;>exact .gW trivial
theorem yW{g:Value->Value->Sem Value}(O:∀m x x' y y',VR m x x'->VR m y y'->gU P VR m (g x y) (g x' y')):∀{l l':List Value}{m:Ren}{x x':Value},iu (VR m) l l'->VR m x x'->gU P VR m (l.foldlM g x) (l'.foldlM g x')
 |_,_,m,_,_,.nil,B=>by simp only[List.foldlM_nil]; exact .pure B
 |_,_,m,_,_,.cons U h,B=>by
  simp only[List.foldlM_cons];exact hU (O m _ _ _ _ B U) λm' a b W D=>yW O (h.mono λ_ _ z=>z.mono W) D
theorem Td(h:iI m args args'):gU P VR m (b9 ats t args) (b9 ats t args'):=by
 unfold b9;unfold iI at h;revert h;generalize args.toList=l;generalize args'.toList=l';intro h
 cases h with
 |nil=>exact .gW trivial
 |cons B h=>exact yW (λm x x' y y'=>RF) h B
theorem S4(h:iI m args args'):gU P VR m (b8 ats t args) (b8 ats t args'):=by
 unfold b8;unfold iI at h;revert h;generalize args.toList=l;generalize args'.toList=l';intro h
 cases h with
 |nil=>exact .gW trivial
 |cons B h=>exact yW (λm x x' y y'=>Sm) h B
theorem xn:∀(n:Nat){a h:Addr}(acc:ByteArray),AR m a h->gU P ym m (aD a acc n) (aD h acc n)
 |0,_,_,_,_=>.pure rfl
 |n+1,a,h,acc,B=>by
  unfold aD;refine Dr B λv O D=>?_
  cases D with
  |int k x=>cases k<;>first|exact .gW trivial|exact xn n _ (B.add 1)
  |_=>exact .gW trivial
theorem Bj{B D:Type}{RB:Ren->B->D->Prop}{a O:Addr}(U:AR m a O){u:a0}{n:Nat}{f:Bool->Sem B}{f':Bool->Sem D}(h:∀b,gU P RB m (f b) (f' b)):gU P RB m (aJ a u n >>= f) (aJ O u n >>= f'):=by
 unfold aJ;simp only[bind_assoc];refine kD (mz U.blk λx=>?_);rw[U.off];cases x<;>exact h _
theorem Aj(U:jY m)(W:VR m x x')(D:VR m y y'):gU P VR m (bC ats t #[x,y]) (bC ats t #[x',y']):=by
 cases W<;>first|exact .gW trivial|skip
 .refine m9 D λn=>?_;dsimp only
  cases ats[0]? with
  |none=>exact .gW trivial
  |some Y=>
   dsimp only;refine ig (λ_=>iz (e:=.error _) trivial) (λ_=>ig (λ_=>.gW trivial) (λ_=>ig (λ_=>.pure (.string _)) (λ_=>jm (e:=.error _) trivial)))
 .rename_i h;refine m9 D λn=>?_;dsimp only
  cases ats[0]? with
  |none=>exact .gW trivial
  |some Y=>
   dsimp only;refine ig (λ_=>iz (e:=.error _) trivial) (λ_=>ig (λ_=>.gW trivial) (λ_=>ig (λ_=>.pure (.string _)) (λ_=>?_)));refine Gk λet=>Bj h λb=>ig (λ_=>?_) (λ_=>.gW trivial);refine hU (xn _ _ h) λm' s s' O B=>?_;cases B;exact gU.freeze (h.mono O) (U.mono O _) (.pure (.string _))
def Dm(P:Program)(s d:a0):Bool:=match P.underlying s,P.underlying d with
 |some (.int _),some (.int _)=>true
 |some .string,some (.slice e)=>(match P.underlying e with|some (.int .u8)=>true|_=>false)
 |some (.slice e),some .string=>(match P.underlying e with|some (.int .u8)=>true|_=>false)
 |_,_=>false
theorem Md{s d:a0}(ho:Dm P s d=true)(D:VR m x x'):gU P VR m (convert s d x) (convert s d x'):=by
 unfold Dm at ho;unfold convert;refine gX λd1 W=>gX λd2 Y=>?_;rw[W,Y]at ho;cases d1<;>cases d2<;>first|(simp at ho; done)|skip
 .cases D<;>first|exact .gW trivial|exact .pure (.int _ _)
 .rename_i e;cases D<;>first|exact .gW trivial|skip
  refine gX λd3 B=>?_;simp only[B]at ho;cases d3<;>first|exact .gW trivial|skip
  rename_i k;cases k<;>first|exact .gW trivial|exact yA|(simp at ho; done)
 .rename_i e
  have U:P.underlying e=some (.int .u8):=by
   simp only at ho;revert ho
   cases P.underlying e with
   |none=>intro ho; cases ho
   |some d3=>
    cases d3<;>intro ho<;>first|(cases ho; done)|skip
    rename_i k;cases k<;>first|(cases ho; done)|rfl
  have fin:∀{y y':Value},VR m y y'->gU P VR m (aQ e >>= λd=>match d with|.int .u8=>ci y|.int .i32=>cg y|_=>stuck "Convert: a slice of what to string?") (aQ e >>= λd=>match d with|.int .u8=>ci y'|.int .i32=>cg y'|_=>stuck "Convert: a slice of what to string?"):=by
   intro y y' hy;refine gX λd3 B=>?_;rw[U]at B;cases B;exact yq hy
  cases D with
  |int k n=>exact .pure (.string _)
  |string s=>exact .pure (.string _)
  |jC v hv=>
   refine .gW ?_;show iE P ((match P.underlying e with|some d=>pure d|none=>stuck _) >>= _);rw[U];trivial
  |jq l c=>exact fin (.jq l c)
  |slice l c O=>exact fin (.slice l c O)
  |bool b=>exact fin (.bool b)
  |ku=>exact fin .ku
  |ptr O=>exact fin (.ptr O)
  |pa=>exact fin .pa
  |map hb=>exact fin (.map hb)
  |gone hb=>exact fin (.gone hb)
  |lO=>exact fin .lO
  |chan hb=>exact fin (.chan hb)
  |func a b c d e=>exact fin (.func a b c d e)
  |s9 a b c=>exact fin (.s9 a b c)
  |nilFunc=>exact fin .nilFunc
  |iface t h=>exact fin (.iface t h)
  |nilIface=>exact fin .nilIface
  |agg a b=>exact fin (.agg a b)
  |tuple a b=>exact fin (.tuple a b)
end
end
section
variable {args args':Array Value} {m':Ren} {α:Type}
structure C5(m:Ren)(c c':CommCase):Prop where
 chan:VR m c.chan c'.chan
 send:oq (VR m) c.send c'.send
 zero:VR m c.zero c'.zero
def JS(c:Array CommCase)(b:Bool)(s:CommShape):Prop:=b=true/\s=.send/\∃ch v z,c=#[{chan:=ch,send:=some v,zero:=z}]
inductive kp(P:Program)(m:Ren):Go.Next->Go.Next->Prop
 |value {v v'}:VR m v v'->kp P m (.value v) (.value v')
 |skip:kp P m .skip .skip
 |enter {f a a'}:m.jz f->(∃fn c,P.funcs[f]?=some fn/\fn.body=some c)->iI m a a'->kp P m (.enter f a) (.enter f a')
 |round {l l' f t t' a b}:m.blk l=some l'->iI m t t'->jy m.ok a->jy m.ok b->kp P m (.round l f t a b) (.round l' f t' a b)
 |defer {d d'}:DR m d d'->kp P m (.defer d) (.defer d')
 |recover:kp P m .recover .recover
 |spawn {d d'}:m.kL->DR m d d'->kp P m (.spawn d) (.spawn d')
 |comm {c c'} (b s):m.kL\/JS c b s->iu (C5 m) c.toList c'.toList->kp P m (.comm c b s) (.comm c' b s)
section
variable {P:Program} {m:Ren}
theorem GM(D:jY m){ps rs:Array a0}(h:iI m args args'):gU P VR m (bU ps rs args) (bU ps rs args'):=by
 obtain⟨l⟩:=args;obtain⟨l'⟩:=args';unfold iI at h;simp only at h
 cases h with
 |nil=>exact .gW trivial
 |cons O h=>
 cases h with
 |nil=>cases O<;>exact .gW trivial
 |cons U h=>
 cases h with
 |cons hz h=>cases O<;>first|exact .gW trivial|(cases U<;>exact .gW trivial)
 |nil=>
 cases O<;>first|exact .gW trivial|(cases U<;>first|exact .gW trivial|skip)
 all_goals
  unfold bU;dsimp only;cases ps[0]?<;>first|exact .gW trivial|skip
  refine gX λd hd=>?_;cases d<;>first|exact .gW trivial|skip
  refine iT λsz=>?_
  first|exact .pure (.bool _)|skip
 rename_i a W la ca B b Y lb cb hb st e;have e1:(a.block==b.block)=(W.block==Y.block):=by rw[Bool.eq_iff_iff]; simp only[beq_iff_eq]; exact B.tr hb
 have e0:(a.block != b.block)=(W.block != Y.block):=by simp only[bne,e1]
 dsimp only;rw[e1,e0,B.off,hb.off];refine ig (λ_=>.pure (.bool _)) (λ_=>?_);refine pD B (D _) λx=>pD hb (D _) λy=>ig (λ_=>.gW trivial) (λ_=>ig (λ_=>?_) (λ_=>.pure (.bool _)));exact sD B (sD hb (An D B hb λx=>ig (λ_=>jU λn=>.pure (.bool _)) (λ_=>.pure (.bool _))))
theorem uS:∀(n:Nat){a h:Addr}(acc:ByteArray),AR m a h->gU P ym m (bV a n acc) (bV h n acc)
 |0,_,_,_,_=>.pure rfl
 |n+1,a,h,acc,B=>by
  unfold bV;refine Dr B λv O D=>?_
  cases D with
  |int k x=>cases k<;>first|exact .gW trivial|exact uS n _ (B.add 1)
  |_=>exact .gW trivial
theorem BB{x x':Value}(h:VR m x x'):gU P ym m (bW x) (bW x'):=by
 cases h<;>first|exact .gW trivial|exact .pure rfl|exact uS _ _ ‹_›
theorem Lr(h:iI m args args'):gU P VR m (Extern.BytealgCompare.compare args) (Extern.BytealgCompare.compare args'):=by
 obtain⟨l⟩:=args;obtain⟨l'⟩:=args';unfold iI at h;simp only at h
 cases h with
 |nil=>exact .gW trivial
 |cons O h=>
 cases h with
 |nil=>exact .gW trivial
 |cons U h=>
 cases h with
 |cons Y h=>exact .gW trivial
 |nil=>
 refine hU (BB O) λm' a b D B=>?_;cases B;refine hU (BB (U.mono D)) λW a b D B=>?_;cases B;exact .pure (.int _ _)
def pW(P:Program)(m:Ren)(f:a6):Prop:=
 ∃fn,P.funcs[f]?=some fn/\fn.name≠ "runtime.NumGoroutine"/\
  ((∃c,fn.body=some c/\jy m.ok c)\/(fn.body=none/\Extern.findNext fn=none/\∃e,Extern.find fn=some e/\∀m' args args',m.Le m'->iI m' args args'->gU P VR m' (e args) (e args')))
theorem pW.mono(h:m.Le m'){f:a6}(x:pW P m f):pW P m' f:=by
 obtain⟨fn,U,W,Y⟩:=x;refine⟨fn,U,W,?_⟩;rcases Y with⟨c,B,D⟩|⟨B,D,e,h6,h7⟩
 .exact .inl ⟨c,B,h.ok▸D⟩
 .exact .inr ⟨B,D,e,h6,λO a a' hl=>h7 O a a' (h.trans hl)⟩
theorem GV{f:a6}(U:m.jz f)(W:pW P m f)(h:iI m args args'):gU P (kp P) m (aO f args) (aO f args'):=by
 obtain⟨fn,D,Y,h3⟩:=W;unfold aO;refine kD ?_;rw[D];dsimp only;have e2:(fn.name == "runtime.NumGoroutine")=false:=by simpa using Y
 rw[e2];rcases h3 with⟨c,B,O⟩|⟨B,O,e,h6,h7⟩
 .rw[B];exact .pure (.enter U ⟨fn,c,D,B⟩ h)
 .rw[B,O,h6];refine gU.mark trivial ?_;show gU P (kp P) m (e args >>= λv=>pure (.value v)) (e args' >>= λv=>pure (.value v));exact hU (h7 m args args' (.refl m) h) λm' v v' _ hv=>gU.pure (kp.value hv)
structure vy(P:Program)(m:Ren):Prop where
 prog:oJ P
 G:m.G=P.globals.size
 calls:∀f,m.jz f->pW P m f
 Sg:P.follows .rangeFuncRecover=true
theorem vy.mono(h:m.Le m')(x:vy P m):vy P m':=⟨x.prog,h.G.trans x.G,λf B=>(x.calls f (h.jz▸B)).mono h,x.Sg⟩
theorem Qi{l l':Nat}(D:m.blk l=some l')(h:iI m args args'):gU P (kp P) m (bh l args) (bh l' args'):=by
 unfold bh be;simp only[bind_assoc];refine jB D λo o' U=>?_;cases U<;>first|exact .gW trivial|skip
 rename_i p p' B;dsimp only;have e:∀(q:Loop)(k:Loop->Sem Go.Next),(pure q >>= k)=k q:=λq k=>rfl;simp only[e];rw[<-B.params,<-h.size,<-B.fn,<-B.assign,<-B.body];refine ig (λ_=>.gW trivial) (λ_=>.pure (.round D ?_ B.Sr B.yk))
 have key:∀(ps:List Tmp){l l':List Value}{t t':Array Value},iu (VR m) l l'->iI m t t'->iI m ((ps.zip l).foldl (λtmps x=>tmps.setIfInBounds x.1 x.2) t) ((ps.zip l').foldl (λtmps x=>tmps.setIfInBounds x.1 x.2) t'):=by
  intro ps
  induction ps with
  |nil=>intro l l' t t' _ O; simpa using O
  |cons p ps W=>
   intro l l' t t' D O
   cases D with
   |nil=>simpa using O
   |cons Y D=>simpa using W D (O.set p Y)
 have:=key p.params.toList h B.tmps;rw[<-bz,<-bz,b2,b2];exact this
theorem O2(B:oJ P)(t:a0)(x:Value)(k:a6×Value->Sem α):iE P (program >>= λp=>aL (p.types.size+bZ) t x "" >>= k):=by
 show iE P (aL (P.types.size+bZ) t x "" >>= k);have e:P.types.size+bZ=(P.types.size+99)+1:=rfl;rw[e];unfold aL typeInfo
 cases hi:P.info? t with
 |none=>
  show iE P ((((match P.info? t with|some i=>pure i|none=>stuck _) >>= _) >>= _));rw[hi];trivial
 |some i=>
  have D:=B.TL t i hi;show iE P ((((match P.info? t with|some i=>pure i|none=>stuck _) >>= _) >>= _));rw[hi];have O:∀{β:Type}(h:TypeInfo->Sem β),((match some i with|some i=>pure i|none=>stuck "no such type") >>= h)=h i:=λ_=>rfl;rw[O];simp only[D];trivial
theorem Qt(B:oJ P)(t:a0)(x:Value)(k:Option Bool->Sem α):iE P (program >>= λp=>aE (p.types.size+bZ) t x "" >>= k):=by
 show iE P (aE (P.types.size+bZ) t x "" >>= k);have e:P.types.size+bZ=(P.types.size+99)+1:=rfl;rw[e];unfold aE typeInfo
 cases hi:P.info? t with
 |none=>
  show iE P ((((match P.info? t with|some i=>pure i|none=>stuck _) >>= _) >>= _));rw[hi];trivial
 |some i=>
  have D:=B.TL t i hi;show iE P ((((match P.info? t with|some i=>pure i|none=>stuck _) >>= _) >>= _));rw[hi];have O:∀{β:Type}(h:TypeInfo->Sem β),((match some i with|some i=>pure i|none=>stuck "no such type") >>= h)=h i:=λ_=>rfl;rw[O];simp only[D];trivial
theorem sC(O:vy P m){t t':Target}(U:TR m t t')(W:∀b x y z,t≠.builtin b x y z)(h:iI m args args'):gU P (kp P) m (invoke t args) (invoke t' args'):=by
 cases U with
 |nil=>exact jm (e:=.nilDeref) trivial
 |collected _=>exact .gW trivial
 |mark _ _ _ _=>exact .gW trivial
 |builtin x y z hm=>exact absurd rfl (W _ x y z)
 |fn B=>
  rcases B with⟨B,Y⟩|⟨rfl,n,rfl⟩
  .cases B with
   |func f B=>exact GV B (O.calls f B) (h.append Y)
   |yield hl=>exact Qi hl h
  .unfold invoke;dsimp only
   cases ha:args[0]? with
   |none=>exact .gW trivial
   |some x=>
    obtain⟨x',D,hx⟩:=h.get ha;rw[D];dsimp only;unfold callMethod
    cases hx with
    |nilIface=>exact jm (e:=.nilDeref) trivial
    |iface t hv=>exact .gW (O2 O.prog t _ _)
    |_=>exact .gW trivial
def iH(jz:a6->Prop)(gl:Nat->Prop):Operand->Prop
 |.tmp _=>True
 |.const v=>Plain v
 |.global g=>gl g
 |.func f=>jz f
def wB(P:Program)(st:Bool)(ats:Array a0)(n:Nat):Builtin->Prop
 |.append|.clear|.copy|.max|.min|.recover=>True
 |.cap|.len=>∀t,ats[0]?=some t->qm P t=true
 |.unsafeString=>st=true/\n=2
 |.close=>True
 |_=>False
def ND(P:Program)(st:Bool)(t:a0):Prop:=∀k e,P.underlying t=some (.map k e)->s7 P 10000 k=true/\(st=true\/qg P aT k=true)
def isNil:Operand->Bool
 |.const (.pointer none)|.const .nilIface=>true
 |_=>false
def SJ(P:Program)(st:Bool)(t:a0)(y:Operand):Prop:=st=true\/qg P aT t=true\/(isNil y=true/\∀d,P.underlying t=some d->(∃e,d=.pointer e)\/(∃e,d=.interface e))
def OkOp(P:Program)(jz:a6->Prop)(gl:Nat->Prop)(st:Bool)(op:Op):Prop:=
 (∀x∈op.operands.toList,iH jz gl x)/\match op with
 |.move _|.assign _|.pick ..|.alloc _|.box ..|.build ..|.buildSlice ..|.load ..|.store ..|.nilCheck _|.unOp ..|.makeInterface ..|.makeMap ..|.makeSlice ..|.slice ..|.fieldAddr ..|.field ..
 |.indexAddr ..|.index ..|.entryStore ..|.range ..|.next ..|.entry _|.extract ..|.panic _|.send .. => True
 |.select .. => False
 |.makeChan .. => False
 |.binOp o t _ y _=>o=.eql\/o=.neq->SJ P st t y
 |.convert s d _=>Dm P s d=true
 |.makeFunc (.func f) _ _=>jz f
 |.lookup t ..|.mapUpdate t ..|.mapEntry t .. => ND P st t
 |.typeAssert _ _ _ ok=>ok=true
 |.call c=>match c.callee with
  |.value _=>True
  |.builtin b=>wB P st c.argTypes c.args.size b/\b≠.close
  |.invoke .. => False
 |.go c=>False/\match c.callee with
  |.value _=>True
  |_=>False
 |.defer c=>match c.callee with
  |.value _=>True
  |.builtin b=>b=.close/\False
  |_=>False
 |_=>False
end
end
section
variable {jz:a6->Prop} {gl:Nat->Prop} {ρ Uj:Operand->Value} {t:a0} {x x' y:Value}
section
variable {P:Program} {m:Ren}
theorem qp:∀(d:Nat)(m:Ren)(t:a0){x x' y y':Value},VR m x x'->VR m y y'->gU P ym m (aV d t x y) (aV d t x' y')
 |0,m,t,_,_,_,_,_,_=>.gW trivial
 |d+1,m,t,x,x',y,y',O,U=>by
  unfold aV
  refine gX λde hd=>?_
  cases de with
  |interface ms=>
   cases O with
   |nilIface=>cases U with
    |jC v h=>cases y'<;>first|exact .pure rfl|exact h.elim
    |_=>exact .pure rfl
   |jC v h=>cases x'<;>first|exact .pure rfl|exact h.elim
   |_=>exact .pure rfl
  |struct fs=>
   cases O with
   |agg W Y=>
    cases U with
    |agg h3 h4=>
     refine hU (RA:=ym) (qB _ _ λm' f s hf D=>ig (λ_=>?_) (λ_=>.pure rfl)) λm' a b _ B=>?_
     .refine hU (pe ((iI.kG W Y).mono D) _) λm1 u u' l1 hu=>hU (pe ((iI.kG h3 h4).mono (D.trans l1)) _) λm2 v v' l2 h=>?_
      refine hU (qp d m2 _ (hu.mono l2) h) λm3 a b _ B=>?_
      cases B
      exact ig (λ_=>.pure rfl) (λ_=>.pure rfl)
     .cases B
      obtain⟨o,_⟩:=a
      cases o<;>exact .pure rfl
    |jC v h=>cases y'<;>first|exact .pure rfl|exact h.elim
    |_=>exact .pure rfl
   |jC v h=>cases x'<;>first|exact .pure rfl|exact h.elim
   |_=>exact .pure rfl
  |array n e=>
   cases O with
   |agg W Y=>
    cases U with
    |agg h3 h4=>
     refine iT λsz=>?_;refine hU (RA:=ym) (qH _ _ λm' i s D=>?_) λm' a b _ B=>?_
     .refine hU (pe ((iI.kG W Y).mono D) _) λm1 u u' l1 hu=>hU (pe ((iI.kG h3 h4).mono (D.trans l1)) _) λm2 v v' l2 h=>?_;refine hU (qp d m2 _ (hu.mono l2) h) λm3 a b _ B=>?_;cases B;exact ig (λ_=>.pure rfl) (λ_=>.pure rfl)
     .cases B;obtain⟨o,_⟩:=a;cases o<;>exact .pure rfl
    |jC v h=>cases y'<;>first|exact .pure rfl|exact h.elim
    |_=>exact .pure rfl
   |jC v h=>cases x'<;>first|exact .pure rfl|exact h.elim
   |_=>exact .pure rfl
  |_=>exact .pure rfl
theorem Lj(op:BinOp)(t:a0)(p q:Operand){y':Value}(O:VR m x x')(D:VR m y y'):gU P zi m (aP op t p q x y) (aP op t p q x' y'):=by
 unfold aP;refine ig (λ_=>.pure trivial) (λ_=>?_)
 cases O with
 |nilIface=>
  cases D with
  |nilIface=>
   refine ig (λ_=>.pure trivial) (λ_=>?_);refine hU (qp _ m t .nilIface .nilIface) λm' a b _ h=>?_;cases h;exact ig (λ_=>.gW trivial) (λ_=>.pure trivial)
  |jC v B=>cases y'<;>first|exact .pure trivial|exact B.elim
  |_=>exact .pure trivial
 |agg U W=>
  cases D with
  |agg Y h4=>
   refine kD (kD (ig (λ_=>.pure trivial) (λ_=>?_)));refine hU (qp _ m t (.agg U W) (.agg Y h4)) λm' a b _ h=>?_;cases h;exact ig (λ_=>.gW trivial) (λ_=>.pure trivial)
  |jC v B=>cases y'<;>first|exact .pure trivial|exact B.elim
  |_=>exact .pure trivial
 |jC v B=>cases x'<;>first|exact .pure trivial|exact B.elim
 |_=>exact .pure trivial
theorem Ew(B:∀d,P.underlying t=some d->(∃e,d=.pointer e)\/(∃e,d=.interface e))(D:VR m x x')(O:y=.pointer none\/y=.nilIface):gU P ym m (aU t x y) (aU t x' y):=by
 unfold aU aT Op.equalIn;refine gX λd h=>?_;rcases B d h with⟨e,rfl⟩|⟨e,rfl⟩<;>rcases O with rfl|rfl<;>cases D<;>first|exact .gW trivial|exact .pure rfl
theorem FH(op:BinOp)(W:op=.eql\/op=.neq)(Y:∀d,P.underlying t=some d->(∃e,d=.pointer e)\/(∃e,d=.interface e))(hx:VR m x x')(D:y=.pointer none\/y=.nilIface):gU P VR m (binOp op t x y) (binOp op t x' y):=by
 have h:=Ew Y hx D
 have O:∀z,binOp .eql t z y=(do pure (.bool (<-aU t z y))):=by
  intro z;rcases D with rfl|rfl<;>cases z<;>rfl
 have U:∀z,binOp .neq t z y=(do pure (.bool (!(<-aU t z y)))):=by
  intro z;rcases D with rfl|rfl<;>cases z<;>rfl
 rcases W with rfl|rfl
 .rw[O,O];exact hU h λm' a b _ B=>by cases B; exact .pure (.bool _)
 .rw[U,U];exact hU h λm' a b _ B=>by cases B; exact .pure (.bool _)
theorem ni(B:∀x,iH jz gl x->VR m (ρ x) (Uj x)){a:Array Operand}(h:∀x∈a.toList,iH jz gl x):iI m (a.map ρ) (a.map Uj):=by
 unfold iI;simp only[b3];generalize a.toList=l at h
 induction l with
 |nil=>exact .nil
 |cons x l D=>exact .cons (B x (h x (by simp))) (D λy O=>h y (by simp[O]))
theorem yV(B:∀x,iH jz gl x->VR m (ρ x) (Uj x)){o:Option Operand}(h:∀x,o=some x->iH jz gl x):oq (VR m) (o.map ρ) (o.map Uj):=by
 cases o with
 |none=>exact .none
 |some x=>exact .some (B x (h x rfl))
theorem Ff(B:∀x,iH jz gl x->VR m (ρ x) (Uj x)){a:Array (Nat×Operand)}(h:∀x∈a.toList.map (·.2),iH jz gl x) :
  iu (J0 m) (a.map λ(i,x)=>(i,ρ x)).toList (a.map λ(i,x)=>(i,Uj x)).toList:=by
 simp only[b3];generalize a.toList=l at h
 induction l with
 |nil=>exact .nil
 |cons x l D=>exact .cons ⟨rfl,B x.2 (h x.2 (by simp))⟩ (D λy O=>h y (by simp only[List.map_cons,List.mem_cons]; exact .inr O))
theorem IK(hP:oJ P)(hx:VR m x x'){a:Operand}(e:ρ a=x)(e':Uj a=x'){d:Option Tmp}{p:String}{af:Array Edge}{g:Option (Nat×Bool)} :
  gU P (kp P) m (aI ρ ⟨d,.nilCheck a,t,p,af,g⟩) (aI Uj ⟨d,.nilCheck a,t,p,af,g⟩):=by
 unfold aI;dsimp only;rw[e,e']
 cases hx with
 |ku=>exact jm (e:=.nilDeref) trivial
 |nilIface=>exact jm (e:=.nilDeref) trivial
 |nilFunc=>exact jm (e:=.nilDeref) trivial
 |@s9 lf n f c O U W=>
  dsimp only;have hA:iI m lf f:=iI.kG O U
  cases D:lf[0]? with
  |none=>
   rw[hA.get_none D];exact .pure (.value (.s9 O U W))
  |some y=>
   obtain⟨y',Y,hy⟩:=hA.get D;rw[Y]
   have aa:∀t u,y'=.iface t u->∃z,y=.iface t z:=λt u e=>by
    obtain⟨z,hz⟩:=W t u (by rw[Y,e]);rw[D]at hz;exact⟨z,bY hz⟩
   cases hy with
   |nilIface=>exact jm (e:=.nilDeref) trivial
   |iface t B=>exact .gW (Qt hP t _ _)
   |jC v B=>
    have:∀t u,y'≠.iface t u:=λt u e=>by obtain⟨z,hz⟩:=aa t u e; cases hz
    cases y'<;>first|exact B.elim|exact absurd rfl (this _ _)|exact .pure (.value (.s9 O U W))
   |_=>exact .pure (.value (.s9 O U W))
 |func hf O U W h4=>cases hf<;>exact .pure (.value (.func (by first|exact .func _ ‹_›|exact .yield ‹_›) O U W h4))
 |jC v B=>cases x'<;>first|exact .pure (.value (.jC _ B))|exact B.elim|(rename_i q; cases q<;>first|exact .pure (.value (.jC _ B))|exact B.elim)|(rename_i q _ _; cases q<;>first|exact .pure (.value (.jC _ B))|exact B.elim|exact .gW trivial)
 |bool b=>exact .pure (.value (.bool b))
 |int k n=>exact .pure (.value (.int k n))
 |string s=>exact .pure (.value (.string s))
 |ptr D=>exact .pure (.value (.ptr D))
 |jq l c=>exact .pure (.value (.jq l c))
 |slice l c D=>exact .pure (.value (.slice l c D))
 |pa=>exact .pure (.value .pa)
 |map h=>exact .pure (.value (.map h))
 |gone h=>exact .pure (.value (.gone h))
 |lO=>exact .pure (.value .lO)
 |chan h=>exact .pure (.value (.chan h))
 |iface t h=>exact .pure (.value (.iface t h))
 |agg a b=>exact .pure (.value (.agg a b))
 |tuple a b=>exact .pure (.value (.tuple a b))
theorem ri{f f':Value}(hf:VR m f f'){a W:Array Value}(B:iI m a W):gU P (λm d d'=>DR m d d'/\∀b x y z,d.target≠.builtin b x y z) m (Deferred.ofValue f a) (Deferred.ofValue f' W):=by
 cases hf<;>first|exact .gW trivial|skip
 .rename_i D O Y U h4;exact .pure ⟨⟨.fn (.inl ⟨D,.kG U h4⟩),(iI.kG O Y).append B⟩,λ_ _ _ _ h=>by cases h⟩
 .exact .pure ⟨⟨.nil,B⟩,λ_ _ _ _ h=>by cases h⟩
 .rename_i U O Y;exact .pure ⟨⟨.fn (.inr ⟨rfl,_,rfl⟩),(iI.kG U O).append B⟩,λ_ _ _ _ h=>by cases h⟩
theorem uO{α β:Type}{Q:Ren->β->β->Prop}(hm:∀m m' a b,m.Le m'->Q m a b->Q m' a b){g g':α->Sem β}:∀(l:List α)(m:Ren),(∀x∈l,∀m',m.Le m'->gU P Q m' (g x) (g' x))->gU P (λm=>iu (Q m)) m (l.mapM g) (l.mapM g')
 |[],m,_=>by simp only[List.mapM_nil]; exact .pure .nil
 |x::l,m,D=>by
  simp only[List.mapM_cons];exact hU (D x (by simp) m (.refl m)) λm' a b B h=>hU (uO hm l m' λy O U W=>D y (by simp[O]) U (B.trans W)) λY c d B hc=>.pure (.cons (hm _ _ _ _ B h) hc)
theorem C5.mono{m m':Ren}(h:m.Le m'){a b:CommCase}(x:C5 m a b):C5 m' a b:=⟨x.chan.mono h,x.send.mono λ_ _ y=>y.mono h,x.zero.mono h⟩
end
end
section
section
variable {P:Program} {m:Ren}
theorem tL{s s':Sem Value}(h:gU P VR m s s'):nY P (kp P) m (do pure (.value (<-s))) (do pure (.value (<-s'))):=.base (hU h λ_ _ _ _ B=>.pure (.value B))
theorem TD{s s':Sem Unit}(h:gU P zi m s s'):nY P (kp P) m (do s; pure .skip) (do s'; pure .skip):=.base (hU h λ_ _ _ _ _=>.pure .skip)
theorem Lu(U:vy P m){st:Bool}(D:st=true->jY m){b:Builtin}{ats:Array a0}{t:a0}{cs:Array Bool}{args args':Array Value}(h:iI m args args')(B:wB P st ats args.size b)(Y:b≠.close):nY P (kp P) m (builtin b ats t cs args) (builtin b ats t cs args'):=by
 cases b<;>simp only[wB]at B<;>first|exact B.elim|exact absurd rfl Y|skip
 .exact tL (Oi U.prog h)
 .exact tL (Tm B h)
 .exact tL (Qq U.prog h)
 .exact tL (Ry h)
 .exact tL (SI B h)
 .exact tL (Td h)
 .exact tL (S4 h)
 .exact .base (.pure .recover)
 .obtain⟨h1,W⟩:=B;have O:args'.size=2:=by rw[<-h.size]; exact W
  obtain⟨x,y,rfl⟩:∃x y,args=#[x,y]:=by
   obtain⟨l⟩:=args
   match l,W with
   |[x,y],_=>exact⟨x,y,rfl⟩
  obtain⟨x',y',rfl⟩:∃x y,args'=#[x,y]:=by
   obtain⟨l⟩:=args'
   match l,O with
   |[x,y],_=>exact⟨x,y,rfl⟩
  unfold iI at h;simp only at h
  cases h with
  |cons hx h=>cases h with
   |cons hy h=>exact tL (Aj (D h1) hx hy)
theorem FO(Y:vy P m){st:Bool}(ac:st=true->jY m)(ab:False->m.kL){gl:Nat->Prop}{ρ Uj:Operand->Value}(U:∀x,iH m.jz gl x->VR m (ρ x) (Uj x))(ad:∀c,ρ (.const c)=c/\Uj (.const c)=c)(o:Oper)(ho:OkOp P m.jz gl st o.op):nY P (kp P) m (aI ρ o) (aI Uj o):=by
 obtain⟨ah,op,ag,pos,after,guard⟩:=o;obtain⟨D,O⟩:=ho;have B:∀x,x∈op.operands.toList->VR m (ρ x) (Uj x):=λx W=>U x (D x W);have aa:∀t,ND P st t->∀k e,P.underlying t=some (.map k e)->s7 P 10000 k=true/\(jY m\/qg P aT k=true):=λt h k e hd=>⟨(h k e hd).1,(h k e hd).2.imp ac id⟩
 cases op with
 |move x=>exact .base (.pure (.value (B x (by simp[aS]))))
 |assign x=>exact .base (.pure (.value (B x (by simp[aS]))))
 |pick c a b=>
  refine .base (Mr (B c (by simp[aS])) λt=>.pure (.value ?_));cases t
  .exact B b (by simp[aS])
  .exact B a (by simp[aS])
 |alloc e=>exact tL (Qn Y.prog)
 |box e x=>exact tL (SQ (B x (by simp[aS])))
 |build t ps=>exact tL (QA Y.prog (Ff U (by simpa[aS]using D)))
 |buildSlice t n ps=>exact tL (CQ Y.prog (Ff U (by simpa[aS]using D)))
 |load t x=>exact tL (OZ (B x (by simp[aS])))
 |store t x y=>exact TD (Lm (B x (by simp[aS])) (B y (by simp[aS])))
 |nilCheck x=>exact .base (IK Y.prog (B x (by simp[aS])) rfl rfl)
 |binOp o t x y yt=>
  refine tL (hU (Lj o t x y (B x (by simp[aS])) (B y (by simp[aS]))) λm' _ _ hl _=>?_);have W:=(B x (by simp[aS])).mono hl;have hy:=(B y (by simp[aS])).mono hl;by_cases hq:o=.eql\/o=.neq
  .rcases O hq with h|h|⟨h,hd⟩
   .exact DO o (hl.G.trans Y.G) (λ_=>.inl ((ac h).mono hl)) W hy
   .exact DO o (hl.G.trans Y.G) (λ_=>.inr h) W hy
   .cases y with
    |const c=>
     obtain⟨e1,e2⟩:=ad c;rw[e1,e2]
     have hc:c=.pointer none\/c=.nilIface:=by
      cases c<;>first|cases h; done|exact .inr rfl|skip
      rename_i p;cases p
      .exact .inl rfl
      .cases h
     exact FH o hq hd W hc
    |_=>cases h
  .exact DO o (hl.G.trans Y.G) (λh=>absurd h hq) W hy
 |unOp o t x=>exact tL (Qp o (B x (by simp[aS])))
 |convert s d x=>exact tL (Md O (B x (by simp[aS])))
 |makeInterface t x=>exact tL (yD (B x (by simp[aS])))
 |makeFunc f a b=>
  cases f<;>simp only at O<;>first|exact O.elim|skip
  exact tL (HJ O (ni U λx W=>D x (by simp[aS]; exact .inl (by simpa using W))) (ni U λx W=>D x (by simp[aS]; exact .inr (by simpa using W))))
 |makeMap t r=>exact tL (Mo (yV U λx W=>D x (by simp[aS,W])))
 |makeChan t s=>exact tL (GO (ab O) (B s (by simp[aS])))
 |makeSlice t l c=>exact tL (FK Y.prog (B l (by simp[aS])) (B c (by simp[aS])))
 |slice t x l h mx=>exact tL (KA (B x (by simp[aS])) (yV U λy hy=>D y (by simp[aS,hy])) (yV U λy hy=>D y (by simp[aS,hy])) (yV U λy hy=>D y (by simp[aS,hy])))
 |fieldAddr t x f=>exact tL (KT (B x (by simp[aS])) f)
 |field t x f=>exact tL (PR (B x (by simp[aS])) f)
 |indexAddr t x i=>exact tL (Mn (B x (by simp[aS])) (B i (by simp[aS])))
 |index t x i=>exact tL (PU (B x (by simp[aS])) (B i (by simp[aS])))
 |lookup t x i b=>exact tL (MH Y.prog Y.G (aa t O) (B x (by simp[aS])) (B i (by simp[aS])) b)
 |mapUpdate t a b c=>exact(E6 Y.G (aa t O) (B a (by simp[aS])) (B b (by simp[aS])) (B c (by simp[aS]))).map λ_ _ _ _ _=>.skip
 |mapEntry t a b=>exact(Ig Y.prog Y.G (aa t O) (B a (by simp[aS])) (B b (by simp[aS]))).map λ_ _ _ _ h=>.value h
 |entryStore t a b c=>exact TD (D5 (B a (by simp[aS])) (B b (by simp[aS])) (B c (by simp[aS])))
 |range t x=>exact tL (P6 (B x (by simp[aS])))
 |next x b=>exact tL (RI (B x (by simp[aS])) b _)
 |entry x=>exact tL (QJ (B x (by simp[aS])))
 |typeAssert x a b c=>
  simp only at O;subst O;exact tL (Ep Y.prog (B x (by simp[aS])) _ _)
 |extract x i=>exact tL (L0 (B x (by simp[aS])) i)
 |panic x=>exact tL (PD (B x (by simp[aS])))
 |send c x=>exact .base (.pure (.comm _ _ (.inr ⟨rfl,rfl,_,_,_,rfl⟩) (.cons ⟨B c (by simp[aS]),.some (B x (by simp[aS])),.undef m⟩ .nil)))
 |select cs b=>
  refine .base ?_;show gU P (kp P) m (cs.mapM (λs=>do pure {chan:=ρ s.chan,send:=s.send.map ρ,zero:=<-zeroValue s.elem:CommCase}) >>= λc=>pure (.comm c b .select)) (cs.mapM (λs=>do pure {chan:=Uj s.chan,send:=s.send.map Uj,zero:=<-zeroValue s.elem:CommCase}) >>= λc=>pure (.comm c b .select));rw[bv,bv];simp only[map_eq_pure_bind,bind_assoc,pure_bind];refine hU (uO (Q:=C5) (λ_ _ _ _ h x=>x.mono h) cs.toList m λs hs m' hl=>?_) λm' a b' ae af=>.pure (.comm _ _ (.inl (by rw[ae.kL]; exact ab O)) af);refine j6 Y.prog λz hz=>.pure ⟨(B s.chan ?_).mono hl,(yV U λy hy=>D y ?_).mono λ_ _ x=>x.mono hl,hz⟩
  .simp only[aS,bx,b1];exact⟨s,by simpa using hs,by simp⟩
  .simp only[aS,bx,b1];exact⟨s,by simpa using hs,by simp[hy]⟩
 |call c=>
  obtain⟨callee,args,ats⟩:=c
  cases callee with
  |invoke r n=>exact O.elim
  |builtin b=>
   have ha:iI m (args.map ρ) (args.map Uj):=ni U λx W=>D x (by simp[aS,bL]; simpa using W);exact Lu Y ac ha (by simpa using O.1) O.2
  |value f=>
   have ha:iI m (args.map ρ) (args.map Uj):=ni U λx W=>D x (by simp[aS,bL]; exact .inr (by simpa using W));refine .base (hU (ri (B f (by simp[aS,bL])) ha) λm' d d' hl hd=>?_);exact sC (Y.mono hl) hd.1.target hd.2 hd.1.args
 |go c=>
  obtain⟨callee,args,ats⟩:=c
  cases callee with
  |invoke r n=>exact O.2.elim
  |builtin b=>exact O.2.elim
  |value f=>
   have ha:iI m (args.map ρ) (args.map Uj):=ni U λx W=>D x (by simp[aS,bL]; exact .inr (by simpa using W));exact .base (hU (ri (B f (by simp[aS,bL])) ha) λm' d d' hl hd=>.pure (.spawn (by rw[hl.kL]; exact ab O.1) hd.1))
 |defer c=>
  obtain⟨callee,args,ats⟩:=c
  cases callee with
  |invoke r n=>exact O.elim
  |builtin b=>
   have ha:iI m (args.map ρ) (args.map Uj):=ni U λx W=>D x (by simp[aS,bL]; simpa using W);obtain⟨O,hs⟩:=O;subst O;exact .base (.pure (.defer ⟨.builtin _ _ _ (ab hs),ha⟩))
  |value f=>
   have ha:iI m (args.map ρ) (args.map Uj):=ni U λx W=>D x (by simp[aS,bL]; exact .inr (by simpa using W));exact .base (hU (ri (B f (by simp[aS,bL])) ha) λm' d d' hl hd=>.pure (.defer hd.1))
 |_=>exact O.elim
end
end
section
open Go.Conc
def xu(y:Code):Code:=.cond (.global 0) y .skip
inductive mq(m:Ren):Item->Item->Prop
 |Fl (y):mq m (.code (xu y)) (.code y)
 |oS (y):mq m (.inLoop (xu y)) (.inLoop y)
 |code (c):jy m.ok c->mq m (.code c) (.code c)
 |inBlock (i):mq m (.inBlock i) (.inBlock i)
 |inLoop (c):jy m.ok c->mq m (.inLoop c) (.inLoop c)
 |inScope (c):jy m.ok c->mq m (.inScope c) (.inScope c)
 |inRegion (ops t):(∀o∈ops.toList,m.ok o)->mq m (.inRegion ops t) (.inRegion ops t)
 |inRangeFunc {l l'}:m.blk l=some l'->mq m (.inRangeFunc l) (.inRangeFunc l')
 |endRangeFunc {l l'}:m.blk l=some l'->mq m (.endRangeFunc l) (.endRangeFunc l')
 |beginRound:mq m .beginRound .beginRound
structure Rj(m:Ren)(p p':PanicEntry):Prop where
 v:VR m p.v p'.v
 rv:p'.recovered=p.recovered
 ex:p'.goexit=p.goexit
inductive ua(m:Ren):FrameMode->FrameMode->Prop
 |run:ua m .run .run
 |returning:ua m .returning .returning
 |panicking {c c'}:iu (Rj m) c c'->ua m (.panicking c) (.panicking c')
structure jF(m:Ren)(fr fr':Frame):Prop where
 fn:fr'.fn=fr.fn
 tmps:iI m fr.tmps fr'.tmps
 todo:iu (mq m) fr.todo fr'.todo
 defers:iu (DR m) fr.defers fr'.defers
 mode:ua m fr.mode fr'.mode
 round:oq (λr r'=>m.blk r=some r') fr.roundOf fr'.roundOf
section
variable {m m':Ren}
theorem mq.mono(h:m.Le m'){a b:Item}(x:mq m a b):mq m' a b:=by
 cases x with
 |Fl y=>exact .Fl y
 |oS y=>exact .oS y
 |code c B=>exact .code c (h.ok▸B)
 |inBlock i=>exact .inBlock i
 |inLoop c B=>exact .inLoop c (h.ok▸B)
 |inScope c B=>exact .inScope c (h.ok▸B)
 |inRegion o t O=>exact .inRegion o t (h.ok▸O)
 |inRangeFunc D=>exact .inRangeFunc (h.blk _ _ D)
 |endRangeFunc D=>exact .endRangeFunc (h.blk _ _ D)
 |beginRound=>exact .beginRound
theorem Rj.mono(h:m.Le m'){a b:PanicEntry}(x:Rj m a b):Rj m' a b:=⟨x.v.mono h,x.rv,x.ex⟩
theorem ua.mono(h:m.Le m'){a b:FrameMode}(x:ua m a b):ua m' a b:=by
 cases x with
 |run=>exact .run
 |returning=>exact .returning
 |panicking B=>exact .panicking (B.mono λ_ _ y=>y.mono h)
theorem jF.mono(h:m.Le m'){a b:Frame}(x:jF m a b):jF m' a b:=
 ⟨x.fn,x.tmps.mono h,x.todo.mono λ_ _ y=>y.mono h,x.defers.mono λ_ _ y=>y.mono h,x.mode.mono h,x.round.mono λ_ _ y=>h.blk _ _ y⟩
theorem jF.eval{fr fr':Frame}(h:jF m fr fr'){gl:Nat->Prop}(B:∀g,gl g->m.blk g=some g)(x:Operand)(D:iH m.jz gl x):VR m (fr.eval x) (fr'.eval x):=by
 cases x with
 |tmp t=>exact h.tmps.getD t
 |const v=>exact VR.plain D
 |global g=>exact .ptr (.mk (B g D))
 |func f=>exact .Jk (.func f D) (.nil m) (.nil m)
theorem jF.finish{fr fr':Frame}(h:jF m fr fr'){v v':Value}(hv:VR m v v'):jF m (fr.finish v) (fr'.finish v')/\(fr.finish v).kind=fr.kind/\(fr'.finish v').kind=fr'.kind:=by
 obtain⟨fn,tmps,todo,defers,mode,af,round⟩:=fr;obtain⟨ag,Y,ac,aa,ad,ae,ab⟩:=fr';obtain⟨D,B,h3,O,U,W⟩:=h;simp only at D B h3 O U W
 cases h3 with
 |nil=>exact⟨⟨D,B,.nil,O,U,W⟩,rfl,rfl⟩
 |cons hi ht=>
  cases hi with
  |inRegion ops t ho=>
   cases t with
   |nil=>exact⟨⟨D,B,.cons (.inRegion _ _ ho) ht,O,U,W⟩,rfl,rfl⟩
   |cons i t=>
    refine⟨⟨D,?_,.cons (.inRegion _ _ ho) ht,O,U,W⟩,rfl,rfl⟩;show iI m (match (ops[i]?).bind (·.dst)with|some d=>tmps.setIfInBounds d v|none=>tmps) (match (ops[i]?).bind (·.dst)with|some d=>Y.setIfInBounds d v'|none=>Y)
    cases(ops[i]?).bind (·.dst)with
    |none=>exact B
    |some d=>exact B.set d hv
  |inRangeFunc hl=>exact⟨⟨D,B,.cons (.endRangeFunc hl) ht,O,U,W⟩,rfl,rfl⟩
  |beginRound=>exact⟨⟨D,B,ht,O,U,W⟩,rfl,rfl⟩
  |Fl y=>exact⟨⟨D,B,.cons (.Fl y) ht,O,U,W⟩,rfl,rfl⟩
  |oS y=>exact⟨⟨D,B,.cons (.oS y) ht,O,U,W⟩,rfl,rfl⟩
  |code c hc=>exact⟨⟨D,B,.cons (.code c hc) ht,O,U,W⟩,rfl,rfl⟩
  |inBlock i=>exact⟨⟨D,B,.cons (.inBlock i) ht,O,U,W⟩,rfl,rfl⟩
  |inLoop c hc=>exact⟨⟨D,B,.cons (.inLoop c hc) ht,O,U,W⟩,rfl,rfl⟩
  |inScope c hc=>exact⟨⟨D,B,.cons (.inScope c hc) ht,O,U,W⟩,rfl,rfl⟩
  |endRangeFunc hl=>exact⟨⟨D,B,.cons (.endRangeFunc hl) ht,O,U,W⟩,rfl,rfl⟩
theorem jF.raise{fr fr':Frame}(h:jF m fr fr'){vs vs':List PanicEntry}(hv:iu (Rj m) vs vs'):jF m (fr.raise vs) (fr'.raise vs')/\(fr.raise vs).kind=fr.kind/\(fr'.raise vs').kind=fr'.kind:=by
 obtain⟨fn,tmps,todo,defers,mode,ae,round⟩:=fr;obtain⟨af,aa,ab,B,ac,ad,D⟩:=fr';obtain⟨O,U,W,Y,h5,h6⟩:=h;simp only at O U W Y h5 h6
 cases h5 with
 |run=>exact⟨⟨O,U,W,Y,.panicking hv,h6⟩,rfl,rfl⟩
 |returning=>exact⟨⟨O,U,W,Y,.panicking hv,h6⟩,rfl,rfl⟩
 |panicking hc=>exact⟨⟨O,U,W,Y,.panicking (hv.append hc),h6⟩,rfl,rfl⟩
theorem Dx{P:Program}{f:a6}(Y:pW P m f)(hb:∃fn c,P.funcs[f]?=some fn/\fn.body=some c){a W:Array Value}(h:iI m a W)(k k':CallKind):jF m (bs P f a k) (bs P f W k'):=by
 obtain⟨fn,c,O,U⟩:=hb;obtain⟨aa,B,_,h3⟩:=Y;rw[O]at B;cases B
 have hc:jy m.ok c:=by
  rcases h3 with⟨c',D,h5⟩|⟨D,_⟩
  .rw[U]at D; cases D; exact h5
  .rw[U]at D; cases D
 refine⟨rfl,?_,?_,.nil,.run,.none⟩
 .simp only[bs,O,bP,bO,h.size];exact h.append (.replicate _ (.undef m))
 .simp only[bs,O,bQ,U,bO];exact .cons (.code c hc) .nil
end
def DJ(k:CallKind):Prop:=k=.normal\/k=.deferred
def door(P:Program):Frame:={fn:=P.funcs.size,tmps:=#[],todo:=[.call {target:=.nil,args:=#[]} false "fmt's door" #[]],defers:=[],mode:=.run,kind:=.normal}
def DE(k:CallKind)(T:List Frame):Prop:=(k=.normal/\∀ps,T=[ps]->ps.mode≠.panicking [aK])\/(k=.deferred/\∃ps,T=[ps]/\ps.mode=.panicking [aK])
inductive iy(P:Program)(m:Ren)(T:List Frame):List Frame->List Frame->Prop
 |one {fr fr'}:jF m fr fr'->fr.kind=.normal->DE fr'.kind T->fr.roundOf=none->iy P m T (fr::[door P]) (fr'::T)
 |cons {fr fr' c c' cs cs'}:jF m fr fr'->fr'.kind=fr.kind->DJ fr.kind->iy P m T (c::cs) (c'::cs')->iy P m T (fr::c::cs) (fr'::c'::cs')
section
variable {P:Program} {m m':Ren} {T:List Frame}
theorem iy.mono(h:m.Le m'){l l':List Frame}(x:iy P m T l l'):iy P m' T l l':=by
 induction x with
 |one B D O U=>exact .one (B.mono h) D O U
 |cons B D O _ W=>exact .cons (B.mono h) D O W
theorem iy.rX{fr fr':Frame}{cs cs':List Frame}(x:iy P m T (fr::cs) (fr'::cs')):jF m fr fr':=by cases x<;>assumption
theorem iy.set(h:m.Le m'){fr fr' g g':Frame}{cs cs':List Frame}(x:iy P m T (fr::cs) (fr'::cs'))(U:jF m' g g')(k:g.kind=fr.kind)(k':g'.kind=fr'.kind)(W:g.roundOf=fr.roundOf)(_hn:g.fn=fr.fn):iy P m' T (g::cs) (g'::cs'):=by
 cases x with
 |one Y B D O=>exact .one U (k.trans B) (k'▸D) (W.trans O)
 |cons Y B D O=>exact .cons U (by rw[k,k',B]) (k▸D) (O.mono h)
theorem iy.push{fr fr' g g':Frame}{cs cs':List Frame}(x:iy P m T (fr::cs) (fr'::cs'))(h:jF m g g')(k:g'.kind=g.kind)(B:DJ g.kind):iy P m T (g::fr::cs) (g'::fr'::cs'):=.cons h k B x
end
end
section
open Go.Conc
variable {fr fr':Frame} {cs cs':List Frame}
def pP(P:Program)(m:Ren)(T:List Frame)(s':GStep)(w':World)(fr:Frame)(cs:List Frame)(Uc:World):Prop:=
 ∃Ud fr' cs' h es,s'=.go (G fr' cs') h es/\m.Le Ud/\iy P Ud T (fr::cs) (fr'::cs')/\WR Ud Uc h/\ju m Ud w' h/\∀e∈es,qJ Ud e
section
variable {P:Program} {m:Ren} {T:List Frame}
theorem Ro(h:jF m fr fr'):(match fr.todo with|.call _ true _ _::_=>CallKind.wrapped|_=>.normal)=.normal/\(match fr'.todo with|.call _ true _ _::_=>CallKind.wrapped|_=>.normal)=.normal:=by
 have:=h.todo;revert this;generalize fr.todo=l;generalize fr'.todo=l';intro h
 cases h with
 |nil=>exact⟨rfl,rfl⟩
 |cons hi _=>cases hi<;>exact⟨rfl,rfl⟩
theorem vR{P:Program}{m:Ren}{T:List Frame}(h:iy P m T (fr::cs) (fr'::cs')) :
  oq (λx y=>VR m x.1 y.1/\iy P m T (fr::x.2) (fr'::y.2)) (av fr cs) (av fr' cs'):=by
 have e1:∀(f:Frame)(c:List Frame),f.kind=.normal->av f c=none:=by
  intro f c hk; unfold av; rw[hk]
 have e0:∀(f:Frame),DJ f.kind->av f []=none:=by
  intro f hk; unfold av; rcases hk with hk|hk<;>rw[hk]
 cases h with
 |one hf h1 B h3=>
  rw[e1 fr _ h1];rcases B with⟨B,_⟩|⟨B,ps,rfl,h4⟩
  .rw[e1 fr' _ B]; exact .none
  .have e2:av fr' [ps]=none:=by
    unfold av;simp only[B];rw[h4];rfl
   rw[e2]; exact .none
 |cons hf h1 B h3=>
  rename_i c c' cs cs';rcases B with B|B
  .rw[e1 fr _ B,e1 fr' _ (h1.trans B)];exact .none
  .have ab:=h1.trans B
   cases h3 with
   |one O g1 g2 g3=>
    have hm:=O.mode;obtain⟨aj,ak,al,am,an,ao,ap⟩:=c;obtain⟨ac,ad,ae,af,ag,ah,ai⟩:=c';simp only at hm;unfold av;rw[B,ab]
    cases hm with
    |run=>exact .none
    |returning=>exact .none
    |panicking hc=>
     cases hc with
     |nil=>exact .none
     |cons hp ht=>
      rename_i p p' aa Y;obtain⟨v,r,x⟩:=p;obtain⟨v',r',x'⟩:=p';obtain⟨D,U,W⟩:=hp;simp only at D U W;subst U W;cases r'<;>cases x'<;>first|exact .none|skip
      exact .some ⟨D,.cons hf h1 (.inr B) (.one ⟨O.fn,O.tmps,O.todo,O.defers,.panicking (.cons ⟨D,rfl,rfl⟩ ht),O.round⟩ g1 g2 g3)⟩
   |cons O g1 g2 g3=>
    have hm:=O.mode;obtain⟨aj,ak,al,am,an,ao,ap⟩:=c;obtain⟨ac,ad,ae,af,ag,ah,ai⟩:=c';simp only at hm;unfold av;rw[B,ab]
    cases hm with
    |run=>exact .none
    |returning=>exact .none
    |panicking hc=>
     cases hc with
     |nil=>exact .none
     |cons hp ht=>
      rename_i p p' aa Y;obtain⟨v,r,x⟩:=p;obtain⟨v',r',x'⟩:=p';obtain⟨D,U,W⟩:=hp;simp only at D U W;subst U W;cases r'<;>cases x'<;>first|exact .none|skip
      exact .some ⟨D,.cons hf h1 (.inr B) (.cons ⟨O.fn,O.tmps,O.todo,O.defers,.panicking (.cons ⟨D,rfl,rfl⟩ ht),O.round⟩ g1 g2 g3)⟩
theorem jj(fr:Frame)(v:Value):(fr.finish v).roundOf=fr.roundOf:=by
 unfold bt;split<;>rfl
theorem q9(fr:Frame)(v:List PanicEntry):(fr.raise v).roundOf=fr.roundOf:=by
 unfold bq;split<;>rfl
theorem kB(fr:Frame)(v:Value):(fr.finish v).fn=fr.fn:=by
 unfold bt;split<;>rfl
theorem vP(fr:Frame)(v:List PanicEntry):(fr.raise v).fn=fr.fn:=by
 unfold bq;split<;>rfl
theorem vO{Ud:Ren}{f:a6}{c:Prop}[Decidable c]{Ug:Array Event}(h:∀e∈Ug,qJ Ud e):∀e∈a8 P f (if c then #[]else Ug)++#[],qJ Ud e:=by
 intro e B;simp only[Array.append_empty]at B;have:=mem_seen B;split at this
 .simp at this
 .exact h e this
theorem KX(hE:vy P m)(O:iy P m T (fr::cs) (fr'::cs')){s s':Sem Go.Next}(hs:nY P (kp P) m s s'){w w':World}(hw:WR m w w')(ad:Al w w'){Uh:Frame}{Ui:List Frame}{Uc:World}{es:Array Event}
  (h:aW P true fr cs none s w=.go (G Uh Ui) Uc es):pP P m T (aW P true fr' cs' none s' w') w' Uh Ui Uc:=by
 have hr:=hs.run w w' #[] hw ad;unfold aW at h⊢;simp only[if_true]at h⊢;rcases hrt:s.runT P w #[]with⟨r,ap⟩;have ae:s.run P w=r:=by rw[<-bj P s w #[],hrt]
 rw[ae]at hr;rw[hrt]at h;have aq:=Ro O.rX
 cases r with
 |ok n wn=>
  obtain⟨Ud,n',Y,Ug,e1,U,e3,e4,_,e6,e7⟩:=hr;rw[e1];simp only[bw]at h⊢
  have out:∀{X:Array Event}{g g':Frame}{c c':List Frame},iy P Ud T (g::c) (g'::c')->aY X (.go {frame:=g,callers:=c,status:=.running,dying:=none} wn)=.go (G Uh Ui) Uc es->
    pP P m T (aY (a8 P fr'.fn (if(fr'.kind==CallKind.early)=true then #[]else Ug)) (.go {frame:=g',callers:=c',status:=.running,dying:=none} Y)) w' Uh Ui Uc:=by
   intro X g g' c c' aa hh;simp only[aY,G,bM,bN]at hh;obtain⟨⟨rfl,rfl,_⟩,rfl,_⟩:=hh;exact⟨Ud,g',c',Y,_,rfl,U,aa,e4,e6,vO e7⟩
  cases e3 with
  |value hv=>
   have D:=(O.rX.mono U).finish hv;exact out (O.set U D.1 D.2.1 D.2.2 (jj _ _) (kB _ _)) h
  |skip=>
   have D:=(O.rX.mono U).finish (.undef Ud);exact out (O.set U D.1 D.2.1 D.2.2 (jj _ _) (kB _ _)) h
  |enter D ab ha=>
   have aa:=(O.mono U).push (Dx ((hE.mono U).calls _ D) ab ha .normal .normal) rfl (.inl rfl);have W:=O.rX.todo;obtain⟨fn,tm,td,df,md,kd,rd⟩:=fr;obtain⟨af,ag,ah,ai,aj,ak,al⟩:=fr';simp only at W
   cases W with
   |nil=>exact out aa h
   |cons hi _=>cases hi<;>exact out aa h
  |round hl W ha ab=>
   rename_i l l' f t t' a c;have am:jF Ud (br l f t a c .normal) (br l' f t' a c .normal):=⟨rfl,W,.cons (.code _ ha) (.cons .beginRound (.cons (.code _ ab) .nil)),.nil,.run,.some hl⟩;exact out ((O.mono U).push am rfl (.inl rfl)) h
  |defer hd=>
   have an:jF Ud {fr with defers:=_::fr.defers} {fr' with defers:=_::fr'.defers}:=⟨O.rX.fn,O.rX.tmps.mono U,(O.rX.mono U).todo,.cons hd (O.rX.mono U).defers,(O.rX.mono U).mode,(O.rX.mono U).round⟩;have D:=an.finish (.undef Ud);exact out (O.set U D.1 D.2.1 D.2.2 (jj _ _) (kB _ _)) h
  |recover=>
   have ao:=O.mono U;have W:=vR ao;have ac:=O.rX.round;obtain⟨fn,tm,td,df,md,kd,rd⟩:=fr;obtain⟨af,ag,ah,ai,aj,ak,al⟩:=fr';simp only at ac
   cases ac with
   |none=>
    dsimp only at h⊢;revert W h;generalize av _ _=p;generalize av _ _=p';intro h W
    cases W with
    |none=>
     have D:=(O.rX.mono U).finish (.nilIface (m:=Ud));exact out (O.set U D.1 D.2.1 D.2.2 (jj _ _) (kB _ _)) h
    |some hx=>
     rename_i x y;obtain⟨v,c⟩:=x;obtain⟨v',c'⟩:=y;have D:=(O.rX.mono U).finish hx.1;exact out (hx.2.set (.refl Ud) D.1 D.2.1 D.2.2 (jj _ _) (kB _ _)) h
   |some ar=>
    dsimp only at h⊢;rw[if_pos hE.Sg]at h⊢;revert W h;generalize av _ _=p;generalize av _ _=p';intro h W
    cases W with
    |none=>
     have D:=(O.rX.mono U).finish (.nilIface (m:=Ud));exact out (O.set U D.1 D.2.1 D.2.2 (jj _ _) (kB _ _)) h
    |some hx=>
     rename_i x y;obtain⟨v,c⟩:=x;obtain⟨v',c'⟩:=y;have D:=(O.rX.mono U).finish hx.1;exact out (hx.2.set (.refl Ud) D.1 D.2.1 D.2.2 (jj _ _) (kB _ _)) h
  |spawn au hd=>
   exfalso;dsimp only at h;generalize a8 P fr.fn _=X at h;rw[apply_ite (aY X)]at h
   have key:∀(c:Prop)[Decidable c] (A B C:GStep),(if c then A else B)=C->A=C\/B=C:=by
    intro c _ A B C hh;split at hh
    .exact .inl hh
    .exact .inr hh
   rcases key _ _ _ _ h with h|h
   .simp[a2,aC,aY,G]at h
   .simp[aY]at h
  |comm bl sh hq hc=>cases h
 |halt x wn=>
  cases x with
  |panic v=>
   obtain⟨Ud,v',Y,Ug,e1,U,e3,e4,_,e6,e7⟩:=hr;rw[e1];simp only[bw]at h⊢;have D:=(O.rX.mono U).raise (vs:=[{v,recovered:=false}]) (vs':=[{v:=v',recovered:=false}]) (.cons ⟨e3,rfl,rfl⟩ .nil);simp only[aY,G,bM,bN]at h;obtain⟨⟨rfl,rfl,_⟩,rfl,_⟩:=h;exact⟨Ud,_,cs',Y,_,rfl,U,O.set U D.1 D.2.1 D.2.2 (q9 _ _) (vP _ _),e4,e6,vO e7⟩
  |unsupported u=>cases u<;>first|exact hr.elim|cases h
  |stuck y=>cases h
  |throw y=>simp[a2,aC,aY,G]at h
  |_=>exact hr.elim
end
end
section
open Go.Conc
variable {t t':Array Value} {l l':Nat}
section
variable {P:Program} {m:Ren} {T:List Frame}
theorem zl(id:Nat):∀{k k':List Item},iu (mq m) k k'->oq (iu (mq m)) (aH id k) (aH id k')
 |_,_,.nil=>.none
 |_,_,.cons hi h=>by
  cases hi with
  |inBlock i=>
   unfold aH;split
   .exact .some h
   .exact zl id h
  |_=>unfold aH; exact zl id h
theorem rN{ok:Oper->Prop}(l:Nat):∀(c B:Code),jy ok c->aA c l=some B->jy ok B
 |.seq a b,B,h,e=>by
  unfold aA at e
  cases D:aA a l with
  |some r=>
   rw[D]at e;simp only[bX]at e;subst e;exact⟨rN l a r h.1 D,h.2⟩
  |none=>
   rw[D]at e;exact rN l b B h.2 e
 |.label l',B,h,e=>by
  unfold aA at e;split at e
  .cases e; trivial
  .cases e
 |.skip,_,_,e|.region ..,_,_,e|.cond ..,_,_,e|.block ..,_,_,e|.loop ..,_,_,e|.rangeFunc ..,_,_,e|.exit ..,_,_,e|.scope ..,_,_,e|.goto ..,_,_,e|.ret,_,_,e|.refuse ..,_,_,e=>by cases e
theorem zI(l:Nat):∀{k k':List Item},iu (mq m) k k'->oq (iu (mq m)) (aG l k) (aG l k')
 |_,_,.nil=>.none
 |_,_,.cons hi h=>by
  cases hi with
  |inScope c B=>
   unfold aG
   cases D:aA c l with
   |none=>exact zI l h
   |some r=>exact .some (.cons (.code r (rN l c r B D)) (.cons (.inScope c B) h))
  |_=>unfold aG; exact zI l h
theorem oB(ops:Array Oper)(h:iI m t t')(j:Nat):a9 ops t' j=a9 ops t j:=by
 unfold a9
 cases(ops[j]?).bind (·.dst)with
 |none=>rfl
 |some d=>
  simp only[bQ]
  cases D:t[d]? with
  |none=>rw[h.get_none D]
  |some v=>
   obtain⟨O,B,U⟩:=h.get D;rw[B];cases U<;>first|rfl|skip
   rename_i W;cases O<;>first|rfl|exact W.elim
theorem oy{fn:Func}(h:iI m t t'):gU P VR m (aM fn t) (aM fn t'):=by
 unfold aM;rw[bv,bv];simp only[map_eq_pure_bind,bind_assoc,pure_bind];refine hU (uO (Q:=VR) (λ_ _ _ _ h x=>x.mono h) fn.results.toList m λr _ m' W=>?_) λm' a c _ B=>?_
 .cases r with
  |tmp t=>exact .pure ((h.mono W).getD t)
  |cell a t=>exact Cb ((h.mono W).getD a) λp p' Y=>Ci Y
 .refine .pure ?_;have hs:=B.length;have D:iI m' a.toArray c.toArray:=B;by_cases O:a.toArray.size=1
  .have U:c.toArray.size=1:=by rw[<-D.size]; exact O
   rw[dif_pos O,dif_pos U];exact D.idx 0 (by omega) (by omega)
  .have U:¬c.toArray.size=1:=by rw[<-D.size]; exact O
   rw[dif_neg O,dif_neg U];exact .nO D
theorem Fs{o B:List PanicEntry}(h:iu (Rj m) o B):iu (Rj m) (o.dropWhile (!·.goexit)) (B.dropWhile (!·.goexit)):=by
 induction h with
 |nil=>exact .nil
 |cons D _ O=>
  simp only[List.dropWhile_cons,D.ex];split
  .exact O
  .exact .cons D ‹_›
theorem Iy{fr fr' c c':Frame}{cs cs':List Frame}(hS:iy P m T (fr::c::cs) (fr'::c'::cs'))(hk:fr'.kind=fr.kind)(ho:DJ fr.kind)(O:iy P m T (c::cs) (c'::cs')){v v':Value}(hv:VR m v v'){main main':Bool}{w w':World}(hw:WR m w w'){Uh:Frame}{Ui:List Frame}{Uc:World}{es:Array Event}
  (h:aw P main fr (c::cs) none v w=.go (G Uh Ui) Uc es):∃B,aw P main' fr' (c'::cs') none v' w'=.go (G B cs') w'/\iy P m T (Uh::Ui) (B::cs')/\Uc=w:=by
 unfold aw at h⊢;simp only at h⊢;rw[hk];rcases ho with ho|ho
 .rw[ho]at h⊢;simp only[bM,G,bN]at h;obtain⟨⟨rfl,rfl,_⟩,rfl,_⟩:=h;have hf:=O.rX.finish hv;exact⟨_,rfl,O.set (.refl m) hf.1 hf.2.1 hf.2.2 (jj _ _) (kB _ _),rfl⟩
 .rw[ho]at h⊢;have hm:=O.rX.mode;obtain⟨ag,ah,ai,aj,ar,ak,al⟩:=c;obtain⟨W,Y,aa,ab,aq,ac,ad⟩:=c';simp only at hm h⊢
  have mT:∀{md D},ua m md D->iy P m T (⟨ag,ah,ai,aj,md,ak,al⟩::cs) (⟨W,Y,aa,ab,D,ac,ad⟩::cs'):=λae=>
   O.set (.refl m) ⟨O.rX.fn,O.rX.tmps,O.rX.todo,O.rX.defers,ae,O.rX.round⟩ rfl rfl rfl rfl
  have fin:∀{md D},ua m md D->GStep.go (G ⟨ag,ah,ai,aj,md,ak,al⟩ cs) w=.go (G Uh Ui) Uc es->∃B,GStep.go (G ⟨W,Y,aa,ab,D,ac,ad⟩ cs') w'=.go (G B cs') w'/\iy P m T (Uh::Ui) (B::cs')/\Uc=w:=by
   intro md D ae hh;simp only[bM,G,bN]at hh;obtain⟨⟨rfl,rfl,_⟩,rfl,_⟩:=hh;exact⟨_,rfl,mT ae,rfl⟩
  cases hm with
  |run=>exact fin .run h
  |returning=>exact fin .returning h
  |panicking an=>
   cases an with
   |nil=>exact fin (.panicking .nil) h
   |cons hp ht=>
    rename_i p p' af U;obtain⟨pv,pr,px⟩:=p;obtain⟨ao,ap,am⟩:=p';obtain⟨h1,h2,h3⟩:=hp;simp only at h1 h2 h3;subst h2 h3
    cases ap with
    |false=>
     have hp:Rj m {v:=pv,recovered:=false,goexit:=am} {v:=ao,recovered:=false,goexit:=am}:=⟨h1,rfl,rfl⟩;exact fin (.panicking (.cons hp ht)) h
    |true=>
     have hd:=Fs ht;simp only at h⊢;revert hd h;generalize af.dropWhile (!·.goexit)=o;generalize U.dropWhile (!·.goexit)=o';intro h hd
     cases hd with
     |nil=>exact fin .returning h
     |cons hq hr=>exact fin (.panicking (.cons hq hr)) h
theorem qU{B D:Type}{RB:Ren->B->D->Prop}(U:m.blk l=some l'){f:Loop->Sem B}{f':Loop->Sem D}(h:∀p O,xr m p O->gU P RB m (f p) (f' O)):gU P RB m (be l >>= f) (be l' >>= f'):=by
 unfold be;simp only[bind_assoc];refine jB U λo Y W=>?_;cases W<;>first|exact .gW trivial|exact h _ _ ‹_›
theorem pL{l:Loop}:∀x y z,Obj.loop l≠.cells x y z:=λ_ _ _ h=>by cases h
theorem GU(B:m.blk l=some l'){j:Option Code}(D:∀c,j=some c->jy m.ok c):gU P VR m (aZ l j) (aZ l' j):=by
 unfold aZ;refine qU B λp O h=>mB B (.loop ⟨rfl,rfl,D,h.fn,h.tmps,h.params,h.assign,h.body,h.Sr,h.yk,h.defers⟩) pL (.pure (.bool _))
theorem Ei(B:m.blk l=some l'):gU P zi m (bc l) (bc l'):=by
 unfold bc;refine qU B λp D h=>mB B (.loop ⟨rfl,h.pending,h.Sz,h.fn,h.tmps,h.params,h.assign,h.body,h.Sr,h.yk,h.defers⟩) pL ?_;rw[<-h.state];cases p.state<;>first|exact .pure trivial|exact jm (e:=.error _) trivial
theorem KR(B:m.blk l=some l'):gU P (λm a b=>a=b/\∀c,a=some c->jy m.ok c) m (bg l) (bg l'):=by
 unfold bg;refine qU B λp D h=>?_
 have fin:gU P (λm a b=>a=b/\∀c,a=some c->jy m.ok c) m (do setObj l (.loop {p with state:=.exhausted}); pure p.pending) (do setObj l' (.loop {D with state:=.exhausted}); pure D.pending):=
  mB B (.loop ⟨rfl,h.pending,h.Sz,h.fn,h.tmps,h.params,h.assign,h.body,h.Sr,h.yk,h.defers⟩) pL (.pure ⟨h.pending,h.Sz⟩)
 rw[<-h.state];dsimp only;exact ig (λ_=>iz (e:=.error _) trivial) (λ_=>fin)
theorem zj(O:m.blk l=some l'){d d':Deferred}(U:DR m d d'):gU P zi m (bd l d) (bd l' d'):=by
 unfold bd;refine qU O λp Y D=>jB D.defers λo o' W=>?_
 cases W with
 |deferred B=>exact rF D.defers (.deferred (.cons U B)) (λ_ _ _ h=>by cases h)
 |jb=>exact .gW trivial
 |_=>exact .gW trivial
theorem zJ(D:m.blk l=some l'):gU P (λm=>iu (DR m)) m (ba l) (ba l'):=by
 unfold ba;refine jB D λo U O=>?_
 cases O with
 |deferred B=>exact mB D .jb (λ_ _ _ h=>by cases h) (.pure B)
 |_=>exact .gW trivial
theorem EH{fn:a6}(U:iI m t t'){ps:Array Tmp}{a c:Code}(W:jy m.ok a)(Y:jy m.ok c){r r':Option Nat}(hr:oq (λx y=>m.blk x=some y) r r'):gU P (λm x y=>m.blk x.1=some y.1/\iu (DR m) x.2 y.2) m (bf fn t ps a c r) (bf fn t' ps a c r'):=by
 unfold bf
 have fin:∀{m':Ren}{q D:Nat}{d d':List Deferred},m.Le m'->m'.blk q=some D->iu (DR m') d d'->gU P (λm x y=>m.blk x.1=some y.1/\iu (DR m) x.2 y.2) m' (do pure (<-newObj (.loop {state:=.ready,pending:=none,fn,tmps:=t,params:=ps,assign:=a,body:=c,defers:=q}),d)) (do pure (<-newObj (.loop {state:=.ready,pending:=none,fn,tmps:=t',params:=ps,assign:=a,body:=c,defers:=D}),d')):=by
  intro m' q D d d' B hq hd;exact gU.new (.loop ⟨rfl,rfl,(λ_ h=>by cases h),rfl,U.mono B,rfl,rfl,rfl,B.ok▸W,B.ok▸Y,hq⟩) (λ_ _ _ h=>by cases h) λaa i i' O hb _=>.pure ⟨hb,hd.mono λ_ _ x=>x.mono O⟩
 cases hr with
 |some hx=>exact qU hx λp p' hp=>fin (.refl m) hp.defers .nil
 |none=>exact gU.new (.deferred .nil) (λ_ _ _ h=>by cases h) λm' i i' B hb _=>fin B hb (.cons ⟨.collected hb,.nil m'⟩ .nil)
end
end
section
open Go.Conc
variable {X es:Array Event} {fr fr' Uh:Frame} {cs cs' Ui:List Frame} {Ud:Ren} {w w' Uc:World}
structure oh(P:Program)(m:Ren)(gl:Nat->Prop)(st:Bool):Prop where
 env:vy P m
 strict:st=true->jY m
 kL:False->m.kL
 qG:∀g,gl g->m.blk g=some g
 ops:∀o,m.ok o->OkOp P m.jz gl st o.op
theorem oh.mono{P:Program}{m m':Ren}{gl:Nat->Prop}{st:Bool}(h:m.Le m')(x:oh P m gl st):oh P m' gl st:=
 ⟨x.env.mono h,λs=>(x.strict s).mono h,λs=>s.elim,λg B=>h.blk _ _ (x.qG g B),λo D=>h.jz▸x.ops o (h.ok▸D)⟩
def AtClose(fr:Frame):Prop:=fr.mode≠.run/\∃a t c args ds,fr.defers={target:=.builtin .close a t c,args}::ds
section
variable {P:Program} {m:Ren} {T:List Frame} {gl:Nat->Prop} {st:Bool}
theorem vg{s:GStep}{g:Goroutine}(h:aY X s=.go g w es):∃B,s=.go g w B:=by
 cases s<;>simp[aY]at h;obtain⟨rfl,rfl,_⟩:=h;exact⟨_,rfl⟩
theorem QD(hl:m.Le Ud)(hS:iy P Ud T (fr::cs) (fr'::cs'))(hn:cs=[door P]->fr.roundOf=none->False){v v':Value}(hv:VR Ud v v'){main':Bool}{B:World}(hw:WR Ud w B)(hk:ju m Ud w' B){X':Array Event}(U:∀e∈X',qJ Ud e)
  (h:aY X (aw P true fr cs none v w)=.go (G Uh Ui) Uc es):pP P m T (aY X' (aw P main' fr' cs' none v' B)) w' Uh Ui Uc:=by
 obtain⟨aa,h⟩:=vg h
 cases hS with
 |one hf W Y O=>exact(hn rfl O).elim
 |cons hf W Y O=>
  obtain⟨D,e1,e2,e3⟩:=Iy (.cons hf W Y O) W Y O hv (main:=true) (main':=main') hw h;subst e3;rw[e1];exact⟨Ud,D,_,B,_,rfl,hl,e2,hw,hk,by simpa using U⟩
theorem pC{f:a6}{Ug:Array Event}(h:∀e∈Ug,qJ Ud e):∀e∈a8 P f Ug,qJ Ud e:=λe B=>h e (mem_seen B)
theorem still{g g':Frame}(B:WR m w w')(D:iy P m T (g::cs) (g'::cs'))
  (h:GStep.go {frame:=g,callers:=cs,status:=.running,dying:=none} w=.go (G Uh Ui) Uc es):pP P m T (GStep.go {frame:=g',callers:=cs',status:=.running,dying:=none} w') w' Uh Ui Uc:=by
 simp only[bM,G,bN]at h;obtain⟨⟨rfl,rfl,_⟩,rfl,_⟩:=h;exact⟨m,g',cs',w',#[],rfl,.refl m,D,B,.refl m w',by simp⟩
theorem Hp(h:jF m fr fr'){k k':List Item}(B:iu (mq m) k k'):jF m {fr with todo:=k} {fr' with todo:=k'}:=⟨h.fn,h.tmps,B,h.defers,h.mode,h.round⟩
theorem Rw(h:jF m fr fr'){k k':FrameMode}(B:ua m k k'):jF m {fr with mode:=k} {fr' with mode:=k'}:=⟨h.fn,h.tmps,h.todo,h.defers,B,h.round⟩
theorem pP.after{s':GStep}{B:World}(U:m.Le Ud)(W:ju m Ud w' B)(Y:∀e∈X,qJ Ud e)(h:pP P Ud T s' B Uh Ui Uc):pP P m T (aY X s') w' Uh Ui Uc:=by
 obtain⟨Uk,f,c,D,es,rfl,O,h3,h4,h5,h6⟩:=h;refine⟨Uk,f,c,D,X++es,rfl,U.trans O,h3,h4,W.trans U O h5,λe he=>?_⟩;rcases b4.1 he with x|x
 .exact(Y e x).mono O
 .exact h6 e x
theorem K7{ρ Uj:Operand->Value}(O:∀x,iH m.jz gl x->VR m (ρ x) (Uj x)){c:Call}(hc:(∀x∈c.operands.toList,iH m.jz gl x)/\match c.callee with|.value _=>True|.builtin b=>b=.close/\m.kL|_=>False)(t:a0):gU P DR m (aF ρ c t) (aF Uj c t):=by
 obtain⟨B,D⟩:=hc;obtain⟨callee,args,ats⟩:=c
 cases callee with
 |invoke r n=>exact D.elim
 |builtin bb=>
  have U:iI m (args.map ρ) (args.map Uj):=ni O λx W=>B x (by simp[bL]; simpa using W);obtain⟨D,Y⟩:=D;subst D;exact .pure ⟨.builtin _ _ _ Y,U⟩
 |value f=>
  have U:iI m (args.map ρ) (args.map Uj):=ni O λx W=>B x (by simp[bL]; exact .inr (by simpa using W));exact(ri (O f (B f (by simp[bL]))) U).mono λ_ _ _ _ h=>h.1
theorem Lz{r:Nat}(h:m.dead r)(B:WR m w w'):∃x Uc,(ba r).run P w=.halt x Uc:=by
 obtain⟨_,c,e,f,D⟩:=B.dead r h;unfold ba;exact⟨_,_,by simp only[getObj,bind,bm,bi,D]; rfl⟩
theorem pE(s:GStep):aY #[] s=s:=by cases s<;>simp[aY]
end
end
section
open Go.Conc
variable {P:Program} {m:Ren} {s:Sem Go.Next} {α β:Type} {w w' Uc:World}
def tp(w:World)(τ:Nat->Question->Nat):World:={w with tape:=τ}
def Dk{α:Type}:Result α->World
 |.ok _ w=>w
 |.halt _ w=>w
def yS{α:Type}(P:Program)(s:Sem α)(w:World)(τ:Nat->Question->Nat):Result α->Prop
 |.ok a Uc=>s.run P (tp w τ)=.ok a (tp Uc τ)
 |.halt (.panic v) Uc=>s.run P (tp w τ)=.halt (.panic v) (tp Uc τ)
 |_=>True
def wY(τ:Nat->Question->Nat)(w Uc:World):Prop:=∀i,w.drawn<=i->i<Uc.drawn->τ i=w.tape i
def Rf{α:Type}(P:Program)(s:Sem α)(w:World):Prop:=
 w.drawn<=(Dk (s.run P w)).drawn/\(Dk (s.run P w)).tape=w.tape/\∀τ,wY τ w (Dk (s.run P w))->yS P s w τ (s.run P w)
def Loc{α:Type}(P:Program)(s:Sem α)(w:World):Prop:=(∃x Uc,s.run P w=.halt x Uc/\mV x)\/Rf P s w
theorem Loc.step{s:Sem α}{k:Sem α}(h:Loc P k Uc)(e:s.run P w=k.run P Uc)(Y:Uc.drawn=w.drawn)(ht:Uc.tape=w.tape)(D:∀τ,s.run P (tp w τ)=k.run P (tp Uc τ)):Loc P s w:=by
 rcases h with⟨x,O,U,W⟩|⟨U,W,h3⟩
 .exact .inl ⟨x,O,e.trans U,W⟩
 .refine .inr ⟨by rw[e,<-Y]; exact U,by rw[e,W,ht],λτ B=>?_⟩;rw[e]at B⊢;have:=h3 τ λi a b=>by rw[ht]; exact B i (Y▸a) b
  revert this
  cases k.run P Uc with
  |ok a w2=>intro h; show s.run P (tp w τ)=_; rw[D]; exact h
  |halt x w2=>cases x<;>intro h<;>first|trivial|(show s.run P (tp w τ)=_; rw[D]; exact h)
theorem gU.loc{RA:Ren->α->β->Prop}{s:Sem α}{s':Sem β}(h:gU P RA m s s'):∀(w w':World),WR m w w'->Loc P s w:=by
 induction h with
 |gW hd=>exact λw w' _=>.inl (hd.run w)
 |pure hr=>exact λw w' _=>.inr ⟨bG _,rfl,λτ _=>rfl⟩
 |@load m a a' k k' ha _ D=>
  intro w w' B
  cases W:w.cell? a with
  |some v=>
   obtain⟨v',aj,hv⟩:=B.cell ha W;refine(D v v' hv w w' B).step (by simp only[bi,W]) rfl rfl λτ=>?_;have aa:(tp w τ).cell? a=some v:=W;simp only[bi,aa]
  |none=>
   obtain⟨y,hy⟩:=B.Oh ha W P (Mode.plain==.atomic);exact .inl ⟨.stuck y,w,by simp only[bi,W,hy],trivial⟩
 |@store m a a' v v' k k' ha hv _ D=>
  intro w w' B;by_cases O:∃c,v=.agg c
  .obtain⟨c,rfl⟩:=O;exact .inl ⟨.stuck "store: not the value of one cell",w,by simp only[bi],trivial⟩
  by_cases Y:∃c,v=.tuple c
  .obtain⟨c,rfl⟩:=Y;exact .inl ⟨.stuck "store: not the value of one cell",w,by simp only[bi],trivial⟩
  have e1:∀w:World,(Sem.store Mode.plain a v k).run P w=match w.cell? a with
    |some _=>if w.frozen? a then .halt (.unsupported (.unsafePointer "a write to bytes that a string shares")) w else k.run P (w.setCell a v)
    |none=>match w.farStore P a v (Mode.plain==.atomic)with
     |.ok (w,_)=>k.run P w
     |.error h=>.halt h w:=by
   intro w;rw[bi]
   .rfl
   .exact λc e=>O ⟨c,e⟩
   .exact λc e=>Y ⟨c,e⟩
  cases W:w.cell? a with
  |none=>
   obtain⟨y,hy⟩:=B.JB ha W P v (Mode.plain==.atomic);exact .inl ⟨.stuck y,w,by rw[e1,W]; simp only[hy],trivial⟩
  |some u=>
   by_cases hf:w.frozen? a=true
   .exact .inl ⟨.unsupported (.unsafePointer "a write to bytes that a string shares"),w,by rw[e1,W]; simp only[hf,if_true],trivial⟩
   .refine(D (w.setCell a v) _ (B.setCell ha hv λah=>by cases v<;>first|exact ah.elim|exact O ⟨_,rfl⟩|exact Y ⟨_,rfl⟩)).step (by rw[e1,W]; simp only[hf,if_false,bR]) rfl rfl λτ=>?_;have aa:(tp w τ).cell? a=some u:=W;have ai:¬(tp w τ).frozen? a=true:=hf;rw[e1,aa];simp only[ai,if_false,bR];rfl
 |@new m o o' k k' ho W _ D=>
  intro w w' B;have ab:=Ren.xg B.jP B.o8 B.Sl;have ac:(m.ext w.heap.size w'.heap.size B.jP B.o8 B.Sl).blk w.heap.size=some w'.heap.size:=by simp[Ren.ext]
  exact(D _ _ _ ab ac (by simp[Ren.ext]) {w with heap:=w.heap.push o} _ (B.push ho W)).step rfl rfl rfl λτ=>rfl
 |@rL m c b x s r t c' b' x' s' r' t' k k' ak _ D=>
  intro w w' B;have ab:=Ren.yI B.qj B.oO;have ac:(m.uD w.heap.size w'.heap.size B.qj B.oO).ch w.heap.size=some w'.heap.size:=by simp[Ren.uD]
  exact(D _ _ _ ab ac {w with heap:=w.heap.push (.chan c b x s r t)} _ (B.Nm (.chan c b x s r t) (.chan c' b' x' s' r' t'))).step rfl rfl rfl λτ=>rfl
 |shape hb _ D=>exact λw w' B=>(D _ w w' B).step rfl rfl rfl λτ=>rfl
 |@freeze m a a' n k k' ha hn _ D=>
  intro w w' B;refine(D (w.freeze a n) _ (B.freeze ha hn n)).step rfl (by unfold World.freeze; split<;>rfl) (by unfold World.freeze; split<;>rfl) λτ=>?_;have:(tp w τ).freeze a n=tp (w.freeze a n) τ:=by unfold World.freeze; split<;>rfl
  simp only[bi,this]
 |frozen ha hn _ D=>exact λw w' B=>(D _ w w' B).step rfl rfl rfl λτ=>rfl
 |getObj hb _ D=>
  intro w w' B;obtain⟨x,x',O,Y,ho⟩:=B.obj _ _ hb;have U:∀τ,(tp w τ).heap[_]?=some x:=λ_=>O
  cases ho with
  |cells=>exact .inl ⟨.stuck "getObj: a row of cells",w,by simp only[bi,O],trivial⟩
  |map clock he=>exact(D _ _ (.map clock he) w w' B).step (by simp only[bi,O]) rfl rfl λτ=>by simp only[bi,U]
  |number l hx=>exact(D _ _ (.number l hx) w w' B).step (by simp only[bi,O]) rfl rfl λτ=>by simp only[bi,U]
  |stringIter s p=>exact(D _ _ (.stringIter s p) w w' B).step (by simp only[bi,O]) rfl rfl λτ=>by simp only[bi,U]
  |jI a b c=>exact(D _ _ (.jI a b c) w w' B).step (by simp only[bi,O]) rfl rfl λτ=>by simp only[bi,U]
  |mapIter a b c hm=>exact(D _ _ (.mapIter a b c hm) w w' B).step (by simp only[bi,O]) rfl rfl λτ=>by simp only[bi,U]
  |loop hl=>exact(D _ _ (.loop hl) w w' B).step (by simp only[bi,O]) rfl rfl λτ=>by simp only[bi,U]
  |jb=>exact(D _ _ .jb w w' B).step (by simp only[bi,O]) rfl rfl λτ=>by simp only[bi,U]
  |deferred hd=>exact(D _ _ (.deferred hd) w w' B).step (by simp only[bi,O]) rfl rfl λτ=>by simp only[bi,U]
 |@setObj m r r' o o' k k' hb ho W _ D=>
  intro w w' B;obtain⟨x,x',O,Y,hx⟩:=B.obj _ _ hb;have U:∀τ,(tp w τ).heap[r]?=some x:=λ_=>O;rcases Classical.em (m.loose r)with ad|ad
  .obtain⟨c,e,f,hy⟩:=B.lk _ _ hb ad;exact .inl ⟨.stuck "setObj: a row of cells",w,by simp only[bi,hy],trivial⟩
  have ae:=B.turn hb ho (λc e f c' e' f' e1 _=>absurd e1 (W c e f)) (λh=>absurd h ad) (λc e f c' e' f' e1 _=>absurd e1 (W c e f));have fin:=D {w with heap:=w.heap.setIfInBounds r o} _ ae
  cases hx with
  |cells=>exact .inl ⟨.stuck "setObj: a row of cells",w,by simp only[bi,O],trivial⟩
  |_=>
   refine fin.step ?_ rfl rfl λτ=>?_
   .simp only[bi,O]
   .simp only[bi,U];rfl
 |@choose m q k k' _ D=>
  intro w w' B;by_cases hf:q.forced=true
  .exact(D 0 w w' B).step (by simp only[bi,hf,if_true]) rfl rfl λτ=>by simp only[bi,hf,if_true]
  .have e:(Sem.choose q k).run P w=(k (q.cut (w.tape w.drawn q))).run P {w with drawn:=w.drawn+1}:=by simp only[bi,hf,if_false,bR]
   rcases D (q.cut (w.tape w.drawn q)) {w with drawn:=w.drawn+1} w' (B.draw _ w'.drawn)with⟨x,ag,O,Y⟩|⟨O,Y,h3⟩
   .exact .inl ⟨x,ag,e.trans O,Y⟩
   .refine .inr ⟨by rw[e]; exact bF (bK _) O,by rw[e,Y],λτ af=>?_⟩;rw[e]at af⊢;have e0:τ w.drawn=w.tape w.drawn:=af _ (bG _) (bI O)
    have e2:(Sem.choose q k).run P (tp w τ)=(k (q.cut (w.tape w.drawn q))).run P (tp {w with drawn:=w.drawn+1} τ):=by
     simp only[bi,hf,if_false,bR];show(k (q.cut (τ w.drawn q))).run P _=_;rw[e0]; rfl
    have:=h3 τ λi a b=>af i (bJ a) b;revert this
    cases(k (q.cut (w.tape w.drawn q))).run P {w with drawn:=w.drawn+1}with
    |ok a w2=>intro h; show(Sem.choose q k).run P (tp w τ)=_; rw[e2]; exact h
    |halt x w2=>cases x<;>intro h<;>first|trivial|(show(Sem.choose q k).run P (tp w τ)=_; rw[e2]; exact h)
 |gone hd=>
  intro w w' B;obtain⟨_,c,e,f,hx⟩:=B.dead _ hd;exact .inl ⟨.stuck "getObj: a row of cells",w,by simp only[bi,hx],trivial⟩
 |env _ D=>exact λw w' B=>(D (.strings w.os.env) w w' B).step rfl rfl rfl λτ=>rfl
 |program _ D=>exact λw w' B=>(D w w' B).step rfl rfl rfl λτ=>rfl
 |mark hm _ D=>exact λw w' B=>(D w w' B).step rfl rfl rfl λτ=>rfl
 |panic hv=>exact λw w' _=>.inr ⟨bG _,rfl,λτ _=>rfl⟩
theorem align(h:WR m w w'):∃B:World,WR m w B/\Al w B/\B.heap=w'.heap:=by
 refine⟨{w' with tape:=λi q=>w.tape (i-w'.drawn+w.drawn) q},⟨h.obj,h.fz,h.all,h.M4,h.M2,h.J5,h.os,h.nJ,h.lk,h.dead,h.tI⟩,λi q=>?_,rfl⟩;show w.tape (w'.drawn+i-w'.drawn+w.drawn) q=w.tape (w.drawn+i) q;have:w'.drawn+i-w'.drawn+w.drawn=w.drawn+i:=by omega
 rw[this]
theorem nY.loc{RA:Ren->α->β->Prop}{s:Sem α}{s':Sem β}(h:nY P RA m s s'):∀(w w':World),WR m w w'->Loc P s w:=by
 induction h with
 |base h=>exact h.loc
 |@bind γ δ RC m s s' f f' h _ ih=>
  intro w w' hw;obtain⟨ab,ac,ad,_⟩:=align hw;have D:=h.run w ab #[] ac (.inl ad);rcases h.loc w w' hw with⟨x,O,U,Y⟩|⟨U,Y,h3⟩
  .exact .inl ⟨x,O,by rw[bk,U]; rfl,Y⟩
  .cases hr:s.run P w with
   |halt x W=>
    have eb:(s.bind f).run P w=.halt x W:=by rw[bk,hr]; rfl
    rw[hr]at U Y h3 D
    cases x with
    |panic v=>
     refine .inr ⟨by rw[eb]; exact U,by rw[eb]; exact Y,λτ B=>?_⟩;rw[eb]at B⊢;have:=h3 τ B;show(s.bind f).run P (tp w τ)=_;rw[bk,show s.run P (tp w τ)=.halt (.panic v) (tp W τ)from this];rfl
    |unsupported u=>cases u<;>first|exact D.elim|exact .inl ⟨_,W,eb,trivial⟩
    |stuck y=>exact .inl ⟨_,W,eb,trivial⟩
    |throw y=>exact .inl ⟨_,W,eb,trivial⟩
    |_=>exact D.elim
   |ok a W=>
    rw[hr]at U Y h3 D;obtain⟨Ud,b,ae,Ug,e1,e2,e3,e4,_⟩:=D;have eb:(s.bind f).run P w=(f a).run P W:=by rw[bk,hr]; rfl
    rcases ih Ud a b e2 e3 W ae e4 with⟨x,O,g1,g2⟩|⟨g1,g2,g3⟩
    .exact .inl ⟨x,O,eb.trans g1,g2⟩
    .refine .inr ⟨by rw[eb]; exact bF U g1,by rw[eb,g2]; exact Y,λτ B=>?_⟩;rw[eb]at B⊢;have ha:s.run P (tp w τ)=.ok a (tp W τ):=h3 τ λi x y=>B i x (bH y g1);have hb:=g3 τ λi x y=>by rw[show W.tape=w.tape from Y]; exact B i (bF U x) y
     have aa:(s.bind f).run P (tp w τ)=(f a).run P (tp W τ):=by rw[bk,ha]; rfl
     revert hb
     cases(f a).run P W with
     |ok c w2=>intro h; show(s.bind f).run P (tp w τ)=_; rw[aa]; exact h
     |halt x w2=>cases x<;>intro h<;>first|trivial|(show(s.bind f).run P (tp w τ)=_; rw[aa]; exact h)
 |@SV m q k s' hd h=>
  intro w w' hw;by_cases hf:q.forced=true
  .exact((h 0).loc w w' hw).step (by simp only[bi,hf,if_true]) rfl rfl λτ=>by simp only[bi,hf,if_true]
  .have e:(Sem.choose q k).run P w=(k (q.cut (w.tape w.drawn q))).run P {w with drawn:=w.drawn+1}:=by simp only[bi,hf,if_false,bR]
   rcases(h (q.cut (w.tape w.drawn q))).loc {w with drawn:=w.drawn+1} w' (hw.draw _ w'.drawn)with⟨x,O,U,Y⟩|⟨U,Y,h3⟩
   .exact .inl ⟨x,O,e.trans U,Y⟩
   .refine .inr ⟨by rw[e]; exact bF (bK _) U,by rw[e,Y],λτ B=>?_⟩;rw[e]at B⊢;have e0:τ w.drawn=w.tape w.drawn:=B _ (bG _) (bI U)
    have e2:(Sem.choose q k).run P (tp w τ)=(k (q.cut (w.tape w.drawn q))).run P (tp {w with drawn:=w.drawn+1} τ):=by
     simp only[bi,hf,if_false,bR];show(k (q.cut (τ w.drawn q))).run P _=_;rw[e0]; rfl
    have:=h3 τ λi a b=>B i (bJ a) b;revert this
    cases(k (q.cut (w.tape w.drawn q))).run P {w with drawn:=w.drawn+1}with
    |ok a w2=>intro h; show(Sem.choose q k).run P (tp w τ)=_; rw[e2]; exact h
    |halt x w2=>cases x<;>intro h<;>first|trivial|(show(Sem.choose q k).run P (tp w τ)=_; rw[e2]; exact h)
def yH(P:Program)(s:World->GStep)(w:World)(Uh:Frame)(Ui:List Frame)(Uc:World):Prop:=
 w.drawn<=Uc.drawn/\Uc.tape=w.tape/\∀τ,wY τ w Uc->∃es,s (tp w τ)=.go (G Uh Ui) (tp Uc τ) es
theorem jQ{s:Sem α}{r:Result α}(h:s.run P w=r):∃es,s.runT P w #[]=(r,es):=by
 refine⟨(s.runT P w #[]).2,?_⟩;rw[<-h,<-bj P s w #[]]
theorem LN(Y:P.follows .rangeFuncRecover=true){fr:Frame}{cs:List Frame}(U:Loc P s w)(ac:∀n D,s.run P w=.ok n D->∃m n',kp P m n n')(ab:∀x D,s.run P w=.halt x D->(∃v,x=.panic v)\/mV x){Uh:Frame}{Ui:List Frame}{es:Array Event}
  (h:aW P true fr cs none s w=.go (G Uh Ui) Uc es):yH P (aW P true fr cs none s) w Uh Ui Uc:=by
 rcases hrt:s.runT P w #[]with⟨r,ag⟩;have W:s.run P w=r:=by rw[<-bj P s w #[],hrt]
 unfold aW at h;simp only[if_true]at h;rw[hrt]at h;rcases U with⟨x,af,h1,h2⟩|⟨h1,h2,h3⟩
 .rw[W]at h1;subst h1;exfalso
  cases x with
  |unsupported u=>cases u<;>first|exact h2.elim|cases h
  |stuck y=>cases h
  |throw y=>simp[a2,aC,aY,G]at h
  |_=>exact h2.elim
 .rw[W]at h1 h2 h3
  have fin:∀{X:Array Event}{g:Goroutine}{D:World},Dk r=D->aY X (.go g D)=.go (G Uh Ui) Uc es->(∀τ,yS P s w τ r->∃X',aW P true fr cs none s (tp w τ)=aY X' (.go g (tp D τ)))->yH P (aW P true fr cs none s) w Uh Ui Uc:=by
   intro X g D e hh hk;simp only[aY,bM]at hh;obtain⟨rfl,rfl,_⟩:=hh;subst e;refine⟨h1,h2,λτ ad=>?_⟩;obtain⟨X',e⟩:=hk τ (h3 τ ad);exact⟨_,e⟩
  have plain:∀{X:Array Event}{g:Goroutine}{D:World},Dk r=D->aY X (.go g D)=.go (G Uh Ui) Uc es->(∀τ O,s.runT P (tp w τ) #[]=(match r with|.ok n w=>.ok n (tp w τ)|.halt x w=>.halt x (tp w τ),O)->∃X',aW P true fr cs none s (tp w τ)=aY X' (.go g (tp D τ)))->(∃n D,r=.ok n D)\/(∃v D,r=.halt (.panic v) D)->yH P (aW P true fr cs none s) w Uh Ui Uc:=by
   intro X g D e hh hk hr;refine fin e hh λτ U=>?_;rcases hr with⟨n,D,rfl⟩|⟨v,D,rfl⟩
   .obtain⟨e',e⟩:=jQ U;exact hk τ e' e
   .obtain⟨e',e⟩:=jQ U;exact hk τ e' e
  cases r with
  |ok n D=>
   obtain⟨m,n',hn⟩:=ac n D W
   cases hn with
   |value hv=>exact plain rfl h (λτ O e=>by unfold aW; simp only[if_true,e]; exact⟨_,rfl⟩) (.inl ⟨_,_,rfl⟩)
   |skip=>exact plain rfl h (λτ O e=>by unfold aW; simp only[if_true,e]; exact⟨_,rfl⟩) (.inl ⟨_,_,rfl⟩)
   |enter hf ae ha=>exact plain rfl h (λτ O e=>by unfold aW; simp only[if_true,e]; exact⟨_,rfl⟩) (.inl ⟨_,_,rfl⟩)
   |round U ht ha ae=>exact plain rfl h (λτ O e=>by unfold aW; simp only[if_true,e]; exact⟨_,rfl⟩) (.inl ⟨_,_,rfl⟩)
   |defer hd=>exact plain rfl h (λτ O e=>by unfold aW; simp only[if_true,e]; exact⟨_,rfl⟩) (.inl ⟨_,_,rfl⟩)
   |comm bl sh hq hc=>cases h
   |spawn ah hd=>
    exfalso;clear plain fin h1 h2 h3 hrt W;dsimp only at h;generalize a8 P fr.fn _=X at h;rw[apply_ite (aY X)]at h
    have key:∀(c:Prop)[Decidable c] (A B C:GStep),(if c then A else B)=C->A=C\/B=C:=by
     intro c _ A B C hh;split at hh
     .exact .inl hh
     .exact .inr hh
    rcases key _ _ _ _ h with h|h
    .simp[a2,aC,aY,G]at h
    .simp[aY]at h
   |recover=>
    clear plain;obtain⟨fn,tm,td,df,md,kd,rd⟩:=fr
    cases rd with
    |none=>
     dsimp only at h;revert h;generalize aa:av _ cs=p;intro h
     cases p with
     |none=>
      refine fin rfl h λτ U=>?_;obtain⟨e',e⟩:=jQ U;unfold aW;simp only[if_true,e];rw[aa];exact⟨_,rfl⟩
     |some x=>
      obtain⟨v,c⟩:=x;refine fin rfl h λτ U=>?_;obtain⟨e',e⟩:=jQ U;unfold aW;simp only[if_true,e];rw[aa];exact⟨_,rfl⟩
    |some l=>
     dsimp only at h;rw[if_pos Y]at h;revert h;generalize aa:av _ cs=p;intro h
     cases p with
     |none=>
      refine fin rfl h λτ U=>?_;obtain⟨e',e⟩:=jQ U;unfold aW;simp only[if_true,e,Y];rw[aa];exact⟨_,rfl⟩
     |some x=>
      obtain⟨v,c⟩:=x;refine fin rfl h λτ U=>?_;obtain⟨e',e⟩:=jQ U;unfold aW;simp only[if_true,e,Y];rw[aa];exact⟨_,rfl⟩
  |halt x D=>
   cases x with
   |panic v=>exact plain rfl h (λτ O e=>by unfold aW; simp only[if_true,e]; exact⟨_,rfl⟩) (.inr ⟨_,_,rfl⟩)
   |stuck y=>cases h
   |throw y=>simp[a2,aC,aY,G]at h
   |unsupported u=>
    rcases ab _ _ W with⟨v,hv⟩|hv
    .cases hv
    .cases u<;>first|exact hv.elim|cases h
   |_=>
    rcases ab _ _ W with⟨v,hv⟩|hv
    .cases hv
    .exact hv.elim
theorem nY.outs{s':Sem Go.Next}(h:nY P (kp P) m s s')(Y:WR m w w'):(∀n B,s.run P w=.ok n B->∃m n',kp P m n n')/\(∀x B,s.run P w=.halt x B->(∃v,x=.panic v)\/mV x):=by
 obtain⟨O,U,W,_⟩:=align Y;have D:=h.run w O #[] U W;constructor
 .intro n B e;rw[e]at D;obtain⟨Ud,b,_,_,_,_,e3,_⟩:=D;exact⟨Ud,b,e3⟩
 .intro x B e;rw[e]at D;cases x<;>first|exact .inl ⟨_,rfl⟩|exact .inr D
end
section
open Go.Conc
variable {d':Deferred} {fr fr':Frame} {cs cs':List Frame} {s':Sem Go.Next} {w' Uc:World}
def nL(P:Program)(d:Deferred):Goroutine:={frame:={(default:Frame)with fn:=P.funcs.size,defers:=[d],mode:=.panicking [aK]},callers:=[],status:=.running,dying:=none}
inductive qQ(P:Program):GStep->Prop
 |go (g c w es):qQ P (.go (G g c) w es)
 |ended (o w es):qQ P (.ended o w es)
 |dies (g w es):Goroutine.dyingOn P g->qQ P (.go g w es)
 |comm (g c k b s w es):qQ P (.comm (G g c) k b s w es)
 |spawn (g c d w es):qQ P (.spawn (G g c) (nL P d) w es)
theorem qQ.after{P:Program}{s:GStep}(h:qQ P s)(X:Array Event):qQ P (aY X s):=by
 cases h with
 |go g c w es=>exact .go _ _ _ _
 |ended o w es=>exact .ended _ _ _
 |dies g w es h=>exact .dies _ _ _ h
 |comm g c k b s w es=>exact .comm _ _ _ _ _ _ _
 |spawn g c d w es=>exact .spawn _ _ _ _ _
theorem uB{P:Program}(fr:Frame)(y:String)(w:World):qQ P (a2 fr y w):=.dies _ _ _ (dieOf_okD (P:=P) fr [] y false w)
section
variable {P:Program} {m:Ren} {T:List Frame} {gl:Nat->Prop} {st:Bool}
def Jv(P:Program)(m:Ren)(T:List Frame)(s':GStep)(w':World)(g:Goroutine)(k:Array CommCase)(b:Bool)(sh:CommShape)(Uc:World):Prop:=
 ∃fr cs Ud fr' cs' k' h es,g=G fr cs/\s'=.comm (G fr' cs') k' b sh h es/\(m.kL\/JS k b sh)/\m.Le Ud/\iy P Ud T (fr::cs) (fr'::cs')/\iu (C5 Ud) k.toList k'.toList/\WR Ud Uc h/\ju m Ud w' h/\∀e∈es,qJ Ud e
def JY(P:Program)(m:Ren)(T:List Frame)(s':GStep)(w':World)(g ch:Goroutine)(Uc:World):Prop:=
 ∃fr cs d Ud fr' cs' d' h es,g=G fr cs/\ch=nL P d/\s'=.spawn (G fr' cs') (nL P d') h es/\m.kL/\m.Le Ud/\iy P Ud T (fr::cs) (fr'::cs')/\DR Ud d d'/\WR Ud Uc h/\ju m Ud w' h/\∀e∈es,qJ Ud e
theorem Ij(h:jF m fr fr'):fr'.noResult P=fr.noResult P:=by
 have B:=h.todo;unfold Frame.noResult
 have:fr'.oper?=fr.oper?:=by
  unfold bu;revert B;generalize fr.todo=l;generalize fr'.todo=l';intro B
  cases B with
  |nil=>rfl
  |cons hi _=>
   cases hi with
   |inRegion ops t D=>cases t<;>rfl
   |_=>rfl
 rw[this]
theorem zT{d:Deferred}(h:DR m d d'):((d'.target matches .nil):Bool)=(d.target matches .nil):=by
 have:=h.target;revert this;generalize d.target=a;generalize d'.target=b;intro x;cases x<;>rfl
theorem GP{d:Deferred}(h:DR m d d'):d'.args.isEmpty=d.args.isEmpty:=by
 have:=h.args.size;simp[Array.isEmpty,this]
theorem IE(U:P.follows .rangeFuncRecover=true){s:Sem Go.Next}{w:World}(Y:∀n O,s.run P w=.ok n O->∃m n',kp P m n n')(W:∀x O,s.run P w=.halt x O->(∃v,x=.panic v)\/mV x):qQ P (aW P true fr cs none s w):=by
 rcases hrt:s.runT P w #[]with⟨r,ab⟩;have D:s.run P w=r:=by rw[<-bj P s w #[],hrt]
 unfold aW;simp only[if_true];rw[hrt];refine qQ.after ?_ _
 cases r with
 |ok n O=>
  obtain⟨m,n',hn⟩:=Y n O D
  cases hn with
  |value h=>exact .go _ _ _ _
  |skip=>exact .go _ _ _ _
  |enter hf aa ha=>exact .go _ _ _ _
  |round hl ht ha aa=>exact .go _ _ _ _
  |defer hd=>exact .go _ _ _ _
  |comm bl sh hq hc=>exact .comm _ _ _ _ _ _ _
  |spawn ac hd=>
   have key:∀(c:Prop)[Decidable c] (A B:GStep),qQ P A->qQ P B->qQ P (if c then A else B):=by
    intro c _ A B h1 h2;split
    .exact h1
    .exact h2
   exact key _ _ _ (uB _ _ _) (.spawn _ _ _ _ _)
  |recover=>
   obtain⟨fn,tm,td,df,md,kd,rd⟩:=fr
   cases rd with
   |none=>
    dsimp only;split<;>exact .go _ _ _ _
   |some l=>
    dsimp only;rw[if_pos U];split<;>exact .go _ _ _ _
 |halt x O=>
  cases x with
  |panic v=>exact .go _ _ _ _
  |stuck y=>exact .ended _ _ _
  |throw y=>exact uB _ _ _
  |unsupported u=>
   rcases W _ _ D with⟨v,h⟩|h
   .cases h
   .cases u<;>first|exact h.elim|exact .ended _ _ _
  |_=>
   rcases W _ _ D with⟨v,h⟩|h
   .cases h
   .exact h.elim
theorem GK(hE:vy P m)(hS:iy P m T (fr::cs) (fr'::cs')){s:Sem Go.Next}(hs:nY P (kp P) m s s'){w:World}(hw:WR m w w')(W:Al w w'){g:Goroutine}{k:Array CommCase}{b:Bool}{sh:CommShape}{es:Array Event}
  (h:aW P true fr cs none s w=.comm g k b sh Uc es):Jv P m T (aW P true fr' cs' none s' w') w' g k b sh Uc:=by
 have hr:=hs.run w w' #[] hw W;have U:=(hs.outs hw).2;unfold aW at h⊢;simp only[if_true]at h⊢;rcases hrt:s.runT P w #[]with⟨r,aa⟩;have D:s.run P w=r:=by rw[<-bj P s w #[],hrt]
 rw[D]at hr;rw[hrt]at h
 cases r with
 |ok n wn=>
  obtain⟨Ud,n',Y,Ug,e1,e2,e3,e4,_,e6,e7⟩:=hr;rw[e1];simp only[bw]at h⊢
  cases e3 with
  |comm bl sh hq hc=>
   simp only[aY,GStep.comm.injEq]at h;obtain⟨rfl,rfl,rfl,rfl,rfl,_⟩:=h;exact⟨fr,cs,Ud,fr',cs',_,Y,_,rfl,rfl,hq.imp (λx=>e2.kL▸x) id,e2,hS.mono e2,hc,e4,e6,vO e7⟩
  |spawn ab hd=>
   exfalso;dsimp only at h
   have key:∀(X:Array Event)(c:Prop)[Decidable c] (A B C:GStep),aY X (if c then A else B)=C->(c/\aY X A=C)\/(¬c/\aY X B=C):=by
    intro X c _ A B C hh;split at hh
    .exact .inl ⟨‹_›,hh⟩
    .exact .inr ⟨‹_›,hh⟩
   rcases key _ _ _ _ _ h with⟨_,h⟩|⟨hc,h⟩
   .simp[a2,aC,aY]at h
   .simp[aY]at h
  |recover=>
   exfalso;obtain⟨fn,tm,td,df,md,kd,rd⟩:=fr
   cases rd with
   |none=>
    dsimp only at h;revert h;generalize av _ cs=p;intro h;cases p<;>cases h
   |some l=>
    dsimp only at h;rw[if_pos hE.Sg]at h;revert h;generalize av _ cs=p;intro h;cases p<;>cases h
  |_=>cases h
 |halt x wn=>
  exfalso
  cases x with
  |panic v=>cases h
  |stuck y=>cases h
  |throw y=>cases h
  |unsupported u=>
   rcases U _ _ D with⟨v,O⟩|O
   .cases O
   .cases u<;>first|exact O.elim|cases h
  |_=>
   rcases U _ _ D with⟨v,O⟩|O
   .cases O
   .exact O.elim
theorem EF(hE:vy P m)(Y:iy P m T (fr::cs) (fr'::cs')){s:Sem Go.Next}(hs:nY P (kp P) m s s'){w:World}(hw:WR m w w')(aa:Al w w'){g ch:Goroutine}{es:Array Event}
  (h:aW P true fr cs none s w=.spawn g ch Uc es):JY P m T (aW P true fr' cs' none s' w') w' g ch Uc:=by
 have hr:=hs.run w w' #[] hw aa;have U:=(hs.outs hw).2;unfold aW at h⊢;simp only[if_true]at h⊢;rcases hrt:s.runT P w #[]with⟨r,af⟩;have D:s.run P w=r:=by rw[<-bj P s w #[],hrt]
 rw[D]at hr;rw[hrt]at h
 cases r with
 |ok n wn=>
  obtain⟨Ud,n',ab,Ug,e1,W,e3,e4,_,e6,e7⟩:=hr;rw[e1];simp only[bw]at h⊢
  cases e3 with
  |comm bl sh hq hc=>cases h
  |spawn ac hd=>
   rename_i d d';dsimp only at h⊢
   have key:∀(X:Array Event)(c:Prop)[Decidable c] (A B C:GStep),aY X (if c then A else B)=C->(c/\aY X A=C)\/(¬c/\aY X B=C):=by
    intro X c _ A B C hh;split at hh
    .exact .inl ⟨‹_›,hh⟩
    .exact .inr ⟨‹_›,hh⟩
   rcases key _ _ _ _ _ h with⟨_,h⟩|⟨hc,h⟩
   .simp[a2,aC,aY]at h
   .have ad:¬((P.follows .goNilFatal&&(d'.target matches .nil)&&d'.args.isEmpty&&fr'.noResult P)=true):=by
     rw[zT hd,GP hd,Ij Y.rX];exact hc
    have hf:=(Y.rX.mono W).finish (.undef Ud);have ae:=Y.set W hf.1 hf.2.1 hf.2.2 (jj _ _) (kB _ _);simp only[aY,GStep.spawn.injEq]at h;obtain⟨rfl,rfl,rfl,_⟩:=h;exact⟨_,_,d,Ud,_,_,d',ab,_,rfl,rfl,(congrArg (aY _) (if_neg ad)).trans rfl,W.kL▸ac,W,ae,hd,e4,e6,vO e7⟩
  |recover=>
   exfalso;obtain⟨fn,tm,td,df,md,kd,rd⟩:=fr
   cases rd with
   |none=>
    dsimp only at h;revert h;generalize av _ cs=p;intro h;cases p<;>cases h
   |some l=>
    dsimp only at h;rw[if_pos hE.Sg]at h;revert h;generalize av _ cs=p;intro h;cases p<;>cases h
  |_=>cases h
 |halt x wn=>
  exfalso
  cases x with
  |panic v=>cases h
  |stuck y=>cases h
  |throw y=>cases h
  |unsupported u=>
   rcases U _ _ D with⟨v,O⟩|O
   .cases O
   .cases u<;>first|exact O.elim|cases h
  |_=>
   rcases U _ _ D with⟨v,O⟩|O
   .cases O
   .exact O.elim
end
end
section
open Go.Conc
variable {fr fr':Frame} {cs cs':List Frame}
inductive lX:GStep->Prop
 |go (g w es):lX (.go g w es)
 |ended (o w es):lX (.ended o w es)
theorem lX.after{s:GStep}(h:lX s)(X:Array Event):lX (aY X s):=by
 cases h with
 |go g w es=>exact .go _ _ _
 |ended o w es=>exact .ended _ _ _
section
variable {P:Program} {m:Ren} {T:List Frame} {gl:Nat->Prop} {st:Bool}
def Ph(P:Program)(m:Ren)(T:List Frame)(r r':GStep)(w':World):Prop:=
 (∃Ud X X' fr cs fr' cs' s s' Uc h,r=aY X (aW P true fr cs none s Uc)/\r'=aY X' (aW P true fr' cs' none s' h)/\m.Le Ud/\vy P Ud/\iy P Ud T (fr::cs) (fr'::cs')/\nY P (kp P) Ud s s'/\WR Ud Uc h/\Al Uc h/\ju m Ud w' h/\∀e∈X',qJ Ud e)\/lX r
theorem RD{u:Frame}{d:List Frame}{x:World}{g:Frame}{c:List Frame}{B:World}{e:Array Event}(h:GStep.go {frame:=u,callers:=d,status:=.running,dying:=none} x=.go (G g c) B e):B=x/\∀y,∃D,GStep.go {frame:=u,callers:=d,status:=.running,dying:=none} y=.go (G g c) y D:=by
 simp only[bM]at h;obtain⟨O,rfl,_⟩:=h;exact⟨rfl,λy=>⟨#[],by rw[O]⟩⟩
theorem DF(fr:Frame)(c:Frame)(cs:List Frame)(v:Value):∀x g d B e,aw P true fr (c::cs) none v x=.go (G g d) B e->B=x/\∀y,∃D,aw P true fr (c::cs) none v y=.go (G g d) y D:=by
 intro x g d B e h;unfold aw at h⊢;dsimp only at h⊢;cases O:fr.kind<;>rw[O]at h<;>dsimp only at h⊢ <;> simp only[bM]at h<;>obtain⟨U,rfl,_⟩:=h<;>exact⟨rfl,λy=>⟨#[],by rw[U]⟩⟩
theorem DZ(B:iy P m T (fr::cs) (fr'::cs')):∃c h,cs=c::h:=by cases B<;>exact⟨_,_,rfl⟩
theorem PC(g:Frame)(c:List Frame)(w:World):qQ P (.go {frame:=g,callers:=c,status:=.running,dying:=none} w):=.go g c w _
theorem Bx(fr c:Frame)(cs:List Frame)(v:Value)(w:World):qQ P (aw P true fr (c::cs) none v w):=by
 unfold aw;dsimp only;cases fr.kind<;>exact PC _ _ _
theorem Ph.direct(B:vy P m)(D:iy P m T (fr::cs) (fr'::cs')){s s':Sem Go.Next}(O:nY P (kp P) m s s'){w w':World}(U:WR m w w')(h:Al w w'):Ph P m T (aW P true fr cs none s w) (aW P true fr' cs' none s' w') w':=
 .inl ⟨m,#[],#[],fr,cs,fr',cs',s,s',w,w',(pE _).symm,(pE _).symm,.refl m,B,D,O,U,h,.refl m w',by simp⟩
theorem sU(fr c:Frame)(cs:List Frame)(v:Value)(w:World):lX (aw P true fr (c::cs) none v w):=by
 unfold aw;dsimp only;cases fr.kind<;>exact .go _ _ _
theorem ul{Ud Uk:Ren}(h:Ud.Le Uk){X Y:Array Event}(B:∀e∈X,qJ Ud e)(D:∀e∈Y,qJ Uk e):∀e∈X++Y,qJ Uk e:=λe O=>(b4.1 O).elim (λx=>(B e x).mono h) (D e)
end
end
section
open Go.Conc
variable {k:Array CommCase} {es:Array Event} {b:Bool} {sh:CommShape} {fr:Frame} {g:Goroutine} {cs:List Frame} {s:Sem Go.Next} {w Uc:World}
def F8(P:Program)(s:World->GStep)(w:World)(g:Goroutine)(k:Array CommCase)(b:Bool)(sh:CommShape)(Uc:World):Prop:=
 w.drawn<=Uc.drawn/\Uc.tape=w.tape/\∀τ,wY τ w Uc->∃es,s (tp w τ)=.comm g k b sh (tp Uc τ) es
section
variable {P:Program} {m:Ren} {T:List Frame} {gl:Nat->Prop} {st:Bool}
theorem T7{r:GStep}(B:lX r)(h:r=.comm g k b sh w es){X:Prop}:X:=by
 rw[h]at B;cases B
theorem Io{X:Array Event}{s:GStep}(h:aY X s=.comm g k b sh w es):∃B,s=.comm g k b sh w B:=by
 cases s<;>simp[aY]at h;obtain⟨rfl,rfl,rfl,rfl,rfl,_⟩:=h;exact⟨_,rfl⟩
theorem zS(W:P.follows .rangeFuncRecover=true)(aa:∀n U,s.run P w=.ok n U->∃m n',kp P m n n')(Y:∀x U,s.run P w=.halt x U->(∃v,x=.panic v)\/mV x)
  (h:aW P true fr cs none s w=.comm g k b sh Uc es):g=G fr cs/\s.run P w=.ok (.comm k b sh) Uc:=by
 rcases hrt:s.runT P w #[]with⟨r,ab⟩;have D:s.run P w=r:=by rw[<-bj P s w #[],hrt]
 unfold aW at h;simp only[if_true]at h;rw[hrt]at h;rw[D]
 cases r with
 |ok n U=>
  obtain⟨m,n',hn⟩:=aa n U D
  cases hn with
  |comm bl sh hq hc=>
   simp only[aY,GStep.comm.injEq]at h;obtain⟨rfl,rfl,rfl,rfl,rfl,_⟩:=h;exact⟨rfl,rfl⟩
  |spawn ac hd=>
   exfalso;dsimp only at h
   have key:∀(X:Array Event)(c:Prop)[Decidable c] (A B C:GStep),aY X (if c then A else B)=C->(c/\aY X A=C)\/(¬c/\aY X B=C):=by
    intro X c _ A B C hh;split at hh
    .exact .inl ⟨‹_›,hh⟩
    .exact .inr ⟨‹_›,hh⟩
   rcases key _ _ _ _ _ h with⟨_,h⟩|⟨hc,h⟩
   .simp[a2,aC,aY]at h
   .simp[aY]at h
  |recover=>
   exfalso;obtain⟨fn,tm,td,df,md,kd,rd⟩:=fr
   cases rd with
   |none=>
    dsimp only at h;revert h;generalize av _ cs=p;intro h;cases p<;>cases h
   |some l=>
    dsimp only at h;rw[if_pos W]at h;revert h;generalize av _ cs=p;intro h;cases p<;>cases h
  |_=>cases h
 |halt x U=>
  exfalso
  cases x with
  |panic v=>cases h
  |stuck y=>cases h
  |throw y=>cases h
  |unsupported u=>
   rcases Y _ _ D with⟨v,O⟩|O
   .cases O
   .cases u<;>first|exact O.elim|cases h
  |_=>
   rcases Y _ _ D with⟨v,O⟩|O
   .cases O
   .exact O.elim
theorem Jb(B:P.follows .rangeFuncRecover=true)(hl:Loc P s w)(O:∀n U,s.run P w=.ok n U->∃m n',kp P m n n')(W:∀x U,s.run P w=.halt x U->(∃v,x=.panic v)\/mV x)
  (h:aW P true fr cs none s w=.comm g k b sh Uc es):F8 P (aW P true fr cs none s) w g k b sh Uc:=by
 obtain⟨rfl,hr⟩:=zS B O W h;rcases hl with⟨x,ab,D,Y⟩|⟨D,Y,h3⟩
 .rw[hr]at D;cases D
 .rw[hr]at D Y h3;refine⟨D,Y,λτ aa=>?_⟩;have h4:s.run P (tp w τ)=.ok (.comm k b sh) (tp Uc τ):=h3 τ aa;obtain⟨e',e⟩:=jQ h4;unfold aW;simp only[if_true,e];exact⟨_,rfl⟩
end
end
section
open Go.Conc
variable {k:Array CommCase} {b:Bool} {sh:CommShape} {Uh:Frame} {Ui:List Frame} {w':World}
structure Om(P:Program)(r:GStep):Prop where
 go:∀{g c w es},r≠.go (G g c) w es
 outs:qQ P r
 plain:lX r
theorem Om.after{P:Program}{r:GStep}(h:Om P r)(X:Array Event):Om P (aY X r):=⟨λe=>(vg e).elim λ_ e=>h.go e,h.outs.after X,h.plain.after X⟩
theorem Om.ended{P:Program}(o:Outcome)(w:World)(es:Array Event):Om P (.ended o w es):=⟨λe=>(by cases e),.ended _ _ _,.ended _ _ _⟩
theorem Om.throw{P:Program}(fr:Frame)(y:String)(w:World):Om P (a2 fr y w):=⟨λe=>by simp[a2,aC,G]at e,uB _ _ _,.go _ _ _⟩
inductive y6(P:Program)(T:List Frame)(main':Bool)(ok:Prop):Ren->(World->GStep)->(World->GStep)->Prop
 |stay {m f f' g g' cs cs'}:iy P m T (g::cs) (g'::cs')->(∀x,f x=.go (G g cs) x)->(∀x,f' x=.go (G g' cs') x)->y6 P T main' ok m f f'
 |low {m f f' g cs}:(ok->False)->(∀x,f x=.go (G g cs) x)->y6 P T main' ok m f f'
 |bad {m f f'}:(∀x x',WR m x x'->Om P (f x))->y6 P T main' ok m f f'
 |app {m f f' fr fr' cs cs' s s'}:vy P m->iy P m T (fr::cs) (fr'::cs')->nY P (kp P) m s s'->(∀x,f x=aW P true fr cs none s x)->(∀x,f' x=aW P true fr' cs' none s' x)->y6 P T main' ok m f f'
 |ret {m f f' fr fr' cs cs' v v'}:iy P m T (fr::cs) (fr'::cs')->(ok->cs=[door P]->fr.roundOf=none->False)->VR m v v'->(∀x,f x=aw P true fr cs none v x)->(∀x,f' x=aw P main' fr' cs' none v' x)->y6 P T main' ok m f f'
 |run {m f f'} {α β:Type} {RA:Ren->α->β->Prop} {t t'} {E:Result α->Array Event->Array Event} {E':Result β->Array Event->Array Event} {K:Result α->GStep} {K':Result β->GStep}:gU P RA m t t'->
   (∀x r es,t.runT P x #[]=(r,es)->f x=aY (E r es) (K r))->(∀x r es,t'.runT P x #[]=(r,es)->f' x=aY (E' r es) (K' r))->(∀Ud r es,(∀e∈es,qJ Ud e)->∀e∈E' r es,qJ Ud e)->
   (∀Ud a a',m.Le Ud->RA Ud a a'->y6 P T main' ok Ud (λw=>K (.ok a w)) (λw=>K' (.ok a' w)))->
   (∀Ud v v',m.Le Ud->VR Ud v v'->y6 P T main' ok Ud (λw=>K (.halt (.panic v) w)) (λw=>K' (.halt (.panic v') w)))->
   (∀x w,mV x->Om P (K (.halt x w)))->y6 P T main' ok m f f'
section
variable {P:Program} {m:Ren} {T:List Frame} {gl:Nat->Prop} {st main':Bool} {ok:Prop} {f f':World->GStep}
theorem y6.out(F:y6 P T main' ok m f f')(W:ok):∀{w w':World},WR m w w'->Al w w'->∀{Uh:Frame}{Ui:List Frame}{Uc:World}{es:Array Event},f w=.go (G Uh Ui) Uc es->pP P m T (f' w') w' Uh Ui Uc:=by
 induction F with
 |stay hg h U=>intro w w' O B Uh Ui Uc es e; rw[h]at e; rw[U]; exact still O hg e
 |low hn h=>exact(hn W).elim
 |bad h=>intro w w' O B Uh Ui Uc es e; exact absurd e (h w w' O).go
 |app hE hS hs h U=>intro w w' O B Uh Ui Uc es e; rw[h]at e; rw[U]; exact KX hE hS hs O B e
 |ret hS hn hv h U=>
  intro w w' O B Uh Ui Uc es e;have:=QD (main':=main') (X:=#[]) (X':=#[]) (.refl _) hS (hn W) hv O (.refl _ w') (by simp) (by rw[pE,<-h]; exact e);rw[pE]at this;rw[U];exact this
 |@run m f f' α β RA t t' E E' K K' ht h U hE _ _ Y aa ab=>
  intro w w' O B Uh Ui Uc es e;have D:=ht.run w w' #[] O (.inl B);rw[<-bj P _ w #[]]at D;rcases hrt:t.runT P w #[]with⟨r,ad⟩;rw[hrt]at D;rw[h _ _ _ hrt]at e;obtain⟨ae,e⟩:=vg e
  cases r with
  |ok a wn=>
   obtain⟨Ud,a',ac,Ug,g1,g2,g3,g4,g5,g6,g7⟩:=D;rw[U _ _ _ g1];exact pP.after g2 g6 (hE _ _ _ (by simpa using g7)) (aa Ud a a' g2 g3 g4 (g5 B) e)
  |halt x wn=>
   cases x with
   |panic v=>
    obtain⟨Ud,a',ac,Ug,g1,g2,g3,g4,g5,g6,g7⟩:=D;rw[U _ _ _ g1];exact pP.after g2 g6 (hE _ _ _ (by simpa using g7)) (ab Ud v a' g2 g3 g4 (g5 B) e)
   |_=>refine absurd e (Y _ _ ?_).go; exact D
def Kc(R:World->Array Event->GStep)(s:World->GStep)(w Uc:World):Prop:=
 w.drawn<=Uc.drawn/\Uc.tape=w.tape/\∀τ,wY τ w Uc->∃es,s (tp w τ)=R (tp Uc τ) es
structure Kind(P:Program)(R:World->Array Event->GStep):Prop where
 off:∀{X s w es},aY X s=R w es->∃e,s=R w e
 on:∀X w es,∃e,aY X (R w es)=R w e
 bad:∀{r w es},Om P r->r≠R w es
 go:∀{g c x w es},GStep.go (G g c) x=R w es->w=x/\∀y,∃e,GStep.go (G g c) y=R y e
 ret:∀{fr c cs v x w es},aw P true fr (c::cs) none v x=R w es->w=x/\∀y,∃e,aw P true fr (c::cs) none v y=R y e
 app:∀{fr cs s w Uc es},Loc P s w->(∀n wn,s.run P w=.ok n wn->∃m n',kp P m n n')->(∀x wn,s.run P w=.halt x wn->(∃v,x=.panic v)\/mV x)->aW P true fr cs none s w=R Uc es->Kc R (aW P true fr cs none s) w Uc
theorem y6.loc(F:y6 P T main' ok m f f'){R:World->Array Event->GStep}(k:Kind P R):∀{w w':World},WR m w w'->∀{Uc:World}{es:Array Event},f w=R Uc es->Kc R f w Uc:=by
 induction F with
 |stay _ h _|low _ h=>intro w w' D Uc es e; rw[h]at e; obtain⟨rfl,q⟩:=k.go e; exact⟨bG _,rfl,λτ _=>by rw[h]; exact q _⟩
 |bad h=>intro w w' D Uc es e; exact absurd e (k.bad (h w w' D))
 |app hE hS hs h h'=>
  intro w w' D Uc es e;rw[h]at e;obtain⟨a,b,c⟩:=k.app (hs.loc w w' D) (hs.outs D).1 (hs.outs D).2 e;exact⟨a,b,λτ O=>by rw[h]; exact c τ O⟩
 |ret hS hn hv h h'=>
  obtain⟨c,ak,rfl⟩:=DZ hS;intro w w' D Uc es e;rw[h]at e;obtain⟨rfl,q⟩:=k.ret e;exact⟨bG _,rfl,λτ _=>by rw[h]; exact q _⟩
 |@run m f f' α β RA t t' E E' K K' ht h h' hE _ _ W aa ab=>
  intro w w' D Uc es e;obtain⟨ac,ad,ae,_⟩:=align D;have B:=ht.run w ac #[] ad (.inl ae);have hl:=ht.loc w w' D;obtain⟨al,af⟩:=jQ (P:=P) (s:=t) (w:=w) rfl;rw[h _ _ _ af]at e;obtain⟨_,e⟩:=k.off e
  have key:∀{r:Result α}{U:World},Dk r=U->Kc R (λw=>K (match r with|.ok a _=>.ok a w|.halt x _=>.halt x w)) U Uc->(∀τ,yS P t w τ r->t.run P (tp w τ)=match r with|.ok a _=>.ok a (tp U τ)|.halt x _=>.halt x (tp U τ))->t.run P w=r->Rf P t w->Kc R f w Uc:=by
   rintro r U rfl ⟨k1,k2,k3⟩ ag hr ⟨Y,h2,h3⟩;rw[hr]at Y h2 h3;refine⟨bF Y k1,k2.trans h2,λτ O=>?_⟩;have ha:=ag τ (h3 τ λi x y=>O i x (bH y k1));obtain⟨am,k4⟩:=k3 τ λi x y=>by rw[h2]; exact O i (bF Y x) y
   obtain⟨an,ah⟩:=jQ ha;have k4:K _=R _ _:=k4;rw[h _ _ _ ah,k4];exact k.on _ _ _
  rcases hl with⟨q,aj,Y,h2⟩|hl
  .rw[Y]at e;exact absurd e (k.bad (W _ _ h2))
  .cases hq:t.run P w with
   |ok a U=>
    rw[hq]at e B;obtain⟨Ud,a',ai,Ug,g1,g2,g3,g4,_⟩:=B;exact key (r:=.ok a U) rfl (aa Ud a a' g2 g3 g4 e) (λ_ h=>h) hq hl
   |halt x U=>
    rw[hq]at e B
    cases x with
    |panic v=>
     obtain⟨Ud,a',ai,Ug,g1,g2,g3,g4,_⟩:=B;exact key (r:=.halt (.panic v) U) rfl (ab Ud v a' g2 g3 g4 e) (λ_ h=>h) hq hl
    |_=>refine absurd e (k.bad (W _ _ ?_)); exact B
theorem y6.outs(F:y6 P T main' ok m f f'):∀{w w':World},WR m w w'->qQ P (f w):=by
 induction F with
 |stay _ h _|low _ h=>intro w w' D; rw[h]; exact .go _ _ _ _
 |bad h=>exact λD=>(h _ _ D).outs
 |app hE hS hs h h'=>intro w w' D; rw[h]; exact IE hE.Sg (hs.outs D).1 (hs.outs D).2
 |ret hS hn hv h h'=>obtain⟨c,ae,rfl⟩:=DZ hS; intro w w' D; rw[h]; exact Bx _ _ _ _ _
 |@run m f f' α β RA t t' E E' K K' ht h h' hE _ _ O U W=>
  intro w w' D;obtain⟨Y,aa,ab,_⟩:=align D;have B:=ht.run w Y #[] aa (.inl ab);obtain⟨af,ac⟩:=jQ (P:=P) (s:=t) (w:=w) rfl;rw[h _ _ _ ac];refine qQ.after ?_ _
  cases hq:t.run P w with
  |ok a wn=>rw[hq]at B; obtain⟨Ud,a',ad,Ug,g1,g2,g3,g4,_⟩:=B; exact U Ud a a' g2 g3 g4
  |halt x wn=>
   rw[hq]at B
   cases x with
   |panic v=>obtain⟨Ud,a',ad,Ug,g1,g2,g3,g4,_⟩:=B; exact W Ud v a' g2 g3 g4
   |_=>refine(O _ _ ?_).outs; exact B
theorem Ph.after{Ud:Ren}{r r':GStep}{D:World}{X X':Array Event}(U:m.Le Ud)(hk:ju m Ud w' D)(hX:∀e∈X',qJ Ud e)(h:Ph P Ud T r r' D):Ph P m T (aY X r) (aY X' r') w':=by
 have W:∀(X Y:Array Event)(s:GStep),aY X (aY Y s)=aY (X++Y) s:=λX Y s=>by cases s<;>simp[aY]
 rcases h with⟨Uk,Y,Y',fr,cs,fr',cs',s,s',Uc,B,rfl,rfl,O,h2,h3,h4,h5,h6,h7,h8⟩|h
 .exact .inl ⟨Uk,_,_,fr,cs,fr',cs',s,s',Uc,B,W _ _ _,W _ _ _,U.trans O,h2,h3,h4,h5,h6,hk.trans U O h7,ul O hX h8⟩
 .exact .inr (h.after _)
theorem y6.via(F:y6 P T main' ok m f f'):∀{w w':World},WR m w w'->Al w w'->Ph P m T (f w) (f' w') w':=by
 induction F with
 |stay _ h _|low _ h=>intro w w' O D; rw[h]; exact .inr (.go _ _ _)
 |bad h=>exact λO _=>.inr (h _ _ O).plain
 |app hE hS hs h U=>intro w w' O D; rw[h,U]; exact Ph.direct hE hS hs O D
 |ret hS hn hv h U=>obtain⟨c,ae,rfl⟩:=DZ hS; intro w w' O D; rw[h]; exact .inr (sU _ _ _ _ _)
 |@run m f f' α β RA t t' E E' K K' ht h U hE _ _ W aa ab=>
  intro w w' O D;have B:=ht.run w w' #[] O (.inl D);obtain⟨af,ac⟩:=jQ (P:=P) (s:=t) (w:=w) rfl;rw[h _ _ _ ac]
  cases hq:t.run P w with
  |ok a wn=>
   rw[hq]at B;obtain⟨Ud,a',ad,Ug,g1,Y,g3,g4,g5,g6,g7⟩:=B;rw[U _ _ _ g1];exact Ph.after Y g6 (hE _ _ _ (by simpa using g7)) (aa Ud a a' Y g3 g4 (g5 D))
  |halt x wn=>
   rw[hq]at B
   cases x with
   |panic v=>
    obtain⟨Ud,a',ad,Ug,g1,Y,g3,g4,g5,g6,g7⟩:=B;rw[U _ _ _ g1];exact Ph.after Y g6 (hE _ _ _ (by simpa using g7)) (ab Ud v a' Y g3 g4 (g5 D))
   |_=>refine .inr (lX.after (W _ _ ?_).plain _); exact B
theorem r7{fr fr':Frame}{cs cs':List Frame}(B:fr.roundOf≠none)(O:iy P m T (fr::cs) (fr'::cs')){l l':Nat}(U:m.blk l=some l')(j:Option Code)(W:∀c,j=some c->jy m.ok c){q D:Outcome}
  (h:∀x,f x=aY (a8 P fr.fn ((aZ l j).runT P x #[]).2) (match ((aZ l j).runT P x #[]).1 with|.ok v w=>aw P true fr cs none v w|.halt _ w=>.ended q w))
  (Y:∀x,f' x=aY (a8 P fr'.fn ((aZ l' j).runT P x #[]).2) (match ((aZ l' j).runT P x #[]).1 with|.ok v w=>aw P main' fr' cs' none v w|.halt _ w=>.ended D w)):y6 P T main' ok m f f':=
 .run (E:=λ_ es=>a8 P fr.fn es) (E':=λ_ es=>a8 P fr'.fn es) (K:=λr=>match r with|.ok v w=>aw P true fr cs none v w|.halt _ w=>.ended q w) (K':=λr=>match r with|.ok v w=>aw P main' fr' cs' none v w|.halt _ w=>.ended D w) (GU (P:=P) U W)
  (λx r es e=>by rw[h,e]) (λx r es e=>by rw[Y,e]) (λ_ _ _ h=>pC h) (λUd a a' hm ha=>.ret (O.mono hm) (λ_ _ h=>B h) ha (λ_=>rfl) (λ_=>rfl)) (λ_ _ _ _ _=>.bad λ_ _ _=>.ended _ _ _) (λ_ _ _=>.ended _ _ _)
theorem pH{fr:Frame}{cs:List Frame}{ops:Array Oper}{i:Nat}{t:List Nat}{k:List Item}{o:Oper}(h:fr.todo=.inRegion ops (i::t)::k)(B:ops[i]?=some o)(D:ce o (a9 ops fr.tmps)=true)(x:World) :
  aX P b true fr cs none x=match fr.roundOf,o.op with
   |some l,.defer c=>aW P true fr cs none (do bd l (<-aF fr.eval c o.type); pure .skip) x
   |_,_=>aW P true fr cs none (aI fr.eval o) x:=by
 unfold aX;simp only[h,B,bP,bO];rw[if_pos D];unfold ay.oper;simp only[bu,h,B];rfl
theorem Lp(hX:oh P m gl st){fr fr':Frame}{cs cs':List Frame}(hS:iy P m T (fr::cs) (fr'::cs')):y6 P T main' ok m (aX P true true fr cs none) (aX P main' true fr' cs' none):=by
 have hF:=hS.rX;have ht:=hF.todo;have ac:=hF.round;have am:=hF.fn;obtain⟨fn,tm,td,df,md,kd,rd⟩:=fr;obtain⟨B,D,an,W,aa,Y,O⟩:=fr';simp only at ht ac am;subst am;have U:∀{k k':List Item},iu (mq m) k k'->iy P m T (⟨B,tm,k,df,md,kd,rd⟩::cs) (⟨B,D,k',W,aa,Y,O⟩::cs'):=λhk=>hS.set (.refl m) (Hp hF hk) rfl rfl rfl rfl;have ah:iy P m T (⟨B,tm,td,df,.returning,kd,rd⟩::cs) (⟨B,D,an,W,.returning,Y,O⟩::cs'):=hS.set (.refl m) (Rw hF .returning) rfl rfl rfl rfl;have aj:∀x,iH m.jz gl x->VR m (bo ⟨B,tm,td,df,md,kd,rd⟩ x) (bo ⟨B,D,an,W,aa,Y,O⟩ x):=λx hx=>hF.eval hX.qG x hx
 cases ht with
 |nil=>
  cases ac with
  |none=>exact .stay ah (λ_=>rfl) (λ_=>rfl)
  |some hl=>exact r7 (by simp) hS hl none (λ_ h=>by cases h) (λ_=>rfl) (λ_=>rfl)
 |cons hi hk=>
  rename_i k k'
  cases hi with
  |Fl y=>exact .bad λ_ _ _=>.ended _ _ _
  |oS y=>exact .stay (U (.cons (.Fl y) (.cons (.oS y) hk))) (λ_=>rfl) (λ_=>rfl)
  |inBlock i=>exact .stay (U hk) (λ_=>rfl) (λ_=>rfl)
  |inScope c hc=>exact .stay (U hk) (λ_=>rfl) (λ_=>rfl)
  |inLoop c hc=>exact .stay (U (.cons (.code c hc) (.cons (.inLoop c hc) hk))) (λ_=>rfl) (λ_=>rfl)
  |inRangeFunc hl=>exact .bad λ_ _ _=>.ended _ _ _
  |beginRound=>
   refine .app hX.env hS (s:=do rd.elim (stuck "beginRound: no round") bc; pure .skip) (s':=do O.elim (stuck "beginRound: no round") bc; pure .skip) ?_ (λ_=>rfl) (λ_=>rfl)
   cases ac with
   |none=>exact .base (.gW trivial)
   |some hl=>exact TD (Ei hl)
  |endRangeFunc hl=>
   rename_i l l'
   refine .run (KR (P:=P) hl) (E:=λ_ es=>a8 P B es) (E':=λ_ es=>a8 P B es)
    (K:=λr=>match r with|.ok ae w=>.go {frame:=⟨B,tm,(ae.map Item.code).toList++k,df,md,kd,rd⟩,callers:=cs,status:=.running,dying:=none} w|.halt (.panic v) w=>.go {frame:=bq ⟨B,tm,.endRangeFunc l::k,df,md,kd,rd⟩ [{v,recovered:=false}],callers:=cs,status:=.running,dying:=none} w|.halt _ w=>.ended (.stuck "range over a function: no such loop" (bn P ⟨B,tm,.endRangeFunc l::k,df,md,kd,rd⟩)) w)
    (K':=λr=>match r with|.ok ae w=>.go {frame:=⟨B,D,(ae.map Item.code).toList++k',W,aa,Y,O⟩,callers:=cs',status:=.running,dying:=none} w|.halt (.panic v) w=>.go {frame:=bq ⟨B,D,.endRangeFunc l'::k',W,aa,Y,O⟩ [{v,recovered:=false}],callers:=cs',status:=.running,dying:=none} w|.halt _ w=>.ended (.stuck "range over a function: no such loop" (bn P ⟨B,D,.endRangeFunc l'::k',W,aa,Y,O⟩)) w)
    (λx r es e=>by unfold aX; dsimp only; rw[e]; rfl) (λx r es e=>by unfold aX; dsimp only; rw[e]; rfl) (λ_ _ _ h=>pC h) ?_ ?_ ?_
   .rintro Ud a b hm ⟨rfl,ha⟩;refine .stay (hS.set hm (g:=⟨B,tm,_,df,md,kd,rd⟩) (g':=⟨B,D,_,W,aa,Y,O⟩) (Hp (hF.mono hm) (iu.append ?_ (hk.mono λ_ _ x=>x.mono hm))) rfl rfl rfl rfl) (λ_=>rfl) (λ_=>rfl)
    cases a with
    |none=>exact .nil
    |some c=>exact .cons (.code c (ha c rfl)) .nil
   .intro Ud v v' hm hv;have hf:=(hF.mono hm).raise (vs:=[{v,recovered:=false}]) (vs':=[{v:=v',recovered:=false}]) (.cons ⟨hv,rfl,rfl⟩ .nil);exact .stay (hS.set hm hf.1 hf.2.1 hf.2.2 (q9 _ _) (vP _ _)) (λ_=>rfl) (λ_=>rfl)
   .intro x w hx;cases x<;>first|exact hx.elim|exact .ended _ _ _
  |inRegion ops t ho=>
   cases t with
   |nil=>exact .stay (U hk) (λ_=>rfl) (λ_=>rfl)
   |cons i t=>
    have hy:a9 ops D=a9 ops tm:=funext (oB ops hF.tmps);have hf:=hF.finish (.undef m);have ai:=hS.set (.refl m) hf.1 hf.2.1 hf.2.2 (jj _ _) (kB _ _)
    cases ab:ops[i]? with
    |none=>exact .stay ai (λx=>by unfold aX; dsimp only; rw[ab]; rfl) (λx=>by unfold aX; dsimp only; rw[ab]; rfl)
    |some o=>
     by_cases af:ce o (a9 ops tm)=true
     .have ag:ce o (a9 ops D)=true:=by rw[hy]; exact af
      have ak:=hX.ops o (ho o (by rw[<-Array.getElem?_toList]at ab; exact List.mem_of_getElem? ab));have ao:=FO hX.env hX.strict hX.kL aj (λc=>⟨rfl,rfl⟩) o ak
      cases ac with
      |none=>exact .app hX.env hS ao (λx=>by rw[pH rfl ab af]) (λx=>by rw[pH rfl ab ag])
      |some hl=>
       obtain⟨od,oo,ot,op,oa,og⟩:=o;cases oo<;>first|exact .app hX.env hS ao (λx=>pH rfl ab af x) (λx=>pH rfl ab ag x)|skip
       rename_i c;refine .app hX.env hS (.base ?_) (λx=>pH rfl ab af x) (λx=>pH rfl ab ag x);refine hU (K7 aj ⟨ak.1,?_⟩ _) λm' d d' ar hd=>hU (zj (ar.blk _ _ hl) hd) λ_ _ _ _ _=>.pure .skip;have h2:=ak.2;obtain⟨cc,ca,ct⟩:=c;cases cc<;>first|trivial|exact⟨h2.1,hX.kL h2.2⟩|exact h2.elim
     .refine .stay ai (λx=>?_) (λx=>?_)
      all_goals
       unfold aX;dsimp only;rw[ab];simp only[bP,bO]
       try rw[hy]
       rw[if_neg af];rfl
  |code c hc=>
   cases c with
   |skip=>exact .stay (U hk) (λ_=>rfl) (λ_=>rfl)
   |label l=>exact .stay (U hk) (λ_=>rfl) (λ_=>rfl)
   |ret=>
    cases ac with
    |none=>exact .stay ah (λ_=>rfl) (λ_=>rfl)
    |some hl=>exact r7 (by simp) hS hl (some .ret) (λ_ h=>by cases h; trivial) (λ_=>rfl) (λ_=>rfl)
   |seq x y=>exact .stay (U (.cons (.code x hc.1) (.cons (.code y hc.2) hk))) (λ_=>rfl) (λ_=>rfl)
   |cond c x y=>
    have hv:=aj c (by have:=hc.1; cases c<;>first|exact this|exact this.elim);generalize hp:bo _ c=p at hv;generalize ad:bo _ c=p' at hv;cases hv<;>first|exact .bad (λx _ _=>by unfold aX; dsimp only; rw[hp]; exact .ended _ _ _)|skip
    rename_i t;refine .stay (U (.cons (.code (if t then x else y) ?_) hk)) (λx=>by unfold aX; dsimp only; rw[hp]; rfl) (λx=>by unfold aX; dsimp only; rw[ad]; rfl);cases t
    .exact hc.2.2
    .exact hc.2.1
   |block i x=>exact .stay (U (.cons (.code x hc) (.cons (.inBlock i) hk))) (λ_=>rfl) (λ_=>rfl)
   |loop x=>exact .stay (U (.cons (.code x hc) (.cons (.inLoop x hc) hk))) (λ_=>rfl) (λ_=>rfl)
   |scope x=>exact .stay (U (.cons (.code x hc) (.cons (.inScope x hc) hk))) (λ_=>rfl) (λ_=>rfl)
   |exit i=>
    have he:=zl i hk;generalize hp:aH i k=p at he;generalize ad:aH i k'=p' at he
    cases he with
    |some al=>exact .stay (U al) (λx=>by unfold aX; dsimp only; rw[hp]; rfl) (λx=>by unfold aX; dsimp only; rw[ad]; rfl)
    |none=>
     cases ac with
     |none=>exact .bad (λx _ _=>by unfold aX; dsimp only; rw[hp]; exact .ended _ _ _)
     |some hl=>exact r7 (by simp) hS hl (some (.exit i)) (λ_ h=>by cases h; trivial) (λx=>by unfold aX; dsimp only; rw[hp]; rfl) (λx=>by unfold aX; dsimp only; rw[ad]; rfl)
   |goto l=>
    have he:=zI l hk;generalize hp:aG l k=p at he;generalize ad:aG l k'=p' at he
    cases he with
    |some al=>exact .stay (U al) (λx=>by unfold aX; dsimp only; rw[hp]; rfl) (λx=>by unfold aX; dsimp only; rw[ad]; rfl)
    |none=>
     cases ac with
     |none=>exact .bad (λx _ _=>by unfold aX; dsimp only; rw[hp]; exact .ended _ _ _)
     |some hl=>exact r7 (by simp) hS hl (some (.goto l)) (λ_ h=>by cases h; trivial) (λx=>by unfold aX; dsimp only; rw[hp]; rfl) (λx=>by unfold aX; dsimp only; rw[ad]; rfl)
   |rangeFunc f ps a x=>
    refine .run (EH (P:=P) (fn:=B) (ps:=ps) hF.tmps hc.2.1 hc.2.2 ac) (E:=λ_ es=>a8 P B es) (E':=λ_ es=>a8 P B es)
     (K:=λr=>match r with|.ok (l,mark) w=>aW P true ⟨B,tm,.inRangeFunc l::k,mark++df,md,kd,rd⟩ cs none (do let d <-aF (bo ⟨B,tm,.inRangeFunc l::k,mark++df,md,kd,rd⟩) {callee:=.value f,args:=#[.const (.func (.yield l) #[] #[])],argTypes:=#[]} 0; invoke d.target d.args) w|.halt _ w=>.ended (.stuck "range over a function: no such loop" (bn P ⟨B,tm,.code (.rangeFunc f ps a x)::k,df,md,kd,rd⟩)) w)
     (K':=λr=>match r with|.ok (l,mark) w=>aW P true ⟨B,D,.inRangeFunc l::k',mark++W,aa,Y,O⟩ cs' none (do let d <-aF (bo ⟨B,D,.inRangeFunc l::k',mark++W,aa,Y,O⟩) {callee:=.value f,args:=#[.const (.func (.yield l) #[] #[])],argTypes:=#[]} 0; invoke d.target d.args) w|.halt _ w=>.ended (.stuck "range over a function: no such loop" (bn P ⟨B,D,.code (.rangeFunc f ps a x)::k',W,aa,Y,O⟩)) w)
     (λx r es e=>by unfold aX; dsimp only; rw[e]; rfl) (λx r es e=>by unfold aX; dsimp only; rw[e]; rfl) (λ_ _ _ h=>pC h) ?_ (λ_ _ _ _ _=>.bad λ_ _ _=>.ended _ _ _) (λ_ _ _=>.ended _ _ _)
    rintro Ud ⟨l,mk⟩ ⟨l',mk'⟩ hm ⟨ap,au⟩
    have aq:jF Ud ⟨B,tm,.inRangeFunc l::k,mk++df,md,kd,rd⟩ ⟨B,D,.inRangeFunc l'::k',mk'++W,aa,Y,O⟩:=
     ⟨rfl,hF.tmps.mono hm,.cons (.inRangeFunc ap) (hk.mono λ_ _ y=>y.mono hm),au.append ((hF.mono hm).defers),(hF.mono hm).mode,(hF.mono hm).round⟩
    refine .app (hX.mono hm).env (hS.set hm aq rfl rfl rfl rfl) (.base (hU (ri (aq.eval (hX.mono hm).qG f (by have:=hc.1; cases f<;>first|exact this|exact this.elim)) (by simpa[bo]using iI.one (VR.Jk (M1.yield ap) (.nil Ud) (.nil Ud)))) λm' d d' hl hd=>?_)) (λ_=>rfl) (λ_=>rfl);exact sC ((hX.mono hm).env.mono hl) hd.1.target hd.2 hd.1.args
   |region i ops d=>
    cases d with
    |false=>exact .stay (U (.cons (.inRegion ops _ hc) hk)) (λ_=>rfl) (λ_=>rfl)
    |true=>
     refine .run (RA:=ym) (t:=choose (.order B i)) (t':=choose (.order B i)) (E:=λ_ _=>#[]) (E':=λ_ _=>#[])
      (K:=λr=>match r with|.ok t w=>.go {frame:=⟨B,tm,.inRegion ops (cf (P.follows .mixedOrders) ops t)::k,df,md,kd,rd⟩,callers:=cs,status:=.running,dying:=none} w|.halt _ w=>.ended (.stuck "order" (bn P ⟨B,tm,.code (.region i ops true)::k,df,md,kd,rd⟩)) w)
      (K':=λr=>match r with|.ok t w=>.go {frame:=⟨B,D,.inRegion ops (cf (P.follows .mixedOrders) ops t)::k',W,aa,Y,O⟩,callers:=cs',status:=.running,dying:=none} w|.halt _ w=>.ended (.stuck "order" (bn P ⟨B,D,.code (.region i ops true)::k',W,aa,Y,O⟩)) w)
      (.choose λn=>.pure rfl) (λx r es e=>?_) (λx r es e=>?_) (λ_ _ _ _ e h=>by simp at h) ?_ (λ_ _ _ _ _=>.bad λ_ _ _=>.ended _ _ _) (λ_ _ _=>.ended _ _ _)
     .have q:(choose (.order B i)).run P x=r:=by rw[<-bj P _ x #[],e]
      rw[pE,<-q];rfl
     .have q:(choose (.order B i)).run P x=r:=by rw[<-bj P _ x #[],e]
      rw[pE,<-q];rfl
     .rintro Ud a b hm rfl;exact .stay (hS.set hm (g:=⟨B,tm,_,df,md,kd,rd⟩) (g':=⟨B,D,_,W,aa,Y,O⟩) (Hp (hF.mono hm) (.cons (.inRegion ops _ (hm.ok▸hc)) (hk.mono λ_ _ y=>y.mono hm))) rfl rfl rfl rfl) (λ_=>rfl) (λ_=>rfl)
   |refuse y=>exact hc.elim
theorem y6.eq{g g':World->GStep}(F:y6 P T main' ok m f f')(h:∀x,g x=f x)(B:∀x,g' x=f' x):y6 P T main' ok m g g':=by rw[funext h,funext B]; exact F
theorem q8(hX:oh P m gl st){fr fr':Frame}{cs cs':List Frame}(hS:iy P m T (fr::cs) (fr'::cs')){d d':Deferred}(hd:DR m d d')(hn:∀x y z,d.target≠.builtin .close x y z):y6 P T main' ok m (a5 P fr cs none d) (a5 P fr' cs' none d'):=by
 have W:gU P (kp P) m (invoke d.target d.args) (invoke d'.target d'.args):=sC hX.env hd.target (by
  intro bb x y z e;have B:=hd.target;rw[e]at B;revert B;generalize d'.target=t';intro B;cases B
  exact hn x y z e) hd.args
 have D:=hS.rX.mode;have aa:=zT hd
 have ab:((fr'.mode matches .panicking _):Bool)=(fr.mode matches .panicking _):=by
  revert D;generalize fr.mode=q;generalize fr'.mode=q';intro h;cases h<;>rfl
 by_cases hc:((d.target matches .nil)&&(fr.mode matches .panicking _))=true
 .exact .bad λx _ _=>by rw[show a5 P fr cs none d x=_ from if_pos hc]; exact .ended _ _ _
 .refine .run W (E:=λr es=>a8 P fr.fn (match r with|.halt .blocked _|.halt .waiting _=>#[]|_=>es)) (E':=λr es=>a8 P fr'.fn (match r with|.halt .blocked _|.halt .waiting _=>#[]|_=>es)) (λx r es e=>by rw[show a5 P fr cs none d x=_ from if_neg hc,e]; rfl)
   (λx r es e=>by rw[show a5 P fr' cs' none d' x=_ from if_neg λh=>hc ((congr (congrArg and aa) ab).symm.trans h),e]; rfl) (λUd r es h=>pC (by split<;>simp_all)) ?_ ?_ ?_
  .intro Ud a a' hm Y;have U:=hS.mono hm
   cases Y with
   |enter hf O Y=>exact .stay (U.push (Dx ((hX.env.mono hm).calls _ hf) O Y .deferred .deferred) rfl (.inr rfl)) (λ_=>rfl) (λ_=>rfl)
   |round hl B Y O=>
    rename_i l l' f t t' a c;have ac:jF Ud (br l f t a c .deferred) (br l' f t' a c .deferred):=⟨rfl,B,.cons (.code _ Y) (.cons .beginRound (.cons (.code _ O) .nil)),.nil,.run,.some hl⟩;exact .stay (U.push ac rfl (.inr rfl)) (λ_=>rfl) (λ_=>rfl)
   |recover=>
    have B:=vR U;generalize hq:fr.mode=q at D;generalize ad:fr'.mode=q' at D
    cases D with
    |run|panicking=>exact .stay U (λ_=>rfl) (λ_=>rfl)
    |returning=>
     generalize hp:av _ cs=p at B;generalize ae:av _ cs'=p' at B
     cases B with
     |none=>exact .stay U (λ_=>rfl) (λ_=>rfl)
     |some hx=>exact .stay hx.2 (λ_=>rfl) (λ_=>rfl)
   |_=>exact .stay U (λ_=>rfl) (λ_=>rfl)
  .intro Ud v v' hm hv;have hf:=(hS.rX.mono hm).raise (vs:=[{v,recovered:=false}]) (vs':=[{v:=v',recovered:=false}]) (.cons ⟨hv,rfl,rfl⟩ .nil);exact .stay (hS.set hm hf.1 hf.2.1 hf.2.2 (q9 _ _) (vP _ _)) (λ_=>rfl) (λ_=>rfl)
  .intro x w hx
   cases x with
   |throw y=>exact .throw _ _ _
   |stuck y=>exact .ended _ _ _
   |unsupported u=>exact .ended _ _ _
   |_=>exact hx.elim
theorem Ez(hX:oh P m gl st){fr fr':Frame}{cs cs':List Frame}(hS:iy P m T (fr::cs) (fr'::cs'))(hm:fr.mode≠.run)(hn:¬AtClose fr)(D:ok->cs=[door P]->fr.mode≠.run->fr.defers=[]->fr.roundOf=none->False):y6 P T main' ok m (az P true fr cs none) (az P main' fr' cs' none):=by
 have hF:=hS.rX;have aa:=hF.defers;have O:=hF.mode;have ab:=hF.fn;unfold AtClose at hn;obtain⟨fn,tm,td,df,md,kd,rd⟩:=fr;obtain⟨B,ac,ad,ap,ae,af,ag⟩:=fr';simp only at aa O hm hn D ab;subst ab
 cases aa with
 |cons hd ah=>
  rename_i d d' ds ai;have aj:iy P m T (⟨B,tm,td,ds,md,kd,rd⟩::cs) (⟨B,ac,ad,ai,ae,af,ag⟩::cs'):=hS.set (.refl m) ⟨hF.fn,hF.tmps,hF.todo,ah,O,hF.round⟩ rfl rfl rfl rfl;have ht:=hd.target;obtain⟨dt,da⟩:=d;obtain⟨aq,ak⟩:=d';simp only at ht
  cases ht with
  |collected al=>
   rename_i r r';refine .run (zJ (P:=P) al) (E:=λ_ es=>a8 P B es) (E':=λ_ es=>a8 P B es) (λx r es e=>by unfold az; dsimp only; rw[e]; dsimp only) (λx r es e=>by unfold az; dsimp only; rw[e]; dsimp only) (λ_ _ _ h=>pC h) (λUd a a' W ha=>?_) (λ_ _ _ _ _=>.bad λ_ _ _=>?_) (λ_ _ _=>?_)<;>try exact .ended _ _ _
   exact .stay (hS.set W (g:=⟨B,tm,td,a++ds,md,kd,rd⟩) (g':=⟨B,ac,ad,a'++ai,ae,af,ag⟩) ⟨hF.fn,hF.tmps.mono W,(hF.mono W).todo,ha.append (ah.mono λ_ _ x=>x.mono W),O.mono W,(hF.mono W).round⟩ rfl rfl rfl rfl) (λ_=>rfl) (λ_=>rfl)
  |nil=>exact(q8 hX aj (d:=⟨.nil,da⟩) (d':=⟨.nil,ak⟩) ⟨.nil,hd.args⟩ (λ_ _ _ h=>by cases h)).eq (λ_=>rfl) (λ_=>rfl)
  |fn hf=>exact(q8 hX aj (d:=⟨_,da⟩) (d':=⟨_,ak⟩) ⟨.fn hf,hd.args⟩ (λ_ _ _ h=>by cases h)).eq (λ_=>rfl) (λ_=>rfl)
  |builtin x y z ar=>exact absurd ⟨hm,x,y,z,_,_,rfl⟩ hn
  |mark x y z am=>
   refine .bad λx _ hw=>?_;obtain⟨q,ao,e1⟩:=Lz (P:=P) am hw;rw[<-bj P _ x #[]]at e1;unfold az;dsimp only;rw[e1];exact Om.after (.ended _ _ _) _
 |nil=>
  cases O with
  |run=>exact absurd rfl hm
  |returning=>
   cases U:P.funcs[B]? with
   |none=>exact .ret hS (λo e h=>D o e (by simp) rfl h) (hF.tmps.getD 0) (λx=>by unfold az; dsimp only; rw[U]) (λx=>by unfold az; dsimp only; rw[U])
   |some f=>
    refine .run (oy (P:=P) (fn:=f) hF.tmps) (E:=λ_ es=>a8 P B es) (E':=λ_ es=>a8 P B es) (λx r es e=>by unfold az; dsimp only; rw[U]; dsimp only; rw[e]; dsimp only) (λx r es e=>by unfold az; dsimp only; rw[U]; dsimp only; rw[e]; dsimp only) (λ_ _ _ h=>pC h)
     (λUd a a' W ha=>?_) (λ_ _ _ _ _=>.bad λ_ _ _=>?_) (λx _ _=>?_)
    .exact .ret (hS.mono W) (λo e h=>D o e (by simp) rfl h) ha (λ_=>rfl) (λ_=>rfl)
    .exact .ended _ _ _
    .cases x<;>exact .ended _ _ _
  |panicking an=>
   have mL:∀{q q':Frame},jF m q q'->bp P q=false/\bp P q'=false:=by
    intro q q' hq;have:=hq.todo;unfold bp;revert this;generalize q.todo=l;generalize q'.todo=l';intro ht
    cases ht with
    |nil=>constructor <;>(split<;>first|rfl|simp_all)
    |cons hi _=>cases hi <;>(constructor <;>(split<;>first|rfl|simp_all))
   have Y:=mL hF
   cases hS with
   |one hf h1 h2 h3=>exact .low (λo=>D o rfl (by simp) rfl h3) (λx=>by unfold az; dsimp only; rw[Y.1]; rfl)
   |cons hf h1 h2 h3=>
    have hr:=h3.rX.raise an;exact .stay (h3.set (.refl m) hr.1 hr.2.1 hr.2.2 (q9 _ _) (vP _ _)) (λx=>by unfold az; dsimp only; rw[Y.1]; rfl) (λx=>by unfold az; dsimp only; rw[Y.2]; rfl)
theorem E8(W:oh P m gl st){fr fr':Frame}{cs cs':List Frame}(O:iy P m T (fr::cs) (fr'::cs'))(Y:¬AtClose fr)(B:ok->cs=[door P]->fr.mode≠.run->fr.defers=[]->fr.roundOf=none->False):y6 P T main' ok m (ay P true (G fr cs)) (ay P main' (G fr' cs')):=by
 have h:=O.rX.mode;generalize U:fr.mode=q at h;generalize D:fr'.mode=q' at h
 cases h with
 |run=>exact(Lp W O).eq (λx=>by unfold ay; simp only[G,U]) (λx=>by unfold ay; simp only[G,D])
 |returning|panicking=>exact(Ez W O (by rw[U]; simp) Y B).eq (λx=>by unfold ay; simp only[G,U]) (λx=>by unfold ay; simp only[G,D])
theorem zn(O:oh P m gl st){fr fr':Frame}{cs cs':List Frame}(U:iy P m T (fr::cs) (fr'::cs'))(W:¬AtClose fr)(B:cs=[door P]->fr.mode≠.run->fr.defers=[]->fr.roundOf=none->False){w:World}(Y:WR m w w')(D:Al w w'){main':Bool}{Uc:World}{es:Array Event}
  (h:ay P true (G fr cs) w=.go (G Uh Ui) Uc es):pP P m T (ay P main' (G fr' cs') w') w' Uh Ui Uc:=(E8 (ok:=True) O U W λ_=>B).out trivial Y D h
theorem yK(h:oh P m gl st){fr fr':Frame}{cs cs':List Frame}(B:iy P m T (fr::cs) (fr'::cs'))(D:¬AtClose fr):y6 P T main' False m (ay P true (G fr cs)) (ay P main' (G fr' cs')):=E8 h B D False.elim
theorem Qk(B:oh P m gl st){fr fr':Frame}{cs cs':List Frame}(D:iy P m T (fr::cs) (fr'::cs'))(O:¬AtClose fr){w:World}(U:WR m w w'){Uc:World}{es:Array Event}
  (h:ay P true (G fr cs) w=.go (G Uh Ui) Uc es):yH P (ay P true (G fr cs)) w Uh Ui Uc:=
 (yK (main':=true) B D O).loc (R:=λx es=>.go (G Uh Ui) x es) ⟨vg,λ_ _ _=>⟨_,rfl⟩,λh=>h.go,RD,λh=>DF _ _ _ _ _ _ _ _ _ h,λa b c h=>LN B.env.Sg a b c h⟩ U h
theorem Pc(h:oh P m gl st){fr fr':Frame}{cs cs':List Frame}(B:iy P m T (fr::cs) (fr'::cs'))(D:¬AtClose fr){w:World}(O:WR m w w'):qQ P (ay P true (G fr cs) w):=(yK (main':=true) h B D).outs O
theorem Jo(B:oh P m gl st){fr fr':Frame}{cs cs':List Frame}(D:iy P m T (fr::cs) (fr'::cs'))(O:¬AtClose fr){w:World}(U:WR m w w')(h:Al w w'){main':Bool}:Ph P m T (ay P true (G fr cs) w) (ay P main' (G fr' cs') w') w':=(yK B D O).via U h
theorem vh(hX:oh P m gl st){fr fr':Frame}{cs cs':List Frame}(hS:iy P m T (fr::cs) (fr'::cs'))(hn:¬AtClose fr){w:World}(hw:WR m w w')(U:Al w w'){main':Bool}{g:Goroutine}{Uc:World}{es:Array Event}
  (h:ay P true (G fr cs) w=.comm g k b sh Uc es):Jv P m T (ay P main' (G fr' cs') w') w' g k b sh Uc:=by
 have hv:=Jo hX hS hn hw U (main':=main');rw[h]at hv;rcases hv with⟨Ud,X,X',f,c,f',c',s,s',w2,ae,W,e2,Y,hE,aa,hs,ab,B,hk,hx⟩|hp
 .rw[e2];generalize hr:aW P true f c none s w2=r at W;cases r<;>simp only[aY,GStep.comm.injEq,reduceCtorEq]at W;obtain⟨rfl,rfl,rfl,rfl,rfl,_⟩:=W;obtain⟨ac,ad,Uk,D,O,k',w3,af,rfl,g1,g0,g2,g3,g4,g5,g6,g7⟩:=GK hE aa hs ab B hr;rw[g1];exact⟨ac,ad,Uk,D,O,k',w3,_,rfl,rfl,g0.imp (λx=>Y.kL▸x) id,Y.trans g2,g3,g4,g5,hk.trans Y g2 g6,ul g2 hx g7⟩
 .cases hp
theorem Kk(hX:oh P m gl st){fr fr':Frame}{cs cs':List Frame}(hS:iy P m T (fr::cs) (fr'::cs'))(hn:¬AtClose fr){w:World}(hw:WR m w w')(U:Al w w'){main':Bool}{g ch:Goroutine}{Uc:World}{es:Array Event}
  (h:ay P true (G fr cs) w=.spawn g ch Uc es):JY P m T (ay P main' (G fr' cs') w') w' g ch Uc:=by
 have hv:=Jo hX hS hn hw U (main':=main');rw[h]at hv;rcases hv with⟨Ud,X,X',f,c,f',c',s,s',w2,ae,W,e2,Y,hE,aa,hs,ab,B,hk,hx⟩|hp
 .rw[e2];generalize hr:aW P true f c none s w2=r at W;cases r<;>simp only[aY,GStep.spawn.injEq,reduceCtorEq]at W;obtain⟨rfl,rfl,rfl,_⟩:=W;obtain⟨ac,ad,d,Uk,D,O,d',w3,af,rfl,rfl,g1,g0,g2,g3,g4,g5,g6,g7⟩:=EF hE aa hs ab B hr;rw[g1];exact⟨ac,ad,d,Uk,D,O,d',w3,_,rfl,rfl,rfl,Y.kL▸g0,Y.trans g2,g3,g4,g5,hk.trans Y g2 g6,ul g2 hx g7⟩
 .cases hp
theorem OD(B:oh P m gl st){fr fr':Frame}{cs cs':List Frame}(D:iy P m T (fr::cs) (fr'::cs'))(O:¬AtClose fr){w:World}(U:WR m w w'){g:Goroutine}{Uc:World}{es:Array Event}
  (h:ay P true (G fr cs) w=.comm g k b sh Uc es):F8 P (ay P true (G fr cs)) w g k b sh Uc:=
 (yK (main':=true) B D O).loc (R:=λx es=>.comm g k b sh x es) ⟨Io,λ_ _ _=>⟨_,rfl⟩,λh e=>T7 h.plain e,λh=>T7 (.go _ _ _) h,λh=>T7 (sU _ _ _ _ _) h,λa b c h=>Jb B.env.Sg a b c h⟩ U h
end
end
section
open Go.Conc
variable {fr':Frame} {g:Goroutine} {cs':List Frame}
structure LS where
 fr:Frame
 cs:List Frame
 w:World
def LS.m(S:LS):Machine:=a1 S.fr S.cs S.w
inductive GC(P:Program):LS->LS->Prop
 |go {fr cs w Uh Ui Uc es}:ay P true (G fr cs) w=.go (G Uh Ui) Uc es->GC P ⟨fr,cs,w⟩ ⟨Uh,Ui,Uc⟩
 |send {fr cs w f0 c0 r v z Uc es cap buf km rcvd tm}:ay P true (G fr cs) w=.comm (G f0 c0) #[⟨.chan (some r),some v,z⟩] true .send Uc es->Uc.heap[r]?=some (.chan cap buf false km rcvd tm)->buf.size<cap->
   GC P ⟨fr,cs,w⟩ ⟨f0.finish (aR #[⟨.chan (some r),some v,z⟩] .send 0 undef false),c0,{Uc with heap:=Uc.heap.setIfInBounds r (.chan cap (buf.push v) false (km+1) rcvd tm)}⟩
section
variable {P:Program} {m:Ren} {T:List Frame} {gl:Nat->Prop} {st:Bool}
theorem nE(hm:¬m.kL){fr:Frame}{cs:List Frame}(D:iy P m T (fr::cs) (fr'::cs')):¬AtClose fr:=by
 rintro⟨_,a,t,c,args,ds,e⟩;have h:=D.rX.defers;rw[e]at h;revert h;generalize fr'.defers=l;intro h
 cases h with
 |@cons _ d' _ _ O _=>
  obtain⟨U,W⟩:=d';have B:=O.target;simp only at B
  cases B with
  |builtin _ _ _ h=>exact hm h
abbrev FU:Array Goroutine:=#[{(default:Goroutine)with status:=.finished}]
abbrev tY:Rest:={timers:=#[],alone:=none,slice:=none}
theorem sO{fr:Frame}{cs:List Frame}{w:World}{k:Array CommCase}{b:Bool}{sh:CommShape}{Uc:World}{es:Array Event}(h:ay P true (G fr cs) w=.comm g k b sh Uc es):step P (a1 fr cs w)=(ax P tY FU 0 g k b sh Uc).1:=by
 unfold G at h;rw[step,stepT,move_lone];simp[runT,a1,b5,h]
theorem Ee{fr:Frame}{cs:List Frame}{w:World}{Uc:World}{es:Array Event}(D:g.status=.running\/g.status=.blocked)(h:ay P true (G fr cs) w=.go g Uc es):step P (a1 fr cs w)=.next (aB g Uc):=by
 unfold G at h;rw[step,stepT,move_lone];rcases D with B|B<;>simp[runT,a1,aB,b5,h,B]
theorem yY:∀(n:Nat){g:Goroutine}{w:World},g.dyingOn P->∀fr cs w',a7 P n (aB g w)≠.next (a1 fr cs w')
 |0,g,w,h,fr,cs,w',e=>by
  simp only[a7,cd,aB,a1,Machine.mk.injEq]at e
  obtain⟨_,e,_⟩:=e
  obtain⟨_,d,D,_⟩:=h;have:=congrArg (λx:Array Goroutine=>x[0]?) e;simp only[bT,bS,bX]at this;rw[this]at D;cases D
 |n+1,g,w,h,fr,cs,w',e=>by
  rcases step_dyingOn (w:=w) h with⟨g',w1,B,O⟩|⟨o,w1,B,U⟩
  .simp only[a7,B]at e;exact yY n O _ _ _ e
  .simp only[a7,B]at e;cases e
theorem Bo(n:Nat){w:World}(h:g.status=.blocked)(fr:Frame)(cs:List Frame)(w':World):a7 P n (aB g w)≠.next (a1 fr cs w'):=by
 intro e
 cases n with
 |zero=>
  simp only[a7,cd,aB,a1,Machine.mk.injEq]at e;obtain⟨_,e,_⟩:=e;have:=congrArg (λx:Array Goroutine=>x[0]?) e;simp only[bT,bS,bX]at this;rw[this]at h;cases h
 |succ n=>
  obtain⟨f,c,s,B,off⟩:=g;simp only at h;subst h;obtain⟨D,w1,O,U⟩:=endWith_ended w 2 (bytes "fatal error: all goroutines are asleep - deadlock!\n") (.fatal "all goroutines are asleep - deadlock!")
  have:step P (aB {frame:=f,callers:=c,status:=.blocked,dying:=B,offers:=off} w)=.ended D w1:=by
   simp[step,stepT,move,ask,askOn,aB,runnable_eq,due,ahead,Goroutine.canRun,List.range_succ,pure];rw[O]
  simp only[a7,this]at e;cases e
theorem vQ{r:Nat}{v z:Value}{f0:Frame}{c0:List Frame}{Uc:World}{cap:Nat}{h:Array Value}{km B:Nat}{tm:Bool}(O:Uc.heap[r]?=some (.chan cap h false km B tm)) :
  (h.size<cap/\(ax P tY FU 0 (G f0 c0) #[⟨.chan (some r),some v,z⟩] true .send Uc).1=.next (a1 (f0.finish (aR #[⟨.chan (some r),some v,z⟩] .send 0 undef false)) c0 {Uc with heap:=Uc.heap.setIfInBounds r (.chan cap (h.push v) false (km+1) B tm)}))\/
  (¬h.size<cap/\((∃g w2,g.status=.blocked/\(ax P tY FU 0 (G f0 c0) #[⟨.chan (some r),some v,z⟩] true .send Uc).1=.next (aB g w2))\/∃o w2,(ax P tY FU 0 (G f0 c0) #[⟨.chan (some r),some v,z⟩] true .send Uc).1=.ended o w2)):=by
 by_cases hb:h.size<cap
 .refine .inl ⟨hb,?_⟩;simp[ax,O,ways,aN,hb,choose,bi,Question.forced,bind,bm,pure,Goroutine.finishComm,a1,G]
 .refine .inr ⟨hb,?_⟩
  cases D:waitingAt tY #[⟨.chan (some r),some v,z⟩] Uc with
  |none=>exact .inr ⟨_,_,by simp[ax,O,ways,aN,hb,D]; exact⟨rfl,rfl⟩⟩
  |some w2=>exact .inl ⟨{G f0 c0 with status:=.blocked,offers:=some (#[⟨.chan (some r),some v,z⟩],.send)},w2,rfl,by simp[ax,O,ways,aN,hb,D,aB]⟩
theorem G8{ch v z:Value}{f0:Frame}{c0:List Frame}{Uc:World}(D:∀r,ch=.chan (some r)->False) :
  ((∃g w2,g.status=.blocked/\(ax P tY FU 0 (G f0 c0) #[⟨ch,some v,z⟩] true .send Uc).1=.next (aB g w2))\/∃o w2,(ax P tY FU 0 (G f0 c0) #[⟨ch,some v,z⟩] true .send Uc).1=.ended o w2):=by
 by_cases B:ch=.chan none
 .subst B
  cases h:waitingAt tY #[⟨.chan none,some v,z⟩] Uc with
  |none=>exact .inr ⟨_,_,by simp[ax,ways,h]; exact⟨rfl,rfl⟩⟩
  |some w2=>exact .inl ⟨{G f0 c0 with status:=.blocked,offers:=some (#[⟨.chan none,some v,z⟩],.send)},w2,rfl,by simp[ax,ways,h,aB]⟩
 .refine .inr ⟨.stuck "a communication at a channel whose block is no channel's" (bn P (G f0 c0).frame),Uc,?_⟩
  cases ch with
  |chan x=>
   cases x with
   |none=>exact absurd rfl B
   |some r=>exact(D r rfl).elim
  |_=>simp[ax]
def Open(m:Ren):Prop:=∀r r',m.ch r=some r'->∃cap B km h tm,m.nJ r=some (.chan cap B false km h tm)
theorem BG(hX:oh P m gl st)(hm:¬m.kL)(ho:Open m){fr:Frame}{cs:List Frame}(Y:iy P m T (fr::cs) (fr'::cs')){w w':World}(hw:WR m w w'){n:Nat}{f1:Frame}{c1:List Frame}{w1:World}
  (h:a7 P (n+1) (a1 fr cs w)=.next (a1 f1 c1 w1)):∃S,GC P ⟨fr,cs,w⟩ S/\a7 P n S.m=.next (a1 f1 c1 w1):=by
 have hn:=nE hm Y;have D:=Pc hX Y hn hw;generalize hs:ay P true (G fr cs) w=s at D
 cases D with
 |go g c Uc es=>
  refine⟨⟨g,c,Uc⟩,.go hs,?_⟩;have:step P (a1 fr cs w)=.next (a1 g c Uc):=a4 (by unfold G at hs; rw[hs]; rfl);simp only[a7,this]at h;exact h
 |ended o Uc es=>
  have:step P (a1 fr cs w)=.ended o Uc:=a3 (by unfold G at hs; rw[hs]; rfl);simp only[a7,this]at h;cases h
 |dies g Uc es hd=>
  have:=Ee hd.1 hs;simp only[a7,this]at h;exact absurd h (yY n hd _ _ _)
 |spawn g c d Uc es=>
  obtain⟨aa,O,U,_⟩:=align hw;obtain⟨_,_,_,_,_,_,_,_,_,_,_,_,ab,_⟩:=Kk (main':=true) hX Y hn O U hs;exact absurd ab hm
 |comm g c k b sh Uc es=>
  obtain⟨aa,O,U,_⟩:=align hw;obtain⟨f0,c0,Ud,ag,ah,k',ac,ai,e0,e1,e2,e3,e4,e5,e6,e7,e8⟩:=vh (main':=true) hX Y hn O U hs;obtain⟨rfl,rfl,ch,v,z,rfl⟩:=e2.resolve_left hm;have ad:=sO hs;simp only[a7,ad]at h
  have dead:((∃gg w2,Goroutine.status gg=.blocked/\(ax P tY FU 0 (G g c) #[⟨ch,some v,z⟩] true .send Uc).1=.next (aB gg w2))\/∃o w2,(ax P tY FU 0 (G g c) #[⟨ch,some v,z⟩] true .send Uc).1=.ended o w2)->False:=by
   rintro(⟨gg,w2,hg,e⟩|⟨o,w2,e⟩)
   .rw[e]at h;exact Bo n hg _ _ _ h
   .rw[e]at h;cases h
  by_cases hc:∃r,ch=.chan (some r)
  .obtain⟨r,rfl⟩:=hc
   have B:∃r',Ud.ch r=some r':=by
    revert e5;generalize k'.toList=l;intro e5
    cases e5 with
    |@cons _ q _ _ hx _=>
     obtain⟨aj,ak,al⟩:=q;have hv:=hx.chan;simp only at hv
     cases hv with
     |chan hb=>exact⟨_,hb⟩
   obtain⟨r',B⟩:=B;rw[e7.qD hm]at B;obtain⟨cap,am,km,af,tm,ae⟩:=ho r r' B;have W:=(e6.nJ r _ (by rw[e7.nJ]; exact ae)).1;rcases vQ (P:=P) (v:=v) (z:=z) (f0:=g) (c0:=c) W with⟨hb,e⟩|⟨hb,e⟩
   .rw[e]at h;exact⟨_,.send hs W hb,h⟩
   .exact(dead e).elim
  .exact(dead (G8 λr e=>hc ⟨r,e⟩)).elim
end
end
section
open Go.Conc
variable {fr':Frame} {S S':LS} {cs':List Frame} {w w':World}
def LS.on(S:LS)(τ:Nat->Question->Nat):LS:=⟨S.fr,S.cs,tp S.w τ⟩
def Bl(τ:Nat->Question->Nat)(w:World):Prop:=∀i,i<w.drawn->τ i=w.tape i
def Fin(P:Program)(S:LS):Prop:=S.cs=[door P]/\S.fr.mode≠.run/\S.fr.defers=[]/\S.fr.roundOf=none
structure xP(P:Program)(gl:Nat->Prop)(st:Bool)(m:Ren)(T:List Frame)(S:LS)(fr':Frame)(cs':List Frame)(w':World):Prop where
 ry:oh P m gl st
 kL:¬m.kL
 op:Open m
 stack:iy P m T (S.fr::S.cs) (fr'::cs')
 world:WR m S.w w'
theorem Ga{f f':Frame}{c B:List Frame}(h:a1 f c w=a1 f' B w'):f=f'/\c=B/\w=w':=by
 simp only[a1,Machine.mk.injEq]at h;obtain⟨D,O,_⟩:=h;have:=congrArg (λx:Array Goroutine=>x[0]?) O;simp only[bT,bS,bX,bN]at this;exact⟨this.1,this.2.1,D⟩
theorem LS.J4(h:S.m=S'.m):S=S':=by
 obtain⟨f,c,w⟩:=S;obtain⟨f',B,w'⟩:=S';obtain⟨rfl,rfl,rfl⟩:=Ga h;rfl
section
variable {P:Program} {m:Ren} {T:List Frame} {gl:Nat->Prop} {st:Bool}
theorem GC.next(h:GC P S S'):step P S.m=.next S'.m:=by
 cases h with
 |go h=>exact a4 (by unfold G at h; rw[h]; rfl)
 |send h B hb=>
  have:=sO h;rcases vQ (P:=P) (v:=_) (z:=_) (f0:=_) (c0:=_) B with⟨_,e⟩|⟨D,_⟩
  .exact this.trans e
  .exact absurd hb D
theorem GC.loc(B:xP P gl st m T S fr' cs' w')(h:GC P S S'):S.w.drawn<=S'.w.drawn/\S'.w.tape=S.w.tape/\∀τ,wY τ S.w S'.w->GC P (S.on τ) (S'.on τ):=by
 cases h with
 |go h=>
  obtain⟨O,U,W⟩:=Qk B.ry B.stack (nE B.kL B.stack) B.world h;exact⟨O,U,λτ D=>by obtain⟨es,e⟩:=W τ D; exact .go e⟩
 |send h Y hb=>
  obtain⟨O,U,W⟩:=OD B.ry B.stack (nE B.kL B.stack) B.world h;exact⟨O,U,λτ D=>by obtain⟨es,e⟩:=W τ D; exact .send e Y hb⟩
def Ren.put(m:Ren)(r:Nat)(o:Obj):Ren:={m with nJ:=λx=>if x=r then some o else m.nJ x}
theorem Ren.qE(m:Ren)(r:Nat)(o:Obj):m.Le (m.put r o):=⟨λ_ _ h=>h,λ_ _ h=>h,λ_ _ _=>Iff.rfl,λ_ h=>h,rfl,rfl,rfl,rfl,rfl,rfl,rfl⟩
theorem WR.put(h:WR m w w'){r:Nat}{o:Obj}(ho:∃c b x s y t,o=.chan c b x s y t)(O:∃c b x s y t,w.heap[r]?=some (.chan c b x s y t)):WR (m.put r o) {w with heap:=w.heap.setIfInBounds r o} w':=by
 obtain⟨c0,b0,x0,s0,y0,t0,O⟩:=O;have Y:=mG O
 have ne:∀s s',m.blk s=some s'->r≠s:=by
  rintro s s' hb rfl;obtain⟨x,x',B,_,h3⟩:=h.obj _ _ hb;rw[O]at B;cases B;cases h3
 have get:∀s,r≠s->(w.heap.setIfInBounds r o)[s]?=w.heap[s]?:=λs D=>Array.getElem?_setIfInBounds_ne D;refine⟨λs s' hb=>?_,λs s' c e f c' e' f' hb B U hn=>?_,λs s' c e f c' e' f' hb B U hl=>?_,λs s' hb=>by simpa using h.M4 s s' hb,(show m.G<=(w.heap.setIfInBounds r o).size by simpa using h.M2),h.J5,h.os,λs x D=>?_,λs s' hb hl=>?_,λs D=>?_,λs i v hv=>?_⟩
 .obtain⟨x,x',B,U,h3⟩:=h.obj s s' hb;exact⟨x,x',by rw[get s (ne s s' hb)]; exact B,U,h3.mono (Ren.qE m r o)⟩
 .exact h.fz s s' _ _ _ _ _ _ hb (by rw[<-get s (ne s s' hb)]; exact B) U hn
 .exact h.all s s' _ _ _ _ _ _ hb (by rw[<-get s (ne s s' hb)]; exact B) U hl
 .by_cases e:s=r
  .subst e;simp only[Ren.put,if_true,bX]at D;subst D;exact⟨by simp[Y],ho⟩
  .simp only[Ren.put,e,if_false]at D;obtain⟨g1,g2⟩:=h.nJ s x D;exact⟨by rw[get s (Ne.symm e)]; exact g1,g2⟩
 .obtain⟨c,e,f,W⟩:=h.lk s s' hb hl;exact⟨c,e,f,by rw[get s (ne s s' hb)]; exact W⟩
 .obtain⟨B,c,e,f,W⟩:=h.dead s D;refine⟨B,c,e,f,?_⟩;rw[get s]
  .exact W
  .rintro rfl;rw[O]at W;cases W
 .obtain⟨s',hb,hp⟩:=h.tI s i v hv;exact⟨s',hb,λc e f c' e' f' x g1=>hp c e f c' e' f' x (by rw[<-get s (ne s s' hb)]; exact g1)⟩
theorem xP.own(B:xP P gl st m T S fr' cs' w')(hf:¬Fin P S)(h:GC P S S'):∃Ud Uh Ui Uc,xP P gl st Ud T S' Uh Ui Uc:=by
 obtain⟨ae,Y,aa,_⟩:=align B.world;have hn:=nE B.kL B.stack
 cases h with
 |go h=>
  obtain⟨Ud,f,c,D,es,_,h1,h2,h3,h4,_⟩:=zn (main':=true) B.ry B.stack hn (λa b c d=>hf ⟨a,b,c,d⟩) Y aa h;exact⟨Ud,f,c,D,B.ry.mono h1,by rw[h1.kL]; exact B.kL,λr r' hr=>by rw[h4.qD B.kL]at hr; rw[h4.nJ]; exact B.op r r' hr,h2,h3⟩
 |@send _ _ _ f0 c0 r v z Uc es cap ab km W tm h hc hb=>
  obtain⟨f1,c1,Ud,ac,ad,k',D,af,e0,_,_,h1,h2,h3,h4,h5,_⟩:=vh (main':=true) B.ry B.stack hn Y aa h
  obtain⟨rfl,rfl⟩:f0=f1/\c0=c1:=by
   have:=congrArg Goroutine.frame e0;have h':=congrArg Goroutine.callers e0;exact⟨this,h'⟩
  have O:=(h2.rX).finish (VR.undef Ud);refine⟨Ud.put r (.chan cap (ab.push v) false (km+1) W tm),ac.finish undef,ad,D,(B.ry.mono h1).mono (Ren.qE _ _ _),?_,?_,?_,?_⟩
  .show ¬Ud.kL;rw[h1.kL]; exact B.kL
  .intro s s' U;by_cases e:s=r
   .exact⟨cap,ab.push v,km+1,W,tm,by simp[Ren.put,e]⟩
   .have U:Ud.ch s=some s':=U;rw[h5.qD B.kL]at U;obtain⟨a,b,c,d,e',hx⟩:=B.op s s' U;exact⟨a,b,c,d,e',by simp only[Ren.put,e,if_false]; rw[h5.nJ]; exact hx⟩
  .exact(h2.set (.refl Ud) O.1 O.2.1 O.2.2 (jj _ _) (kB _ _)).mono (Ren.qE _ _ _)
  .exact h4.put ⟨_,_,_,_,_,_,rfl⟩ ⟨_,_,_,_,_,_,hc⟩
theorem Ls:Extern.next "fmt's door" = none:=by rfl
theorem LI(v:Value)(w:World):∃o w',step P (a1 ((door P).finish v) [] w)=.ended o w':=by
 have:ay P true {frame:=(door P).finish v,callers:=[],status:=.running,dying:=none} w=.ended (.stuck ("no extern row " ++ "fmt's door") (bn P ((door P).finish v))) w:=by
  have e:Extern.next "fmt's door" = none:=Ls;simp only[door,bt,ay,aX,e,Option.elim]
 exact⟨_,_,a3 (by rw[this]; rfl)⟩
theorem Fe(c:List PanicEntry)(w:World):∃o w',step P (a1 ((door P).raise c) [] w)=.ended o w':=by
 have h:bp P ((door P).raise c)=true:=by
  simp[door,bq,bp]
 have:∃o,ay P true {frame:=(door P).raise c,callers:=[],status:=.running,dying:=none} w=.ended o w:=by
  have hm:((door P).raise c).mode=.panicking c:=rfl;have B:((door P).raise c).defers=[]:=rfl
  exact⟨_,by
   unfold ay;simp only[hm];unfold az;simp only[hm,B,h,if_true]
   rfl⟩
 obtain⟨o,this⟩:=this;exact⟨_,_,a3 (by rw[this]; rfl)⟩
theorem BS(hS:iy P m T (S.fr::S.cs) (fr'::cs'))(hf:Fin P S)(n:Nat){B:LS}(hc:B.cs≠[]):a7 P (n+1) S.m≠.next B.m:=by
 obtain⟨fr,cs,w⟩:=S;obtain⟨f1,c1,w1⟩:=B;obtain⟨h1,h2,U,h4⟩:=hf;simp only at h1 h2 U h4 hc hS;subst h1
 have Y:fr.kind=.normal:=by cases hS with|one _ h _ _=>exact h
                                         |cons _ _ _ h=>cases h
 intro e
 have fin:(∃v w2,step P (a1 fr [door P] w)=.next (a1 ((door P).finish v) [] w2))\/(∃v w2,step P (a1 fr [door P] w)=.next (a1 ((door P).raise v) [] w2))\/∃o w2,step P (a1 fr [door P] w)=.ended o w2:=by
  cases hm:fr.mode with
  |run=>exact absurd hm h2
  |panicking ch=>
   by_cases W:fr.catches P=true
   .refine .inr (.inr ?_)
    have:∃o,ay P true {frame:=fr,callers:=[door P],status:=.running,dying:=none} w=.ended o w:=by
     exact⟨_,by
      unfold ay;simp only[hm];unfold az;simp only[hm,U,W,if_true]
      rfl⟩
    obtain⟨o,this⟩:=this;exact⟨_,_,a3 (by rw[this]; rfl)⟩
   .refine .inr (.inl ⟨ch,w,a4 ?_⟩);unfold ay;simp only[hm];unfold az;simp[hm,U,W]
  |returning=>
   cases hp:P.funcs[fr.fn]? with
   |none=>
    refine .inl ⟨fr.tmps.getD 0 undef,w,a4 ?_⟩;simp[ay,az,aw,hm,U,Y,hp]
   |some fn=>
    cases hr:(aM fn fr.tmps).run P w with
    |ok v w2=>
     refine .inl ⟨v,w2,a4 ?_⟩;simp[ay,az,aw,hm,U,Y,hp,hr]
    |halt x w2=>
     refine .inr (.inr ?_)
     have:∃o,(ay P true {frame:=fr,callers:=[door P],status:=.running,dying:=none} w).bare=.ended o w2:=by
      cases x<;>exact⟨_,by simp[ay,az,aw,hm,U,Y,hp,hr]; rfl⟩
     obtain⟨o,this⟩:=this;exact⟨_,_,a3 this⟩
 have two:∀(f:Frame)(w2:World),(∃o w',step P (a1 f [] w2)=.ended o w')->step P (a1 fr [door P] w)=.next (a1 f [] w2)->False:=by
  rintro f w2 ⟨o,w3,hh⟩ O;have D:a7 P (n+1) (a1 fr [door P] w)=.next (a1 f1 c1 w1):=e;simp only[a7,O]at D
  cases n with
  |zero=>
   simp only[a7,cd]at D;exact hc (Ga D).2.1.symm
  |succ n=>
   simp only[a7,hh]at D;cases D
 rcases fin with⟨v,w2,O⟩|⟨v,w2,O⟩|⟨o,w2,O⟩
 .exact two _ _ (LI v w2) O
 .exact two _ _ (Fe v w2) O
 .have D:a7 P (n+1) (a1 fr [door P] w)=.next (a1 f1 c1 w1):=e;simp only[a7,O]at D;cases D
end
end
end Go.Proofs.YtocbogeoffeolaaGreatDoor
