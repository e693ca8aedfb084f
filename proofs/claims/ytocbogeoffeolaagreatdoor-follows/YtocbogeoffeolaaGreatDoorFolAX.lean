import Derived.Test.YtocbogeoffeolaaGreatDoorFolAW
set_option linter.unusedVariables false
set_option linter.unusedSimpArgs false
set_option maxHeartbeats 8000000
set_option maxRecDepth 1000000
open List renaming mem_map->a4,map_cons->a5,getElem?_eq_getElem->a6,getElem?_eq_none->a7,getElem?_map->a8,ext_getElem?->a9,filter_cons->aA,map_map->aB
open Array renaming getElem_ofFn->aC,replicate->aD,getElem?_eq_some_iff->aE,ofFn->aF,ext->aG
open Classical renaming choose_spec->aH,choose->aI
open Go renaming undef->aJ
namespace Go.Proofs.YtocbogeoffeolaaGreatDoor
open Go.Proofs.Tryz
section
open Go.Conc Go.RowKit Go.Maps
theorem atKey_mem{L:List (Lit×DataW Value)}(y:L.Pairwise (λp q=>p.1≠q.1)){k:Lit}{d:DataW Value}(D:WideAt.IsKeyLit k)(hm:(k,d)∈L)(z:DataW Value):(DataW.map L).atKey k z=d:=by
 unfold DataW.atKey;simp only
 have:L.find? (λp=>p.1.sameKey k)=some (k,d):=by
  induction L with
  |nil=>cases hm
  |cons a L O=>
   rw[List.pairwise_cons]at y;rw[List.find?_cons];rcases List.mem_cons.1 hm with e|hm
   .rw[<-e];simp only[WideAt.sameKey_self D]
   .have B:=y.1 _ hm;rw[sameKey_ne B];exact O y.2 hm
 rw[this]
theorem MX(e:gS):Flat (mF e).2:=by
 show Flat (tJ e);unfold tJ;refine .agg λi hi=>?_;have:i<5:=hi
 match i,this with
 |0,_=>exact .bool _
 |1,_|2,_=>exact .string _
 |3,_|4,_=>exact .int _ _
theorem Nl{x:MapEntry}(y:Flat x.key)(B:Flat x.val)(m:Ren):tM m x x:=⟨y.refl m,B.refl m,rfl⟩
theorem LC{es:List MapEntry}(h:∀x∈es,Flat x.key/\Flat x.val)(m:Ren):iu (tM m) es es:=by
 induction es with
 |nil=>exact .nil
 |cons a l y=>exact .cons (Nl (h a (by simp)).1 (h a (by simp)).2 m) (y λx B=>h x (by simp[B]))
theorem PV{es B:List MapEntry}{m:Ren}(h:∀x∈es,Flat x.key/\Flat x.val)(Y:iu (tM m) es B):B=es:=by
 induction Y with
 |nil=>rfl
 |@cons a b l l' y _ ih=>
  have D:=h a (by simp);have O:=D.1.eq m _ y.key;have U:=D.2.eq m _ y.val;have W:=y.born;rw[ih λx hx=>h x (by simp[hx])];congr 1;cases a;cases b;simp only at O U W;subst O U W;rfl
theorem EE{w:World}{B:Nat}{es:List gS}(h:je w B es):∃ex,w.heap[B]?=some ex/\vD ex es:=by
 have h0:=h;obtain⟨D,⟨xs,clock,hb,F,ac,hD⟩,hS⟩:=h
 have aa:∀x∈xs.toList,Flat x.key/\Flat x.val:=by
  intro x hx;obtain⟨y,hy⟩:=F.reads x hx;have kh:=WideElems.rd_key hy;obtain⟨Y,ad,ae⟩:=Jy underlying9 kh
  have af:y=(.string Y,.held x.val):=by
   unfold WideElems.rd at hy;rw[kh]at hy;simp only[Option.bind_some,mR,Option.map_some,Option.some.injEq]at hy;rw[<-hy,ae]
  refine⟨by rw[ad]; exact .string _,?_⟩;have ab:(Lit.string Y,DataW.held x.val)∈(xs.toList.map (WideElems.rg prog 9 mR)).foldr DataW.insert []:=mem_sorted.2 (a4.2 ⟨x,hx,by rw[WideElems.rg_of hy,af]⟩);have ag:((xs.toList.map (WideElems.rg prog 9 mR)).foldr DataW.insert []).Pairwise (λp q=>p.1≠q.1):=(WideShapes.sorted_perm _).symm.pairwise (F.apart (WideMaps.string_law underlying9)) (λh=>h.symm);have U:=atKey_mem ag (k:=.string Y) trivial ab;rw[<-hD]at U;have O:Maps.has D (.string Y)=true:=has_true_of_atKey U;rw[hS.has Y,List.any_eq_true]at O;obtain⟨p,hp,W⟩:=O;have W:p.1=Y:=by simpa using W
  have h2:=hS.at_ p hp (.held x.val);rw[W,U]at h2;have h3:x.val=p.2:=by simpa using h2
  rw[h3];obtain⟨e,_,rfl⟩:=a4.1 hp;exact MX e
 refine⟨.map xs clock,hb,⟨xs,clock,rfl⟩,λm=>.map clock (LC aa m),λm o' ho=>?_,λw' B' ah=>?_⟩
 .cases ho with
  |@map _ ai _ ha=>
   have:=PV aa ha;congr 1;cases xs; cases ai; simp at this; rw[this]
 .exact⟨D,⟨xs,clock,ah,F,ac,hD⟩,hS⟩
end
section
open Go.Conc
variable {q:Nat} {b5:Option Nat} {m:Ren} {w:World}
theorem VR.flatten{x x':Value}(h:VR m x x'):∃y,(∀D,VR D y x')/\(Flat x->y=x)/\∀t z,x=.iface t z->∃W,y=.iface t W:=by
 induction h with
 |jC v hv=>exact⟨_,λ_=>.jC v hv,λB=>(by cases B),λ_ _ e=>(by cases e)⟩
 |bool b=>exact⟨_,λ_=>.bool b,λ_=>rfl,λ_ _ e=>(by cases e)⟩
 |int k n=>exact⟨_,λ_=>.int k n,λ_=>rfl,λ_ _ e=>(by cases e)⟩
 |string s=>exact⟨_,λ_=>.string s,λ_=>rfl,λ_ _ e=>(by cases e)⟩
 |ku=>exact⟨_,λ_=>.ku,λ_=>rfl,λ_ _ e=>(by cases e)⟩
 |jq l c=>exact⟨_,λ_=>.jq l c,λ_=>rfl,λ_ _ e=>(by cases e)⟩
 |pa=>exact⟨_,λ_=>.pa,λ_=>rfl,λ_ _ e=>(by cases e)⟩
 |lO=>exact⟨_,λ_=>.lO,λ_=>rfl,λ_ _ e=>(by cases e)⟩
 |nilFunc=>exact⟨_,λ_=>.nilFunc,λ_=>rfl,λ_ _ e=>(by cases e)⟩
 |nilIface=>exact⟨_,λ_=>.nilIface,λ_=>rfl,λ_ _ e=>(by cases e)⟩
 |ptr _=>exact⟨_,λ_=>.jC _ trivial,λB=>(by cases B),λ_ _ e=>(by cases e)⟩
 |slice _ _ _=>exact⟨_,λ_=>.jC _ trivial,λB=>(by cases B),λ_ _ e=>(by cases e)⟩
 |map _=>exact⟨_,λ_=>.jC _ trivial,λB=>(by cases B),λ_ _ e=>(by cases e)⟩
 |gone _=>exact⟨_,λ_=>.jC _ trivial,λB=>(by cases B),λ_ _ e=>(by cases e)⟩
 |chan _=>exact⟨_,λ_=>.jC _ trivial,λB=>(by cases B),λ_ _ e=>(by cases e)⟩
 |iface t _ Y=>
  obtain⟨y,h1,_,_⟩:=Y;exact⟨.iface t y,λD=>.iface t (h1 D),λB=>(by cases B),λ_ _ e=>(by cases e; exact⟨_,rfl⟩)⟩
 |tuple _ _ _=>exact⟨_,λ_=>.jC _ trivial,λB=>(by cases B),λ_ _ e=>(by cases e)⟩
 |func B _ _ _ _ _ _=>
  cases B with
  |func f _=>exact⟨_,λ_=>.jC _ trivial,λB=>(by cases B),λ_ _ e=>(by cases e)⟩
  |yield _=>exact⟨_,λ_=>.jC _ trivial,λB=>(by cases B),λ_ _ e=>(by cases e)⟩
 |@s9 lf n f c O hi hx Y=>
  have U:∀i(h:i<lf.size),∃y,(∀D,VR D y (f[i]'(O▸h)))/\(Flat lf[i]->y=lf[i])/\∀t z,lf[i]=.iface t z->∃W,y=.iface t W:=λi h=>Y i h (O▸h);refine⟨.func (.method "") (aF λi:_root_.Fin lf.size=>aI (U i.1 i.2)) #[.func (.method n) f c],λD=>.s9 (by simp[O]) (λi h h'=>?_) (λt w hw=>?_),λB=>(by cases B),λ_ _ e=>(by cases e)⟩
  .simp only[aC];exact(aH (U i (by simpa using h))).1 D
  .obtain⟨x,h0⟩:=hx t w hw;obtain⟨hl,e0⟩:=aE.1 h0;obtain⟨z,hz⟩:=(aH (U 0 hl)).2.2 t x e0;refine⟨z,?_⟩;rw[Array.getElem?_eq_getElem (by simpa using hl)];simp only[aC];rw[hz]
 |@agg c c' O hi Y=>
  have U:∀i(h:i<c.size),∃y,(∀D,VR D y (c'[i]'(O▸h)))/\(Flat c[i]->y=c[i])/\∀t z,c[i]=.iface t z->∃W,y=.iface t W:=λi h=>Y i h (O▸h);refine⟨.agg (aF λi:_root_.Fin c.size=>aI (U i.1 i.2)),λD=>.agg (by simp[O]) λi h h'=>?_,λB=>?_,λ_ _ e=>(by cases e)⟩
  .simp only[aC];exact(aH (U i (by simpa using h))).1 D
  .congr 1;refine aG (by simp) λi h1 h2=>?_;simp only[aC];refine(aH (U i h2)).2.1 ?_
   cases B with
   |agg B=>exact B i h2
theorem iI.flatten{c O:Array Value}(h:iI m c O):∃c1,(∀D,iI D c1 O)/\c1.size=c.size/\∀i(B:i<c1.size)(U:i<c.size),Flat c[i]->c1[i]=c[i]:=by
 have W:∀i(B:i<c.size),∃y,(∀D,VR D y (O[i]'(h.size▸B)))/\(Flat c[i]->y=c[i]):=λi B=>by
  obtain⟨y,Y,g2,_⟩:=(h.idx i B (h.size▸B)).flatten;exact⟨y,Y,g2⟩
 refine⟨aF λi:_root_.Fin c.size=>aI (W i.1 i.2),λD=>iI.kG (by simp[h.size]) λi B U=>?_,by simp,λi B U hf=>?_⟩
 .simp only[aC];exact(aH (W i (by simpa using B))).1 D
 .simp only[aC];exact(aH (W i U)).2 hf
def yl:Obj:=.cells #[] 0 (0,0)
def TN(o:Obj)(w:World):World:={w with heap:=#[yl,yl,yl,yl,yl,o,yl]}
def SB(b5:Option Nat)(q:Nat)(D:∀b,b5=some b->5<=b):Ren where
 blk:=λr=>if r=5 then b5 else none
 ch:=λ_=>none
 loose:=λr=>r=5
 ok:=NL prog Of E3 false
 jz:=λf=>Of f=true
 kL:=False
 dead:=λr=>r=6
 dm:=λ_=>q
 tI:=λ_ _=>none
 nJ:=λ_=>none
 G:=5
 qG:=λr r' h=>by
  split at h
  .rename_i e
   have:=D r' h
   omega
  .cases h
 inj:=λr s t y B=>by
  split at y
  .split at B
   .omega
   .cases B
  .cases y
 wD:=λ_ _ _ h=>by cases h
theorem Rn{Z:ob prog}{T:List Frame}(y:∀b,b5=some b->5<=b):Rg (tu prog Z w T 6 q 6 false) (SB b5 q y):=
 ⟨Js _ rfl rfl xT.symm,id,λ_ _ h=>(by cases h),rfl,rfl,rfl,rfl,λr B=>by have:r=5:=B; omega⟩
theorem RK(W:∀b,b5=some b->5<=b)(Y:5<=w.heap.size){c1:Array Value}{U:TypeId}(hb:∀b,b5=some b->∃D f',w.heap[b]?=some (.cells D U f')/\∀m1,iI m1 c1 D) :
  WR (SB b5 q W) (TN (.cells c1 U (0,c1.size)) w) w:=by
 have key:∀r r',(SB b5 q W).blk r=some r'->r=5/\b5=some r':=λr r' h=>by
  have h:(if r=5 then b5 else none)=some r':=h;split at h
  .exact⟨by assumption,h⟩
  .cases h
 refine⟨λr r' y=>?_,λr r' c e f D e' f' y O h2 hn=>?_,λr r' c e f D e' f' y O h2 hl o ho=>?_,λ_ _ h=>(by cases h),by show 5<=7; omega,Y,rfl,λ_ _ h=>(by cases h),λr r' y hl=>?_,λr y=>?_,λr i v hv=>(by cases hv)⟩
 .obtain⟨rfl,B⟩:=key r r' y;obtain⟨D,f',g1,g2⟩:=hb r' B;exact⟨_,_,rfl,g1,.cells U _ f' (g2 _)⟩
 .obtain⟨rfl,B⟩:=key r r' y;exact absurd rfl hn
 .obtain⟨rfl,B⟩:=key r r' y;have O:some (Obj.cells c1 U (0,c1.size))=some (.cells c e f):=O;simp only[Option.some.injEq,Obj.cells.injEq]at O;obtain⟨rfl,_,rfl⟩:=O;show 0<=o/\o<c1.size;omega
 .obtain⟨rfl,B⟩:=key r r' y;exact⟨_,_,_,rfl⟩
 .have:r=6:=y;subst this;exact⟨rfl,_,_,_,rfl⟩
end
section
open Go.Conc Go.RowKit Go.Maps
section
variable {Z:ob prog} {w:World} {T:List Frame} {dd q K:Nat} {wl:World}
theorem On{A:Ask}{es:List gS}{ex:Obj}{sa:Option Addr}{sc s:Nat}{ms:List oW}(hT:∀ps,T=[ps]->ps.mode≠.panicking [goexitEntry])
  (hs:s=wl.heap.size) (hA:A.Ok) (hK:K<=s) (h5:5<=s) (ah:dd<s) (ab:5<=q) (hq:q<w.heap.size) (ac:w.heap[q]?=some ex) (hM:vD ex es) (ad:∀(r:Nat)a c,wl.heap[r]?≠some (.map a c))
  (hl:es.length<=100000) (ae:∀e∈es,e.name.length<=maxLen/\e.text.length<=1048576/\(e.gone=false->0<=e.il/\e.il<=255))
  (af:ms=(ja es).map (nH A 0)) (ag:N6 ms)
  (fin:∀(Uf:Env prog)aj ai ak,Uf.Z=Z->Uf.T=T->Uf.w0=w->(ai=[]\/∃k2,ai=.code .ret::k2)->Fi prog Uf Tryz.f49 aj ak (FX ms) (Ge ms)->gP Uf [⟨49,aj,ai⟩] ak []) :
  gP (tu prog Z w T dd q K false) [⟨49,#[.slice sa (0:Nat) sc,.map (some dd),.agg #[.int .i64 A.m,.string A.q,.int .i64 A.t],aJ,aJ,aJ,aJ,aJ,aJ,aJ,aJ,aJ,aJ,aJ,aJ,aJ,aJ,aJ,aJ,aJ,aJ,aJ,aJ,aJ,aJ,aJ,aJ,aJ,aJ,aJ,aJ,aJ,aJ,aJ,aJ,aJ,aJ,aJ,aJ,aJ,aJ],[.code (jc Tryz.f49)]⟩] wl []:=by
 have HC:Hid _:=And.intro hs (And.intro hA (And.intro hK (And.intro h5 (And.intro ah (And.intro ab (And.intro hq (And.intro ac (And.intro hM (And.intro ad (And.intro hl (And.intro ae (And.intro af (And.intro ag (And.intro fin hT))))))))))))));clear hs hA hK h5 ah ab hq ac hM ad hl ae af ag fin hT;show gP _ [⟨_,_,[.code (.seq (.region 0 _ false) (.seq (.region 1 _ false) (.seq (.seq (.region 2 _ false) (.block 0 (.loop (.seq (.region 3 _ false) (.seq (.cond _ .skip (.exit 0)) _))))) (MF (jc Tryz.f49)))))]⟩] _ _;refine gP.seq ?_;refine gZ λkk y=>?_;have O:Hid _:=y;clear y;refine m8 (by kernel_rfl) (by rw[O.out]; rfl) (.inr HC.out.2.2.2.2.2.2.2.2.2.2.2.2.2.2.2) λW Y D=>?_;have HY:Hid (W.heap=wl.heap/\W.os=wl.os):=⟨Y,D⟩;clear Y D;go_wp2;refine im ?_;rw[O.out];clear O kk;obtain⟨w3,U⟩:∃w3,w3=W.alloc (.cells #[.int .i64 A.m,.string A.q,.int .i64 A.t] 94):=⟨_,rfl⟩;have B:W.heap.size=s:=by rw[HY.out.1]; exact HC.out.1.symm
 have z3:w3.heap.size=s+1:=by rw[U]; simp[B]
 have o3:∀r,r<s->w3.heap[r]?=wl.heap[r]?:=λr hr=>by rw[U,lD _ _ (by rw[B]; omega),HY.out.1]
 have g3:w3.heap[s]?=some (.cells #[.int .i64 A.m,.string A.q,.int .i64 A.t] 94 (0,0)):=by rw[U,nh _ _ B.symm]
 have p3:w3.os=wl.os:=by rw[U]; exact HY.out.2
 rw[<-U,B];clear U HY B W;have H3:Hid _:=And.intro z3 (And.intro o3 (And.intro g3 p3));clear z3 o3 g3 p3;refine gP.seq ?_;refine gZ λkk y=>?_;have O:Hid _:=y;clear y;refine m8 (by kernel_rfl) (by rw[O.out]; rfl) (.inr HC.out.2.2.2.2.2.2.2.2.2.2.2.2.2.2.2) λW Y D=>?_;have HY:Hid (W.heap=w3.heap/\W.os=w3.os):=⟨Y,D⟩;clear Y D;go_wp2;refine im ?_;rw[O.out];clear O kk;obtain⟨w4,aa⟩:∃w4,w4=W.alloc (.cells (qD λ_=>none) 125):=⟨_,rfl⟩;have B:W.heap.size=s+1:=by rw[HY.out.1]; exact H3.out.1
 have z4:w4.heap.size=s+2:=by rw[aa]; simp[B]
 have o4:∀r,r<s+1->w4.heap[r]?=w3.heap[r]?:=λr hr=>by rw[aa,lD _ _ (by rw[B]; omega),HY.out.1]
 have g4:w4.heap[s+1]?=some (.cells (qD λ_=>none) 125 (0,0)):=by rw[aa,nh _ _ B.symm]
 rw[show W.alloc (.cells #[.chan none,.chan none,.chan none,.chan none,.chan none,.chan none,.chan none] 125)=w4 from aa.symm,B];clear aa HY B W;have H4:Hid _:=And.intro z4 (And.intro o4 g4);clear z4 o4 g4;refine gP.seq ?_;refine gP.seq ?_;refine gZ λkk y=>?_;have O:Hid _:=y;clear y;refine gP.region ?_
 (refine j8 rfl (by rfl) (by kernel_rfl) λτ=>?_; unfold jh; go_simp; simp only[ik]; refine gP.ij τ ?_)
 (refine j8 rfl (by rfl) (by kernel_rfl) λτ=>?_; unfold jh; go_simp; simp only[ik]; refine gP.ij τ ?_)
 (refine j8 rfl (by rfl) (by kernel_rfl) λτ=>?_; unfold jh; go_simp; simp only[ik]; refine gP.ij τ ?_);refine gP.inRegion ?_;rw[O.out];clear O kk;refine gP.block (gP.loop (gP.seq ?_));refine gZ λkk y=>?_;have O:Hid _:=y;clear y;refine gP.region ?_
 (refine j8 rfl (by rfl) (by kernel_rfl) λτ=>?_; unfold jh; go_simp; simp only[ik]; refine gP.ij τ ?_);refine gP.inRegion ?_;rw[O.out];clear O kk;refine gP.seq (gP.sH trivial rfl ?_);refine gP.exit (k':=[.code (MF (jc Tryz.f49))]) rfl ?_;obtain⟨hs,hA,hK,h5,ah,ab,hq,ac,hM,ad,hl,ae,af,ag,fin,hT⟩:=HC.out;obtain⟨z3,o3,g3,p3⟩:=H3.out;obtain⟨z4,o4,g4⟩:=H4.out;refine D2 (s:=s+2) (n:=0) (ms0:=[]) (ms:=ms) hT z4.symm hA (by omega) (by omega) (by omega) ab hq ac hM (λr a c=>?_) hl ae (by omega) (λx hx=>by cases hx) ((o4 s (by omega)).trans g3) g4 (λ_ _=>rfl) (λ_ _ _ h=>by cases h) (λx hx=>by cases hx) (λ_ _ _ _ _ h=>by cases h) List.nodup_nil rfl rfl (by rw[af]; simp) ag fin;by_cases h1:r<s
 .rw[o4 r (by omega),o3 r h1]; exact ad r a c
 .by_cases h2:r=s
  .rw[h2,o4 s (by omega),g3]; simp
  .by_cases h3:r=s+1
   .rw[h3,g4]; simp
   .rw[Array.getElem?_eq_none (by omega)]; simp
end
end
section
open Go.Conc Go.RowKit Go.Maps
section
variable {A:Ask} {es:List gS}
theorem zW(es:List gS):ja es=(List.range es.length).map λk=>(k,(oP es).getD k ⟨[],false,[],0,0⟩):=by
 apply a9;intro k;rw[th,a8];have y:(oP es).length=es.length:=(lI es).length_eq;by_cases h:k<es.length
 .rw[List.getElem?_range h,a6 (by omega)];simp[List.getD_eq_getElem?_getD,a6 (show k<(oP es).length by omega)]
 .rw[a7 (by omega),a7 (by simp; omega)];rfl
theorem qK(num:Nat)(p:Nat×gS):(nH A num p).zf=num/\(nH A num p).at'=p.1/\(nH A num p).name=p.2.name/\(nH A num p).wanted=A.has p.2:=by
 unfold nH;split
 .exact⟨rfl,rfl,rfl,by simp_all⟩
 .exact⟨rfl,rfl,rfl,by simp_all⟩
theorem xk:∀(l:List oW)(x:Wd),(∀m∈l,m.zf=0)->jT l x=0:=λl x h=>by
 have:=wK (n:=0) l x λm hm=>by rw[h m hm]; exact Nat.le_refl _
 omega
theorem zw{e:gS}(h:A.has e=true):e.gone=false:=by
 unfold Ask.has at h
 cases y:e.gone with
 |false=>rfl
 |true=>rw[y]at h; simp at h
theorem NM{num:Nat}{p:Nat×gS}(h:A.has p.2=true):(nH A num p).Kp=p.2:=by
 have y:=zw h;obtain⟨k,B,D,tx,wt,tg⟩:=p;simp only at y;subst y;unfold nH;rw[if_pos h];rfl
theorem xp(es:List gS):(ja es).map Prod.snd=oP es:=by
 apply a9;intro k;rw[a8,th];cases(oP es)[k]?<;>rfl
theorem tE(A:Ask)(es:List gS):jl ((ja es).map (nH A 0)) ((ja es).map (nH A 0))=(oP es).filter A.has:=by
 have y:∀x,jT ((ja es).map (nH A 0)) x=0:=λx=>xk _ x λm hm=>by
  obtain⟨p,_,rfl⟩:=a4.1 hm;exact(qK 0 p).1
 rw[<-xp es];unfold jl;generalize (ja es)=l at *;clear y
 have:∀l:List (Nat×gS),(((l.map (nH A 0)).filter λm=>m.wanted&&m.zf==jT (l.map (nH A 0)) m.name).map oW.Kp)=(l.map Prod.snd).filter A.has:=by
  intro l
  have y:∀x,jT (l.map (nH A 0)) x=0:=λx=>xk _ x λm hm=>by
   obtain⟨p,_,rfl⟩:=a4.1 hm;exact(qK 0 p).1
  have e:(λm:oW=>m.wanted&&m.zf==jT (l.map (nH A 0)) m.name)=λm=>m.wanted&&m.zf==0:=by
   funext m;rw[y]
  rw[e];clear e y
  induction l with
  |nil=>rfl
  |cons p l B=>
   rw[a5,a5,aA,aA,(qK 0 p).2.2.2,(qK 0 p).1];by_cases h:A.has p.2=true
   .rw[if_pos (by simp[h]),if_pos h,a5,B,NM h]
   .rw[if_neg (by simp[h]),if_neg h,B]
 exact this l
theorem OL(D:(es.map gS.name).Nodup)(hl:es.length<=100000)(y:∀e∈es,e.name.length<=maxLen/\e.text.length<=1048576):N6 ((ja es).map (nH A 0)) where
 len:=by rw[List.length_map,xQ]; omega
 each:=λm hm=>by
  obtain⟨p,O,rfl⟩:=a4.1 hm;obtain⟨U,W,h3,_⟩:=qK (A:=A) 0 p;rw[U,W,h3];have B:p.2∈es:=(lI es).mem_iff.1 (by rw[<-xp es]; exact a4.2 ⟨p,O,rfl⟩);rw[zW]at O;obtain⟨k,Y,rfl⟩:=a4.1 O;have Y:=List.mem_range.1 Y;exact⟨by omega,by simp only; omega,(y _ B).1⟩
 places:=by
  rw[aB,zW,aB]
  have e:((λm:oW=>(m.zf,m.at')) ∘ nH A 0) ∘ (λk=>(k,(oP es).getD k ⟨[],false,[],0,0⟩))=λk=>(0,k):=by
   funext k;obtain⟨U,W,_⟩:=qK (A:=A) 0 (k,(oP es).getD k ⟨[],false,[],0,0⟩);show((nH A 0 _).zf,(nH A 0 _).at')=_;rw[U,W]
  rw[e];rw[List.Nodup,List.pairwise_map];exact List.Pairwise.imp (λh e=>h (by simpa using e)) List.nodup_range
 names:=by
  rw[tE];have:((oP es).map gS.name).Nodup:=((lI es).map _).nodup_iff.2 D;exact this.sublist (List.filter_sublist.map _)
 texts:=λe he=>by
  rw[tE]at he;exact(y e ((lI es).mem_iff.1 (List.mem_filter.1 he).1)).2
end
theorem O':Tryz.f49.name≠ "runtime.NumGoroutine":=by
 have:Tryz.f49.name = "hint/search.Entries":=by kernel_rfl
 rw[this];decide
section
variable {E:Env prog} {fn:FuncId} {tm:Array Value} {os:List OF} {wl:World} {k:List Item}
theorem gP.Pm{ops:Array Oper}{i:Nat}{rest:List Nat}{o:Oper}{xs:Array Operand}{ts:Array TypeId}{A:Ask}{es:List gS}{sa:Option Addr}{sc lb:Nat}(U:∀b,b<E.w0.heap.size->E.jv b\/E.w0.heap[b]?=some qM)(a2:E.st=true)(hi:ops[i]?=some o)(ak:Region.wanted o (yielded ops tm)=true)(ho:o.op=.call {callee:=.value (.func 49),args:=xs,argTypes:=ts})(al:∀x∈xs.toList,iH E.jz E.gl x)
  (am:xs.size=3) (W:xs.map (lG tm)=#[.slice sa (0:Nat) sc,.map (some lb),.agg #[.int .i64 A.m,.string A.q,.int .i64 A.t]]) (hA:A.Ok) (hs:je wl lb es) (a3:5<=lb) (an:∀a,sa=some a->5<=a.block/\∃c e f,wl.heap[a.block]?=some (.cells c e f))
  (hl:es.length<=100000) (Y:∀e∈es,e.name.length<=maxLen/\e.text.length<=1048576/\(e.gone=false->0<=e.il/\e.il<=255))
  (ao:∀l cp,FX ((ja es).map (nH A 0)) l cp->gP E (⟨fn,jg o.dst tm (.slice none l cp),.inRegion ops rest::k⟩::os) wl [])
  (aa:∀off spot l cp cs e f,Ge ((ja es).map (nH A 0)) off spot l cp cs e f->(∀v∈cs.toList,Flat v)->gP E (⟨fn,jg o.dst tm (.slice (some ⟨wl.heap.size,off,spot⟩) l cp),.inRegion ops rest::k⟩::os) {wl with heap:=wl.heap.push (.cells cs e f)} []) :
  gP E (⟨fn,tm,.inRegion ops (i::rest)::k⟩::os) wl []:=by
 refine gP.phase (R0:=FX ((ja es).map (nH A 0))) (R1:=Ge ((ja es).map (nH A 0))) (jZ:=Tryz.f49) (c:=jc Tryz.f49) U hi ak func49 (by kernel_rfl) O' ho al ?_ ao aa;intro m w ys T ap hw B hT;rw[W]at B;have hG:m.G=5:=ap.ry.env.G.trans xT;obtain⟨ex,ac,hM⟩:=EE hs;have h0:=B.idx 0 (by simp) (by rw[<-B.size]; simp);have h1:=B.idx 1 (by simp) (by rw[<-B.size]; simp);have h2:=B.idx 2 (by simp) (by rw[<-B.size]; simp);have aq:ys.size=3:=by rw[<-B.size]; rfl
 obtain⟨y0,y1,y2,rfl⟩:∃y0 y1 y2,ys=#[y0,y1,y2]:=⟨ys[0],ys[1],ys[2],by
  refine aG (by simp[aq]) λj h1 h2=>?_;have:j<3:=by omega
  rcases(by omega:j=0\/j=1\/j=2)with rfl|rfl|rfl<;>rfl⟩
 have h0:VR m (.slice sa 0 sc) y0:=h0;have h1:VR m (.map (some lb)) y1:=h1;have h2:VR m (.agg #[.int .i64 A.m,.string A.q,.int .i64 A.t]) y2:=h2
 have D:Flat (.agg #[.int .i64 (A.m:Int),.string A.q,.int .i64 (A.t:Int)]):=.agg λi hi=>by
  have:i<3:=hi
  match i,this with
  |0,_|2,_=>exact .int _ _
  |1,_=>exact .string _
 have e2:=D.eq m _ h2;subst e2
 obtain⟨q,rfl,hq⟩:∃q,y1=.map (some q)/\m.blk lb=some q:=by
  cases h1 with
  |map hb=>exact⟨_,rfl,hb⟩
  |gone hd=>
   obtain⟨_,c,e,f,hc⟩:=hw.dead lb hd;obtain⟨a,c2,hx⟩:=hM.isMap;rw[ac,hx]at hc;cases hc
 have ar:5<=q:=by
  have:=m.qG lb q hq;omega
 obtain⟨o1,o2,g1,g2,g3⟩:=hw.obj lb q hq;rw[ac]at g1;cases g1;have au:=hM.inv m _ g3;subst au;have av:q<w.heap.size:=(aE.1 g2).1;have aw:5<=w.heap.size:=by have:=hw.J5; omega
 have ax:=OL (A:=A) hs.nodup hl λe he=>⟨(Y e he).1,(Y e he).2.1⟩
 have fin:∀(b5:Option Nat)(O:∀b,b5=some b->5<=b)(c1:Array Value)(e5:TypeId)(hb:∀b,b5=some b->∃c' f',w.heap[b]?=some (.cells c' e5 f')/\∀m1,iI m1 c1 c')(sb:Option Addr),VR (SB b5 q O) (.slice sb 0 sc) y0->
   ∃(y:Env prog)(ad:Array Value)(m1:Ren)(ae:World),y.Z=E.Z/\y.T=T/\y.w0=w/\(∀b,y.jv b↔b<w.heap.size)/\Rg y m1/\WR m1 ae w/\(∀r b,m1.blk r=some b->m1.loose r)/\iI m1 ad (#[y0,.map (some q),.agg #[.int .i64 A.m,.string A.q,.int .i64 A.t]]++aD (Tryz.f49.ntmps-xs.size) aJ)/\
   ((∀(Uf:Env prog)af ab ag,Uf.Z=E.Z->Uf.T=T->Uf.w0=w->(ab=[]\/∃k2,ab=.code .ret::k2)->Fi prog Uf Tryz.f49 af ag (FX ((ja es).map (nH A 0))) (Ge ((ja es).map (nH A 0)))->gP Uf [⟨49,af,ab⟩] ag [])->gP y [⟨49,ad,[.code (jc Tryz.f49)]⟩] ae []):=by
  intro b5 O c1 e5 hb sb ay;refine⟨tu prog E.Z w T 6 q 6 false,#[.slice sb 0 sc,.map (some 6),.agg #[.int .i64 A.m,.string A.q,.int .i64 A.t]]++aD 38 aJ,SB b5 q O,TN (.cells c1 e5 (0,c1.size)) w,rfl,rfl,rfl,λb=>⟨λh=>h.1,λh=>⟨h,λh=>by cases h⟩⟩,Rn O,RK O aw hb,λr b hr=>?_,?_,λah=>?_⟩
  .have hr:(if r=5 then b5 else none)=some b:=hr;split at hr
   .assumption
   .cases hr
  .rw[am];have hn:Tryz.f49.ntmps-3=38:=by kernel_rfl
   rw[hn];refine iI.append (iI.kG rfl λi h1 h2=>?_) (.replicate _ (.undef _));have:i<3:=h1
   match i,this with
   |0,_=>exact ay
   |1,_=>exact .gone rfl
   |2,_=>exact D.refl _
  .have ai:(#[.slice sb 0 sc,.map (some 6),.agg #[.int .i64 A.m,.string A.q,.int .i64 A.t]]++aD 38 aJ:Array Value)=#[.slice sb 0 sc,.map (some 6),.agg #[.int .i64 A.m,.string A.q,.int .i64 A.t],aJ,aJ,aJ,aJ,aJ,aJ,aJ,aJ,aJ,aJ,aJ,aJ,aJ,aJ,aJ,aJ,aJ,aJ,aJ,aJ,aJ,aJ,aJ,aJ,aJ,aJ,aJ,aJ,aJ,aJ,aJ,aJ,aJ,aJ,aJ,aJ,aJ,aJ]:=by kernel_rfl
   rw[ai];refine On (s:=7) hT rfl hA (by omega) (by omega) (by omega) ar av g2 hM (λr a c h=>?_) hl Y rfl ax ah;have h:(#[yl,yl,yl,yl,yl,Obj.cells c1 e5 (0,c1.size),yl]:Array Obj)[r]?=some (.map a c):=h
   match r,h with
   |0,h|1,h|2,h|3,h|4,h|5,h|6,h=>cases h
   |r+7,h=>simp at h
 cases h0 with
 |jq=>
  exact fin none (λ_ h=>by cases h) #[] 0 (λ_ h=>by cases h) none (.jq _ _)
 |@slice a a' _ _ az=>
  obtain⟨O,c,e,f,hc⟩:=an _ rfl
  cases az with
  |@mk b b' off spot aj=>
   obtain⟨o1,o2,k1,k2,k3⟩:=hw.obj b b' aj;have hc:wl.heap[b]?=some (.cells c e f):=hc;rw[hc]at k1;cases k1
   cases k3 with
   |@cells _ c' _ _ f' a0=>
    obtain⟨c1,aa,_⟩:=a0.flatten
    have a1:5<=b':=by
     have:=m.qG b b' aj;have O:5<=b:=O;omega
    exact fin (some b') (λx hx=>by cases hx; exact a1) c1 e (λx hx=>by cases hx; exact⟨c',f',k2,aa⟩) (some ⟨5,off,spot⟩) (.slice _ _ (.mk rfl))
end
end
end Go.Proofs.YtocbogeoffeolaaGreatDoor
