import Derived.Test.YtocbogeoffeolaaGreatDoorFolAU
set_option linter.unusedVariables false
set_option linter.unusedSimpArgs false
set_option maxHeartbeats 8000000
set_option maxRecDepth 1000000
open List renaming mem_map->av,map_append->aw,map_cons->ax,mem_cons_self->ay,append_of_mem->az,nodup_append->a0,perm_middle->a1,filter_cons->a5,mem_filter->a',find?_cons->aA,length_filter_le->aB,map_congr_left->aC,filter_eq_self->aD,mem_singleton->aE,length_append->aF,find?_eq_none->aG,filter_append->aH,find?_append->aI,nodup_cons->aJ,mem_append->aK,length_map->aL,map_id->aM
open Prod renaming fst->aN,snd->aO
open List.Perm renaming append_left->aP,cons_inv->aQ
open Go.RowKit renaming Hid->aR
open Go renaming undef->aS
namespace Go.Proofs.YtocbogeoffeolaaGreatDoor
open Go.Proofs.Tryz
section
open Go.Conc Go.RowKit Go.Maps
variable {vs:List Value} {k' r:Nat} {a:Option (List Value)} {v:Value} {w2:World}
abbrev Vs:=List (Nat×Option (List Value))
def vn(V:Vs):List Value:=V.flatMap λx=>x.2.getD []
theorem Ii{X Y:Vs}(h:((X++(r,a)::Y).map aN).Nodup):tK (X++(r,a)::Y) r vs=X++(r,some vs)::Y:=by
 rw[aw,ax,a0,aJ]at h;obtain⟨U,⟨D,W⟩,O⟩:=h;unfold tK;rw[aw,ax,if_pos rfl];congr 1
 .conv=>rhs; rw[<-aM X]
  refine aC λx y=>?_;rw[if_neg λe=>O x.1 (av.2 ⟨x,y,rfl⟩) r (by simp) e];rfl
 .congr 1;conv=>rhs; rw[<-aM Y]
  refine aC λx y=>?_;rw[if_neg λe=>D (av.2 ⟨x,y,e⟩)];rfl
theorem IC{X Y:Vs}(h:((X++(r,a)::Y).map aN).Nodup):uo (X++(r,a)::Y) r=X++Y:=by
 rw[aw,ax,a0,aJ]at h;obtain⟨U,⟨D,W⟩,O⟩:=h;unfold uo;rw[aH,a5,if_neg (by simp)];congr 1
 .rw[aD];intro x y;simpa using λe=>O x.1 (av.2 ⟨x,y,rfl⟩) r (by simp) e
 .rw[aD];intro x y;simpa using λe=>D (av.2 ⟨x,y,e⟩)
theorem tv{V:Vs}(D:(V.map aN).Nodup)(h:(r,some (v::vs))∈V):(vn V).Perm (v::vn (tK V r vs))/\(tK V r vs).length=V.length/\(tK V r vs).map aN=V.map aN/\∀x∈tK V r vs,x∈V\/x=(r,some vs):=by
 obtain⟨X,Y,rfl⟩:=az h;rw[Ii D];refine⟨?_,by simp,by simp,?_⟩
 .unfold vn;simp only[List.flatMap_append,List.flatMap_cons,Option.getD_some,List.cons_append];exact a1
 .intro x y;simp only[aK,List.mem_cons]at y⊢;rcases y with h|h|h
  .exact .inl (.inl h)
  .exact .inr h
  .exact .inl (.inr (.inr h))
theorem zH{V:Vs}(D:(V.map aN).Nodup)(h:(r,some [])∈V):(vn V).Perm (vn (uo V r))/\(uo V r).length+1=V.length/\((uo V r).map aN).Nodup/\∀x∈uo V r,x∈V/\x.1≠r:=by
 obtain⟨X,Y,rfl⟩:=az h;have y:=IC D;refine⟨?_,?_,?_,?_⟩
 .rw[y];unfold vn;simp
 .rw[y];simp;omega
 .rw[y];refine D.sublist (List.Sublist.map _ ?_);exact List.Sublist.append_left (List.sublist_cons_self ..) X
 .intro x hx;unfold uo at hx;have:=a'.1 hx;exact⟨this.1,by simpa using this.2⟩
def Met(v:Value):Prop:=∃(a b:Nat)(c:ByteArray)(d:Bool)(e f:ByteArray)(g h:Int),a<4611686018427387904/\b<4611686018427387904/\v=.agg #[.int .i64 (a:Int),.int .i64 (b:Int),.string c,.bool d,.string e,.string f,.int .i64 g,.int .i64 h]
theorem Met.T'(h:Met v):N1 v:=by
 obtain⟨a,b,c,d,e,f,g,h,_,_,rfl⟩:=h;exact⟨a,b,c,d,e,f,g,h,rfl⟩
def Jr:Value->Value
 |.agg a=>.agg #[a.getD 0 aS,a.getD 1 aS]
 |v=>v
theorem Met.key(h:Met v):∃y,keyOf prog 170 (Jr v)=some y:=by
 obtain⟨a,b,c,d,e,f,g,h,D,hb,rfl⟩:=h;exact RZ a b D hb
structure uw(M0:List Value)(H0:Array Obj)(P0:Os)(b mb:Nat)(cl:Nat->Option Nat)(l:List (Value×Value))(V:Vs)(wl:World):Prop where
 hb:wl.heap[b]?=some (.cells (qD cl) 125 (0,0))
 AX:b<mb
 hm:mc prog 170 wl mb l
 mL:∀k r,k<7->cl k=some r->∃vs,(r,some vs)∈V
 jO:∀x∈V,∃k vs,k<7/\cl k=some x.1/\x.2=some vs
 yf:∀k k' r,k<7->k'<7->cl k=some r->cl k'=some r->k=k'
 kg:(V.map aN).Nodup
 iS:(l.map aO++vn V).Perm M0
 kh:∀p∈l,p.1=Jr p.2
 old:∀r,r<mb->r≠b->wl.heap[r]?=H0[r]?
 os:wl.os=P0
structure O6(M0:List Value):Prop where
 met:∀v∈M0,Met v
 nodup:(M0.map Jr).Nodup
 len:M0.length<maxLen
variable {M0:List Value} {H0:Array Obj} {P0:Os} {b mb:Nat} {cl:Nat->Option Nat} {l:List (Value×Value)} {V:Vs} {wl:World}
theorem uw.h8(G:O6 M0)(I:uw M0 H0 P0 b mb cl l V wl):∀r vs,(r,some vs)∈V->∀v∈vs,Met v:=λr vs h v y=>G.met v (I.iS.mem_iff.1 (List.mem_append_right _ (List.mem_flatMap.2 ⟨_,h,y⟩)))
theorem uw.Ti(I:uw M0 H0 P0 b mb cl l V wl)(h:V≠[]):∃k r,k<7/\cl k=some r:=by
 cases V with
 |nil=>exact absurd rfl h
 |cons x V=>
  obtain⟨k,vs,y,D,_⟩:=I.jO x (by simp);exact⟨k,x.1,y,D⟩
theorem uw.fresh(G:O6 M0)(I:uw M0 H0 P0 b mb cl l V wl)(h:(r,some (v::vs))∈V):(∀p∈l,p.1≠Jr v)/\l.length<maxLen:=by
 obtain⟨O,_⟩:=tv I.kg h;have D:=((I.iS.symm.trans (aP _ O)).map Jr).nodup_iff.1 G.nodup;constructor
 .intro p y e;rw[aw,a0]at D;exact D.2.2 (Jr p.2) (av.2 ⟨p.2,av.2 ⟨p,y,rfl⟩,rfl⟩) (Jr v) (by simp) ((I.kh p y).symm.trans e)
 .have:=I.iS.length_eq;have U:=G.len;simp only[aF,aL]at this;omega
theorem uw.take(I:uw M0 H0 P0 b mb cl l V wl)(h:(r,some (v::vs))∈V)(hm:mc prog 170 w2 mb (l++[(Jr v,v)]))(hold:∀r,r<mb->w2.heap[r]?=wl.heap[r]?)(W:w2.os=wl.os) :
  uw M0 H0 P0 b mb cl (l++[(Jr v,v)]) (tK V r vs) w2:=by
 obtain⟨Y,h1,h2,h3⟩:=tv I.kg h
 have y:∀r' vs',(r',some vs')∈V->∃D,(r',some D)∈tK V r vs:=λr' vs' O=>by
  by_cases e:r'=r
  .subst e;exact⟨vs,av.2 ⟨_,h,if_pos rfl⟩⟩
  .exact⟨vs',av.2 ⟨_,O,if_neg e⟩⟩
 refine⟨(hold b I.AX).trans I.hb,I.AX,hm,λk r' hk hr=>?_,λx hx=>?_,I.yf,by rw[h2]; exact I.kg,?_,?_,λr' U aa=>(hold r' U).trans (I.old r' U aa),W.trans I.os⟩
 .obtain⟨vs',O⟩:=I.mL k r' hk hr;exact y r' vs' O
 .rcases h3 x hx with O|rfl
  .exact I.jO x O
  .obtain⟨k,vs',a,b,_⟩:=I.jO _ h;exact⟨k,vs,a,b,rfl⟩
 .refine List.Perm.trans ?_ I.iS;rw[aw,ax,List.map_nil,List.append_assoc];exact aP _ Y.symm
 .intro p Y;rcases aK.1 Y with h|h
  .exact I.kh p h
  .simp only[aE]at h;subst h;rfl
def xE(cl:Nat->Option Nat)(k':Nat):Nat->Option Nat:=λk=>if k=k' then none else cl k
theorem QL(h:k'<7):(qD cl).set! k' (.chan none)=qD (xE cl k'):=by
 rcases(by omega:k'=0\/k'=1\/k'=2\/k'=3\/k'=4\/k'=5\/k'=6)with rfl|rfl|rfl|rfl|rfl|rfl|rfl<;>rfl
theorem uw.ends(I:uw M0 H0 P0 b mb cl l V wl)(W:k'<7)(hr:cl k'=some r)(h:(r,some [])∈V)(hb:w2.heap[b]?=some (.cells (qD (xE cl k')) 125 (0,0)))(hm:mc prog 170 w2 mb l)(hold:∀r,r<mb->r≠b->w2.heap[r]?=wl.heap[r]?)(Y:w2.os=wl.os) :
  uw M0 H0 P0 b mb (xE cl k') l (uo V r) w2:=by
 obtain⟨hp,h1,h2,h3⟩:=zH I.kg h
 have D:∀k r',xE cl k' k=some r'->k≠k'/\cl k=some r':=λk r' e=>by
  unfold xE at e;split at e
  .cases e
  .exact⟨by assumption,e⟩
 refine⟨hb,I.AX,hm,λk O hk e=>?_,λx hx=>?_,λk k2 O a b e1 e2=>I.yf k k2 O a b (D _ _ e1).2 (D _ _ e2).2,h2,?_,I.kh,λr' U y=>(hold r' U y).trans (I.old r' U y),Y.trans I.os⟩
 .obtain⟨y,e⟩:=D _ _ e;obtain⟨vs,h'⟩:=I.mL k O hk e;have:O≠r:=λe2=>y (I.yf k k' O hk W e (e2▸hr));exact⟨vs,a'.2 ⟨h',by simpa using this⟩⟩
 .obtain⟨aa,y⟩:=h3 x hx;obtain⟨k,vs,a,b,c⟩:=I.jO x aa;refine⟨k,vs,a,?_,c⟩;have:k≠k':=λe=>y (by rw[e,hr]at b; exact(Option.some.inj b).symm);unfold xE;rw[if_neg this];exact b
 .exact(aP _ hp.symm).trans I.iS
end
section
open Go.Conc Go.RowKit Go.Maps
variable {ops:Array Oper} {n:Int} {rest:List Nat} {cl:Nat->Option Nat} {o:Oper} {a10 a11 a12 a15 a16 a17 a18 a19 a2 a20 a21 a22 a23 a24 a25 a26 a27 a28 a29 a3 a4 a6 a7 a8 a9:Value}
def Cz(c:Code):Code:=match c with
 |.seq _ (.seq _ (.seq (.block _ (.loop x)) _))=>x
 |_=>.skip
def Rs(c:Code):Code:=match c with
 |.seq _ (.seq _ (.seq _ y))=>y
 |_=>.skip
theorem KY:f123.name≠ "runtime.NumGoroutine":=by
 have:f123.name = "hint/search.next":=by kernel_rfl
 rw[this];decide
section
variable {P:Program} {E:Env P} {fn:FuncId} {tm:Array Value} {os:List OF} {wl:World} {V:List (Nat×Option (List Value))} {k:List Item}
theorem gZ{x:Item}(h:∀y,y=k->gP E (⟨fn,tm,x::y⟩::os) wl V):gP E (⟨fn,tm,x::k⟩::os) wl V:=h k rfl
theorem gP.uk{i:Nat}{f:FuncId}{jZ:Func}{c:Code}{xs:Array Operand}{O:Array TypeId}(ys:Array Value)(hi:ops[i]?=some o)(y:Region.wanted o (yielded ops tm)=true)(U:P.funcs[f]?=some jZ)(hb:jZ.body=some c)(W:jZ.name≠ "runtime.NumGoroutine") (Y:o.op=.call {callee:=.value (.func f),args:=xs,argTypes:=O}) (D:∀x∈xs.toList,iH E.jz E.gl x)
  (ha:xs.map (lG tm)++Array.replicate (jZ.ntmps-xs.size) aS=ys) (h:gP E (⟨f,ys,[.code c]⟩::⟨fn,tm,.inRegion ops (i::rest)::k⟩::os) wl V):gP E (⟨fn,tm,.inRegion ops (i::rest)::k⟩::os) wl V:=
 gP.outer hi y U hb W Y D (by rw[ha]; exact h)
end
section
variable {Z:ob prog} {w:World} {T:List Frame} {dd q K:Nat} {lent:Bool} {fn:FuncId} {tm:Array Value} {os:List OF} {k:List Item} {M0:List Value} {H0:Array Obj} {P0:Os} {b mb:Nat}
def So(Z:ob prog)(w:World)(T:List Frame)(dd q K:Nat)(lent:Bool)(M0:List Value)(H0:Array Obj)(P0:Os)(b mb:Nat)(f:Value->List OF):Prop:=∀(w2:World)(l:List (Value×Value)),(l.map aO).Perm M0->(∀p∈l,p.1=Jr p.2)->mc prog 170 w2 mb l->(∀r,r<mb->r≠b->w2.heap[r]?=H0[r]?)->w2.os=P0->gP (tu prog Z w T dd q K lent) (f (.map (some mb))) w2 []
def TZ(c:Code):Array Oper:=match c with
 |.seq _ (.block _ (.seq (.region _ ops _) _))=>ops
 |_=>#[]
theorem Ai{yk:Bool}{V:Vs}{wl:World}{aa:List OF}{s:Nat}{k':Int}{kk:List Item}{v0 v1:Int}{v2:ByteArray}{v3:Bool}{v4 v5:ByteArray}{v6 v7:Int}(z:wl.heap.size=s)
  (hn:∀w2:World,w2.heap.size=s+1->(∀r,r<s->w2.heap[r]?=wl.heap[r]?)->w2.heap[s]?=some (.cells #[.int .i64 v0,.int .i64 v1,.string v2,.bool v3,.string v4,.string v5,.int .i64 v6,.int .i64 v7] 172 (0,0))->w2.os=wl.os->gP (tu prog Z w T dd q K lent) (⟨82,#[.pointer (some ⟨b,0,none⟩),.int .i64 n,a2,a3,a4,.map (some mb),.int .i64 k',.pointer (some ⟨s,0,none⟩),.bool yk,a9,a10,a11,.tuple #[.int .i64 k',.agg #[.int .i64 v0,.int .i64 v1,.string v2,.bool v3,.string v4,.string v5,.int .i64 v6,.int .i64 v7],.bool yk],.pointer (some ⟨b,0,none⟩),.tuple #[.int .i64 k',.agg #[.int .i64 v0,.int .i64 v1,.string v2,.bool v3,.string v4,.string v5,.int .i64 v6,.int .i64 v7],.bool yk],.int .i64 k',.agg #[.int .i64 v0,.int .i64 v1,.string v2,.bool v3,.string v4,.string v5,.int .i64 v6,.int .i64 v7],.bool yk,a18,a19,a20,a21,a22,a23,a24,a25,a26,a27,a28,a29],kk⟩::aa) w2 V) :
  gP (tu prog Z w T dd q K lent) (⟨82,#[.pointer (some ⟨b,0,none⟩),.int .i64 n,a2,a3,a4,.map (some mb),a6,a7,a8,a9,a10,a11,a12,.pointer (some ⟨b,0,none⟩),.tuple #[.int .i64 k',.agg #[.int .i64 v0,.int .i64 v1,.string v2,.bool v3,.string v4,.string v5,.int .i64 v6,.int .i64 v7],.bool yk],a15,a16,a17,a18,a19,a20,a21,a22,a23,a24,a25,a26,a27,a28,a29],.inRegion (TZ (Cz (jc f82))) [2,3,4,5,6,7,8,9]::kk⟩::aa) wl V:=by
 have HN:aR _:=hn;clear hn;have HZ:aR (wl.heap.size=s):=z;clear z;show gP _ (⟨_,_,.inRegion #[_,_,_,_,_,_,_,_,_,_] _::_⟩::_) _ _
 (refine j8 rfl (by rfl) (by kernel_rfl) λτ=>?_; unfold jh; go_simp; simp only[ik]; refine gP.ij τ ?_)
 (refine j8 rfl (by rfl) (by kernel_rfl) λτ=>?_; unfold jh; go_simp; simp only[ik]; refine gP.ij τ ?_)
 (refine j8 rfl (by rfl) (by kernel_rfl) λτ=>?_; unfold jh; go_simp; simp only[ik]; refine gP.ij τ ?_)
 (refine j8 rfl (by rfl) (by kernel_rfl) λτ=>?_; unfold jh; go_simp; simp only[ik]; refine gP.ij τ ?_);refine ta rfl (by rfl) (by kernel_rfl) λy U D=>?_;have HY:aR (y.heap=wl.heap/\y.os=wl.os):=⟨U,D⟩;clear U D;unfold jh;go_simp;simp only[ik];obtain⟨U,D⟩:=HY.out;obtain⟨w5,W⟩:∃w5,w5=y.alloc (.cells #[.int .i64 0,.int .i64 0,.string ⟨#[]⟩,.bool false,.string ⟨#[]⟩,.string ⟨#[]⟩,.int .i64 0,.int .i64 0] 172):=⟨_,rfl⟩;have Y:y.heap.size=s:=by rw[U]; exact HZ.out
 have z5:w5.heap.size=s+1:=by rw[W]; simp[Y]
 have o5:∀r,r<s->w5.heap[r]?=wl.heap[r]?:=λr hr=>by rw[W,lD _ _ (by rw[Y]; exact hr),U]
 have g5:w5.heap[s]?=some (.cells #[.int .i64 0,.int .i64 0,.string ⟨#[]⟩,.bool false,.string ⟨#[]⟩,.string ⟨#[]⟩,.int .i64 0,.int .i64 0] 172 (0,0)):=by rw[W,nh _ _ Y.symm]
 have p5:w5.os=wl.os:=by rw[W]; exact D
 rw[<-W,Y];clear W U D HY Y y;have HW:aR (w5.heap.size=s+1/\(∀r,r<s->w5.heap[r]?=wl.heap[r]?)/\w5.heap[s]?=some (.cells #[.int .i64 0,.int .i64 0,.string ⟨#[]⟩,.bool false,.string ⟨#[]⟩,.string ⟨#[]⟩,.int .i64 0,.int .i64 0] 172 (0,0))/\w5.os=wl.os):=⟨z5,o5,g5,p5⟩;clear z5 o5 g5 p5
 (refine j8 rfl (by rfl) (by kernel_rfl) λτ=>?_; unfold jh; go_simp; simp only[ik]; refine gP.ij τ ?_);refine ta rfl (by rfl) (by kernel_rfl) λy U D=>?_;obtain⟨z5,o5,g5,p5⟩:=HW.out;rw[<-U]at z5 o5 g5;have p5:=D.trans p5;have O:=g5;clear U D HW g5;have e0:y.cell? ⟨s,0,none⟩=some (.int .i64 0):=by rw[Ps O]; rfl
 have f0:y.frozen? ⟨s,0,none⟩=false:=Ue O 0;have e1:y.cell? ⟨s,1,none⟩=some (.int .i64 0):=by rw[Ps O]; rfl
 have f1:y.frozen? ⟨s,1,none⟩=false:=Ue O 1;have e2:y.cell? ⟨s,2,none⟩=some (.string ⟨#[]⟩):=by rw[Ps O]; rfl
 have f2:y.frozen? ⟨s,2,none⟩=false:=Ue O 2;have e3:y.cell? ⟨s,3,none⟩=some (.bool false):=by rw[Ps O]; rfl
 have f3:y.frozen? ⟨s,3,none⟩=false:=Ue O 3;have e4:y.cell? ⟨s,4,none⟩=some (.string ⟨#[]⟩):=by rw[Ps O]; rfl
 have f4:y.frozen? ⟨s,4,none⟩=false:=Ue O 4;have e5:y.cell? ⟨s,5,none⟩=some (.string ⟨#[]⟩):=by rw[Ps O]; rfl
 have f5:y.frozen? ⟨s,5,none⟩=false:=Ue O 5;have e6:y.cell? ⟨s,6,none⟩=some (.int .i64 0):=by rw[Ps O]; rfl
 have f6:y.frozen? ⟨s,6,none⟩=false:=Ue O 6;have e7:y.cell? ⟨s,7,none⟩=some (.int .i64 0):=by rw[Ps O]; rfl
 have f7:y.frozen? ⟨s,7,none⟩=false:=Ue O 7;have HY:aR (y.heap.size=s+1/\(∀r,r<s->y.heap[r]?=wl.heap[r]?)/\y.os=wl.os):=⟨z5,o5,p5⟩;have HG:aR _:=O;clear z5 o5 p5 O;unfold jh;go_simp;simp only[ik];clear e0 e1 e2 e3 e4 e5 e6 e7 f0 f1 f2 f3 f4 f5 f6 f7;obtain⟨z5,o5,p5⟩:=HY.out;obtain⟨w2,hw2⟩:∃w2,w2=uY y s (.int .i64 v0) (.int .i64 v1) (.string v2) (.bool v3) (.string v4) (.string v5) (.int .i64 v6) (.int .i64 v7):=⟨_,rfl⟩;have z1:w2.heap.size=s+1:=by rw[hw2,wv]; exact z5
 have o1:∀r,r<s->w2.heap[r]?=wl.heap[r]?:=λr hr=>by rw[hw2,AO _ _ _ _ _ _ _ _ _ (by omega)]; exact o5 r hr
 have O:w2.heap[s]?=some (.cells #[.int .i64 v0,.int .i64 v1,.string v2,.bool v3,.string v4,.string v5,.int .i64 v6,.int .i64 v7] 172 (0,0)):=by rw[hw2]; exact zB HG.out
 have p1:w2.os=wl.os:=by rw[hw2,DL]; exact p5
 unfold uY at hw2;rw[<-hw2];clear hw2 HG HY z5 o5 p5;have HN:=HN.out w2 z1 o1 O p1;have HN:aR _:=HN;clear z1 o1 O p1
 (refine j8 rfl (by rfl) (by kernel_rfl) λτ=>?_; unfold jh; go_simp; simp only[ik]; refine gP.ij τ ?_);exact gP.inRegion HN.out
set_option linter.unusedVariables false in
theorem xv{i:Nat}{wl:World}{V:Vs}{l:List (Value×Value)}{W Y:Value}(I:uw M0 H0 P0 b mb cl l V wl)(hV:V=[])(hn:n=V.length)(hi:ops[i]?=some o)(y:So Z w T dd q K lent M0 H0 P0 b mb λv=>⟨fn,jg o.dst tm v,.inRegion ops rest::k⟩::os) :
  gP (tu prog Z w T dd q K lent) (⟨82,#[.pointer (some ⟨b,0,none⟩),.int .i64 n,a2,a3,a4,.map (some mb),a6,a7,a8,a9,a10,a11,a12,W,Y,a15,a16,a17,a18,a19,a20,a21,a22,a23,a24,a25,a26,a27,a28,a29],[.code (Cz (jc f82)),.inLoop (Cz (jc f82)),.inBlock 0,.code (Rs (jc f82))]⟩::⟨fn,tm,.inRegion ops (i::rest)::k⟩::os) wl V:=by
 subst hV;have U:¬(0<n):=by rw[hn]; simp
 have HN:aR (n=0):=hn;clear hn;have D:aR _:=I;have HE:aR _:=y;clear I y;show gP _ (⟨_,_,[.code (.seq (.seq (.region 2 _ false) (.cond _ .skip (.exit 0))) (.block 1 _)),.inLoop _,.inBlock 0,.code (.seq (.region 8 _ false) .ret)]⟩::_) _ _;refine gP.seq ?_;refine gZ λkk O=>?_;have HK:aR _:=O;clear O;refine gP.seq (gP.region ?_)
 (refine j8 rfl (by rfl) (by kernel_rfl) λτ=>?_; unfold jh; go_simp; simp only[ik]; refine gP.ij τ ?_)
 (refine j8 rfl (by rfl) (by kernel_rfl) λτ=>?_; unfold jh; go_simp; simp only[ik]; refine gP.ij τ ?_);refine gP.inRegion ?_;refine gP.sH trivial rfl ?_;clear U;rw[HK.out];clear HK kk;refine gP.exit (k':=[.code (.seq (.region 8 _ false) .ret)]) rfl ?_;refine gP.seq (gP.region ?_)
 (refine j8 rfl (by rfl) (by kernel_rfl) λτ=>?_; unfold jh; go_simp; simp only[ik]; refine gP.ij τ ?_)
 (refine j8 rfl (by rfl) (by kernel_rfl) λτ=>?_; unfold jh; go_simp; simp only[ik]; refine gP.ij τ ?_);refine gP.inRegion ?_;refine gP.back (v:=.map (some mb)) (.inr ⟨_,rfl⟩) func82 hi (λτ=>by simp[results,results82,go_sem]) ?_;have U:=D.out.iS;simp only[vn,List.flatMap_nil,List.append_nil]at U;exact HE.out wl l U D.out.kh D.out.hm D.out.old D.out.os
set_option linter.unusedVariables false in
theorem EG{i:Nat}(G:O6 M0)(hi:ops[i]?=some o)(ab:So Z w T dd q K lent M0 H0 P0 b mb λv=>⟨fn,jg o.dst tm v,.inRegion ops rest::k⟩::os) :
  ∀(N:Nat)(wl:World)(V:Vs)(cl:Nat->Option Nat)(l:List (Value×Value))(a2 a3 a4 a6 a7 a8 a9 a10 a11 a12 ai aj a15 a16 a17 a18 a19 a20 a21 a22 a23 a24 a25 a26 a27 a28 a29:Value)(n:Int),(vn V).length+V.length<=N->n=V.length->V.length<=1000->uw M0 H0 P0 b mb cl l V wl->
  gP (tu prog Z w T dd q K lent) (⟨82,#[.pointer (some ⟨b,0,none⟩),.int .i64 n,a2,a3,a4,.map (some mb),a6,a7,a8,a9,a10,a11,a12,ai,aj,a15,a16,a17,a18,a19,a20,a21,a22,a23,a24,a25,a26,a27,a28,a29],[.code (Cz (jc f82)),.inLoop (Cz (jc f82)),.inBlock 0,.code (Rs (jc f82))]⟩::⟨fn,tm,.inRegion ops (i::rest)::k⟩::os) wl V:=by
 intro N
 induction N with
 |zero=>
  intro wl V cl l a2 a3 a4 a6 a7 a8 a9 a10 a11 a12 ai aj a15 a16 a17 a18 a19 a20 a21 a22 a23 a24 a25 a26 a27 a28 a29 n hN hn hB I;have hV:V=[]:=List.eq_nil_of_length_eq_zero (by omega);exact xv I hV hn hi ab
 |succ N ih=>
  intro wl V cl l a2 a3 a4 a6 a7 a8 a9 a10 a11 a12 ai aj a15 a16 a17 a18 a19 a20 a21 a22 a23 a24 a25 a26 a27 a28 a29 n hN hn hB I;by_cases hV:V=[]
  .exact xv I hV hn hi ab
  have hp:0<n:=by rw[hn]; exact Int.natCast_pos.2 (List.length_pos_iff.2 hV)
  have HI:aR ((vn V).length+V.length<=N+1/\n=V.length/\uw M0 H0 P0 b mb cl l V wl/\V≠[]/\0<n/\V.length<=1000):=⟨hN,hn,I,hV,hp,hB⟩;have IH:aR _:=ih;have HE:aR _:=ab;clear hN hn I hV ih ab hB;show gP _ (⟨_,_,[.code (.seq (.seq (.region 2 _ false) (.cond _ .skip (.exit 0))) (.block 1 (.seq (.region 3 _ false) (.seq (.seq (.region 4 _ false) (.cond _ (.seq (.region 5 _ false) (.exit 1)) .skip)) (.seq (.region 6 _ false) (.region 7 _ false)))))),.inLoop _,.inBlock 0,_]⟩::_) _ _;refine gP.seq ?_;refine gZ λkk y=>?_;have O:aR _:=y;clear y;refine gP.seq (gP.region ?_)
  (refine j8 rfl (by rfl) (by kernel_rfl) λτ=>?_; unfold jh; go_simp; simp only[ik]; refine gP.ij τ ?_)
  (refine j8 rfl (by rfl) (by kernel_rfl) λτ=>?_; unfold jh; go_simp; simp only[ik]; refine gP.ij τ ?_);refine gP.inRegion ?_;refine gP.Jl trivial rfl (gP.skip ?_);clear hp;rw[O.out];clear O kk;refine gP.block (gP.seq ?_);refine gZ λkk y=>?_;have O:aR _:=y;clear y;refine gP.region ?_
  (refine j8 rfl (by rfl) (by kernel_rfl) λτ=>?_; unfold jh; go_simp; simp only[ik]; refine gP.ij τ ?_);obtain⟨hN,hn,I,hV,hp,hB⟩:=HI.out;refine gP.uk #[.pointer (some ⟨b,0,none⟩),aS,aS,aS,aS,aS,aS,aS,aS,aS,aS,aS,aS,aS,aS,aS,aS,aS,aS,aS,aS,aS,aS,aS,aS,aS,aS,aS,aS,aS,aS,aS,aS,aS,aS,aS,aS,aS,aS,aS,aS,aS,aS,aS,aS,aS,aS,aS,aS,aS,aS,aS,aS,aS,aS,aS,aS,aS,aS,aS,aS,aS,aS,aS,aS,aS,aS,aS,aS,aS] (i:=1) (jZ:=f123) (c:=jc f123) rfl rfl func123 (by kernel_rfl) KY rfl (by simp[iH]) (by kernel_rfl) ?_;refine Ly b wl.heap.size rfl (Nat.lt_trans I.AX I.hm.lt) rfl I.hb I.mL I.yf (I.Ti hV) I.kg (λr vs h v hv=>(I.h8 G r vs h v hv).T') ?_ ?_
  .intro k' r v vs w2 ak hr hm z2 o2 p2;obtain⟨v0,v1,v2,v3,v4,v5,v6,v7,ha,hb,hv⟩:=I.h8 G r _ hm v (ay ..);obtain⟨kl,ad⟩:=(I.h8 G r _ hm v (ay ..)).key;obtain⟨ae,af⟩:=I.fresh G hm;have hT:=λ(w3:World) a b c=>I.take hm (w2:=w3) a b c;have hL:=(tv I.kg hm).1.length_eq;have Y:=(tv I.kg hm).2.1;have ag:mc prog 170 w2 mb l:=I.hm.stay (o2 mb I.hm.lt);have aa:=I.hm.lt;have AX:=I.AX;subst hv;obtain⟨s,hs⟩:∃s,s=wl.heap.size+1:=⟨_,rfl⟩;rw[<-hs]at z2;have aa:mb<s:=by omega
   clear hs;have HA:aR _:=(And.intro hT (And.intro hL (And.intro Y (And.intro ad (And.intro ae (And.intro af (And.intro o2 (And.intro p2 (And.intro aa AX)))))))));have HM:aR (mc _ _ _ _ _):=ag;clear hT hL Y ad ae af o2 p2 hm hr I ag AX aa hn hp hV hN hB;rw[lR];go_simp;refine Ai z2 λw3 z3 o3 g3 p3=>?_;have HW:aR _:=And.intro z3 (And.intro o3 p3);have HG:aR _:=g3;clear z3 o3 p3 g3 z2;rw[O.out];refine gP.seq (gP.seq ?_);clear O kk;refine gZ λkk y=>?_;have O:aR _:=y;clear y;refine gP.region ?_
   (refine j8 rfl (by rfl) (by kernel_rfl) λτ=>?_; unfold jh; go_simp; simp only[ik]; refine gP.ij τ ?_);refine gP.inRegion ?_;rw[O.out];clear O kk;refine gP.Jl trivial rfl (gP.seq ?_);refine gZ λkk y=>?_;have O:aR _:=y;clear y;refine m8 (by kernel_rfl) (by rw[O.out]; rfl) (.inl (by simp)) λD U W=>?_;have g1:=HG.out;rw[<-U]at g1;have e0:D.cell? ⟨s,0,none⟩=some (.int .i64 (v0:Int)):=by rw[Ps g1]; rfl
   have f0:D.frozen? ⟨s,0,none⟩=false:=Ue g1 0;have e1:D.cell? ⟨s,1,none⟩=some (.int .i64 (v1:Int)):=by rw[Ps g1]; rfl
   have f1:D.frozen? ⟨s,1,none⟩=false:=Ue g1 1;have e2:D.cell? ⟨s,2,none⟩=some (.string v2):=by rw[Ps g1]; rfl
   have f2:D.frozen? ⟨s,2,none⟩=false:=Ue g1 2;have e3:D.cell? ⟨s,3,none⟩=some (.bool v3):=by rw[Ps g1]; rfl
   have f3:D.frozen? ⟨s,3,none⟩=false:=Ue g1 3;have e4:D.cell? ⟨s,4,none⟩=some (.string v4):=by rw[Ps g1]; rfl
   have f4:D.frozen? ⟨s,4,none⟩=false:=Ue g1 4;have e5:D.cell? ⟨s,5,none⟩=some (.string v5):=by rw[Ps g1]; rfl
   have f5:D.frozen? ⟨s,5,none⟩=false:=Ue g1 5;have e6:D.cell? ⟨s,6,none⟩=some (.int .i64 v6):=by rw[Ps g1]; rfl
   have f6:D.frozen? ⟨s,6,none⟩=false:=Ue g1 6;have e7:D.cell? ⟨s,7,none⟩=some (.int .i64 v7):=by rw[Ps g1]; rfl
   have f7:D.frozen? ⟨s,7,none⟩=false:=Ue g1 7;have al:mc prog 170 D mb l:=HM.out.stay (by rw[U]; exact HW.out.2.1 mb HA.out.2.2.2.2.2.2.2.2.1);have ad:=HA.out.2.2.2.1;have ae:=HA.out.2.2.2.2.1;have af:=HA.out.2.2.2.2.2.1;have HY:aR (D.heap=w3.heap/\D.os=w3.os):=⟨U,W⟩;have H1:aR _:=al;have H2:aR _:=ad;have H3:aR _:=ae;have H4:aR _:=af;clear U W g1 al ad ae af;go_wp2_with (first|(at_mapUpdate; refine E7 _ rfl _ _ _ 129 rfl 172 Ej underlying129 rfl H1.out H4.out H2.out H3.out rfl _ rfl ?_; intro w4 aq am au));refine im ?_;rw[O.out];clear O e0 e1 e2 e3 e4 e5 e6 e7 f0 f1 f2 f3 f4 f5 f6 f7;refine gP.exit (k':=[.inLoop _,.inBlock 0,.code _]) rfl (gP.inLoop ?_);obtain⟨hT,hL,Y,ad,ae,af,o2,p2,aa,AX⟩:=HA.out;obtain⟨hN,hn,I,hV,hp,hB⟩:=HI.out;obtain⟨U,W⟩:=HY.out;obtain⟨z3,o3,p3⟩:=HW.out;refine IH.out w4 (tK V r vs) cl _ _ _ _ _ _ _ _ _ _ _ _ _ _ _ _ _ _ _ _ _ _ _ _ _ _ _ _ n ?_ ?_ (by rw[Y]; exact hB) (hT w4 aq (λr' an=>?_) ?_)
   .simp only[List.length_cons]at hL;rw[Y];omega
   .rw[Y]; exact hn
   .rw[am.block r' (by rw[U,z3]; omega) (by simp; omega),U,o3 r' (by omega),o2 r' (Nat.lt_trans an I.hm.lt)]
   .rw[am.os,W,p3,p2]
  .intro k' r w2 ak hr hm z2 o2 p2;have hE:=λ(w3:World) a b c d=>I.ends ak hr hm (w2:=w3) a b c d;have hL:=(zH I.kg hm).1.length_eq;have Y:=(zH I.kg hm).2.1;have ag:mc prog 170 w2 mb l:=I.hm.stay (o2 mb I.hm.lt);have aa:=I.hm.lt;have AX:=I.AX;have ao:w2.heap[b]?=some (.cells (qD cl) 125 (0,0)):=(o2 b (by omega)).trans I.hb;obtain⟨s,hs⟩:∃s,s=wl.heap.size+1:=⟨_,rfl⟩;rw[<-hs]at z2;have ac:mb<s:=by omega
   clear hs;have HA:aR _:=And.intro hE (And.intro hL (And.intro Y (And.intro o2 (And.intro p2 (And.intro ac (And.intro AX aa))))));have HM:aR (mc _ _ _ _ _):=ag;have HB:aR (w2.heap[b]?=some (.cells (qD cl) 125 (0,0))):=ao;clear hE hL Y o2 p2 hm hr I ag AX aa ac hn hp hV hN hB ao;rw[lR];simp only[Ki];go_simp;refine Ai z2 λw3 z3 o3 g3 p3=>?_;have HW:aR _:=And.intro z3 (And.intro o3 p3);clear z3 o3 p3 g3 z2;rw[O.out];refine gP.seq (gP.seq ?_);clear O kk;refine gZ λkk y=>?_;have O:aR _:=y;clear y;refine gP.region ?_
   (refine j8 rfl (by rfl) (by kernel_rfl) λτ=>?_; unfold jh; go_simp; simp only[ik]; refine gP.ij τ ?_);refine gP.inRegion ?_;rw[O.out];clear O kk;refine gP.sH trivial rfl (gP.skip (gP.seq ?_));refine gZ λkk y=>?_;have O:aR _:=y;clear y;refine m8 (by kernel_rfl) (by rw[O.out]; rfl) (.inl (by simp)) λD U W=>?_;have gb:D.heap[b]?=some (.cells (qD cl) 125 (0,0)):=by rw[U,HW.out.2.1 b (by have:=HA.out; omega)]; exact HB.out
   have e0:D.cell? ⟨b,k',none⟩=some (.chan (cl k')):=by
    rw[Ps gb];rcases(by omega:k'=0\/k'=1\/k'=2\/k'=3\/k'=4\/k'=5\/k'=6)with rfl|rfl|rfl|rfl|rfl|rfl|rfl<;>rfl
   have f0:D.frozen? ⟨b,k',none⟩=false:=Ue gb k';have HY:aR (D.heap=w3.heap/\D.os=w3.os):=⟨U,W⟩;have HG:aR _:=gb;clear U W gb;go_wp2;refine im ?_;clear e0 f0;obtain⟨w4,ah⟩:∃w4,w4=D.setCell ⟨b,k',none⟩ (.chan none):=⟨_,rfl⟩;have g4:w4.heap[b]?=some (.cells (qD (xE cl k')) 125 (0,0)):=by rw[ah,heap_set HG.out k' (.chan none),<-QL ak]; simp only[Array.set!_eq_setIfInBounds]
   have o4:∀r,r≠b->w4.heap[r]?=w3.heap[r]?:=λr hr=>by rw[ah,Below.heap_setCell _ _ _ _ hr,HY.out.1]
   have p4:w4.os=w3.os:=by rw[ah,uL]; exact HY.out.2
   rw[<-ah];clear ah HG HY D;have HG:aR _:=And.intro g4 (And.intro o4 p4);clear g4 o4 p4;rw[O.out];clear O kk;refine gZ λkk y=>?_;have O:aR _:=y;clear y;refine gP.region ?_;have h1 : -9223372036854775808<=n-1:=by have:=HI.out.2.2.2.2.1; omega
   have h2:n-1<=9223372036854775807:=by have:=HI.out.2.1; have:=HI.out.2.2.2.2.2; omega
   (refine j8 rfl (by rfl) (by kernel_rfl) λτ=>?_; unfold jh; go_simp; simp only[ik]; refine gP.ij τ ?_)
   (refine j8 rfl (by rfl) (by kernel_rfl) λτ=>?_; unfold jh; go_simp; simp only[ik]; refine gP.ij τ ?_)
   (refine j8 rfl (by rfl) (by kernel_rfl) λτ=>?_; unfold jh; go_simp; simp only[ik]; refine gP.ij τ ?_);refine gP.inRegion ?_;rw[O.out];have ap:IntKind.i64.wrap (n-1)=n-1:=by simp only[IntKind.wrap_i64]; omega
   rw[ap];clear O h1 h2 ap;refine gP.inBlock (gP.inLoop ?_);obtain⟨hE,hL,Y,o2,p2,ac,AX,aa⟩:=HA.out;obtain⟨hN,hn,I,hV,hp,hB⟩:=HI.out;obtain⟨g4,o4,p4⟩:=HG.out;obtain⟨z3,o3,p3⟩:=HW.out;refine IH.out w4 (uo V r) (xE cl k') l _ _ _ _ _ _ _ _ _ _ _ _ _ _ _ _ _ _ _ _ _ _ _ _ _ _ _ (n-1) ?_ ?_ (by omega) (hE w4 g4 (HM.out.stay ?_) (λr' an ar=>?_) ?_)
   .omega
   .rw[hn]; omega
   .rw[o4 mb (by omega),o3 mb ac]
   .rw[o4 r' ar,o3 r' (by omega),o2 r' (by omega)]
   .rw[p4,p3,p2]
theorem EZ{i:Nat}{wl:World}{V:Vs}(hi:ops[i]?=some o)(G:O6 M0)(W:mb=wl.heap.size)(AX:b<mb)
  (hb:wl.heap[b]?=some (.cells (qD cl) 125 (0,0))) (mL:∀k r,k<7->cl k=some r->∃vs,(r,some vs)∈V) (jO:∀x∈V,∃k vs,k<7/\cl k=some x.1/\x.2=some vs) (yf:∀k k' r,k<7->k'<7->cl k=some r->cl k'=some r->k=k') (kg:(V.map aN).Nodup) (hB:V.length<=1000) (hM:vn V=M0)
  (Y:So Z w T dd q K lent M0 wl.heap wl.os b mb λv=>⟨fn,jg o.dst tm v,.inRegion ops rest::k⟩::os) :
  gP (tu prog Z w T dd q K lent) (⟨82,#[.pointer (some ⟨b,0,none⟩),.int .i64 (V.length:Int),aS,aS,aS,aS,aS,aS,aS,aS,aS,aS,aS,aS,aS,aS,aS,aS,aS,aS,aS,aS,aS,aS,aS,aS,aS,aS,aS,aS],[.code (jc f82)]⟩::⟨fn,tm,.inRegion ops (i::rest)::k⟩::os) wl V:=by
 have HL:=EG G hi Y;obtain⟨n,hn⟩:∃n:Int,n=V.length:=⟨_,rfl⟩;have HA:aR _:=And.intro hb (And.intro mL (And.intro jO (And.intro yf (And.intro kg (And.intro hB (And.intro hM (And.intro W (And.intro AX hn))))))));have HL:aR _:=HL;rw[<-hn];clear hb mL jO yf kg hB hM W Y hn AX;show gP _ (⟨_,_,[.code (.seq (.region 0 _ false) (.seq (.region 1 _ false) (.seq (.block 0 (.loop (Cz (jc f82)))) (Rs (jc f82)))))]⟩::_) _ _;refine gP.seq ?_;refine gZ λkk D=>?_;have HK:aR _:=D;clear D;refine gP.region ?_
 (refine j8 rfl (by rfl) (by kernel_rfl) λτ=>?_; unfold jh; go_simp; simp only[ik]; refine gP.ij τ ?_);refine gP.inRegion ?_;rw[HK.out];clear HK kk;refine gP.seq ?_;refine gZ λkk D=>?_;have HK:aR _:=D;clear D;refine m8 (by kernel_rfl) (by rw[HK.out]; rfl) (.inl (by simp)) λy0 O y=>?_;have HY:aR (y0.heap=wl.heap/\y0.os=wl.os):=⟨O,y⟩;clear O y;have aa:=@run_makeMap prog;go_wp2;refine im ?_;rw[HK.out];clear HK kk aa;obtain⟨hb,mL,jO,yf,kg,hB,hM,W,AX,hn⟩:=HA.out;obtain⟨O,y⟩:=HY.out;have hz:y0.heap.size=mb:=by rw[O,W]
 obtain⟨w2,U⟩:∃w2,w2=y0.alloc (.map #[] 0):=⟨_,rfl⟩;have ab:mc prog 170 w2 mb []:=by rw[U,<-hz]; exact mc.made y0
 have o2:∀r,r<mb->w2.heap[r]?=wl.heap[r]?:=λr hr=>by rw[U,lD _ _ (by rw[hz]; exact hr),O]
 have p2:w2.os=wl.os:=by rw[U]; exact y
 rw[<-U,hz];clear U;refine gP.seq (gP.block (gP.loop ?_));exact HL.out _ w2 V cl [] _ _ _ _ _ _ _ _ _ _ _ _ _ _ _ _ _ _ _ _ _ _ _ _ _ _ _ n (Nat.le_refl _) hn hB ⟨(o2 b AX).trans hb,AX,ab,mL,jO,yf,kg,by rw[hM]; exact .refl _,λ_ h=>by simp at h,λr hr _=>o2 r hr,p2⟩
end
end
section
open Go.RowKit Go.Maps
structure oW where
 zf:Nat
 at':Nat
 name:Wd
 wanted:Bool
 n2:Wd
 tx:Wd
 wt:Int
 tg:Int
def oW.val(m:oW):Value:=.agg #[.int .i64 (m.zf:Int),.int .i64 (m.at':Int),.string ⟨m.name.toArray⟩,.bool m.wanted,.string ⟨m.n2.toArray⟩,.string ⟨m.tx.toArray⟩,.int .i64 m.wt,.int .i64 m.tg]
def oW.kv(m:oW):Value×Value:=(Pj m.zf m.at',m.val)
def oW.Kp(m:oW):gS:=⟨m.n2,false,m.tx,m.wt,m.tg⟩
def jT:List oW->Wd->Nat
 |[],_=>0
 |m::l,x=>if m.name=x then max m.zf (jT l x)else jT l x
theorem xX{l m:List oW}(h:l.Perm m)(x:Wd):jT l x=jT m x:=by
 induction h with
 |nil=>rfl
 |cons a _ y=>simp only[jT,y]
 |swap a b l=>
  simp only[jT];split<;>split<;>omega
 |trans _ _ D O=>rw[D,O]
theorem Fa(l:List oW)(m:oW)(x:Wd):jT (l++[m]) x=if m.name=x then max (jT l x) m.zf else jT l x:=by
 rw[xX (List.perm_append_comm (l₁:=l) (l₂:=[m]))];show(if m.name=x then max m.zf (jT l x)else jT l x)=_;split
 .rw[Nat.max_comm]
 .rfl
theorem wK{n:Nat}:∀(l:List oW)(x:Wd),(∀m∈l,m.zf<=n)->jT l x<=n
 |[],_,_=>Nat.zero_le _
 |m::l,x,h=>by
  have y:=h m (by simp)
  have D:=wK l x (λm hm=>h m (by simp[hm]));simp only[jT];split<;>omega
def jl(all l:List oW):List gS:=(l.filter λm=>m.wanted&&m.zf==jT all m.name).map oW.Kp
theorem Fu(all l:List oW)(m:oW):jl all (l++[m])=jl all l++(if(m.wanted&&m.zf==jT all m.name)=true then [m.Kp]else []):=by
 unfold jl;rw[aH,aw];congr 1;rw[a5];split<;>rfl
theorem Cn(all l:List oW):(jl all l).length<=l.length:=by unfold jl; rw[aL]; exact aB _ _
theorem FW{all l m:List oW}(h:l.Perm m):(jl all l).Perm (jl all m):=(h.filter _).map _
def oY(e:gS):List Value:=[.string ⟨e.name.toArray⟩,.string ⟨e.text.toArray⟩,.int .i64 e.gT,.int .i64 e.il]
def lh(es:List gS):List Value:=es.flatMap oY
theorem IJ(es:List gS)(x:gS):lh (es++[x])=lh es++oY x:=by simp[lh]
theorem CB:∀(ws:List gS)(i c:Nat)(h:i<ws.length),c<4->(lh ws)[i*4+c]?=(oY ws[i])[c]?:=by
 intro ws
 induction ws with
 |nil=>intro i c h; simp at h
 |cons a l y=>
  intro i c h D;have e:lh (a::l)=oY a++lh l:=by simp[lh]
  rw[e]
  cases i with
  |zero=>rw[List.getElem?_append_left (by simp[oY]; omega)]; simp
  |succ i=>
   rw[List.getElem?_append_right (by simp[oY]; omega)];have O:(oY a).length=4:=rfl;rw[O,show(i+1)*4+c-4=i*4+c by omega,y i c (by simpa using h) D];simp
theorem F4(x:gS):∀v∈oY x,v.oneCell'=true:=by
 intro v y;simp[oY]at y;rcases y with rfl|rfl|rfl|rfl<;>rfl
theorem LW(l:List (Wd×Value)){x y:Wd}(e:y≠x):(l.filter λp=>p.1 != x).find? (λp=>p.1==y)=l.find? (λp=>p.1==y):=by
 induction l with
 |nil=>rfl
 |cons p l O=>
  rw[a5];by_cases D:p.1=x
  .rw[if_neg (by simpa using D),aA];have:(p.1==y)=false:=by simpa[D]using λh=>e h.symm
   rw[this];exact O
  .rw[if_pos (by simpa using D),aA,aA];split
   .rfl
   .exact O
theorem KE(l:List (Wd×Value))(x y:Wd)(v z:Value):pM (sJ l x v) y z=if y=x then v else pM l y z:=by
 by_cases e:y=x
 .subst e;rw[if_pos rfl];unfold pM sJ
  have:(l.filter λp=>p.1 != y).find? (λp=>p.1==y)=none:=by
   rw[aG];intro p D;have:=(a'.1 D).2;simpa using this
  rw[aI,this];simp
 .rw[if_neg e];unfold pM sJ
  have O:([(x,v)]:List (Wd×Value)).find? (λp=>p.1==y)=none:=by
   rw[aG];intro p D;simp only[aE]at D;subst D;simpa using λh=>e h.symm
  rw[aI,O,Option.or_none,LW l e]
theorem NY(l:List (Wd×Value))(x:Wd)(v:Value):(sJ l x v).length<=l.length+1:=by
 unfold sJ;rw[aF,List.length_singleton];have:=aB (λp:Wd×Value=>p.1 != x) l;omega
theorem jL.Th{P:Program}{k:TypeId}{w:World}{B r:Nat}{l rest O:List (Value×Value)}(h:jL P k w B r l rest)(U:rest.Perm O):jL P k w B r l O:=by
 obtain⟨a,b,D,left,cnt,W,Y,h3⟩:=h;exact⟨(U.map aN).nodup_iff.1 a,λp hm=>b p (U.mem_iff.2 hm),D,left,cnt,W,Y,λkey kl hk=>(h3 key kl hk).trans ⟨λ⟨p,x,y⟩=>⟨p,U.mem_iff.1 x,y⟩,λ⟨p,x,y⟩=>⟨p,U.mem_iff.2 x,y⟩⟩⟩
theorem Be{D y:Type}(f:D->y){l:List D}{p:y}{t:List y}(h:(l.map f).Perm (p::t)):∃m O,l.Perm (m::O)/\p=f m/\t.Perm (O.map f):=by
 obtain⟨m,hm,e⟩:=av.1 (h.mem_iff.2 (ay ..));obtain⟨a,b,rfl⟩:=az hm;refine⟨m,a++b,a1,e.symm,?_⟩
 have U:((a++m::b).map f).Perm (f m::(a++b).map f):=by
  rw[<-ax];exact a1.map f
 rw[<-e]at h;exact(aQ (h.symm.trans U))
abbrev Qm(w:World)(B:Nat)(ms:List oW):Prop:=mc prog 170 w B (ms.map oW.kv)
abbrev Ag(w:World)(B r:Nat)(ms y:List oW):Prop:=jL prog 170 w B r (ms.map oW.kv) (y.map oW.kv)
section
variable {B:Nat} {ms:List oW} (w:World) {ops:Array Oper} {rest:List Oper} {o:Oper} {a:Act} {Q:Exit->Act->World->Prop}
theorem tX(D:o.guard=none)(m:Operand)(y:o.op=Op.range 129 m)(hm:a.eval m=.map (some B))(h:Qm w B ms)
  (O:∀w',Ag w' B w.heap.size ms ms->w.grownBy w' none->w'.heap.size=w.heap.size+1->wpList prog ops Q rest (a.put o.dst (.pointer (some ⟨w.heap.size,0,none⟩))) w') :
  wpList prog ops Q (o::rest) a w:=
 B5 w D m 129 y 172 Ej underlying129 hm h O
theorem uU(hg:o.guard=none)(it:Operand)(U:o.op=Op.next it false)(r:Nat)(y:List oW)(W:a.eval it=.pointer (some ⟨r,0,none⟩))(h:Ag w B r ms y)
  (O:y=[]->wpList prog ops Q rest (a.put o.dst (.tuple #[.bool false])) w)
  (hMore:∀(m:oW)(D:List oW)(w':World),y.Perm (m::D)->Ag w' B r ms D->w'.rangeLeft B r<w.rangeLeft B r->w.grownBy w' (some r)->w'.heap.size=w.heap.size->(Instr.entry (.pointer (some ⟨r,0,none⟩))).run prog w'=.ok (.tuple #[Pj m.zf m.at',m.val]) w'->
    wpList prog ops Q rest (a.put o.dst (.tuple #[.bool true,Pj m.zf m.at',m.val])) w') :
  wpList prog ops Q (o::rest) a w:=by
 refine Eb w hg it U Ej r (y.map oW.kv) W h (λh0=>O (by simpa using h0)) ?_;intro p Y w' hp hr aa ab hs he;obtain⟨m,l',h1,rfl,h2⟩:=Be oW.kv hp;exact hMore m l' w' h1 (hr.Th h2) aa ab hs he
end
end
end Go.Proofs.YtocbogeoffeolaaGreatDoor
