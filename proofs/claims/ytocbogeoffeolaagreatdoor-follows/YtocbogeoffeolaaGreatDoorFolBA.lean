import Derived.Test.YtocbogeoffeolaaGreatDoorFolAY
import Derived.Test.YtocbogeoffeolaaGreatDoorFolAZ
set_option linter.unusedVariables false
set_option linter.unusedSimpArgs false
set_option maxHeartbeats 8000000
set_option maxRecDepth 1000000
open List renaming length_take->cc,mem_singleton->ch,length_cons->cp,mem_append->cs,getElem_mem->cx,all_eq_true->dd,eq_nil_of_length_eq_zero->dm,mem_filter->eaq,length_nil->ecq,getElem?_eq_none->eq,length->ex,filter_sublist->fb,size_toArray->ff,getD_eq_getElem?_getD->fr,pairwise_iff_getElem->fy,map_cons->fz,take_of_length_le->f',mem_map->fA,getElem?_drop->fB,filter_append->fC,mem_flatMap->fD,range_succ->fE,length_map->fF,sum_cons->fG,mem_cons->fH
open ByteArray renaming data_append->fI,size_append->fJ,ext->fK
open Nat renaming lt_of_lt_of_le->fL,le_refl->fM,le_trans->fN
open Go.RowKit renaming Hid->fO
open Go.World renaming cell?->fP,block_lt_of_cell?->fQ
open Go renaming maxLen->fR,info_parts->fS,cell_later->fT
open Go renaming undef->fU
namespace Go.Proofs.YtocbogeoffeolaaGreatDoor
open Go.Proofs.Tryz
section
open Go.RowKit
theorem BM(sc:Wd->Fr):∀(l:List Wd),l.Nodup->(∀x∈l,0<(sc x).2)->∃S:List Wd,S.Perm l/\S.Pairwise λx y=>nI sc x y=true
 |[],_,_=>⟨[],.refl _,.nil⟩
 |a::l,hn,hp=>by
  rw[List.nodup_cons]at hn
  obtain⟨S,h1,h2⟩:=BM sc l hn.2 λx O=>hp x (by simp[O])
  refine⟨S.filter (λx=>nI sc x a)++a::S.filter (λx=>!nI sc x a),?_,?_⟩
  .refine List.perm_middle.trans (List.Perm.cons a ?_);exact(List.filter_append_perm _ S).trans h1
  .have Y:∀x∈S,x≠a/\0<(sc x).2:=λx O=>⟨λe=>hn.1 (e▸h1.mem_iff.1 O),hp x (by simp[h1.mem_iff.1 O])⟩;have ha:=hp a (by simp);rw[List.pairwise_append,List.pairwise_cons];refine⟨h2.sublist fb,⟨λy U=>?_,h2.sublist fb⟩,λx O y U=>?_⟩
   .obtain⟨D,B⟩:=eaq.1 U;rcases rE sc a y with h|h|h
    .exact h
    .exact absurd h.symm (Y y D).1
    .rw[h]at B; cases B
   .obtain⟨aa,W⟩:=eaq.1 O;rcases fH.1 U with rfl|U
    .exact W
    .obtain⟨D,B⟩:=eaq.1 U
     have ab:nI sc a y=true:=by
      rcases rE sc a y with h|h|h
      .exact h
      .exact absurd h.symm (Y y D).1
      .rw[h]at B; cases B
     exact rH sc (Y x aa).2 ha (Y y D).2 W ab
section
variable (ts:List (List Wd)) (u v:Wd)
theorem IM(l:List Wd)(y:l.drop (l.length-2)=[u,v])(x:Wd):lg ts l x=lg ts [u,v] x:=by
 have B:2<=l.length:=by
  have:=congrArg ex y;simp at this;omega
 have D:l.getD (l.length-2) []=u:=by
  have:(l.drop (l.length-2))[0]?=some u:=by rw[y]; rfl
  rw[fB]at this;rw[fr];simp at this;rw[this]; rfl
 have O:l.getD (l.length-1) []=v:=by
  have:(l.drop (l.length-2))[1]?=some v:=by rw[y]; rfl
  rw[fB,show l.length-2+1=l.length-1 by omega]at this;rw[fr,this];rfl
 unfold lg SO Sy;rw[D,O];simp only[cp,ecq];simp[show 1<l.length by omega,show 0<l.length by omega]
theorem Er:∃S:List Wd,S.Perm (iA ts)/\S.Nodup/\(∀l most,l.drop (l.length-2)=[u,v]->kQ ts l most=S.take (min most (iA ts).length))/\
  ∀i j(hi:i<S.length)(W:j<S.length),i<j->0<iO ts [u,v,S[j]]->0<iO ts [u,v,S[i]]->iO ts [u,v,S[j]]<=iO ts [u,v,S[i]]:=by
 obtain⟨S,D,Y⟩:=BM (lg ts [u,v]) (iA ts) (jN ts).nodup λx B=>rl ts [u,v] x B;refine⟨S,D,D.nodup_iff.2 (jN ts).nodup,λl most hl=>?_,λi j hi W O c1 c2=>?_⟩
 .have e:∀x,lg ts l x=lg ts [u,v] x:=IM ts u v l hl;refine sM ts l most S (λx B=>rl ts l x B) D ?_;refine Y.imp fun {x y} h=>?_;unfold nI at h⊢;rw[e x,e y];exact h
 .have hb:=fy.1 Y i j hi W O
  have hbn:uW (lg ts [u,v] S[j]) (lg ts [u,v] S[i])=false:=by
   unfold nI at hb
   cases hg:uW (lg ts [u,v] S[j]) (lg ts [u,v] S[i])with
   |false=>rfl
   |true=>
    rw[hg]at hb;simp only[Bool.not_true,Bool.false_and,Bool.or_false]at hb;unfold uW at hb hg;simp only[decide_eq_true_eq]at hb hg;omega
  have e:∀x,0<iO ts [u,v,x]->lg ts [u,v] x=(iO ts [u,v,x],iO ts [u,v]):=λx B=>by
   unfold lg SO;simp only[cp,ecq];rw[if_pos ⟨by omega,B⟩];rfl
  rw[e _ c1,e _ c2]at hbn;unfold uW at hbn;have U:=rl ts [u,v] S[i] (D.mem_iff.1 (cx hi));rw[e _ c2]at U;simp only[decide_eq_false_iff_not,Nat.not_lt]at hbn;simp only at U hbn;exact Nat.le_of_mul_le_mul_right hbn U
end
end
section
open Go.RowKit
def uG(ws:List Wd):List Wd->Nat
 |[]=>0
 |a::A=>(if(a::A).take 3=ws then 1 else 0)+uG ws A
def jD(ts:List (List Wd)):List Wd:=ts.flatMap λt=>[]::t
theorem BU(ts:List (List Wd))(t:List Wd):jD (ts++[t])=jD ts++[]::t:=by simp[jD]
theorem Hh(ws:List Wd)(B:ws.length=3):∀(A:List Wd),((List.range A.length).filter (kJ A ws)).length=uG ws A:=by
 intro A
 induction A with
 |nil=>rfl
 |cons a A y=>
  rw[cp,List.range_succ_eq_map,List.filter_cons,List.filter_map,uG]
  have e:(kJ (a::A) ws ∘ Nat.succ)=kJ A ws:=by
   funext k;unfold kJ rO;simp
  rw[e]
  have D:kJ (a::A) ws 0=decide ((a::A).take 3=ws):=by
   unfold kJ rO;rw[B,List.drop_zero,f' (by omega:ws.length<=3)]
  rw[D];by_cases h:(a::A).take 3=ws
  .rw[if_pos (decide_eq_true h),if_pos h,cp,fF,y]; omega
  .rw[if_neg (λe=>h (of_decide_eq_true e)),if_neg h,fF,y]; omega
theorem xb(A ws:List Wd)(y:ws.length=3)(k:Nat)(B:A.length<k+3):kJ A ws k=false:=by
 unfold kJ rO;rw[decide_eq_false_iff_not];intro e;have:=congrArg ex e;rw[y]at this;simp only[cc,List.length_drop,y]at this;omega
theorem vw(A ws:List Wd)(y:ws.length=3):nj A ws=uG ws A:=by
 rw[<-Hh ws y A];unfold nj iY;rw[y];by_cases h:A.length<3
 .rw[show A.length+1-3=0 by omega];simp only[List.range_zero,List.filter_nil,ecq];symm;rw[List.length_eq_zero_iff,List.filter_eq_nil_iff];intro k _;rw[xb A ws y k (by omega)];simp
 .obtain⟨n,B⟩:∃n,A.length=n+2:=⟨A.length-2,by omega⟩;rw[B,show n+2+1-3=n by omega,fE,fE,fC,fC];have D:kJ A ws n=false:=xb A ws y n (by omega);have O:kJ A ws (n+1)=false:=xb A ws y (n+1) (by omega);simp[D,O]
theorem K5(ws:List Wd)(D:ws.length=3)(y : [] ∉ ws)(t:List Wd):∀B:List Wd,uG ws (B++[]::t)=uG ws B+uG ws t:=by
 intro B
 induction B with
 |nil=>
  rw[List.nil_append];show(if([]::t).take 3=ws then 1 else 0)+uG ws t=0+uG ws t;rw[if_neg (λe=>y (by rw[<-e]; simp))]
 |cons b B O=>
  rw[List.cons_append];show(if(b::(B++[]::t)).take 3=ws then 1 else 0)+uG ws (B++[]::t)=(if(b::B).take 3=ws then 1 else 0)+uG ws B+uG ws t;rw[O]
  have e:((b::(B++[]::t)).take 3=ws)↔((b::B).take 3=ws):=by
   match B with
   |[]=>
    constructor
    .intro e; exact absurd (by rw[<-e]; simp) y
    .intro e; have:=congrArg ex e; simp[D]at this
   |[c]=>
    constructor
    .intro e; exact absurd (by rw[<-e]; simp) y
    .intro e; have:=congrArg ex e; simp[D]at this
   |c::d::B=>simp
  by_cases h:(b::B).take 3=ws
  .rw[if_pos (e.2 h),if_pos h]; omega
  .rw[if_neg (λx=>h (e.1 x)),if_neg h]; omega
theorem Fb(ws:List Wd)(y:ws.length=3)(D : [] ∉ ws)(ts:List (List Wd)):nj (jD ts) ws=iO ts ws:=by
 have:∀(l:List (List Wd))(B:List Wd),uG ws (B++jD l)=uG ws B+iO l ws:=by
  intro l
  induction l with
  |nil=>intro B; simp[jD,iO]
  |cons t l O=>
   intro B;have e:B++jD (t::l)=(B++[]::t)++jD l:=by simp[jD]
   rw[e,O,K5 ws y D t B];have U:iO (t::l) ws=nj t ws+iO l ws:=by simp[iO]
   rw[U,vw t ws y];omega
 rw[vw _ ws y];have h:=this ts [];simpa[uG]using h
end
section
open Go.RowKit
def mO:List Wd->Wd
 |[]=>[]
 |[x]=>x
 |x::y::r=>x++32::mO (y::r)
theorem zC(x:Wd):∀ws:List Wd,ws≠[]->mO (ws++[x])=mO ws++32::x
 |[],h=>absurd rfl h
 |[a],_=>rfl
 |a::b::r,_=>by
  have h:=zC x (b::r) (by simp)
  show a++32::mO ((b::r)++[x])=(a++32::mO (b::r))++32::x;rw[h];simp
def idx:Nat->List (List Nat)
 |0=>[[]]
 |n+1=>(idx n).flatMap λl=>[0,1,2,3,4].map λk=>l++[k]
def LB(y:List Nat):Bool:=(jK (iD (mO (y.map iq)))==y.map iq)&&iX (mO (y.map iq)) && !(mO (y.map iq)).isEmpty&&decide ((mO (y.map iq)).length<=24)
theorem SG:(idx 1).all LB=true:=by kernel_rfl
theorem SK:(idx 2).all LB=true:=by kernel_rfl
theorem SN:(idx 3).all LB=true:=by kernel_rfl
theorem SR:(idx 4).all LB=true:=by kernel_rfl
def Rk(y:List Nat):Bool:=match y with
 |[i,j]=>(jK (iD (iq i++[32]++iq j))==[iq i,iq j])&&iX (iq i++[32]++iq j)&&(jK (iD ([122,122,32,45,32]++iq i++[33]++iq j++[32]))==[[122,122],iq i,iq j])&&iX ([122,122,32,45,32]++iq i++[33]++iq j++[32])
 |_=>true
theorem R7:(idx 2).all Rk=true:=by kernel_rfl
theorem Jt:∀(y:List Nat),(∀k∈y,k<5)->y∈idx y.length:=by
 intro y
 induction B:y.length generalizing y with
 |zero=>
  intro _;have:y=[]:=dm B;subst this;simp[idx]
 |succ n D=>
  intro h;obtain⟨l,k,rfl⟩:∃l k,y=l++[k]:=⟨y.dropLast,y.getLast (by intro e; rw[e]at B; simp at B),(List.dropLast_concat_getLast _).symm⟩;have O:l.length=n:=by simpa using B
  have U:=D l O (λx W=>h x (by simp[W]));show _∈(idx n).flatMap _;refine fD.2 ⟨l,U,fA.2 ⟨k,?_,rfl⟩⟩;have:=h k (by simp);simp;omega
theorem xe(y:List Nat)(h:∀k∈y,k<5)(B:1<=y.length)(D:y.length<=4):jK (iD (mO (y.map iq)))=y.map iq/\iX (mO (y.map iq))=true/\mO (y.map iq)≠[]/\(mO (y.map iq)).length<=24:=by
 have hm:=Jt y h
 have hg:LB y=true:=by
  rcases(by omega:y.length=1\/y.length=2\/y.length=3\/y.length=4)with e|e|e|e<;>rw[e]at hm
  .exact dd.1 SG y hm
  .exact dd.1 SK y hm
  .exact dd.1 SN y hm
  .exact dd.1 SR y hm
 unfold LB at hg;simp only[Bool.and_eq_true,beq_iff_eq,Bool.not_eq_true',List.isEmpty_eq_false_iff,decide_eq_true_eq]at hg;exact⟨hg.1.1.1,hg.1.1.2,hg.1.2,hg.2⟩
theorem Ik(i j:Nat)(hi:i<5)(y:j<5):(jK (iD (iq i++[32]++iq j))=[iq i,iq j]/\iX (iq i++[32]++iq j)=true)/\jK (iD ([122,122,32,45,32]++iq i++[33]++iq j++[32]))=[[122,122],iq i,iq j]/\iX ([122,122,32,45,32]++iq i++[33]++iq j++[32])=true:=by
 have hm:=Jt [i,j] (by simp; omega);have hg:=dd.1 R7 [i,j] hm;unfold Rk at hg;simp only[Bool.and_eq_true,beq_iff_eq]at hg;exact⟨⟨hg.1.1.1,hg.1.1.2⟩,hg.1.2,hg.2⟩
end
section
open Go.Conc Go.RowKit Go.Maps
theorem PJ.stay{w w':World}{F1 F2:Nat->Prop}{b:Nat}{buf:List gS}{ss:List (List gS)}{ts:List (List Wd)}(h:PJ w F1 F2 b buf ss ts)(D:w.heap.size<=w'.heap.size)(hb:∀k,F1 k\/F2 k->w'.heap[k]?=w.heap[k]?):PJ w' F1 F2 b buf ss ts:=by
 obtain⟨O,U,W,Y,vS,B,n,vK,kn,h4,h5⟩:=h;exact⟨λk y=>fL (O k y) D,λk y=>fL (U k y) D,W,Y,vS,B,n,vK,kn,h4.stay λk y=>hb k (.inl y),h5.stay λk y=>hb k (.inr y)⟩
structure KB(y0 w:World)(F1 F2:Nat->Prop)(v:Value)(xs:List Wd):Prop where
 own:w.ownsRow y0.heap.size 9 1 v xs.length (gQ xs)
 KQ:∀g,v.ownBlock=some g->¬F1 g/\¬F2 g
section
variable {y0 w w':World} {F1 F2:Nat->Prop} {b:Nat} {buf:List gS} {ss:List (List gS)} {ts:List (List Wd)} {v v':Value} {xs ys:List Wd}
theorem KB.step{D O:Nat->Prop}(h:KB y0 w F1 F2 v xs)(st:St w w' F1 F2 D O):KB y0 w' D O v xs:=by
 have B:∀g,v.ownBlock=some g->g<w.heap.size:=λg y=>(h.own.lt g y).2;refine⟨iB h.own λg y=>st.block g (B g y) (h.KQ g y).1 (h.KQ g y).2,λg y=>⟨λW=>?_,λW=>?_⟩⟩
 .rcases st.f1 g W with U|U
  .exact(h.KQ g y).1 U
  .have:=B g y; omega
 .rcases st.f2 g W with U|U
  .exact(h.KQ g y).2 U
  .have:=B g y; omega
theorem KB.low(h:KB y0 w F1 F2 v xs)(y:rz w w'):KB y0 w' F1 F2 v xs:=h.step (St.same y)
theorem AW.app(h:AW y0 w F1 F2 b buf ss ts){row:Option Nat}(y:w.grownBy w' row)(D:∀g,row=some g->(¬F1 g/\¬F2 g)/\y0.heap.size<=g):AW y0 w' F1 F2 b buf ss ts:=by
 refine⟨h.j.stay y.size λk B=>y.block k (B.elim (h.j.T1 k) (h.j.T6 k)) λe=>?_,h.T9,h.Rl,⟨y.os.trans h.low.os,fN h.low.size y.size,λk B=>(y.block k (fL B h.low.size) λe=>?_).trans (h.low.block k B)⟩⟩
 .have:=D k e.symm;exact B.elim this.1.1 this.1.2
 .have:=(D k e.symm).2;omega
theorem KB.app(h:AW y0 w F1 F2 b buf ss ts)(D:KB y0 w F1 F2 v xs){n:Nat}(O:w'.ownsRow y0.heap.size 9 1 v' n (gQ ys))(U:n=ys.length)(W:v'.ownBlock=v.ownBlock\/∃g,v'.ownBlock=some g/\w.heap.size<=g):KB y0 w' F1 F2 v' ys:=by
 subst U;refine⟨O,λg y=>?_⟩;rcases W with e|⟨g',e,Y⟩
 .exact D.KQ g (e▸y)
 .rw[e]at y;cases y;exact⟨λB=>by have:=h.j.T1 g B; omega,λB=>by have:=h.j.T6 g B; omega⟩
theorem KB.row(y:KB y0 w F1 F2 v xs):∀g,v.ownBlock=some g->(¬F1 g/\¬F2 g)/\y0.heap.size<=g:=λg B=>⟨y.KQ g B,(y.own.lt g B).1⟩
end
end
section
open Go.Conc Go.RowKit Go.Maps
variable {qa qb:Int} {ts:List (List Wd)} {m:Nat}
theorem I8:f32.name≠ "runtime.NumGoroutine":=by
 have:f32.name = "hint/hintkeep.awake":=by kernel_rfl
 rw[this];decide
section
variable {Z:ob prog} {W0:World} {Mp:Nat->Prop} {fn:FuncId} {tm:Array Value} {os:List OF} {wl:World} {V:List (Nat×Option (List Value))} {k:List Item}
theorem kA{c:Code}(y:mM (λo=>Ke prog wG tP true o.op) c=true)(B:k.all nz=true)(h:∀y0:World,y0.heap=wl.heap->y0.os=wl.os->c.wp prog (Mj (mC Z W0 Mp) fn k os V) ⟨tm,[]⟩ y0):gP (mC Z W0 Mp) (⟨fn,tm,.code c::k⟩::os) wl V:=
 gP.JG (qS y) B (.inr λ_ h=>by cases h) λτ _=>h (tp wl τ) rfl rfl
end
structure QH(w:World)(ra:Option Addr)(rs:List Int):Prop where
 cell:∀j(h:j<rs.length),∃b off,ra=some ⟨b,off,none⟩/\w.cell? ⟨b,off+j,none⟩=some (.int .i64 rs[j])
 lo:∀x∈rs,-9223372036854775808<=x
 hi:∀x∈rs,x<=9223372036854775807
structure M3(ts:List (List Wd))(m:Nat):Prop where
 len:ts.length<=m
 each:∀t∈ts,∃ks:List Nat,(∀k∈ks,k<5)/\ks.length<=4/\t=ks.map iq
theorem Ab(k:Nat):iq k≠[]:=by unfold iq; split<;>simp
theorem rB(h:M3 ts m):(iA ts).length<=5:=by
 have D:∀x∈iA ts,x∈[iq 0,iq 1,iq 2,iq 3,iq 4]:=λx O=>by
  obtain⟨t,U,y⟩:=(lc ts x).1 O;obtain⟨ks,B,_,rfl⟩:=h.each t U;obtain⟨k,W,rfl⟩:=fA.1 y;have:=B k W;rcases(by omega:k=0\/k=1\/k=2\/k=3\/k=4)with rfl|rfl|rfl|rfl|rfl<;>simp
 have Y:=(jN ts).nodup
 have hp:(([iq 0,iq 1,iq 2,iq 3,iq 4]:List Wd).filter λx=>decide (x∈iA ts)).Perm (iA ts):=by
  rw[List.perm_ext_iff_of_nodup (List.Nodup.sublist fb (by decide)) Y];intro x;rw[eaq];exact⟨λh=>of_decide_eq_true h.2,λh=>⟨D x h,decide_eq_true h⟩⟩
 have B:=hp.length_eq;have h2:=List.length_filter_le (λx=>decide (x∈iA ts)) ([iq 0,iq 1,iq 2,iq 3,iq 4]:List Wd);have h3:([iq 0,iq 1,iq 2,iq 3,iq 4]:List Wd).length=5:=rfl;omega
theorem vu(h:M3 ts m):jE ts<=5*ts.length:=by
 have:∀l:List (List Wd),(∀t∈l,t.length<=4)->jE l<=5*l.length:=by
  intro l
  induction l with
  |nil=>intro _; simp[jE]
  |cons t l D=>
   intro y;have W:=y t (by simp);have B:=D λx O=>y x (by simp[O]);simp only[jE,fz,fG,cp]at *;omega
 refine this ts λt U=>?_;obtain⟨Y,_,B,rfl⟩:=h.each t U;simpa using B
theorem DH(h:M3 ts m):(jD ts).length<=5*ts.length:=by
 have e:∀l:List (List Wd),(jD l).length=jE l:=by
  intro l
  induction l with
  |nil=>rfl
  |cons t l y=>simp only[jD,List.flatMap_cons,List.length_append,cp,jE,fz,fG]at *; omega
 rw[e];exact vu h
def Rc(c:Code):Code:=match c with
 |.seq _ (.seq _ (.seq _ (.seq _ (.seq _ (.seq _ y)))))=>y
 |_=>.skip
def RQ(c:Code):Code:=match c with
 |.seq _ (.seq _ (.seq _ (.seq _ (.seq _ y))))=>y
 |_=>.skip
def I1(Z:ob prog)(W0:World)(Mp:Nat->Prop)(F:World->Prop):Prop:=∀(w:World)(ts:List (List Wd))(u v:Wd)(S M:List Wd)(ag al am:Option Addr)(cg cl cm:Nat)(a0 a1 a2 a3 a4 a5 a6 a7 a8 df dg dh di dj dk dl dn dp dq dr dt du dv dw dx dy dz d' dA dB dC dD dE dF dG dH dI dJ dK dL dM dN dO dP dQ dR dS dT dU dV dW dX dY dZ ed ee ef eg eh ei ej ek en eo ep er es et eu ev ew ey ez e0 e1 e2 e3 e4 e5 e6 e7 e8 e9 e' eA eB eC eD eE eF eG eH eI eJ eK y B D O U W Y aa ab ac ad ae af ah ai aj ak an ao ap aq ar au av aw ax ay az a9 a' aA aB aC aD aE aF aG aH aI aJ aK aL aM aN aO aP aQ aR aS aT aU aV aW aX aY aZ ba bc bd be bf bg bh bi bj bk bl bm bn bo bp bq br bs bt bu bv bw bx bz b0 b1 b2 b3 b4 b5 b6 b7 b8 b9 b' bA bB bC bD bE bF bG bH bI bJ bK bL bM bN bO bP bQ bR bS bT bU bV bW bX bY bZ ca cb cd ce cf ci cj ck cn cq cr ct cu cv cw cy cz c6 c7 c8 c9 c' cA cB cC cD cE cF cG cH cI cJ cK cL cM cN cO cP cQ cR cS cT cU cV cW cX cY cZ da db dc de:Value),pA w 1 (.slice ag (jD ts).length cg) (jD ts).length (gQ (jD ts))->pA w 1 (.slice al S.length cl) S.length (gQ S)->pA w 1 (.slice am M.length cm) M.length (gQ M)->
 M3 ts 15->S.Perm (iA ts)->M=S.take (min 2 S.length)->u≠[]->v≠[]->(∀i j(hi:i<S.length)(hj:j<S.length),i<j->0<iO ts [u,v,S[j]]->0<iO ts [u,v,S[i]]->iO ts [u,v,S[j]]<=iO ts [u,v,S[i]])->F w->
 gP (mC Z W0 Mp) [⟨10,#[a0,a1,a2,a3,a4,a5,a6,a7,a8,.slice ag (jD ts).length cg,df,dg,dh,di,dj,.string ⟨u.toArray⟩,.string ⟨v.toArray⟩,.slice al S.length cl,dk,.slice am M.length cm,dl,dn,dp,dq,dr,dt,du,dv,dw,dx,dy,dz,d',dA,dB,dC,dD,dE,dF,dG,dH,dI,dJ,dK,dL,dM,dN,dO,dP,dQ,dR,dS,dT,dU,dV,dW,dX,dY,dZ,ed,ee,ef,eg,eh,ei,ej,ek,en,eo,ep,er,es,et,eu,ev,ew,ey,ez,e0,e1,e2,e3,e4,e5,e6,e7,e8,e9,e',eA,eB,eC,eD,eE,eF,eG,eH,eI,eJ,eK,y,B,D,O,U,W,Y,aa,ab,ac,ad,ae,af,ah,ai,aj,ak,an,ao,ap,aq,ar,au,av,aw,ax,ay,az,a9,a',aA,aB,aC,aD,aE,aF,aG,aH,aI,aJ,aK,aL,aM,aN,aO,aP,aQ,aR,aS,aT,aU,aV,aW,aX,aY,aZ,ba,bc,bd,be,bf,bg,bh,bi,bj,bk,bl,bm,bn,bo,bp,bq,br,bs,bt,bu,bv,bw,bx,bz,b0,b1,b2,b3,b4,b5,b6,b7,b8,b9,b',bA,bB,bC,bD,bE,bF,bG,bH,bI,bJ,bK,bL,bM,bN,bO,bP,bQ,bR,bS,bT,bU,bV,bW,bX,bY,bZ,ca,cb,cd,ce,cf,ci,cj,ck,cn,cq,cr,ct,cu,cv,cw,cy,cz,c6,c7,c8,c9,c',cA,cB,cC,cD,cE,cF,cG,cH,cI,cJ,cK,cL,cM,cN,cO,cP,cQ,cR,cS,cT,cU,cV,cW,cX,cY,cZ,da,db,dc,de],[.code (RQ (Rc (jc Tryz.f10)))]⟩] w []
section
variable {Z:ob prog} {W0:World} {Mp:Nat->Prop}
theorem vr{F:World->Prop}{y0 w:World}{F1 F2:Nat->Prop}{b:Nat}{ag:Option Addr}{na cg:Nat}{a0 a3 a4 a5 a6 a7 dE dF dG dH dI dJ dK dL dM dN dO dP dQ dR dS dT dU dV dW dX dY dZ ed ee ef eg eh ei ej ek en eo ep er es et eu ev ew ey ez e0 e4 e5 e6 e7 e8 e9 e' eA eB eC eD eE eF eG eH eI eJ eK eL eM eN eO eP eQ eR eS eT eU eV eW eX eY eZ fa fc fd fe fg fh fi fj fk fl fm fo fp fq fs ar au av aw ax ay az a1 a2 a8 a9 a' aA aB aC aD aE aF aG aH aI aJ aK aL aM aN aO aP aQ aR aS aT aU aV aW aX aY aZ ba bc bd be bf bg bh bi bj bk bl bm bn bo bp bq br bs bt bu bv bw bx bz b0 b1 b2 b3 b4 b5 b6 b7 b8 b9 b' bA bB bC bD bE bF bG bH bI bJ bK bL bM bN bO bP bQ bR bS bT bU bV bW bX bY bZ ca cb cd ce cf ci cj ck cm cn cq cr ct cu cv cw cy cz c6 c7 c8 c9 c' cA cB cC cD cE cF cG cH cI cJ cK cL cM cN cO cP cQ cR cS cT cU cV cW cX cY cZ da db dc de df dg dh di dj dk dl dn dp dq dr dt du dv dw dx dy:Value}(hF:∀w',rz y0 w'->F w')(W:I1 Z W0 Mp F)(hW:∀y,rz y0 y->Jd y)(hA:AW y0 w F1 F2 b [] [] ts)(hK:KB y0 w F1 F2 (.slice ag na cg) (jD ts))(ah:na=(jD ts).length)(ai:M3 ts 15)(dz : -9223372036854775808<=qa)(d':qa<=9223372036854775807)(dA : -9223372036854775808<=qb)(dB:qb<=9223372036854775807) :
  gP (mC Z W0 Mp) [⟨10,#[a0,.int .i64 qa,.int .i64 qb,a3,a4,a5,a6,a7,.pointer (some ⟨b,0,none⟩),.slice ag na cg,dE,dF,dG,dH,dI,dJ,dK,dL,dM,dN,dO,dP,dQ,dR,dS,dT,dU,dV,dW,dX,dY,dZ,ed,ee,ef,eg,eh,ei,ej,ek,en,eo,ep,er,es,et,eu,ev,ew,ey,ez,e0,e4,e5,e6,e7,e8,e9,e',eA,eB,eC,eD,eE,eF,eG,eH,eI,eJ,eK,eL,eM,eN,eO,eP,eQ,eR,eS,eT,eU,eV,eW,eX,eY,eZ,fa,fc,fd,fe,fg,fh,fi,fj,fk,fl,fm,fo,fp,fq,fs,ar,au,av,aw,ax,ay,az,a1,a2,a8,a9,a',aA,aB,aC,aD,aE,aF,aG,aH,aI,aJ,aK,aL,aM,aN,aO,aP,aQ,aR,aS,aT,aU,aV,aW,aX,aY,aZ,ba,bc,bd,be,bf,bg,bh,bi,bj,bk,bl,bm,bn,bo,bp,bq,br,bs,bt,bu,bv,bw,bx,bz,b0,b1,b2,b3,b4,b5,b6,b7,b8,b9,b',bA,bB,bC,bD,bE,bF,bG,bH,bI,bJ,bK,bL,bM,bN,bO,bP,bQ,bR,bS,bT,bU,bV,bW,bX,bY,bZ,ca,cb,cd,ce,cf,ci,cj,ck,cm,cn,cq,cr,ct,cu,cv,cw,cy,cz,c6,c7,c8,c9,c',cA,cB,cC,cD,cE,cF,cG,cH,cI,cJ,cK,cL,cM,cN,cO,cP,cQ,cR,cS,cT,cU,cV,cW,cX,cY,cZ,da,db,dc,de,df,dg,dh,di,dj,dk,dl,dn,dp,dq,dr,dt,du,dv,dw,dx,dy],[.code (Rc (jc Tryz.f10))]⟩] w []:=by
 have HX:fO _:=And.intro hF (And.intro W (And.intro hW (And.intro ai ah)));have HA:fO _:=hA;have D:fO _:=hK;have HQ:fO _:=And.intro dz (And.intro d' (And.intro dA dB));clear hF W hW ai hA hK ah dz d' dA dB;show gP _ [⟨_,_,[.code (.seq (.region 22 _ false) (.seq (.region 23 _ false) (.seq (.region 24 _ false) (.seq (.region 25 _ false) (.seq (.seq (.region 26 _ false) (.cond _ _ .skip)) _)))))]⟩] _ _;refine gP.seq ?_;refine gZ λkk O=>?_;have Y:fO _:=O;clear O;refine kA (by kernel_rfl) (by rw[Y.out]; rfl) λy hy U=>?_;have B:=kz hy U;have C:=wT qa y HQ.out.1 HQ.out.2.1;have HA:fO _:=HA.out.same B;have D:fO _:=D.out.low B;clear hy U B;go_wp2_with fail;refine C.mono ?_;clear C;rintro e w1 ⟨rfl,hb⟩;have HA:fO _:=HA.out.same (.of hb);have D:fO _:=D.out.low (.of hb);clear hb;go_wp2;refine im ?_;rw[Y.out];clear Y kk;refine gP.seq ?_;refine gZ λkk O=>?_;have Y:fO _:=O;clear O;refine kA (by kernel_rfl) (by rw[Y.out]; rfl) λy hy U=>?_;have B:=kz hy U;have C:=wT qb y HQ.out.2.2.1 HQ.out.2.2.2;have HA:fO _:=HA.out.same B;have D:fO _:=D.out.low B;clear hy U B;go_wp2_with fail;refine C.mono ?_;clear C;rintro e w2 ⟨rfl,hb⟩;have HA:fO _:=HA.out.same (.of hb);have D:fO _:=D.out.low (.of hb);clear hb;go_wp2;refine im ?_;rw[Y.out];clear Y kk;obtain⟨S,ae,ft,an,aj⟩:=Er ts (ml qa) (ml qb);have hq:=Ik (pk qa 5) (pk qb 5) (xW _ _ (by omega)) (xW _ _ (by omega));have ao:=rB HX.out.2.2.2.1;have ak:S.length=(iA ts).length:=ae.length_eq;obtain⟨ub,aa⟩:∃ub:ByteArray,ub=⟨(ml qa).toArray⟩:=⟨_,rfl⟩;obtain⟨vb,ab⟩:∃vb:ByteArray,vb=⟨(ml qb).toArray⟩:=⟨_,rfl⟩
 have fv:ub.size<=3:=by
  rw[aa];show(ml qa).toArray.size<=3;rw[ff];unfold ml iq;split<;>simp
 have fw:vb.size<=3:=by
  rw[ab];show(ml qb).toArray.size<=3;rw[ff];unfold ml iq;split<;>simp
 have ap:tf ts (ub++⟨#[32]⟩++vb).data.toList 20=(S,0):=by
  have e:(ub++⟨#[32]⟩++vb).data.toList=iq (pk qa 5)++[32]++iq (pk qb 5):=by rw[aa,ab]; simp[fI,ml]
  rw[e];unfold tf;rw[if_neg (by omega),if_pos hq.1.2,hq.1.1,an _ _ rfl];rw[show(20:Int).toNat=20 from rfl,f' (by omega)]
 have am:tf ts (⟨#[122,122,32,45,32]⟩++ub++⟨#[33]⟩++vb++⟨#[32]⟩).data.toList 2=(S.take (min 2 S.length),0):=by
  have e:(⟨#[122,122,32,45,32]⟩++ub++⟨#[33]⟩++vb++⟨#[32]⟩:ByteArray).data.toList=[122,122,32,45,32]++iq (pk qa 5)++[33]++iq (pk qb 5)++[32]:=by rw[aa,ab]; simp[fI,ml]
  rw[e];unfold tf;rw[if_neg (by omega),if_pos hq.2.2,hq.2.1,an _ _ rfl,ak];rfl
 obtain⟨M,hM⟩:∃M,M=S.take (min 2 S.length):=⟨_,rfl⟩;rw[<-hM]at am;have fx:M.length<=2:=by rw[hM,cc]; omega
 rw[<-aa,<-ab];have HS:fO _:=And.intro ae (And.intro aj (And.intro ap (And.intro am (And.intro aa (And.intro ab (And.intro ao (And.intro ak hM)))))));have fu:S.length<=5:=by omega
 clear ae ft an aj ap am hq aa ab hM ao ak;have k1:¬9223372036854775807<ub.size+1:=by omega
 have k2:¬9223372036854775807<ub.size+1+vb.size:=by omega
 have k3:¬9223372036854775807<5+ub.size:=by omega
 have k4:¬9223372036854775807<5+ub.size+1:=by omega
 have k5:¬9223372036854775807<5+ub.size+1+vb.size:=by omega
 have k6:¬9223372036854775807<5+ub.size+1+vb.size+1:=by omega
 refine gP.seq ?_;refine gZ λkk O=>?_;have Y:fO _:=O;clear O;refine kA (by kernel_rfl) (by rw[Y.out]; rfl) λy hy U=>?_;have B:=kz hy U;have ac:=HA.out.same B;have C:=ac.Eo (HX.out.2.2.1 y ac.low) (ub++⟨#[32]⟩++vb) 20 (by have:=vu HX.out.2.2.2.1; have:=HX.out.2.2.2.1.len; omega) (by have e1:(⟨#[122,122,32,45,32]⟩:ByteArray).size=5:=rfl; have e2:(⟨#[33]⟩:ByteArray).size=1:=rfl; have e3:(⟨#[32]⟩:ByteArray).size=1:=rfl; simp only[fJ,e1,e2,e3]; unfold fR; omega);rw[HS.out.2.2.1]at C;have D:fO _:=D.out.low B;clear hy U B ac;go_wp2_with fail;refine C.mono ?_;clear C;rintro e w3 ⟨l,rfl,hk,af,ad⟩;have HA:fO _:=af;have D:fO _:=D.out.low ad;obtain⟨al,cl,aq,_⟩:=ib hk.1;subst aq;have KL:fO (Kept _ _ _ _ _):=hk;clear hk af ad;go_wp2;refine im ?_;rw[Y.out];clear Y kk;refine gP.seq ?_;refine gZ λkk O=>?_;have Y:fO _:=O;clear O;refine kA (by kernel_rfl) (by rw[Y.out]; rfl) λy hy U=>?_;have B:=kz hy U;have ac:=HA.out.same B;have C:=ac.Eo (HX.out.2.2.1 y ac.low) (⟨#[122,122,32,45,32]⟩++ub++⟨#[33]⟩++vb++⟨#[32]⟩) 2 (by have:=vu HX.out.2.2.2.1; have:=HX.out.2.2.2.1.len; omega) (by have e1:(⟨#[122,122,32,45,32]⟩:ByteArray).size=5:=rfl; have e2:(⟨#[33]⟩:ByteArray).size=1:=rfl; have e3:(⟨#[32]⟩:ByteArray).size=1:=rfl; simp only[fJ,e1,e2,e3]; unfold fR; omega);rw[HS.out.2.2.2.1]at C;have D:fO _:=D.out.low B;have KL:fO (Kept y F1 F2 (.slice al S.length cl) S):=KL.out.step (St.same B);clear hy U B ac;go_wp2_with fail;refine C.mono ?_;clear C;rintro e w4 ⟨mm,rfl,hk,af,ad⟩;have HA:fO _:=af;have D:fO _:=D.out.low ad;have KL:fO (Kept w4 F1 F2 (.slice al S.length cl) S):=KL.out.step (St.same ad);obtain⟨dC,dD,aq,_⟩:=ib hk.1;subst aq;have KM:fO (Kept _ _ _ _ _):=hk;clear hk af ad;go_wp2;refine im ?_;rw[Y.out];clear Y kk;refine gP.seq (gP.seq ?_);refine gZ λkk O=>?_;have Y:fO _:=O;clear O;refine kA (by kernel_rfl) (by rw[Y.out]; rfl) λy hy U=>?_;have B:=kz hy U;have HA:fO _:=HA.out.same B;have D:fO _:=D.out.low B;have KL:fO (Kept y F1 F2 (.slice al S.length cl) S):=KL.out.step (St.same B);have KM:fO (Kept y F1 F2 (.slice dC M.length dD) M):=KM.out.step (St.same B);clear hy U B;have h5:¬((5:Int)<(S.length:Int)):=by omega
 go_wp2;refine im ?_;rw[Y.out];clear Y kk;refine gP.sH trivial rfl (gP.skip ?_);obtain⟨ae,aj,ap,am,aa,ab,ao,ak,hM⟩:=HS.out;obtain⟨hF,W,hW,ai,ah⟩:=HX.out;subst aa ab ah;exact W y ts (ml qa) (ml qb) S M ag al dC cg cl dD _ _ _ _ _ _ _ _ _ _ _ _ _ _ _ _ _ _ _ _ _ _ _ _ _ _ _ _ _ _ _ _ _ _ _ _ _ _ _ _ _ _ _ _ _ _ _ _ _ _ _ _ _ _ _ _ _ _ _ _ _ _ _ _ _ _ _ _ _ _ _ _ _ _ _ _ _ _ _ _ _ _ _ _ _ _ _ _ _ _ _ _ _ _ _ _ _ _ _ _ _ _ _ _ _ _ _ _ _ _ _ _ _ _ _ _ _ _ _ _ _ _ _ _ _ _ _ _ _ _ _ _ _ _ _ _ _ _ _ _ _ _ _ _ _ _ _ _ _ _ _ _ _ _ _ _ _ _ _ _ _ _ _ _ _ _ _ _ _ _ _ _ _ _ _ _ _ _ _ _ _ _ _ _ _ _ _ _ _ _ _ _ _ _ _ _ _ _ _ _ _ _ _ _ _ _ _ _ _ _ _ _ _ _ _ _ _ _ _ _ _ _ _ _ _ _ _ _ _ _ _ _ _ _ _ _ _ _ _ _ _ _ _ _ _ _ _ _ _ _ _ _ _ _ _ _ _ _ _ _ _ _ _ _ (pA.lr D.out.own) (pA.lr KL.out.1) (pA.lr KM.out.1) ai ae hM (Ab _) (Ab _) aj (hF y HA.out.low)
end
section
variable {Z:ob prog} {W0:World} {Mp:Nat->Prop} {wl:World}
theorem DX{ra:Option Addr}{rs:List Int}{rc:Nat}(hW:Jd wl)(h5:5<=wl.heap.size)(hR:QH wl ra rs)(aK:rs.length<=rc)(aq:rs.length<=9223372036854775807)(aZ : -9223372036854775808<=qa)(ba:qa<=9223372036854775807)(bc : -9223372036854775808<=qb)(bd:qb<=9223372036854775807)
  (hn:I1 Z W0 Mp λw=>rz wl w) :
  gP (mC Z W0 Mp) [⟨10,#[.slice ra rs.length rc,.int .i64 qa,.int .i64 qb,fU,fU,fU,fU,fU,fU,fU,fU,fU,fU,fU,fU,fU,fU,fU,fU,fU,fU,fU,fU,fU,fU,fU,fU,fU,fU,fU,fU,fU,fU,fU,fU,fU,fU,fU,fU,fU,fU,fU,fU,fU,fU,fU,fU,fU,fU,fU,fU,fU,fU,fU,fU,fU,fU,fU,fU,fU,fU,fU,fU,fU,fU,fU,fU,fU,fU,fU,fU,fU,fU,fU,fU,fU,fU,fU,fU,fU,fU,fU,fU,fU,fU,fU,fU,fU,fU,fU,fU,fU,fU,fU,fU,fU,fU,fU,fU,fU,fU,fU,fU,fU,fU,fU,fU,fU,fU,fU,fU,fU,fU,fU,fU,fU,fU,fU,fU,fU,fU,fU,fU,fU,fU,fU,fU,fU,fU,fU,fU,fU,fU,fU,fU,fU,fU,fU,fU,fU,fU,fU,fU,fU,fU,fU,fU,fU,fU,fU,fU,fU,fU,fU,fU,fU,fU,fU,fU,fU,fU,fU,fU,fU,fU,fU,fU,fU,fU,fU,fU,fU,fU,fU,fU,fU,fU,fU,fU,fU,fU,fU,fU,fU,fU,fU,fU,fU,fU,fU,fU,fU,fU,fU,fU,fU,fU,fU,fU,fU,fU,fU,fU,fU,fU,fU,fU,fU,fU,fU,fU,fU,fU,fU,fU,fU,fU,fU,fU,fU,fU,fU,fU,fU,fU,fU,fU,fU,fU,fU,fU,fU,fU,fU,fU,fU,fU,fU,fU,fU,fU,fU,fU,fU,fU,fU,fU,fU,fU,fU,fU,fU,fU,fU,fU,fU,fU,fU,fU,fU,fU,fU,fU,fU,fU,fU,fU,fU,fU],[.code (jc Tryz.f10)]⟩] wl []:=by
 have HN:fO _:=And.intro hW (And.intro h5 (And.intro hR (And.intro aK (And.intro aq (And.intro aZ (And.intro ba (And.intro bc (And.intro bd hn))))))));clear hW h5 hR aK aq aZ ba bc bd hn;show gP _ [⟨_,_,[.code (.seq (.region 0 _ false) (.seq (.region 1 _ false) (.seq (.region 2 _ false) (.seq (.seq (.region 3 _ false) (.cond _ _ .skip)) (.seq (.region 5 _ false) (.seq (.seq (.region 6 _ false) (.block 0 _)) _))))))]⟩] _ _;refine gP.seq ?_;refine gZ λkk B=>?_;have HK:fO _:=B;clear B;refine gP.region ?_
 (refine jn rfl (by rfl) (by kernel_rfl) λτ=>?_; unfold jh; go_simp; simp only[ik]; refine gP.ij τ ?_);refine gP.inRegion ?_;rw[HK.out];clear HK kk;refine gP.seq ?_;refine gZ λkk B=>?_;have HK:fO _:=B;clear B;refine gP.region ?_;refine gP.uk (#[fU,fU,fU,fU,fU,fU,fU,fU,fU,fU,fU,fU,fU,fU,fU,fU,fU,fU,fU,fU,fU,fU,fU,fU,fU,fU,fU,fU,fU,fU,fU,fU,fU,fU,fU,fU,fU,fU,fU,fU,fU,fU,fU,fU,fU,fU,fU,fU,fU,fU,fU,fU,fU,fU,fU,fU,fU,fU,fU,fU,fU,fU,fU,fU,fU,fU,fU,fU,fU,fU,fU,fU,fU,fU,fU,fU,fU,fU,fU,fU,fU,fU,fU,fU,fU,fU,fU,fU,fU,fU,fU,fU,fU,fU,fU,fU,fU,fU,fU,fU,fU,fU,fU,fU,fU,fU,fU,fU,fU,fU,fU,fU,fU,fU,fU,fU,fU,fU,fU,fU,fU,fU,fU,fU,fU,fU,fU,fU,fU,fU,fU,fU,fU,fU,fU,fU,fU,fU,fU,fU,fU,fU,fU,fU,fU,fU,fU,fU,fU,fU,fU,fU,fU,fU]:Array Value) (i:=0) (jZ:=f32) (c:=jc f32) rfl rfl func32 (by kernel_rfl) I8 rfl (by simp[iH]) (by kernel_rfl) ?_;refine IQ rfl HN.out.1 HN.out.2.1 λw1 ar=>?_;have bo:fO (rz _ _):=ar;clear ar;rw[lR];go_simp
 (refine jn rfl (by rfl) (by kernel_rfl) λτ=>?_; unfold jh; go_simp; simp only[ik]; refine gP.ij τ ?_);refine gP.inRegion ?_;rw[HK.out];clear HK kk;refine gP.seq ?_;refine gZ λkk B=>?_;have HK:fO _:=B;clear B;refine kA (by kernel_rfl) (by rw[HK.out]; rfl) λy0 be aH=>?_;have C:=SM y0;have HL:fO (rz wl y0):=bo.out.trans (kz be aH);clear be aH;go_wp2_with fail;refine C.mono ?_;clear C;rintro e w2 ⟨b,F1,F2,rfl,hA,hb⟩;have HA:fO (AW _ _ _ _ _ _ _ _):=hA;clear hA hb;go_wp2;refine im ?_;rw[HK.out];clear HK kk;refine gP.seq (gP.seq ?_);refine gZ λkk B=>?_;have HK:fO _:=B;clear B;refine kA (by kernel_rfl) (by rw[HK.out]; rfl) λy1 ad aI=>?_;have bp:fO (rz w2 y1):=kz ad aI;clear ad aI;go_wp2;refine im ?_;rw[HK.out];clear HK kk;refine gP.sH trivial rfl (gP.skip (gP.seq ?_));refine gZ λkk B=>?_;have HK:fO _:=B;clear B;refine gP.region ?_
 (refine jn rfl (by rfl) (by kernel_rfl) λτ=>?_; unfold jh; go_simp; simp only[ik]; refine gP.ij τ ?_);refine gP.inRegion ?_;rw[HK.out];clear HK kk;have HA:fO (AW y0 y1 F1 F2 b [] [] []):=HA.out.same bp.out;refine gP.seq ?_;refine gZ λkk B=>?_;have HK:fO _:=B;clear B;refine kA (by kernel_rfl) (by rw[HK.out]; rfl) λy2 ae aJ=>?_;have HA:fO (AW y0 y2 F1 F2 b [] [] []):=HA.out.same (kz ae aJ)
 have HR:fO (∀y:World,rz y0 y->QH y ra rs):=λy hl=>by
  have hR:=HN.out.2.2.1;have bq:=HL.out.trans hl;refine⟨λj h=>?_,hR.lo,hR.hi⟩;obtain⟨bb,off,e1,e2⟩:=hR.cell j h;refine⟨bb,off,e1,?_⟩;have br:bb<wl.heap.size:=fQ wl ⟨bb,off+j,none⟩ e2;simp only[fP]at e2⊢;rw[bq.block bb br];exact e2
 clear ae aJ;have aK:=HN.out.2.2.2.1;have aq:=HN.out.2.2.2.2.1;go_wp2;go_loopw [9,10] (λu i wr=>∃(m ii:Nat)(ts:List (List Wd))(aa:Nat->Prop),m<=15/\ii=4*m/\i=.int .i64 (ii:Nat)/\M3 ts m/\AW y0 wr F1 aa b [] [] ts/\KB y0 wr F1 aa u (jD ts)) (λ_ i _=>rs.length+4-(intOf i).toNat)
 case atStart=>exact⟨0,0,[],F2,Nat.zero_le _,rfl,rfl,⟨fM _,λ_ h=>by simp at h⟩,HA.out,⟨World.ownsRow_nil _ _ _ _,λg hg=>by cases hg⟩⟩
 case round=>
  obtain⟨m,ii,ts,aa,hm,bf,rfl,a',hA,hK⟩:=hrel;obtain⟨ag,cg,rfl,b4⟩:=ib hK.own;have O:fO _:=a';have HA2:fO (AW _ _ _ _ _ _ _ _):=hA;have au:fO (KB _ _ _ _ _ _):=hK;have b5:=DH a';have bs:=a'.len;have HII:fO (ii=4*m/\m<=15):=⟨bf,hm⟩;have b1:ii<=60:=by omega
  have b2:5*ts.length<=75:=by omega
  clear a' hA hK HA bf hm bs;by_cases h1:ii<rs.length
  .have bt:(ii:Int)<(rs.length:Int):=by omega
   by_cases h2:ii<60
   .have bu:(ii:Int)<60:=by omega
    have aA:=HR.out wr HA2.out.low;obtain⟨bb,off,rfl,c0⟩:=aA.cell ii h1;have aj:=aA.lo rs[ii] (cx h1);have ak:=aA.hi rs[ii] (cx h1);obtain⟨x0,ap⟩:∃x0,x0=rs[ii]:=⟨_,rfl⟩;rw[<-ap]at c0 aj ak;have b6:fO _:=ap;clear ap;have C:Calls prog 15 #[.int .i64 x0,.int .i64 4] wr λe w'=>e=.returned (.int .i64 (pk x0 4:Nat))/\wr=w':=Ck x0 4 wr aj ak (by omega) (by omega);have bv:=xW x0 4 (by omega);obtain⟨pn,aL⟩:∃pn,pn=pk x0 4:=⟨_,rfl⟩;rw[<-aL]at C bv;have b7:fO _:=aL;clear aL aA aj ak;obtain⟨i9,av,af,ad,ae⟩:=fS tW;go_wp2_with fail;refine C.mono ?_;rintro e w3 ⟨rfl,rfl⟩;clear C
    go_wp2_with (first
     |(at_builtin; refine iQ _ rfl _ _ 31 rfl y0.heap.size 9 i9 (.string ⟨#[]⟩) 16 underlying31 av af ad ae rfl _ _ _ rfl (au.out.own.alloc _) _ [.string ⟨#[]⟩] rfl (Rd.one ki) (by simp[Value.oneCell']) ?c1 ?c2 ?c3 ?_))
    case c1=>simp; omega
    case c2=>unfold fR; simp; omega
    case c3=>have:=HA2.out.low.size; simp; omega
    intro v4 w4 aw bg bh;have D:rz wr (wr.alloc (.cells #[.string ⟨#[]⟩] 9)):=.of ((Below.refl _ _).alloc (fM _) _);have bi:=(HA2.out.same D).app bg (au.out.low D).row;have aM:KB y0 w4 F1 aa v4 (jD ts++[[]]):=KB.app (HA2.out.same D) (au.out.low D) (ys:=jD ts++[[]]) (by rw[lH]; exact aw) (by simp) (bh.imp id λe=>⟨_,e,by simp⟩);have bw:fO _:=bi;have bj:fO _:=aM;obtain⟨a4,c4,rfl,_⟩:=ib aM.own;obtain⟨n4,bk⟩:∃n4,n4=(jD ts++[[]]).length:=⟨_,rfl⟩;rw[<-bk]at bj⊢;clear bk;clear D bi aM aw bg bh c0 av af ad ae;generalize wr=wo at *;go_wp2;go_loopw [9,12,13] (λu s k wx=>∃(ks:List Nat),ks.length<=pn+1/\ii+ks.length<=rs.length/\(∀q∈ks,q<5)/\k=.int .i64 (ks.length:Nat)/\s=.string ⟨(mO (ks.map iq)).toArray⟩/\AW y0 wx F1 aa b [] [] ts/\KB y0 wx F1 aa u (jD ts++[]::ks.map iq)) (λ_ _ k _=>10-(intOf k).toNat)
    case atStart=>exact⟨[],by simp,by simp; omega,λ_ h=>by simp at h,rfl,rfl,bw.out,bj.out⟩
    case round=>
     obtain⟨ks,bx,bz,aN,rfl,rfl,bl,aO⟩:=hrel;obtain⟨a5,c5,rfl,_⟩:=ib aO.own;have al:fO (AW _ _ _ _ _ _ _ _):=bl;have ax:fO (KB _ _ _ _ _ _):=aO;have U:fO (∀q∈ks,q<5):=aN;have ah:ks.length<=4:=by omega
     have bm:(mO (ks.map iq)).length<=24:=by
      by_cases h0:ks.length=0
      .have:ks=[]:=dm h0;subst this;simp[mO]
      .exact(xe ks aN (by omega) ah).2.2.2
     have bn:(jD ts++[]::ks.map iq).length<=80:=by simp; omega
     obtain⟨nl,aB⟩:∃nl,nl=(jD ts++[]::ks.map iq).length:=⟨_,rfl⟩;have b8:fO _:=aB;obtain⟨sb,aC⟩:∃sb:ByteArray,sb=⟨(mO (ks.map iq)).toArray⟩:=⟨_,rfl⟩;have b9:sb.size<=24:=by rw[aC]; show(mO (ks.map iq)).toArray.size<=_; simpa using bm
     have aD:fO _:=aC;rw[<-aC,<-aB];rw[<-aB]at ax bn;clear bl aO aN aC bm aB;by_cases g1:ks.length<pn+1
     .have aP:(ks.length:Int)<(pn:Int)+1:=by omega
      by_cases g2:ii+ks.length<rs.length
      .have aQ:(ii:Int)+(ks.length:Int)<(rs.length:Int):=by omega
       obtain⟨b',o',eb,c1⟩:=(HR.out wr al.out.low).cell (ii+ks.length) g2;cases eb;have aj:=(HR.out wr al.out.low).lo _ (cx g2);have ak:=(HR.out wr al.out.low).hi _ (cx g2);obtain⟨x1,ap⟩:∃x1,x1=rs[ii+ks.length]:=⟨_,rfl⟩;rw[<-ap]at c1 aj ak;clear ap;obtain⟨wb,aE⟩:∃wb:ByteArray,wb=⟨(ml x1).toArray⟩:=⟨_,rfl⟩
       have bA:wb.size<=3:=by
        rw[aE];show(ml x1).toArray.size<=3;rw[ff];unfold ml iq;split<;>simp
       have HC:fO (∀y:World,Calls prog 33 #[.int .i64 x1] y λe w'=>e=.returned (.string wb)/\Below y.heap.size y w'):=λy=>by rw[aE]; exact wT x1 y aj ak
       have aF:fO (wb=⟨(ml x1).toArray⟩/\True):=⟨aE,trivial⟩;clear aE aj ak;have k1:¬9223372036854775807<sb.size+1:=by omega
       have k2:¬9223372036854775807<sb.size+1+wb.size:=by omega
       have k3:¬9223372036854775807<sb.size+wb.size:=by omega
       obtain⟨i9,av,af,ad,ae⟩:=fS tW;by_cases aG:ks.length=0
       .have e0:ks=[]:=dm aG;subst e0;simp only[ecq,Nat.add_zero]at c1 g1 g2 aP aQ bx bz ah aG;clear aG aP aQ g1 g2;go_wp2_with fail;refine(HC.out _).mono ?_;rintro e w6 ⟨rfl,am⟩;have d1:=fT am c1;have an:fO (Below _ _ _):=am;clear am c1;go_wp2_with fail;refine(HC.out _).mono ?_;rintro e w7 ⟨rfl,ay⟩;have W:Below wr.heap.size wr w7:=an.out.trans (ay.mono an.out.size);have HA7:fO _:=al.out.same (.of W);have ab:fO _:=ax.out.low (.of W);clear ay W d1 an
        go_wp2_with (first
         |(at_builtin; refine iQ _ rfl _ _ 31 rfl y0.heap.size 9 i9 (.string ⟨#[]⟩) 16 underlying31 av af ad ae rfl _ _ _ rfl (ab.out.own.alloc _) _ [.string wb] rfl (Rd.one ki) (by simp[Value.oneCell']) ?c1 ?c2 ?c3 ?_))
        case c1=>simp; omega
        case c2=>unfold fR; simp; omega
        case c3=>have:=HA7.out.low.size; simp; omega
        intro v8 w8 Y az a0;have D:rz w7 (w7.alloc (.cells #[.string wb] 9)):=.of ((Below.refl _ _).alloc (fM _) _);have aR:fO (AW y0 w8 F1 aa b [] [] ts):=(HA7.out.same D).app az (ab.out.low D).row
        have aS:fO (KB y0 w8 F1 aa v8 (jD ts++[]::(([]:List Nat)++[pk x1 5]).map iq)):=KB.app (HA7.out.same D) (ab.out.low D) (by
         have e:(jD ts++[]::(([]:List Nat)++[pk x1 5]).map iq)=(jD ts++[]::([]:List Nat).map iq)++[ml x1]:=by simp[ml]
         rw[e,lH,<-aF.out.1]
         exact Y) (by first|(simp; done)|(simp; omega)) (a0.imp id λe=>⟨_,e,by simp⟩)
        clear D Y az a0 HA7 ab;go_wp2;go_roundw
        case rel=>
         refine⟨([]:List Nat)++[pk x1 5],by first|(simp; done)|(simp; omega),by first|(simp; done)|(simp; omega),λq hq=>?_,by first|(simp; done)|go_num|(simp; go_num),?_,aR.out,aS.out⟩
         .rcases cs.1 hq with h|h
          .exact U.out q h
          .simp only[ch]at h; subst h; exact xW x1 5 (by omega)
         .have h1:=aD.out;have h2:=aF.out.1;rw[h1,h2]
          first
           |rfl
           |(congr 1; done)
           |(congr 1; apply fK; simp[mO,ml,fI])
        case measure=>first|(simp[intOf]; done)|(simp[intOf]; omega)
       .have b3:0<(ks.length:Int):=by omega
        go_wp2_with fail;refine(HC.out _).mono ?_;rintro e w6 ⟨rfl,am⟩;have d1:=fT am c1;have an:fO (Below _ _ _):=am;clear am c1;go_wp2_with fail;refine(HC.out _).mono ?_;rintro e w7 ⟨rfl,ay⟩;have W:Below wr.heap.size wr w7:=an.out.trans (ay.mono an.out.size);have HA7:fO _:=al.out.same (.of W);have ab:fO _:=ax.out.low (.of W);clear ay W d1 an
        go_wp2_with (first
         |(at_builtin; refine iQ _ rfl _ _ 31 rfl y0.heap.size 9 i9 (.string ⟨#[]⟩) 16 underlying31 av af ad ae rfl _ _ _ rfl (ab.out.own.alloc _) _ [.string wb] rfl (Rd.one ki) (by simp[Value.oneCell']) ?c1 ?c2 ?c3 ?_))
        case c1=>simp; omega
        case c2=>unfold fR; simp; omega
        case c3=>have:=HA7.out.low.size; simp; omega
        intro v8 w8 Y az a0;have D:rz w7 (w7.alloc (.cells #[.string wb] 9)):=.of ((Below.refl _ _).alloc (fM _) _);have aR:fO (AW y0 w8 F1 aa b [] [] ts):=(HA7.out.same D).app az (ab.out.low D).row
        have aS:fO (KB y0 w8 F1 aa v8 (jD ts++[]::(ks++[pk x1 5]).map iq)):=KB.app (HA7.out.same D) (ab.out.low D) (by
         have e:(jD ts++[]::(ks++[pk x1 5]).map iq)=(jD ts++[]::ks.map iq)++[ml x1]:=by simp[ml]
         rw[e,lH,<-aF.out.1]
         exact Y) (by first|(simp; done)|(simp; omega)) (a0.imp id λe=>⟨_,e,by simp⟩)
        clear D Y az a0 HA7 ab;go_wp2;go_roundw
        case rel=>
         refine⟨ks++[pk x1 5],by first|(simp; done)|(simp; omega),by first|(simp; done)|(simp; omega),λq hq=>?_,by first|(simp; done)|go_num|(simp; go_num),?_,aR.out,aS.out⟩
         .rcases cs.1 hq with h|h
          .exact U.out q h
          .simp only[ch]at h; subst h; exact xW x1 5 (by omega)
         .have h1:=aD.out;have h2:=aF.out.1;rw[h1,h2,List.map_append,fz,List.map_nil,zC _ _ (by intro e; apply aG; simpa using congrArg ex e)];congr 1;apply fK;simp[ml,fI]
        case measure=>first|(simp[intOf]; done)|(simp[intOf]; omega)
      .have aQ:¬((ii:Int)+(ks.length:Int)<(rs.length:Int)):=by omega
       have aT:1<=ks.length:=by omega
       obtain⟨a1,a2,a3,aU⟩:=xe ks U.out aT ah
       have ai:oT ts sb.data.toList=(0,ts++[ks.map iq]):=by
        have e:sb.data.toList=mO (ks.map iq):=by rw[aD.out]
        rw[e]
        have a6:M3 (ts++[ks.map iq]) (m+1):=⟨by have:=O.out.len; simp; omega,λt ht=>by
         rcases cs.1 ht with h|h
         .exact O.out.each t h
         .simp only[ch]at h; subst h; exact⟨ks,U.out,ah,rfl⟩⟩
        unfold oT;rw[if_pos ⟨a2,a3⟩,a1,if_neg (by have:=rB a6; omega)]
       have C:=al.out.observe sb (by have:=vu O.out; omega) (by unfold fR; omega);rw[ai]at C
       have a7:fO (M3 (ts++[ks.map iq]) (m+1)):=⟨by have:=O.out.len; simp; omega,λt ht=>by
        rcases cs.1 ht with h|h
        .exact O.out.each t h
        .simp only[ch]at h; subst h; exact⟨ks,U.out,ah,rfl⟩⟩
       clear a1 a2 a3 aU ai;go_wp2_with fail;refine C.mono ?_;clear C;rintro e w9 ⟨rfl,F2'',a8,a9⟩;have aV:fO _:=a8
       have aW:fO (KB y0 w9 F1 F2'' (.slice a5 nl c5) (jD (ts++[ks.map iq]))):=by
        rw[BU];exact ax.out.step a9
       clear a8 a9;go_wp2;go_roundw
       case rel=>exact⟨m+1,ii+4,ts++[ks.map iq],F2'',by have:=HII.out; omega,by have:=HII.out; omega,by go_num,a7.out,aV.out,aW.out⟩
       case measure=>simp[intOf]; omega
     .have aP:¬((ks.length:Int)<(pn:Int)+1):=by omega
      have aT:1<=ks.length:=by omega
      obtain⟨a1,a2,a3,aU⟩:=xe ks U.out aT ah
      have ai:oT ts sb.data.toList=(0,ts++[ks.map iq]):=by
       have e:sb.data.toList=mO (ks.map iq):=by rw[aD.out]
       rw[e]
       have a6:M3 (ts++[ks.map iq]) (m+1):=⟨by have:=O.out.len; simp; omega,λt ht=>by
        rcases cs.1 ht with h|h
        .exact O.out.each t h
        .simp only[ch]at h; subst h; exact⟨ks,U.out,ah,rfl⟩⟩
       unfold oT;rw[if_pos ⟨a2,a3⟩,a1,if_neg (by have:=rB a6; omega)]
      have C:=al.out.observe sb (by have:=vu O.out; omega) (by unfold fR; omega);rw[ai]at C
      have a7:fO (M3 (ts++[ks.map iq]) (m+1)):=⟨by have:=O.out.len; simp; omega,λt ht=>by
       rcases cs.1 ht with h|h
       .exact O.out.each t h
       .simp only[ch]at h; subst h; exact⟨ks,U.out,ah,rfl⟩⟩
      clear a1 a2 a3 aU ai;go_wp2_with fail;refine C.mono ?_;clear C;rintro e w9 ⟨rfl,F2'',a8,a9⟩;have aV:fO _:=a8
      have aW:fO (KB y0 w9 F1 F2'' (.slice a5 nl c5) (jD (ts++[ks.map iq]))):=by
       rw[BU];exact ax.out.step a9
      clear a8 a9;go_wp2;go_roundw
      case rel=>exact⟨m+1,ii+4,ts++[ks.map iq],F2'',by have:=HII.out; omega,by have:=HII.out; omega,by go_num,a7.out,aV.out,aW.out⟩
      case measure=>simp[intOf]; omega
   .have bu:¬((ii:Int)<60):=by omega
    go_wp2;refine im ?_;rw[HK.out];have aX:=HA2.out;have aY:=au.out;obtain⟨ao,b0,_,_,_,q0,q1,q2,q3,ac⟩:=HN.out
    exact vr (F:=λw=>rz wl w) (λw' h=>HL.out.trans h) ac (λy hy=>by
     have h0:=HL.out.trans hy;have hc:∀j,y.cell? ⟨0,j,none⟩=wl.cell? ⟨0,j,none⟩:=λj=>by simp only[fP]; rw[h0.block 0 (by omega)]
     exact⟨(hc 0).trans ao.1,(hc 1).trans ao.2.1,(hc 2).trans ao.2.2⟩) aX aY rfl ⟨fN O.out.len HII.out.2,O.out.each⟩ q0 q1 q2 q3
  .have bt:¬((ii:Int)<(rs.length:Int)):=by omega
   go_wp2;refine im ?_;rw[HK.out];have aX:=HA2.out;have aY:=au.out;obtain⟨ao,b0,_,_,_,q0,q1,q2,q3,ac⟩:=HN.out
   exact vr (F:=λw=>rz wl w) (λw' h=>HL.out.trans h) ac (λy hy=>by
    have h0:=HL.out.trans hy;have hc:∀j,y.cell? ⟨0,j,none⟩=wl.cell? ⟨0,j,none⟩:=λj=>by simp only[fP]; rw[h0.block 0 (by omega)]
    exact⟨(hc 0).trans ao.1,(hc 1).trans ao.2.1,(hc 2).trans ao.2.2⟩) aX aY rfl ⟨fN O.out.len HII.out.2,O.out.each⟩ q0 q1 q2 q3
end
end
section
open Go.Conc Go.RowKit Go.Maps
variable {ts:List (List Wd)} {xs:List Wd} {c n s:Nat} {a:Option Addr} {x:Wd} {w:World}
theorem pA.low{w':World}{v:Value}{xs:List Value}(h:pA w s v n xs)(D:rz w w'):pA w' s v n xs:=h.later λa u y=>by
 have B:a.block<w.heap.size:=fQ w a y;simp only[fP]at y⊢;rw[D.block _ B];exact y
theorem pA.str(h:pA w 1 (.slice a xs.length c) xs.length (gQ xs))(j:Nat)(y:j<xs.length):∃b off,a=some ⟨b,off,none⟩/\w.cell? ⟨b,off+j,none⟩=some (.string ⟨xs[j].toArray⟩):=by
 obtain⟨D,O,e,_,_,_,B⟩:=h;simp only[Value.slice.injEq]at e;obtain⟨rfl,_,rfl⟩:=e;exact B j _ (qP xs j y)
theorem pA.cap{xs:List Value}(h:pA w s (.slice a n c) n xs):n<=c/\c<=fR:=by
 obtain⟨D,O,e,y,B,_⟩:=h;simp only[Value.slice.injEq]at e;obtain⟨_,_,rfl⟩:=e;exact⟨y,B⟩
theorem pA.one{b off:Nat}(h:pA w 1 (.slice (some ⟨b,off,none⟩) xs.length c) xs.length (gQ xs))(j:Nat)(D:j<xs.length):pA w 1 (.slice (some ⟨b,off+j,none⟩) 1 (c-j)) [xs[j]].length (gQ [xs[j]]):=by
 obtain⟨U,W⟩:=h.cap;obtain⟨Y,B,e,O⟩:=h.str j D;simp only[Option.some.injEq,Addr.mk.injEq]at e;obtain⟨rfl,rfl,_⟩:=e;refine⟨some ⟨b,off+j,none⟩,c-j,rfl,by simp; omega,by omega,rfl,λi u y=>⟨b,off+j,rfl,?_⟩⟩
 match i,y with
 |0,y=>
  have:u=.string ⟨xs[j].toArray⟩:=by
   have:=qP [xs[j]] 0 (by simp);rw[this]at y;simpa using y.symm
  rw[this];exact O
 |i+1,y=>
  have:(gQ [xs[j]]).length=1:=by rw[gY]; rfl
  rw[eq (by omega)]at y;cases y
theorem pA.ahead(h:pA w 1 (.slice a xs.length c) xs.length (gQ xs))(j:Nat)(B:j<=xs.length):pA w 1 (.slice a j c) (xs.take j).length (gQ (xs.take j)):=by
 have y:=h.take j B;rw[Nat.mul_one]at y
 have e:(gQ xs).take j=gQ (xs.take j):=by
  apply List.ext_getElem?;intro i;by_cases hi:i<j
  .rw[List.getElem?_take,if_pos hi,qP xs i (by omega),qP (xs.take j) i (by rw[cc]; omega)];simp
  .rw[eq (by rw[cc]; omega),eq (by rw[gY,cc]; omega)]
 rw[e]at y;rw[show(xs.take j).length=j by rw[cc]; omega];exact y
theorem En(ys:List Wd)(x:Wd):GF ys x=true↔x∈ys:=by
 unfold GF;rw[List.any_eq_true];constructor
 .rintro⟨y,B,e⟩;have:y=x:=by simpa using e
  exact this▸B
 .intro h;exact⟨x,h,by simp⟩
theorem uz(ys:List Wd)(x:Wd):oE [x] ys=GF ys x:=by simp[oE]
theorem JH(B:x≠[]):x∈jD ts↔x∈iA ts:=by
 rw[lc];unfold jD;rw[fD];constructor
 .rintro⟨t,y,h⟩;rcases fH.1 h with h|h
  .exact absurd h B
  .exact⟨t,y,h⟩
 .rintro⟨t,y,h⟩;exact⟨t,y,List.mem_cons_of_mem _ h⟩
theorem AJ{m:Nat}(h:M3 ts m)(B:x∈iA ts):x≠[]:=by
 obtain⟨t,D,y⟩:=(lc ts x).1 B;obtain⟨O,_,_,rfl⟩:=h.each t D;obtain⟨k,_,rfl⟩:=fA.1 y;exact Ab k
theorem KJ{S:List Wd}(B:S.Nodup)(n:Nat)(h:n<S.length):GF (S.take n) S[n]=false:=by
 cases y:GF (S.take n) S[n]with
 |false=>rfl
 |true=>
  rw[En]at y;obtain⟨i,hi,e⟩:=List.mem_iff_getElem.1 y;rw[cc]at hi;rw[List.getElem_take]at e;have:=(List.nodup_iff_pairwise_ne.1 B);rw[fy]at this;exact absurd e (this i n (by omega) h (by omega))
end
end Go.Proofs.YtocbogeoffeolaaGreatDoor
