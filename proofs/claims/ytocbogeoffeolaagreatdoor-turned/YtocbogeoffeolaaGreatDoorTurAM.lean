import Derived.Test.YtocbogeoffeolaaGreatDoorTurAL
import Derived.OpenShut
set_option linter.all false
set_option maxHeartbeats 8000000
set_option maxRecDepth 1000000
open List renaming getD_eq_getElem?_getD->bM,getElem?_eq_getElem->bN,getElem_mem->bO,mem_of_mem_take->bP,take_of_length_le->bQ,pairwise_map->bR,all_eq_true->bS,mem_filter->bT,replicate->bU,mem_map->bV,map_map->bW
open Nat renaming le_trans->bX,lt_irrefl->bY,lt_of_lt_of_le->bZ,mul_comm->cc,le_refl->ce,zero_le->cf
open Go.RowKit renaming Hid->cg
open Int renaming tdiv_eq_ediv_of_nonneg->ci,neg_tdiv->cj
open Go renaming trodAll_cons_mk->ck,Calls->cl,FuncId->cm,results->cn,TypeId->cp,yielded->cq,maxLen->cr,cell_later->ct
open Array renaming getElem?_eq_some_iff->cu,getElem?_setIfInBounds->cv,ext_getElem?->cw
open Go.Proofs.Tryz renaming underlying3->cx,underlying26->cy,underlying25->cz,func7->c5,ntmps16->c6,checked->c7,func16->c8,func14->c9
open Option.some renaming injEq->c',inj->cA
open ByteArray renaming size_extract->cB,size_append->cC,size->cD,data_extract->cE,data_append->cF
open Go.IntKind renaming wrap_i64->cG,signed->cH,min->cI,max->cJ,bits->cK
open Go.Value renaming cells->cL,okWide->cM
open Go.World renaming doorLaid->cN,block_lt_of_cell?->cO
open Go.DataW renaming trod_lt->cP,trod->cQ,Trod->cR
open Go renaming undef->cS
namespace Go.Proofs.YtocbogeoffeolaaGreatDoor
open Go.Proofs.Tryz
section
open Go.RowKit
theorem DM(xs:List Wd)(j:Nat)(h:j<xs.length):(dn xs)[j]?=some (.string ⟨xs[j].toArray⟩):=gL xs j h
end
section
open Go.Conc Go.RowKit Go.Maps
theorem PJ.stay{w w':World}{F1 F2:Nat->Prop}{b:Nat}{buf:List dp}{ss:List (List dp)}{ts:List (List Wd)}(h:PJ w F1 F2 b buf ss ts)(U:w.heap.size<=w'.heap.size)(hb:∀k,F1 k\/F2 k->w'.heap[k]?=w.heap[k]?):PJ w' F1 F2 b buf ss ts:=by
 obtain⟨Y,h2,h3,Bb,vS,B,n,vK,kn,h4,h5⟩:=h;exact⟨λk O=>bZ (Y k O) U,λk O=>bZ (h2 k O) U,h3,Bb,vS,B,n,vK,kn,h4.stay λk O=>hb k (.inl O),h5.stay λk O=>hb k (.inr O)⟩
theorem Gr:f32.name≠ "runtime.NumGoroutine":=by
 have:f32.name = "hint/hintkeep.awake":=by kernel_rfl
 rw[this];decide
section
variable {Z:j8 prog} {W0:World} {Mp:Nat->Prop} {fn:cm} {tm:Array Value} {os:List OF} {wl:World} {V:List (Nat×Option (List Value))} {k:List Item}
theorem iZ{c:Code}(B:jq (λo=>Du prog se qm true o.op) c=true)(U:k.all jG=true)(h:∀O:World,O.heap=wl.heap->O.os=wl.os->c.wp prog (Ez (fy Z W0 Mp) fn k os V) ⟨tm,[]⟩ O):dl (fy Z W0 Mp) (⟨fn,tm,.code c::k⟩::os) wl V:=
 dl.Ej (mU B) U (.inr λ_ h=>by cases h) λτ _=>h (tp wl τ) rfl rfl
end
structure wC(w:World)(ra:Option Addr)(rs:List Int):Prop where
 cell:∀j(h:j<rs.length),∃b off,ra=some ⟨b,off,none⟩/\w.cell? ⟨b,off+j,none⟩=some (.int .i64 rs[j])
 lo:∀x∈rs,-9223372036854775808<=x
 hi:∀x∈rs,x<=9223372036854775807
end
section
open Go.Conc Go.RowKit Go.Maps
variable {i k:Nat}
def kO(k:oH):Nat->Value
 |0=>.string ⟨k.name.toArray⟩
 |1=>.string ⟨k.text.toArray⟩
 |2=>.int .i64 k.dq
 |3=>.int .i64 k.dB
 |_=>.bool k.there
def qE(b:Nat)(K:List oH)(j:Nat):Value:=if j=0 then .pointer (some ⟨b,0,none⟩)else kO (K.getD ((j-1) / 5) lG) ((j-1) % 5)
def lR(b:Nat)(K:List oH):Array Value:=Array.ofFn (n:=61) λj=>qE b K j.val
theorem mV(b:Nat)(K:List oH)(j:Nat):(lR b K)[j]?=if j<61 then some (qE b K j)else none:=by
 unfold lR;rw[Array.getElem?_ofFn];split<;>rfl
theorem IM(b:Nat)(K:List oH):(lR b K).size=61:=by unfold lR; simp
theorem Of{b:Nat}{K:List oH}(B:K.length=12)(O:k<12)(hi:i<5):(lR b K)[1+5*k+i]?=some (kO (K[k]'(by omega)) i):=by
 rw[mV,if_pos (by omega)];unfold qE;rw[if_neg (by omega),show(1+5*k+i-1) / 5=k by omega,show(1+5*k+i-1) % 5=i by omega,bM,bN (by omega)];rfl
theorem E6{b:Nat}{K:List oH}(U:K.length=12){j:Nat}(Y:k<12)(kn:oH)(B:∀i,i<5->j≠1+5*k+i):qE b (K.set k kn) j=qE b K j:=by
 unfold qE;split
 .rfl
 .rename_i h0;have O:(j-1) / 5≠k:=λe=>B ((j-1) % 5) (by omega) (by omega);rw[bM,bM,List.getElem?_set_ne (by omega)]
theorem pw{b:Nat}{K:List oH}(B:K.length=12)(O:k<12)(hi:i<5)(kn:oH):qE b (K.set k kn) (1+5*k+i)=kO kn i:=by
 unfold qE;rw[if_neg (by omega),show(1+5*k+i-1) / 5=k by omega,show(1+5*k+i-1) % 5=i by omega,bM,List.getElem?_set_self (by omega)];rfl
theorem Qv{b:Nat}{K:List oH}(B:K.length=12)(O:k<12)(kn:oH) :
  ((((((lR b K).setIfInBounds (1+5*k) (kO kn 0)).setIfInBounds (1+5*k+1) (kO kn 1)).setIfInBounds (1+5*k+2) (kO kn 2)).setIfInBounds (1+5*k+3) (kO kn 3)).setIfInBounds (1+5*k+4) (kO kn 4))=lR b (K.set k kn):=by
 apply cw;intro j;simp only[cv,Array.size_setIfInBounds,IM,mV];by_cases U:1+5*k+4=j
 .subst U; simp only[if_true]; rw[if_pos (by omega),if_pos (by omega),pw B O (by omega)]
 .rw[if_neg U];by_cases Y:1+5*k+3=j
  .subst Y; simp only[if_true]; rw[if_pos (by omega),if_pos (by omega),pw B O (by omega)]
  .rw[if_neg Y];by_cases h2:1+5*k+2=j
   .subst h2; simp only[if_true]; rw[if_pos (by omega),if_pos (by omega),pw B O (by omega)]
   .rw[if_neg h2];by_cases h1:1+5*k+1=j
    .subst h1; simp only[if_true]; rw[if_pos (by omega),if_pos (by omega),pw B O (by omega)]
    .rw[if_neg h1];by_cases h0:1+5*k=j
     .subst h0; simp only[if_true]; rw[if_pos (by omega),if_pos (by omega)]; rw[show 1+5*k=1+5*k+0 from rfl,pw B O (by omega)]
     .rw[if_neg h0,E6 B O kn λi hi=>by omega]
theorem Q2{b:Nat}{K:List oH}(U:K.length=12)(Y:k<12) :
  (lR b K).setIfInBounds (1+5*k+4) (.bool false)=lR b (K.set k {K.getD k lG with there:=false}):=by
 have B:K.getD k lG=K[k]'(by omega):=by rw[bM,bN (by omega)]; rfl
 apply cw;intro j;simp only[cv,IM,mV];by_cases h4:1+5*k+4=j
 .subst h4; simp only[if_true]; rw[if_pos (by omega),if_pos (by omega),pw U Y (by omega)]; rfl
 .rw[if_neg h4];split
  .congr 1;by_cases O:∃i,i<4/\j=1+5*k+i
   .obtain⟨i,hi,rfl⟩:=O;rw[pw U Y (by omega),B];have:=Of (b:=b) U Y (show i<5 by omega);rw[mV,if_pos (by omega)]at this;rw[c']at this;rw[this];rcases(by omega:i=0\/i=1\/i=2\/i=3)with rfl|rfl|rfl|rfl<;>rfl
   .rw[E6 U Y _ λi hi e=>?_];by_cases h:i<4
    .exact O ⟨i,h,e⟩
    .exact h4 (by omega)
  .rfl
structure WB(w0 w:World)(F1 F2:Nat->Prop)(b W:Nat)(K:List oH):Prop where
 blk:w.heap[W]?=some (.cells (lR b K) 39 (0,0))
 a1:¬F1 W
 a2:¬F2 W
 hi:w0.heap.size<=W
section
variable {w0 w w':World} {F1 F2:Nat->Prop} {b W:Nat} {buf:List dp} {ss:List (List dp)} {ts:List (List Wd)} {K:List oH}
theorem WB.lt(h:WB w0 w F1 F2 b W K):W<w.heap.size:=(cu.1 h.blk).1
theorem WB.low(h:WB w0 w F1 F2 b W K)(B:lz w w'):WB w0 w' F1 F2 b W K:=⟨(B.block W h.lt).trans h.blk,h.a1,h.a2,h.hi⟩
theorem WB.step{B O:Nat->Prop}(h:WB w0 w F1 F2 b W K)(st:St w w' F1 F2 B O):WB w0 w' B O b W K:=by
 have:=h.lt;refine⟨(st.block W h.lt h.a1 h.a2).trans h.blk,λY=>?_,λY=>?_,h.hi⟩
 .rcases st.f1 W Y with U|U
  .exact h.a1 U
  .omega
 .rcases st.f2 W Y with U|U
  .exact h.a2 U
  .omega
theorem AW.other(h:AW w0 w F1 F2 b buf ss ts)(Y:¬F1 W)(h2:¬F2 W)(hi:w0.heap.size<=W)(U:w.heap.size<=w'.heap.size)(O:w'.os=w.os)(hb:∀k,k<w.heap.size->k≠W->w'.heap[k]?=w.heap[k]?):AW w0 w' F1 F2 b buf ss ts:=by
 refine⟨h.j.stay U λk B=>hb k (B.elim (h.j.RS k) (h.j.RO k)) λe=>?_,h.Th,h.Pq,⟨O.trans h.low.os,bX h.low.size U,λk B=>(hb k (bZ B h.low.size) (by omega)).trans (h.low.block k B)⟩⟩;subst e;exact B.elim Y h2
theorem rK(h:l6 w w'):lz w w':=by
 obtain⟨τ,B⟩:=h;exact⟨B.os,B.size,B.block⟩
end
end
section
open Go.Conc Go.RowKit Go.Maps
section
variable {w0 w w':World} {F1 F2:Nat->Prop} {b W:Nat} {buf:List dp} {ss:List (List dp)} {ts:List (List Wd)} {K:List oH}
theorem SN{k:Nat}(h:k<12):pk (k:Int) 12=k:=by
 unfold pk;rw[if_neg (by omega)];omega
theorem PM(hA:AW w0 w F1 F2 b buf ss ts)(hB:WB w0 w F1 F2 b W K)(hS:Sk K buf ss)(x:Raw)(hx:x.Ok)(ab:x.dq<0) :
  cl prog 43 #[.pointer (some ⟨W,0,none⟩),qq x] w λe w'=>e=.returned (.bool true)/\∃U Y,AW w0 w' U F2 b Y ss ts/\WB w0 w' U F2 b W (qp K x)/\Sk (qp K x) Y ss:=by
 have ae:=hS.del x ab;have ac:=hS.len;have ad:=ma x.name 12 (by omega);have aa:=Q2 (b:=b) ac ad;have am:qp K x=K.set (pk x.name 12) {K.getD (pk x.name 12) lG with there:=false}:=by unfold qp; rw[if_pos ab]
 rw[<-am]at aa;generalize qp K x=K' at *;obtain⟨xn,xt,xw,xg⟩:=x;obtain⟨n0,n1,t0,t1,q0,q1,g0,g1⟩:=hx;simp only at n0 n1 t0 t1 q0 q1 g0 g1 ab ae ad aa⊢;unfold qq;simp only;obtain⟨wa,af⟩:∃wa,wa=w.alloc (.cells #[.int .i64 xn,.int .i64 xt,.int .i64 xw,.int .i64 xg] 48):=⟨_,rfl⟩;have aj:eX w wa:=by rw[af]; exact eX.alloc _ _
 have ak:wa.heap[w.heap.size]?=some (.cells #[.int .i64 xn,.int .i64 xt,.int .i64 xw,.int .i64 xg] 48 (0,0)):=by rw[af]; exact uS _ _
 have d0:wa.cell? ⟨w.heap.size,0,none⟩=some (.int .i64 xn):=by rw[dh ak]; rfl
 have d2:wa.cell? ⟨w.heap.size,2,none⟩=some (.int .i64 xw):=by rw[dh ak]; rfl
 have HA:cg _:=hA.same (.of aj);have HB:cg _:=hB.low (.of aj);have hp:=ib xn 12 wa n0 n1 (by omega) (by omega);obtain⟨k,hk⟩:∃k,k=pk xn 12:=⟨_,rfl⟩;rw[<-hk]at hp ad aa ae
 have HN:cg (∀y,cl prog 23 #[.int .i64 (k:Int)] y λe w'=>e=.returned (.string ⟨(vq k).toArray⟩)/\y=w'):=λy=>by
  have:=Bz (k:Int) y (by omega) (by omega);rw[SN ad]at this;exact this
 have HX:cg _:=And.intro ae aa;have HL:cg _:=And.intro ac ad;clear hA hB hS ae aa aj ak hk ac am;go_enter func43,ntmps43;go_wp2_with fail;rw[<-af];refine hp.mono ?_;rintro e w1 ⟨rfl,rfl⟩;clear hp af;go_wp2_with fail;have HU:cg (∀y,l6 wa y->y.cell? ⟨W,0,none⟩=some (.pointer (some ⟨b,0,none⟩))):=λy hy=>ku hy (by rw[dh HB.out.blk,mV]; rfl);refine gO (Sd:=λa y=>nf _ _ _ [6,7] a y) (last:=6) (tl:=[7]) (by kernel_rfl) ?_ (λa y h _=>h);refine dD 0 ?_ ?_<|dD 1 ?_ ?_<|dD 2 ?_ ?_<|dD 3 ?_ ?_<|dD 4 ?_ ?_ ?_
 any_goals(intro y hy; have q0:=HU.out y hy; unfold gm; go_simp; refine⟨eX.refl _,?_⟩; with_reducible rfl)
 go_simp;refine dD 5 ?_ ?_ ?_;rotate_left
 .intro y hy; unfold gm; go_simp; refine⟨rfl,(HN.out y).mono ?_⟩; rintro e y2 ⟨rfl,rfl⟩; refine⟨_,rfl,eX.refl _,?_⟩; with_reducible rfl
 go_simp;refine nX (by kernel_rfl) (λt=>xb (by kernel_rfl) (by kernel_rfl) _ _) ?_;intro y hy;have an:cg _:=HA.out.same (rK hy);have ao:cg _:=HB.out.low (rK hy);clear hy HA HB HU HN d0 d2;refine kF rfl rfl ?_;unfold gm;go_simp;refine⟨rfl,(an.out.del ⟨(vq k).toArray⟩ (by unfold cr; simp[vq,cD])).mono ?_⟩;rintro e y2 ⟨rfl,U,ap,st⟩;have O:cg _:=ao.out.step st;have al:cg _:=ap;clear ap st an ao;refine⟨_,rfl,?_⟩;refine kF rfl rfl ?_;unfold gm;go_simp;refine oR ?_;change cg (AW w0 y2 U F2 b (kC buf ss (vq k)).2 ss ts)at al;have ah:K.getD k lG=K[k]'(by have:=HL.out; omega):=by rw[bM,bN (by have:=HL.out; omega)]; rfl
 have c4:y2.cell? ⟨W,1+k*5+4,none⟩=some (.bool (K.getD k lG).there):=by
  have:=Of (b:=b) HL.out.1 HL.out.2 (show 4<5 by omega);rw[cc 5 k]at this;rw[dh O.out.blk,this,ah];rfl
 have f4:=dJ O.out.blk (1+k*5+4);obtain⟨y3,ag⟩:∃y3,y2.setCell ⟨W,1+k*5+4,none⟩ (.bool false)=y3:=⟨_,rfl⟩
 have ai:cg (∃U Y,AW w0 y3 U F2 b Y ss ts/\WB w0 y3 U F2 b W K'/\Sk K' Y ss):=by
  refine⟨U,_,al.out.other O.out.a1 O.out.a2 O.out.hi ?_ ?_ ?_,⟨?_,O.out.a1,O.out.a2,O.out.hi⟩,HX.out.1.2⟩
  .rw[<-ag]; simp
  .rw[<-ag]; rfl
  .intro j _ hj;rw[<-ag,Below.heap_setCell _ _ _ _ hj]
  .rw[<-ag,heap_set O.out.blk,cc k 5,HX.out.2]
 have B:=HX.out.1.1;clear al O HX ah
 cases ht:(K.getD k lG).there with
 |true=>
  rw[ht]at B c4;simp only[if_true]at B;rw[B];clear B ht;go_wp2;go_ret;exact⟨rfl,ai.out⟩
 |false=>
  rw[ht]at B c4;simp only[Bool.false_eq_true,if_false]at B;rw[B];clear B ht;go_wp2;go_ret;exact⟨rfl,ai.out⟩
end
end
section
open Go.Conc Go.RowKit Go.Maps
section
variable {w0 w w':World} {F1 F2:Nat->Prop} {b W:Nat} {buf:List dp} {ss:List (List dp)} {ts:List (List Wd)} {K:List oH}
theorem Pb(hA:AW w0 w F1 F2 b buf ss ts)(hB:WB w0 w F1 F2 b W K)(hS:Sk K buf ss)(x:Raw)(hx:x.Ok)(ad:¬x.dq<0) :
  cl prog 43 #[.pointer (some ⟨W,0,none⟩),qq x] w λe w'=>e=.returned (.bool true)/\∃ab aa,AW w0 w' ab F2 b aa ss ts/\WB w0 w' ab F2 b W (qp K x)/\Sk (qp K x) aa ss:=by
 have ak:=hS.QJ x ad;have ae:=hS.len;have af:=ma x.name 12 (by omega);have Y:=Qv (b:=b) ae af (jY x);have ay:qp K x=K.set (pk x.name 12) (jY x):=by unfold qp; rw[if_neg ad]
 have az:=(Ms (ma x.text 258 (by omega))).2.2;have hC:=λy=>I2 x hx y;unfold Jz at hC;rw[<-ay]at Y;generalize qp K x=K' at *;have a0:(jY x).there=true:=rfl;have al:(jY x).text.length<=20:=az;have am:(jY x).name.length<=20:=by show[UInt8.ofNat (97+pk x.name 12)].length<=20; simp
 generalize jY x=kn at *;obtain⟨kN,kT,kW,kG,kB⟩:=kn;simp only at a0 al am ak hC;subst a0;simp only[kO]at Y;obtain⟨xn,xt,xw,xg⟩:=x;obtain⟨n0,n1,t0,t1,q0,q1,g0,g1⟩:=hx;simp only at n0 n1 t0 t1 q0 q1 g0 g1 ad af Y hC;unfold qq at hC⊢;simp only at hC⊢;obtain⟨wa,ai⟩:∃wa,wa=w.alloc (.cells #[.int .i64 xn,.int .i64 xt,.int .i64 xw,.int .i64 xg] 48):=⟨_,rfl⟩;have an:eX w wa:=by rw[ai]; exact eX.alloc _ _
 have ag:wa.heap[w.heap.size]?=some (.cells #[.int .i64 xn,.int .i64 xt,.int .i64 xw,.int .i64 xg] 48 (0,0)):=by rw[ai]; exact uS _ _
 have d0:wa.cell? ⟨w.heap.size,0,none⟩=some (.int .i64 xn):=by rw[dh ag]; rfl
 have d1:wa.cell? ⟨w.heap.size,1,none⟩=some (.int .i64 xt):=by rw[dh ag]; rfl
 have d2:wa.cell? ⟨w.heap.size,2,none⟩=some (.int .i64 xw):=by rw[dh ag]; rfl
 have d3:wa.cell? ⟨w.heap.size,3,none⟩=some (.int .i64 xg):=by rw[dh ag]; rfl
 have HA:cg _:=hA.same (.of an);have HB:cg _:=hB.low (.of an);have hp:=ib xn 12 wa n0 n1 (by omega) (by omega);obtain⟨k,hk⟩:∃k,k=pk xn 12:=⟨_,rfl⟩;rw[<-hk]at hp af Y;have HX:cg _:=And.intro ak Y;have HL:cg _:=And.intro ae (And.intro af (And.intro al am));have HC:cg _:=hC;obtain⟨sn,ao⟩:∃sn:ByteArray,sn=⟨kN.toArray⟩:=⟨_,rfl⟩;obtain⟨st,ap⟩:∃st:ByteArray,st=⟨kT.toArray⟩:=⟨_,rfl⟩;rw[<-ao,<-ap]at HC HX;have HT:cg _:=And.intro ao ap;clear hA hB hS ak Y an ag hk ae ay az al am hC ao ap;go_enter func43,ntmps43;go_wp2_with fail;rw[<-ai];refine hp.mono ?_;rintro e w1 ⟨rfl,rfl⟩;clear hp ai;go_wp2_with fail;refine(HC.out _).mono ?_;rintro e w1 ⟨rfl,aq⟩;have HA:cg _:=HA.out.same (.of aq);have HB:cg _:=HB.out.low (.of aq);clear aq d0 d1 d2 d3 HC;go_wp2_with fail;obtain⟨wb,aj⟩:∃wb,w1.alloc (.cells #[.string sn,.string st,.int .i64 kW,.int .i64 kG,.bool true] 36)=wb:=⟨_,rfl⟩;rw[aj];have ar:eX w1 wb:=by rw[<-aj]; exact eX.alloc _ _
 have au:wb.heap[w1.heap.size]?=some (.cells #[.string sn,.string st,.int .i64 kW,.int .i64 kG,.bool true] 36 (0,0)):=by rw[<-aj]; exact uS _ _
 have av:cg (¬F1 w1.heap.size/\¬F2 w1.heap.size):=⟨λhf=>absurd (HA.out.j.RS _ hf) (bY _),λhf=>absurd (HA.out.j.RO _ hf) (bY _)⟩;have HA:cg _:=HA.out.same (.of ar);have HB:cg _:=HB.out.low (.of ar);have HE:cg (∀y,l6 wb y->y.cell? ⟨W,0,none⟩=some (.pointer (some ⟨b,0,none⟩))/\y.heap[w1.heap.size]?=some (.cells #[.string sn,.string st,.int .i64 kW,.int .i64 kG,.bool true] 36 (0,0))):=λy B=>⟨ku B (by rw[dh HB.out.blk,mV]; rfl),((rK B).block _ (cu.1 au).1).trans au⟩
 have U:cg (∀y,l6 wb y->y.cell? ⟨W,0,none⟩=some (.pointer (some ⟨b,0,none⟩))/\y.cell? ⟨w1.heap.size,0,none⟩=some (.string sn)/\y.cell? ⟨w1.heap.size,1,none⟩=some (.string st)/\y.cell? ⟨w1.heap.size,2,none⟩=some (.int .i64 kW)/\y.cell? ⟨w1.heap.size,3,none⟩=some (.int .i64 kG)/\y.cell? ⟨w1.heap.size,4,none⟩=some (.bool true)):=λy B=>by
  obtain⟨h1,h2⟩:=HE.out y B;exact⟨h1,by rw[dh h2]; rfl,by rw[dh h2]; rfl,by rw[dh h2]; rfl,by rw[dh h2]; rfl,by rw[dh h2]; rfl⟩
 clear aj ar au;refine gO (Sd:=λa y=>nf _ _ _ [12,13] a y) (last:=12) (tl:=[13]) (by kernel_rfl) ?_ (λa y h _=>h);refine dD 0 ?_ ?_<|dD 1 ?_ ?_<|dD 2 ?_ ?_<|dD 3 ?_ ?_ ?_
 any_goals(intro y B; have q0:=(U.out y B).1; unfold gm; go_simp; refine⟨eX.refl _,?_⟩; with_reducible rfl)
 go_simp;refine dD 4 ?_ ?_<|dD 5 ?_ ?_ ?_
 any_goals(intro y B; have q0:=(U.out y B).2.1; unfold gm; go_simp; refine⟨eX.refl _,?_⟩; with_reducible rfl)
 go_simp;refine dD 6 ?_ ?_<|dD 7 ?_ ?_ ?_
 any_goals(intro y B; have q0:=(U.out y B).2.2.1; unfold gm; go_simp; refine⟨eX.refl _,?_⟩; with_reducible rfl)
 go_simp;refine dD 8 ?_ ?_<|dD 9 ?_ ?_ ?_
 any_goals(intro y B; have q0:=(U.out y B).2.2.2.1; unfold gm; go_simp; refine⟨eX.refl _,?_⟩; with_reducible rfl)
 go_simp;refine dD 10 ?_ ?_<|dD 11 ?_ ?_ ?_
 any_goals(intro y B; have q0:=(U.out y B).2.2.2.2.1; unfold gm; go_simp; refine⟨eX.refl _,?_⟩; with_reducible rfl)
 go_simp;refine nX (by kernel_rfl) (λt=>xb (by kernel_rfl) (by kernel_rfl) _ _) ?_;intro y B;have a3:cg _:=HA.out.same (rK B);have a4:cg _:=HB.out.low (rK B);have aw:cg _:=(HE.out y B).2;clear B HA HB HE U;refine kF rfl rfl ?_;unfold gm;go_simp;refine⟨rfl,(a3.out.QJ sn st kW kG ?_ ?_).mono ?_⟩
 .rw[HT.out.1]; have:=HL.out.2.2.2; unfold cr; show kN.toArray.size<=_; simp; omega
 .rw[HT.out.2]; have:=HL.out.2.2.1; unfold cr; show kT.toArray.size<=_; simp; omega
 rintro e y2 ⟨rfl,ab,a5,ax⟩;have a6:cg _:=a4.out.step ax;have a7:cg _:=a5;have U:cg (y2.heap[w1.heap.size]?=some (.cells #[.string sn,.string st,.int .i64 kW,.int .i64 kG,.bool true] 36 (0,0))):=(ax.block _ (cu.1 aw.out).1 av.out.1 av.out.2).trans aw.out;clear a5 ax a3 a4 aw av;refine⟨_,rfl,?_⟩;refine kF rfl rfl ?_;unfold gm;go_simp;refine oR ?_;have ah:(jl buf ss sn.data.toList st.data.toList kW kG).1=0:=by rw[HT.out.1,HT.out.2]; exact HX.out.1.1
 have a8:cg (Sk K' (jl buf ss sn.data.toList st.data.toList kW kG).2 ss):=by show Sk _ _ _; rw[HT.out.1,HT.out.2]; exact HX.out.1.2
 rw[ah];clear ah;generalize (jl buf ss sn.data.toList st.data.toList kW kG).2=aA at *;go_wp2_with fail
 have HM:cg (∀y,l6 y2 y->y.cell? ⟨w1.heap.size,0,none⟩=some (.string sn)/\y.cell? ⟨w1.heap.size,1,none⟩=some (.string st)/\y.cell? ⟨w1.heap.size,2,none⟩=some (.int .i64 kW)/\y.cell? ⟨w1.heap.size,3,none⟩=some (.int .i64 kG)/\y.cell? ⟨w1.heap.size,4,none⟩=some (.bool true)):=λy B=>by
  have h2:=((rK B).block _ (cu.1 U.out).1).trans U.out;exact⟨by rw[dh h2]; rfl,by rw[dh h2]; rfl,by rw[dh h2]; rfl,by rw[dh h2]; rfl,by rw[dh h2]; rfl⟩
 refine gO (Sd:=λa y=>nf _ _ _ [6] a y) (last:=6) (tl:=[]) (by kernel_rfl) ?_ (λa y h _=>h);refine dD 0 ?_ ?_<|dD 1 ?_ ?_ ?_
 any_goals(intro y B; unfold gm; go_simp; refine⟨eX.refl _,?_⟩; with_reducible rfl)
 go_simp;refine dD 2 ?_ ?_ ?_;rotate_left
 .intro y B; obtain⟨q0,q1,q2,q3,q4⟩:=HM.out y B; unfold gm; go_simp; refine⟨eX.refl _,?_⟩; with_reducible rfl
 go_simp;refine dD 3 ?_ ?_<|dD 4 ?_ ?_ ?_
 any_goals(intro y B; unfold gm; go_simp; refine⟨eX.refl _,?_⟩; with_reducible rfl)
 go_simp;refine dD 5 ?_ ?_ ?_;rotate_left
 .intro y B; have q:=af; have q2:(k:Int)<12:=by omega
  unfold gm; go_simp; refine⟨eX.refl _,?_⟩; with_reducible rfl
 go_simp;refine nX (by kernel_rfl) (λt=>Dd (by kernel_rfl) _ _) ?_;intro y B;have a9:cg _:=a7.out.same (rK B);have O:cg _:=a6.out.low (rK B);clear B a7 a6 U HM;refine kF rfl rfl ?_;have ac:=λi (hi:i<5)=>Of (b:=b) HL.out.1 HL.out.2.1 hi;rw[cc 5 k]at ac;have c0:y.cell? ⟨W,1+k*5,none⟩=some (kO (K[k]'(by have:=HL.out; omega)) 0):=by rw[dh O.out.blk]; exact ac 0 (by omega)
 have c1:y.cell? ⟨W,1+k*5+1,none⟩=some (kO (K[k]'(by have:=HL.out; omega)) 1):=by rw[dh O.out.blk]; exact ac 1 (by omega)
 have c2:y.cell? ⟨W,1+k*5+2,none⟩=some (kO (K[k]'(by have:=HL.out; omega)) 2):=by rw[dh O.out.blk]; exact ac 2 (by omega)
 have c3:y.cell? ⟨W,1+k*5+3,none⟩=some (kO (K[k]'(by have:=HL.out; omega)) 3):=by rw[dh O.out.blk]; exact ac 3 (by omega)
 have c4:y.cell? ⟨W,1+k*5+4,none⟩=some (kO (K[k]'(by have:=HL.out; omega)) 4):=by rw[dh O.out.blk]; exact ac 4 (by omega)
 have f0:=dJ O.out.blk;clear ac;unfold gm;go_simp;refine oR ?_;have S:=IK (o:=1+k*5) O.out.blk (.string sn) (.string st) (.int .i64 kW) (.int .i64 kG) (.bool true);clear c0 c1 c2 c3 c4 f0;generalize ((((y.setCell ⟨W,1+k*5,none⟩ (.string sn)).setCell ⟨W,1+k*5+1,none⟩ (.string st)).setCell ⟨W,1+k*5+2,none⟩ (.int .i64 kW)).setCell ⟨W,1+k*5+3,none⟩ (.int .i64 kG)).setCell ⟨W,1+k*5+4,none⟩ (.bool true)=y5 at *
 have a':cg (∃ab aa,AW w0 y5 ab F2 b aa ss ts/\WB w0 y5 ab F2 b W K'/\Sk K' aa ss):=by
  refine⟨ab,_,a9.out.other O.out.a1 O.out.a2 O.out.hi (by rw[S.size]; exact ce _) S.os (λj _ hj=>S.other j hj),⟨?_,O.out.a1,O.out.a2,O.out.hi⟩,a8.out⟩;rw[S.blk,cc k 5,<-HX.out.2,HT.out.1,HT.out.2]
 clear S a9 O a8 HX HT HL;go_wp2;go_ret;exact⟨rfl,a'.out⟩
theorem MO(Y:AW w0 w F1 F2 b buf ss ts)(hB:WB w0 w F1 F2 b W K)(hS:Sk K buf ss)(x:Raw)(hx:x.Ok) :
  cl prog 43 #[.pointer (some ⟨W,0,none⟩),qq x] w λe w'=>e=.returned (.bool true)/\∃U B,AW w0 w' U F2 b B ss ts/\WB w0 w' U F2 b W (qp K x)/\Sk (qp K x) B ss:=by
 by_cases O:x.dq<0
 .exact PM Y hB hS x hx O
 .exact Pb Y hB hS x hx O
end
end
section
open Go.Conc Go.RowKit Go.Maps
section
variable {w0 w w':World} {F1 F2:Nat->Prop} {b W:Nat} {buf:List dp} {ss:List (List dp)} {ts:List (List Wd)} {K:List oH}
theorem Il(hA:AW w0 w F1 F2 b buf ss ts)(hB:WB w0 w F1 F2 b W K)(hS:Sk K buf ss)(c:Int)(c0 : -9223372036854775808<=c)(c1:c<=9223372036854775807)(hz:¬pk c 3=0) :
  cl prog 44 #[.pointer (some ⟨W,0,none⟩),.int .i64 c] w λe w'=>e=.returned (.bool true)/\∃O U ab,AW w0 w' O F2 b U ab ts/\WB w0 w' O F2 b W K/\Sk K U ab:=by
 have u0:w.cell? ⟨W,0,none⟩=some (.pointer (some ⟨b,0,none⟩)):=by rw[dh hB.blk,mV]; rfl
 have hp:=ib c 3 w c0 c1 (by omega) (by omega);have am:=ma c 3 (by omega);have hC:=hA.jg;have hF:=hA.flush;have B:=hS.flush;have ak:=hS.inv.qi;have af:=B.1.inv.qi;generalize (eV buf ss).2.1=al at *;generalize (eV buf ss).2.2=ag at *;generalize (eV buf ss).1=cd at *;obtain⟨B,Y⟩:=B;generalize pk c 3=k at *;have an:¬(k:Int)=0:=by omega
 have HB:cg _:=hB;have ah:cg _:=B;generalize hn:ss.length=n at *;generalize ac:ag.length=n2 at *;have ai:cg _:=ac;clear hA hB hS B hn ac;go_enter func44,ntmps44;go_wp2_with fail;refine hC.mono ?_;rintro e w1 ⟨rfl,rfl⟩;clear hC;go_wp2_with fail;refine hp.mono ?_;rintro e w1 ⟨rfl,rfl⟩;clear hp;go_wp2_with fail;refine hF.mono ?_;rintro e y2 ⟨rfl,O,aa,ad⟩;have ae:cg _:=HB.out.step ad;have aj:cg _:=aa;have hC:=aa.jg;rw[ai.out]at hC;have u1:y2.cell? ⟨W,0,none⟩=some (.pointer (some ⟨b,0,none⟩)):=by rw[dh ae.out.blk,mV]; rfl
 clear hF aa ad HB u0;go_wp2_with fail;refine hC.mono ?_;rintro e w1 ⟨rfl,rfl⟩;clear hC;rcases Y with⟨rfl,rfl|⟨rfl,rfl⟩⟩|⟨rfl|rfl,rfl⟩
 all_goals
  go_wp2;go_ret;exact⟨rfl,O,_,_,aj.out,ae.out,ah.out⟩
theorem G5(hA:AW w0 w F1 F2 b buf ss ts)(hB:WB w0 w F1 F2 b W K)(hS:Sk K buf ss)(c:Int)(c0 : -9223372036854775808<=c)(c1:c<=9223372036854775807)(hz:pk c 3=0) :
  cl prog 44 #[.pointer (some ⟨W,0,none⟩),.int .i64 c] w λe w'=>e=.returned (.bool true)/\∃B Y ac,AW w0 w' B F2 b Y ac ts/\WB w0 w' B F2 b W K/\Sk K Y ac:=by
 have u0:w.cell? ⟨W,0,none⟩=some (.pointer (some ⟨b,0,none⟩)):=by rw[dh hB.blk,mV]; rfl
 have hp:=ib c 3 w c0 c1 (by omega) (by omega);obtain⟨d,hd⟩:∃d,c.tdiv 3=d:=⟨_,rfl⟩
 have ad : -9223372036854775808<=d/\d<=9223372036854775807:=by
  by_cases h0:0<=c
  .have:=ci (a:=c) (b:=3) h0;omega
  .have:=ci (a:=-c) (b:=3) (by omega);rw[cj]at this;omega
 have an:IntKind.i64.wrap d=d:=by simp only[cG]; omega
 have HP:cg (∀y,cl prog 15 #[.int .i64 d,.int .i64 7] y λe w'=>e=.returned (.int .i64 (pk d 7:Nat))/\y=w'):=λy=>ib d 7 y ad.1 ad.2 (by omega) (by omega);have hC:=hA.jg;have O:=hS.merge (pk d 7:Nat);have HF:cg (∀y,lz w y->cl prog 39 #[.pointer (some ⟨b,0,none⟩),.int .i64 (pk d 7:Nat)] y λe w'=>e=.returned (.int .i64 (eP ss (pk d 7:Nat)).1)/\∃B,AW w0 w' B F2 b buf (eP ss (pk d 7:Nat)).2 ts/\St y w' F1 F2 B F2):=λy U=>(hA.same U).merge _;have am:=hS.inv.qi;have ah:=O.1.inv.qi;generalize (eP ss (pk d 7:Nat)).2=ai at *;generalize (eP ss (pk d 7:Nat)).1=cd at *;obtain⟨O,aa⟩:=O;generalize ((pk d 7:Nat):Int)=dk at *;rw[hz]at hp;have HB:cg _:=hB;have aj:cg _:=O;generalize hn:ss.length=n at *;generalize ae:ai.length=n2 at *;have ak:cg _:=ae;clear hA hB hS O hn ae hz;go_enter func44,ntmps44;go_wp2_with fail;refine hC.mono ?_;rintro e w1 ⟨rfl,rfl⟩;clear hC;go_wp2_with fail;refine hp.mono ?_;rintro e w1 ⟨rfl,rfl⟩;clear hp;go_wp2_with fail;refine gO (Sd:=λa y=>nf _ _ _ [7,8] a y) (last:=7) (tl:=[8]) (by kernel_rfl) ?_ (λa y h _=>h);refine dD 0 ?_ ?_<|dD 1 ?_ ?_<|dD 2 ?_ ?_<|dD 3 ?_ ?_<|dD 4 ?_ ?_ ?_
 any_goals(intro y U; have q0:=ku U u0; unfold gm; go_simp; refine⟨eX.refl _,?_⟩; with_reducible rfl)
 go_simp;refine dD 5 ?_ ?_ ?_;rotate_left
 .intro y U; unfold gm; go_simp; refine⟨eX.refl _,?_⟩; with_reducible rfl
 go_simp;refine dD 6 ?_ ?_ ?_;rotate_left
 .intro y U; unfold gm; go_simp; refine⟨rfl,(HP.out y).mono ?_⟩; rintro e y2 ⟨rfl,rfl⟩; refine⟨_,rfl,eX.refl _,?_⟩; with_reducible rfl
 go_simp;refine nX (by kernel_rfl) (λt=>xb (by kernel_rfl) (by kernel_rfl) _ _) ?_;intro y U;have hF:=HF.out y (rK U);have HB:cg _:=HB.out.low (rK U);clear U u0 HF HP;refine kF rfl rfl ?_;unfold gm;go_simp;refine⟨rfl,hF.mono ?_⟩;rintro e y2 ⟨rfl,B,ab,af⟩;have ag:cg _:=HB.out.step af;have al:cg _:=ab;have hC:=ab.jg;rw[ak.out]at hC;have u1:y2.cell? ⟨W,0,none⟩=some (.pointer (some ⟨b,0,none⟩)):=by rw[dh ag.out.blk,mV]; rfl
 clear hF ab af HB;refine⟨_,rfl,?_⟩;refine kF rfl rfl ?_;unfold gm;go_simp;refine oR ?_;go_wp2_with fail;refine hC.mono ?_;rintro e w1 ⟨rfl,rfl⟩;clear hC;rcases aa with⟨rfl,rfl|rfl⟩|⟨rfl,rfl⟩
 all_goals
  go_wp2;go_ret;exact⟨rfl,B,_,_,al.out,ag.out,aj.out⟩
theorem K5(Y:AW w0 w F1 F2 b buf ss ts)(hB:WB w0 w F1 F2 b W K)(hS:Sk K buf ss)(c:Int)(c0 : -9223372036854775808<=c)(c1:c<=9223372036854775807) :
  cl prog 44 #[.pointer (some ⟨W,0,none⟩),.int .i64 c] w λe w'=>e=.returned (.bool true)/\∃O B U,AW w0 w' O F2 b B U ts/\WB w0 w' O F2 b W K/\Sk K B U:=by
 by_cases hz:pk c 3=0
 .exact G5 Y hB hS c c0 c1 hz
 .exact Il Y hB hS c c0 c1 hz
end
end
section
open Go.Conc Go.RowKit Go.Maps
variable {ops:Array Oper} {rest:List Nat} {ls:List Raw} {o:Oper} {la:Option Addr} {w y:World}
theorem FO:Tryz.f21.name≠ "runtime.NumGoroutine":=by
 have:Tryz.f21.name = "hint/hintkeep.opened":=by kernel_rfl
 rw[this];decide
theorem AW.base{wl U:World}{F1 F2:Nat->Prop}{b:Nat}{buf:List dp}{ss:List (List dp)}{ts:List (List Wd)}(h:AW U w F1 F2 b buf ss ts)(B:lz wl U):AW wl w F1 F2 b buf ss ts:=
 ⟨h.j,λk O=>bX B.size (h.Th k O),λk O=>bX B.size (h.Pq k O),B.trans h.low⟩
section
variable {Z:j8 prog} {W0:World} {Mp:Nat->Prop} {fn:cm} {tm:Array Value} {os:List OF} {wl:World} {k:List Item}
theorem EA{i:Nat}(hi:ops[i]?=some o)(hW:WT wl)(h5:5<=wl.heap.size)
  (hn:∀(w2:World)(F1 F2:Nat->Prop)(b W:Nat),AW wl w2 F1 F2 b [] [] []->WB wl w2 F1 F2 b W (bU 12 lG)->dl (fy Z W0 Mp) (⟨fn,eN o.dst tm (.pointer (some ⟨W,0,none⟩)),.inRegion ops rest::k⟩::os) w2 []) :
  dl (fy Z W0 Mp) (⟨21,#[cS,cS,cS,cS,cS,cS,cS,cS,cS,cS,cS,cS,cS,cS],[.code (dX Tryz.f21)]⟩::⟨fn,tm,.inRegion ops (i::rest)::k⟩::os) wl []:=by
 have HN:cg _:=And.intro hW (And.intro h5 hn);clear hW h5 hn;show dl _ (⟨_,_,[.code (.seq (.region 0 _ false) (.seq (.region 1 _ false) (.seq (.region 2 _ false) (.seq (.seq (.region 3 _ false) (.cond _ _ .skip)) (.seq (.region 5 _ false) .ret)))))]⟩::_) _ _;refine dl.sr λU B=>?_
 (refine dG ?_; go_simp);refine dl.ie B ?_;clear B U;refine dl.sr λU B=>?_;refine dl.qH (#[cS,cS,cS,cS,cS,cS,cS,cS,cS,cS,cS,cS,cS,cS,cS,cS,cS,cS,cS,cS,cS,cS,cS,cS,cS,cS,cS,cS,cS,cS,cS,cS,cS,cS,cS,cS,cS,cS,cS,cS,cS,cS,cS,cS,cS,cS,cS,cS,cS,cS,cS,cS,cS,cS,cS,cS,cS,cS,cS,cS,cS,cS,cS,cS,cS,cS,cS,cS,cS,cS,cS,cS,cS,cS,cS,cS,cS,cS,cS,cS,cS,cS,cS,cS,cS,cS,cS,cS,cS,cS,cS,cS,cS,cS,cS,cS,cS,cS,cS,cS,cS,cS,cS,cS,cS,cS,cS,cS,cS,cS,cS,cS,cS,cS,cS,cS,cS,cS,cS,cS,cS,cS,cS,cS,cS,cS,cS,cS,cS,cS,cS,cS,cS,cS,cS,cS,cS,cS,cS,cS,cS,cS,cS,cS,cS,cS,cS,cS,cS,cS,cS,cS,cS,cS]:Array Value) (i:=0) (gH:=f32) (c:=dX f32) rfl rfl func32 (by kernel_rfl) Gr rfl (by simp[dN]) (by kernel_rfl) ?_;refine GM rfl HN.out.1 HN.out.2.1 λw1 O=>?_;have af:cg _:=O;clear O;rw[fA];go_simp
 (refine dG ?_; go_simp);refine dl.ie B ?_;clear B U;refine dl.sc λU B=>?_;refine iZ (by kernel_rfl) (by rw[B.out]; rfl) λy0 ac Y=>?_;have C:=Te y0;have HL:cg (lz wl y0):=af.out.trans (mn ac Y);clear ac Y;go_wp2_with fail;refine C.mono ?_;clear C;rintro e w2 ⟨b,F1,F2,rfl,hA,hb⟩;have HA:cg (AW wl w2 F1 F2 b [] [] []):=hA.base HL.out;clear hA hb;go_wp2;refine e9 ?_;rw[B.out];clear B U;refine dl.seq (dl.sc λU B=>?_);refine iZ (by kernel_rfl) (by rw[B.out]; rfl) λy1 ad aa=>?_;have HA:cg _:=HA.out.same (mn ad aa);clear ad aa;go_wp2;refine e9 ?_;rw[B.out];clear B U;refine dl.nL trivial rfl (dl.skip (dl.sc λU B=>?_));refine iZ (by kernel_rfl) (by rw[B.out]; rfl) λy2 ae ab=>?_;have HA:cg _:=HA.out.same (mn ae ab);clear ae ab;go_wp2;refine e9 ?_;rw[B.out];clear B U;refine dl.back (v:=.pointer (some ⟨y2.heap.size,0,none⟩)) (.inr ⟨_,rfl⟩) func21 hi (λτ=>by simp[cn,results21,go_sem]) ?_;refine HN.out.2.2 _ F1 F2 b _ (HA.out.same (.of (eX.alloc _ _))) ⟨(uS _ _).trans ?_,λhf=>absurd (HA.out.j.RS _ hf) (bY _),λhf=>absurd (HA.out.j.RO _ hf) (bY _),HA.out.low.size⟩;kernel_rfl
end
structure rM(w:World)(la:Option Addr)(ls:List Raw):Prop where
 cell:∀j(h:j<ls.length),∃b off,la=some ⟨b,off,none⟩/\w.cell? ⟨b,off+j*4,none⟩=some (.int .i64 ls[j].name)/\w.cell? ⟨b,off+j*4+1,none⟩=some (.int .i64 ls[j].text)/\w.cell? ⟨b,off+j*4+2,none⟩=some (.int .i64 ls[j].dq)/\w.cell? ⟨b,off+j*4+3,none⟩=some (.int .i64 ls[j].dB)
 ok:∀x∈ls,x.Ok
theorem qx{a:Addr}{v:Value}(B:lz w y)(h:w.cell? a=some v):y.cell? a=some v:=by
 rw[<-h];exact World.cell?_of_block (B.block _ (cO w a h))
theorem rM.low(h:rM w la ls)(B:lz w y):rM y la ls:=⟨λj O=>by
 obtain⟨b,off,e,U,Y,h3,h4⟩:=h.cell j O
 exact⟨b,off,e,qx B U,qx B Y,qx B h3,qx B h4⟩,h.ok⟩
theorem wC.low{ls:List Int}(h:wC w la ls)(B:lz w y):wC y la ls:=⟨λj O=>by
 obtain⟨b,off,e,U⟩:=h.cell j O
 exact⟨b,off,e,qx B U⟩,h.lo,h.hi⟩
def lP(ls:List Raw)(c:Nat):List oH:=(ls.take c).foldl qp (bU 12 lG)
def l8(ls:List Raw):List oH:=lP ls 80
theorem D1(ls:List Raw)(c:Nat)(h:c<ls.length):lP ls (c+1)=qp (lP ls c) ls[c]:=by
 unfold lP;rw[List.take_succ_eq_append_getElem h,List.foldl_append];rfl
theorem EZ:Tryz.f14.name≠ "runtime.NumGoroutine":=by
 have:Tryz.f14.name = "hint/hintkeep.filled":=by kernel_rfl
 rw[this];decide
section
variable {Z:j8 prog} {W0:World} {Mp:Nat->Prop} {fn:cm} {tm:Array Value} {os:List OF} {wl:World} {k:List Item}
theorem FJ{i:Nat}{ta:Option Addr}{rs:List Int}{lc rc:Nat}(hi:ops[i]?=some o)(hW:WT wl)(h5:5<=wl.heap.size)(hL:rM wl la ls)(hT:wC wl ta rs)(ag:ls.length<=lc)(ah:rs.length<=rc)(ai:ls.length<=9223372036854775807)(aj:rs.length<=9223372036854775807)
  (hn:∀(w2:World)(F1 F2:Nat->Prop)(b W:Nat)(buf:List dp)(ss:List (List dp)),AW wl w2 F1 F2 b buf ss []->WB wl w2 F1 F2 b W (l8 ls)->Sk (l8 ls) buf ss->dl (fy Z W0 Mp) (⟨fn,eN o.dst tm (.pointer (some ⟨W,0,none⟩)),.inRegion ops rest::k⟩::os) w2 []) :
  dl (fy Z W0 Mp) (⟨14,#[.slice la ls.length lc,.slice ta rs.length rc,cS,cS,cS,cS,cS,cS,cS,cS,cS,cS,cS,cS,cS,cS,cS,cS,cS,cS,cS,cS,cS,cS,cS,cS,cS,cS,cS,cS,cS,cS,cS,cS,cS,cS,cS,cS,cS,cS,cS,cS,cS,cS,cS,cS,cS,cS,cS,cS,cS],[.code (dX Tryz.f14)]⟩::⟨fn,tm,.inRegion ops (i::rest)::k⟩::os) wl []:=by
 have HN:cg _:=And.intro hW (And.intro h5 hn);have HR:cg _:=And.intro hL (And.intro hT (And.intro ag (And.intro ah (And.intro ai aj))));clear hW h5 hn hL hT ag ah ai aj;show dl _ (⟨_,_,[.code (.seq (.region 0 _ false) (.seq (.region 1 _ false) (.seq (.seq (.region 2 _ false) (.cond _ _ .skip)) (.seq (.seq (.region 4 _ false) (.block 0 _)) (.seq (.region 14 _ false) .ret)))))]⟩::_) _ _;refine dl.sr λkk B=>?_
 (refine dG ?_; go_simp);refine dl.ie B ?_;clear B kk;refine dl.sr λkk B=>?_;refine dl.qH (#[cS,cS,cS,cS,cS,cS,cS,cS,cS,cS,cS,cS,cS,cS]:Array Value) (i:=0) (gH:=Tryz.f21) (c:=dX Tryz.f21) rfl rfl func21 (by kernel_rfl) FO rfl (by simp[dN]) (by kernel_rfl) ?_;refine EA rfl HN.out.1 HN.out.2.1 λw1 F1 F2 b W O U=>?_;have HA:cg _:=O;have HB:cg _:=U;clear O U;rw[fA];go_simp
 (refine dG ?_; go_simp);refine dl.ie B ?_;clear B kk;refine dl.seq (dl.sc λkk B=>?_);refine iZ (by kernel_rfl) (by rw[B.out]; rfl) λy1 ak Y=>?_;have HA:cg _:=HA.out.same (mn ak Y);have HB:cg _:=HB.out.low (mn ak Y);clear ak Y;go_wp2;refine e9 ?_;rw[B.out];clear B kk;refine dl.nL trivial rfl (dl.skip (dl.sc λkk B=>?_));refine iZ (by kernel_rfl) (by rw[B.out]; rfl) λy2 al aa=>?_;have HA:cg _:=HA.out.same (mn al aa);have HB:cg _:=HB.out.low (mn al aa);clear al aa;have ag:=HR.out.2.2.1;have ah:=HR.out.2.2.2.1;have ai:=HR.out.2.2.2.2.1;have aj:=HR.out.2.2.2.2.2;go_wp2;go_loopw [6] (λi wr=>∃(c:Nat)(ab:Nat->Prop)(buf:List dp)(ss:List (List dp)),c<=80/\c<=ls.length/\i=.int .i64 (c:Nat)/\AW wl wr ab F2 b buf ss []/\WB wl wr ab F2 b W (lP ls c)/\Sk (lP ls c) buf ss) (λi _=>ls.length-(intOf i).toNat)
 case atStart=>exact⟨0,F1,[],[],cf _,cf _,rfl,HA.out,HB.out,Sk.new⟩
 case round=>
  obtain⟨c,ab,buf,ss,ax,jv,rfl,O,U,hS⟩:=hrel;have ac:cg _:=O;have ae:cg _:=U;have af:cg _:=hS;clear O U hS HA HB;by_cases h1:c<ls.length
  .have ao:(c:Int)<(ls.length:Int):=by omega
   by_cases h2:c<80
   .have ap:(c:Int)<80:=by omega
    obtain⟨lb,lo,rfl,c0,c1,c2,c3⟩:=(HR.out.1.low ac.out.low).cell c h1;have C:=MO ac.out ae.out af.out ls[c] (HR.out.1.ok _ (bO h1));rw[<-D1 ls c h1]at C;unfold qq at C;generalize ls[c].name=xn at *;generalize ls[c].text=xt at *;generalize ls[c].dq=xw at *;generalize ls[c].dB=xg at *;clear ac ae af;go_wp2_with fail;refine C.mono ?_;clear C;rintro e w2 ⟨rfl,F3,buf2,O,U,hS⟩;have HA3:cg _:=O;have HB3:cg _:=U;have HS3:cg _:=hS;clear O U hS c0 c1 c2 c3;by_cases h3:c<rs.length
    .have aq:(c:Int)<(rs.length:Int):=by omega
     obtain⟨tb,ay,rfl,d0⟩:=(HR.out.2.1.low HA3.out.low).cell c h3;have ar:=HR.out.2.1.lo rs[c] (bO h3);have au:=HR.out.2.1.hi rs[c] (bO h3);generalize rs[c]=x at *;have C:cl prog 15 #[.int .i64 x,.int .i64 4] w2 λe w'=>e=.returned (.int .i64 (pk x 4:Nat))/\w2=w':=ib x 4 w2 ar au (by omega) (by omega);by_cases hz:pk x 4=0
     .rw[hz]at C;obtain⟨d,hd⟩:∃d,x.tdiv 4=d:=⟨_,rfl⟩
      have am : -9223372036854775808<=d/\d<=9223372036854775807:=by
       by_cases h0:0<=x
       .have:=ci (a:=x) (b:=4) h0;omega
       .have:=ci (a:=-x) (b:=4) (by omega);rw[cj]at this;omega
      have av:IntKind.i64.wrap d=d:=by simp only[cG]; omega
      have D:=K5 HA3.out HB3.out HS3.out d am.1 am.2;clear hz HA3 HB3 HS3 am;go_wp2_with fail;refine C.mono ?_;clear C;rintro e w3 ⟨rfl,rfl⟩;go_wp2_with fail;refine D.mono ?_;clear D;rintro e w3 ⟨rfl,F4,buf3,ss3,O,U,hS⟩;have HA4:cg _:=O;have HB4:cg _:=U;have HS4:cg _:=hS;clear O U hS d0 hd av;go_wp2;go_roundw
      case rel=>exact⟨c+1,F4,buf3,ss3,by omega,by omega,by go_num,HA4.out,HB4.out,HS4.out⟩
      case measure=>simp[intOf]; omega
     .generalize pk x 4=pz at *;have az:¬(pz:Int)=0:=by omega
      go_wp2_with fail;refine C.mono ?_;clear C;rintro e w3 ⟨rfl,rfl⟩;go_wp2;go_roundw
      case rel=>exact⟨c+1,F3,buf2,ss,by omega,by omega,by go_num,HA3.out,HB3.out,HS3.out⟩
      case measure=>simp[intOf]; omega
    .have aq:¬(c:Int)<(rs.length:Int):=by omega
     go_wp2;go_roundw
     case rel=>exact⟨c+1,F3,buf2,ss,by omega,by omega,by go_num,HA3.out,HB3.out,HS3.out⟩
     case measure=>simp[intOf]; omega
   .have ap:¬(c:Int)<80:=by omega
    have ad:cg (lP ls c=l8 ls):=by
     show lP ls c=lP ls 80;rw[show c=80 by omega]
    go_wp2;refine e9 ?_;rw[B.out];refine dl.seq ?_;refine kq λaw an=>?_;refine dl.region ?_
    (refine dG ?_; go_simp)
    (refine dG ?_; go_simp);refine dl.inRegion ?_;rw[an.out];refine dl.back (v:=.pointer (some ⟨W,0,none⟩)) (.inr ⟨_,rfl⟩) c9 hi (λτ=>by simp[cn,results14,go_sem]) ?_;exact HN.out.2.2 _ ab F2 b W buf ss ac.out (ad.out▸ae.out) (ad.out▸af.out)
  .have ao:¬(c:Int)<(ls.length:Int):=by omega
   have ad:cg (lP ls c=l8 ls):=by
    show lP ls c=lP ls 80;unfold lP;rw[bQ (by omega),bQ (by omega)]
   go_wp2;refine e9 ?_;rw[B.out];refine dl.seq ?_;refine kq λaw an=>?_;refine dl.region ?_
   (refine dG ?_; go_simp)
   (refine dG ?_; go_simp);refine dl.inRegion ?_;rw[an.out];refine dl.back (v:=.pointer (some ⟨W,0,none⟩)) (.inr ⟨_,rfl⟩) c9 hi (λτ=>by simp[cn,results14,go_sem]) ?_;exact HN.out.2.2 _ ab F2 b W buf ss ac.out (ad.out▸ae.out) (ad.out▸af.out)
end
end
section
open Go.Conc Go.RowKit Go.Maps
variable {ss:List (List dp)} {buf:List dp} {K:List oH}
def RV(K:List oH):List dp:=(K.filter λk=>k.there).map CN
theorem Jq(h:Sk K buf ss):((RV K).map dp.name).Nodup:=by
 unfold RV;rw[bW];show(List.map _ _).Pairwise _;rw[bR,List.pairwise_filter,List.pairwise_iff_getElem];intro i j hi B U Y h2 e;have O:K[i].name=K[j].name:=e;rw[(h.wP i hi Y).1,(h.wP j B h2).1]at O;have:=I6 (by rw[<-h.len]; exact hi) (by rw[<-h.len]; exact B) O;omega
theorem NU{e:dp}:e∈RV K↔∃i,∃h:i<K.length,K[i].there=true/\e=CN K[i]:=by
 unfold RV;rw[bV];constructor
 .rintro⟨a,O,rfl⟩;obtain⟨B,U⟩:=bT.1 O;obtain⟨i,hi,rfl⟩:=List.mem_iff_getElem.1 B;exact⟨i,hi,U,rfl⟩
 .rintro⟨i,hi,B,rfl⟩;exact⟨K[i],bT.2 ⟨bO hi,B⟩,rfl⟩
theorem qA{l:List dp}(h:(l.map dp.name).Nodup):l.Nodup:=by
 unfold List.Nodup at h⊢;rw[bR]at h;exact h.imp λh e=>h (by rw[e])
theorem Sk.perm(h:Sk K buf ss):(eJ ss buf).Perm (RV K):=by
 rw[List.perm_ext_iff_of_nodup (qA (qU h.inv)) (qA (Jq h))];intro e;rw[h.there e,NU]
end
section
open Go.Conc Go.RowKit Go.Maps
theorem sM.low{w w':World}{s n:Nat}{v:Value}{xs:List Value}(h:sM w s v n xs)(U:lz w w'):sM w' s v n xs:=h.later λa u B=>by
 have O:a.block<w.heap.size:=cO w a B;simp only[World.cell?]at B⊢;rw[U.block _ O];exact B
end
section
open Go.Conc Go.RowKit Go.Maps
theorem AL(va vb:Value)(xs:List Wd)(w:World)(ha:sM w 1 va xs.length (dn xs))(hb:sM w 1 vb xs.length (dn xs))(hx:xs.length<=1000000) :
  cl prog 19 #[va,vb] w λe w'=>e=.returned (.bool true)/\Below w.heap.size w w':=by
 obtain⟨aa,ca,rfl,ac,U,_,hA⟩:=ha;obtain⟨ab,cb,rfl,ad,Y,_,hB⟩:=hb;have HA:cg (∀j(h:j<xs.length),∃b off,aa=some ⟨b,off,none⟩/\w.cell? ⟨b,off+j,none⟩=some (.string ⟨xs[j].toArray⟩)):=λj h=>hA j _ (DM xs j h);have HB:cg (∀j(h:j<xs.length),∃b off,ab=some ⟨b,off,none⟩/\w.cell? ⟨b,off+j,none⟩=some (.string ⟨xs[j].toArray⟩)):=λj h=>hB j _ (DM xs j h);clear hA hB U Y;go_enter func19,ntmps19;go_wp2;go_loopw [5] (λi wr=>∃n:Nat,n<=xs.length/\i=.int .i64 n/\Below w.heap.size w wr) (λi _=>xs.length-(intOf i).toNat)
 case atStart=>exact⟨0,cf _,rfl,Below.refl _ _⟩
 case round=>
  obtain⟨n,hn,rfl,hb⟩:=hrel;have HBW:cg _:=hb;clear hb;by_cases B:n<xs.length
  .have O:(n:Int)<(xs.length:Int):=by omega
   obtain⟨b1,o1,rfl,c1⟩:=HA.out n B;obtain⟨b2,o2,rfl,c2⟩:=HB.out n B;have d1:=ct HBW.out c1;have d2:=ct HBW.out c2;generalize xs[n]=x at *;clear c1 c2;go_wp2;go_quiet (fail);go_wp2;go_roundw
   case rel=>exact⟨n+1,by omega,by go_num,iU HBW.out _⟩
   case measure=>simp[intOf]; omega
  .have O:¬(n:Int)<(xs.length:Int):=by omega
   go_wp2;go_ret;exact⟨rfl,HBW.out⟩
theorem Gl{q:ByteArray}(B:q.size<=24)(O:∀c∈q.data.toList,ow c=true):ep q.data.toList=true:=by
 unfold ep;have e:q.data.toList.length=q.size:=by rw[Array.length_toList]; rfl
 rw[e];simp only[Bool.and_eq_true,decide_eq_true_eq,bS];exact⟨B,O⟩
theorem uQ{q:Wd}(h:ep q=true):q.length<=24/\∀c∈q,ow c=true:=by
 unfold ep at h;simp only[Bool.and_eq_true,decide_eq_true_eq,bS]at h;exact h
theorem ext_mem{s:ByteArray}{a b:Nat}{c:UInt8}(h:c∈(s.extract a b).data.toList):c∈s.data.toList:=by
 have e:(s.extract a b).data.toList=(s.data.toList.drop a).take (b-a):=by simp[cE]
 rw[e]at h;exact List.mem_of_mem_drop (bP h)
theorem KF(c fr too ch:Int)(w:World)(c0 : -9223372036854775808<=c)(c1:c<=9223372036854775807)(f0 : -9223372036854775808<=fr)(f1:fr<=9223372036854775807)(t0 : -9223372036854775808<=too)(t1:too<=9223372036854775807)(h0 : -9223372036854775808<=ch)(h1:ch<=9223372036854775807) :
  cl prog 16 #[.int .i64 c,.int .i64 fr,.int .i64 too,.int .i64 ch] w λe w'=>∃q:ByteArray,e=.returned (.string q)/\ep q.data.toList=true/\Below w.heap.size w w':=by
 have C:=Bf c w c0 c1;obtain⟨x1,_,x3⟩:=Ms (ma c 258 (by omega));obtain⟨s,hs⟩:∃s:ByteArray,s=⟨(Ac (pk c 258)).toArray⟩:=⟨_,rfl⟩;have ai:s.size<=20:=by rw[hs]; show(Ac (pk c 258)).toArray.size<=20; simpa using x3
 have ag:cg (∀d∈s.data.toList,ow d=true):=by rw[hs]; exact(uQ x1).2
 rw[<-hs]at C;clear hs x1 x3;have A:=λy=>ib fr (s.size+1) y f0 f1 (by omega) (by omega);have ha:=ma fr (s.size+1) (by omega);generalize pk fr (s.size+1)=a at *;have B:=λy=>ib too (s.size-a+1) y t0 t1 (by omega) (by omega);have hb:=ma too (s.size-a+1) (by omega);generalize pk too (s.size-a+1)=b at *;have e1:((s.size+1:Nat):Int)=(s.size:Int)+1:=by omega
 have e2:((s.size-a+1:Nat):Int)=(s.size:Int)-(a:Int)+1:=by omega
 rw[e1]at A;rw[e2]at B;have aa:cg _:=A;have ab:cg _:=B;clear A B e1 e2;have ah:min (a+b) s.size=a+b:=by omega
 have HQ:cg (ep (s.extract a (a+b)).data.toList=true):=Gl (by rw[cB]; omega) λd U=>ag.out d (ext_mem U);by_cases hz:ch.tmod 3=0
 .by_cases ae:0<b
  .have af:0<(b:Int):=by omega
   obtain⟨d,U⟩:∃d,ch.tdiv 3=d:=⟨_,rfl⟩
   have ad : -9223372036854775808<=d/\d<=9223372036854775807:=by
    by_cases h0:0<=ch
    .have:=ci (a:=ch) (b:=3) h0;omega
    .have:=ci (a:=-ch) (b:=3) (by omega);rw[cj]at this;omega
   have aj:IntKind.i64.wrap d=d:=by simp only[cG]; omega
   have D:=λy=>ib d b y ad.1 ad.2 ae (by omega);have hk:=ma d b ae;generalize pk d b=k at *;have HD:cg _:=D;clear D ad;go_enter c8,c6;go_wp2_with fail;refine C.mono ?_;clear C;rintro e w1 ⟨rfl,O⟩;have Y:cg _:=O;clear O;go_wp2_with fail;refine(aa.out w1).mono ?_;rintro e w2 ⟨rfl,rfl⟩;go_wp2_with fail;refine(ab.out w1).mono ?_;rintro e w2 ⟨rfl,rfl⟩;go_wp2_with fail;refine(HD.out w1).mono ?_;rintro e w2 ⟨rfl,rfl⟩;obtain⟨s2,ac⟩:∃s2,s2=s.extract a (a+b):=⟨_,rfl⟩;have ak:s2.size=b:=by rw[ac,cB]; omega
   rw[<-ac];rw[<-ac]at HQ;clear ac HD aa ab;have al:(k:Int)+1<=(b:Int):=by omega
   have am:min k s2.size=k:=by omega
   have an:min k b=k:=by omega
   go_wp2;go_quiet (fail);go_wp2;go_ret;refine⟨_,rfl,Gl ?_ λd U=>?_,iU Y.out _⟩
   .simp only[cC,cB];show _+1+_<=24;omega
   .simp only[cF,Array.toList_append,List.mem_append]at U;rcases U with(U|U)|U
    .exact(uQ HQ.out).2 d (ext_mem U)
    .have:d=88:=by simpa using U
     rw[this]; decide
    .exact(uQ HQ.out).2 d (ext_mem U)
  .have af:¬0<(b:Int):=by omega
   go_enter c8,c6;go_wp2_with fail;refine C.mono ?_;clear C;rintro e w1 ⟨rfl,O⟩;have Y:cg _:=O;clear O;go_wp2_with fail;refine(aa.out w1).mono ?_;rintro e w2 ⟨rfl,rfl⟩;go_wp2_with fail;refine(ab.out w1).mono ?_;rintro e w2 ⟨rfl,rfl⟩;go_wp2;go_ret;exact⟨_,rfl,HQ.out,Y.out⟩
 .go_enter c8,c6;go_wp2_with fail;refine C.mono ?_;clear C;rintro e w1 ⟨rfl,O⟩;have Y:cg _:=O;clear O;go_wp2_with fail;refine(aa.out w1).mono ?_;rintro e w2 ⟨rfl,rfl⟩;go_wp2_with fail;refine(ab.out w1).mono ?_;rintro e w2 ⟨rfl,rfl⟩;go_wp2;go_ret;exact⟨_,rfl,HQ.out,Y.out⟩
end
section
open Go.Conc Go.RowKit Go.Maps
def fP(w0 w:World)(b W:Nat)(K:List oH):Prop:=5<=w0.heap.size/\∃(F1 F2:Nat->Prop)(buf:List dp)(ss:List (List dp)),AW w0 w F1 F2 b buf ss []/\WB w0 w F1 F2 b W K/\Sk K buf ss
theorem fP.low{w0 w w':World}{b W:Nat}{K:List oH}(h:fP w0 w b W K)(B:lz w w'):fP w0 w' b W K:=by
 obtain⟨O,F1,F2,buf,ss,U,Y,h3⟩:=h;exact⟨O,F1,F2,buf,ss,U.same B,Y.low B,h3⟩
theorem fP.cell{w0 w:World}{b W:Nat}{K:List oH}(h:fP w0 w b W K):w.cell? ⟨W,0,none⟩=some (.pointer (some ⟨b,0,none⟩)):=by
 obtain⟨O,F1,F2,buf,ss,U,B,Y⟩:=h;rw[dh B.blk,mV];rfl
def ix(K:List oH)(mode:Nat)(B:ByteArray)(dB most:Nat):List Wd:=(vd (RV K) mode B.data.toList dB most).1
def kp(w:World)(v:Value)(xs:List Wd):Prop:=sM w 1 v xs.length (dn xs)
theorem kp.low{w w':World}{v:Value}{xs:List Wd}(h:kp w v xs)(B:lz w w'):kp w' v xs:=sM.low h B
structure QV(w0 w:World)(b W:Nat)(K:List oH)(n:Nat)(u:Value)(xs:List Wd):Prop where
 x:5<=w0.heap.size/\∃(F1 F2:Nat->Prop)(buf:List dp)(ss:List (List dp)),AW w0 w F1 F2 b buf ss []/\WB w0 w F1 F2 b W K/\Sk K buf ss/\ss.length=n/\Kept w F1 F2 u xs
theorem QV.says{w0 w:World}{b W n:Nat}{K:List oH}{u:Value}{xs:List Wd}(h:QV w0 w b W K n u xs):kp w u xs:=by
 obtain⟨O,F1,F2,buf,ss,U,Y,h3,h4,B⟩:=h;exact sM.jj B.1
theorem A5(l:List dp)(ok:Nat->Bool):∀(n:Nat)(t:List Nat),(ol l ok n t).length<=n
 |0,_=>by simp[ol]
 |n+1,t=>by
  unfold ol;split
  .simp
  .simp only[List.length_cons];exact Nat.succ_le_succ (A5 l ok n _)
theorem zf(K:List oH)(mode:Nat)(B:ByteArray)(dB most:Nat):(ix K mode B dB most).length<=most:=by
 unfold ix vd;split
 .simp
 .split
  .simp only[List.length_map];exact A5 _ _ _ _
  .simp
section
variable {Z:j8 prog} {W0:World} {Mp:Nat->Prop} {fn:cm} {tm:Array Value} {os:List OF} {wl w0:World} {k:List Item} {b W:Nat} {K:List oH} {ops:Array Oper} {i:Nat} {rest:List Nat} {o:Oper} {xs:Array Operand} {tys:Array cp}
theorem fP.T3(mode dB most:Nat)(Y:ByteArray)(h:fP w0 wl b W K)(B:lC wl)(hq:ep Y.data.toList=true)
  (hn:∀(w2:World)(u:Value)(n:Nat),lz wl w2->QV w0 w2 b W K n u (ix K mode Y dB most)->dl (fy Z W0 Mp) (⟨fn,eN o.dst tm (.tuple #[u,.int .i64 0]),.inRegion ops rest::k⟩::os) w2 [])
  (hi:ops[i]?=some o:=by rfl) (aa:Region.wanted o (cq ops tm)=true:=by rfl) (ho:o.op=.call {callee:=.value (.func 17),args:=xs,argTypes:=tys}:=by rfl) (ab:∀x∈xs.toList,dN (fy Z W0 Mp).fq (fy Z W0 Mp).gl x:=by simp[dN,Plain])
  (ha:xs.map (iI tm)=#[.pointer (some ⟨b,0,none⟩),.int .i64 (mode:Int),.string Y,.int .i64 (dB:Int),.int .i64 (most:Int)]:=by kernel_rfl) (hm:mode<=3:=by omega) (ht:dB<=255:=by omega) (O:1<=most:=by omega) (U:most<=20:=by omega) :
  dl (fy Z W0 Mp) (⟨fn,tm,.inRegion ops (i::rest)::k⟩::os) wl []:=by
 obtain⟨h5,F1,F2,buf,ss,h1,h2,h3⟩:=h;refine h1.QD h5 B hq (λw2 u L k1 hl hp hs hk=>hn w2 u _ hl ⟨h5,F1,F2,buf,ss,k1,h2.low hl,h3,rfl,?_⟩) hi aa ho ab ha hm ht O U;unfold ix;rw[<-vT (Jq h3) (λe he=>by obtain⟨i,_,_,rfl⟩:=NU.1 he; rfl) hm ht O U hq (hp.trans (h3.perm.filter _)) hs];exact hk
theorem fP.ask(mode dB most:Nat)(O:ByteArray)(h:fP w0 wl b W K)(B:lC wl)(hq:ep O.data.toList=true)
  (hn:∀(w2:World)(u:Value),lz wl w2->kp w2 u (ix K mode O dB most)->dl (fy Z W0 Mp) (⟨fn,eN o.dst tm (.tuple #[u,.int .i64 0]),.inRegion ops rest::k⟩::os) w2 [])
  (hi:ops[i]?=some o:=by rfl) (U:Region.wanted o (cq ops tm)=true:=by rfl) (ho:o.op=.call {callee:=.value (.func 17),args:=xs,argTypes:=tys}:=by rfl) (Y:∀x∈xs.toList,dN (fy Z W0 Mp).fq (fy Z W0 Mp).gl x:=by simp[dN,Plain])
  (ha:xs.map (iI tm)=#[.pointer (some ⟨b,0,none⟩),.int .i64 (mode:Int),.string O,.int .i64 (dB:Int),.int .i64 (most:Int)]:=by kernel_rfl) (hm:mode<=3:=by omega) (ht:dB<=255:=by omega) (aa:1<=most:=by omega) (ab:most<=20:=by omega) :
  dl (fy Z W0 Mp) (⟨fn,tm,.inRegion ops (i::rest)::k⟩::os) wl []:=
 h.T3 mode dB most O B hq (λw2 u _ hl hk=>hn w2 u hl hk.says) hi U ho Y ha hm ht aa ab
theorem fP.fill(la ta:Option Addr)(ls:List Raw)(rs:List Int)(lc rc:Nat)(hW:WT wl)(h5:5<=wl.heap.size)(hL:rM wl la ls)(hT:wC wl ta rs)(B:ls.length<=lc)(O:rs.length<=rc)(U:ls.length<=9223372036854775807)(Y:rs.length<=9223372036854775807)
  (hn:∀(w2:World)(b W:Nat),lz wl w2->fP wl w2 b W (l8 ls)->dl (fy Z W0 Mp) (⟨fn,eN o.dst tm (.pointer (some ⟨W,0,none⟩)),.inRegion ops rest::k⟩::os) w2 [])
  (hi:ops[i]?=some o:=by rfl) (aa:Region.wanted o (cq ops tm)=true:=by rfl) (ho:o.op=.call {callee:=.value (.func 14),args:=xs,argTypes:=tys}:=by rfl) (ab:∀x∈xs.toList,dN (fy Z W0 Mp).fq (fy Z W0 Mp).gl x:=by simp[dN,Plain]) (ha:xs.map (iI tm)=#[.slice la ls.length lc,.slice ta rs.length rc]:=by kernel_rfl) :
  dl (fy Z W0 Mp) (⟨fn,tm,.inRegion ops (i::rest)::k⟩::os) wl []:=by
 have ac:xs.size=2:=by have:=congrArg Array.size ha; simpa using this
 refine dl.qH _ (gH:=Tryz.f14) (c:=dX Tryz.f14) hi aa c9 (by kernel_rfl) EZ ho ab ?_ (FJ hi hW h5 hL hT B O U Y λw2 F1 F2 b W buf ss h1 h2 h3=>hn w2 b W h1.low ⟨h5,F1,F2,buf,ss,h1,h2,h3⟩);rw[ha,ac];kernel_rfl
end
end
section
open Go.Conc Go.RowKit Go.Maps
def Q3(c:Code):Code:=match c with
 |.seq _ (.seq _ (.seq _ (.seq _ (.seq _ (.seq _ (.seq (.seq _ (.block _ (.loop x))) _))))))=>x
 |_=>.skip
def QK(c:Code):Code:=match c with
 |.seq _ (.seq _ (.seq _ (.seq _ (.seq _ (.seq _ (.seq (.seq _ (.block _ (.loop _))) y))))))=>y
 |_=>.skip
section
variable {Z:j8 prog} {W0:World} {Mp:Nat->Prop} {wl:World}
theorem EL{e1 e2 e3:World}{b1 b2 b3 W1 W2 W3:Nat}{K:List oH}{U:ByteArray}(hT:lC wl/\5<=wl.heap.size)(hq:ep U.data.toList=true)
  (hn:∀(w:World)(bJ:Array Value),lz wl w->bJ[12]?=some (.bool true)->dl (fy Z W0 Mp) [⟨7,bJ,[.code .ret]⟩] w []) :
  ∀(d m:Nat)(w:World)(a0 a1 a2 a3 a4 a5 a6 a7 a8 a9 ah ai aj ak al am an ao ap aq ar au av aw ax ay az a' aA aB aC aD aE aF aG aH aI aJ aK aL aM aN aO aP aQ aR aS aT aU aV aW aX aY aZ ba bc bd be bf bg bh bi bj bk bl bm bn bo bp bq br bs bt bu bv bw bx bz b0 b4 b5 b6 b7 b8 b9 b' bA bB bC bD bE bF bG bH bI ab ac ad ae af ag:Value),4=m+d->lz wl w->fP e1 w b1 W1 K->fP e2 w b2 W2 K->fP e3 w b3 W3 K->
   dl (fy Z W0 Mp) [⟨7,#[a0,a1,a2,a3,a4,a5,a6,a7,a8,a9,ah,ai,aj,.pointer (some ⟨W1,0,none⟩),.pointer (some ⟨W2,0,none⟩),.pointer (some ⟨W3,0,none⟩),.string U,.int .i64 (m:Int),ak,al,am,an,ao,ap,aq,ar,au,av,aw,ax,ay,az,a',aA,aB,aC,aD,aE,aF,aG,aH,aI,aJ,aK,aL,aM,aN,aO,aP,aQ,aR,aS,aT,aU,aV,aW,aX,aY,aZ,ba,bc,bd,be,bf,bg,bh,bi,bj,bk,bl,bm,bn,bo,bp,bq,br,bs,bt,bu,bv,bw,bx,bz,b0,b4,b5,b6,b7,b8,b9,b',bA,bB,bC,bD,bE,bF,bG,bH,bI,ab,ac,ad,ae,af,ag],[.code (Q3 (dX Tryz.f7)),.inLoop (Q3 (dX Tryz.f7)),.inBlock 0,.code (QK (dX Tryz.f7))]⟩] w []:=by
 have HT:cg _:=hT;have HQ:cg _:=hq;clear hT hq;intro d
 induction d with
 |zero=>
  intro m w a0 a1 a2 a3 a4 a5 a6 a7 a8 a9 ah ai aj ak al am an ao ap aq ar au av aw ax ay az a' aA aB aC aD aE aF aG aH aI aJ aK aL aM aN aO aP aQ aR aS aT aU aV aW aX aY aZ ba bc bd be bf bg bh bi bj bk bl bm bn bo bp bq br bs bt bu bv bw bx bz b0 b4 b5 b6 b7 b8 b9 b' bA bB bC bD bE bF bG bH bI ab ac ad ae af ag hm B h1 h2 h3;obtain rfl:m=4:=by omega
  have Y:cg _:=B;clear B h1 h2 h3 hm;show dl _ [⟨_,_,.code (.seq (.seq (.region 8 _ false) (.cond _ .skip (.exit 0))) (.seq (.block 1 (.seq (.region 10 _ false) (.seq (.region 11 _ false) (.seq (.region 12 _ false) (.seq (.region 13 _ false) (.seq (.region 14 _ false) (.seq (.region 15 _ false) (.cond _ _ .skip)))))))) (.region 9 _ false)))::_⟩] _ _;refine dl.seq (dl.sr λkk O=>?_)
  (refine dG ?_; go_simp)
  (refine dG ?_; go_simp);refine dl.ie O ?_;clear O kk;refine dl.nL trivial (by first|rfl|simp[iI]) ?_;refine dl.exit (k':=[.code (QK (dX Tryz.f7))]) rfl ?_;show dl _ [⟨_,_,[.code (.seq (.region 17 _ false) .ret)]⟩] _ _;refine dl.sr λkk O=>?_
  (refine dG ?_; go_simp);refine dl.ie O ?_;exact hn _ _ Y.out rfl
 |succ d ih=>
  intro m w a0 a1 a2 a3 a4 a5 a6 a7 a8 a9 ah ai aj ak al am an ao ap aq ar au av aw ax ay az a' aA aB aC aD aE aF aG aH aI aJ aK aL aM aN aO aP aQ aR aS aT aU aV aW aX aY aZ ba bc bd be bf bg bh bi bj bk bl bm bn bo bp bq br bs bt bu bv bw bx bz b0 b4 b5 b6 b7 b8 b9 b' bA bB bC bD bE bF bG bH bI ab ac ad ae af ag hm B h1 h2 h3;have bL:m<4:=by omega
  have bK:(m:Int)<4:=by omega
  have Y:cg _:=B;have E1:cg (fP _ _ _ _ _):=h1;have E2:cg (fP _ _ _ _ _):=h2;have E3:cg (fP _ _ _ _ _):=h3;have HM:cg _:=hm;clear B h1 h2 h3 hm;show dl _ [⟨_,_,.code (.seq (.seq (.region 8 _ false) (.cond _ .skip (.exit 0))) (.seq (.block 1 (.seq (.region 10 _ false) (.seq (.region 11 _ false) (.seq (.region 12 _ false) (.seq (.region 13 _ false) (.seq (.region 14 _ false) (.seq (.region 15 _ false) (.cond _ _ .skip)))))))) (.region 9 _ false)))::_⟩] _ _;refine dl.seq (dl.sr λkk O=>?_)
  (refine dG ?_; go_simp)
  (refine dG ?_; go_simp);refine dl.ie O ?_;clear O kk;refine dl.Au trivial (by first|rfl|simp[iI,bK]) (dl.skip (dl.seq (dl.block ?_)));refine dl.sr λkk O=>?_
  (refine dG ?_; go_simp)
  (refine dG ?_; go_simp)
  (refine dG ?_; go_simp);refine Ht rfl (by rfl) (by kernel_rfl) λτ=>?_;have q:(tp w τ).cell? _=_:=E1.out.cell;unfold gm; go_simp; simp only[io]; refine dl.uz τ ?_;clear q
  (refine dG ?_; go_simp)
  (refine dG ?_; go_simp);refine fP.ask (i:=6) m 0 20 U E1.out (pN HT.out Y.out) HQ.out λw1 u1 B hs=>?_;have Y:cg (lz wl w1):=Y.out.trans B;have S1:cg (kp _ _ _):=hs;have E1:cg (fP e1 w1 b1 W1 K):=E1.out.low B;have E2:cg (fP e2 w1 b2 W2 K):=E2.out.low B;have E3:cg (fP e3 w1 b3 W3 K):=E3.out.low B;clear B hs;rw[fA];go_simp
  (refine dG ?_; go_simp)
  (refine dG ?_; go_simp)
  (refine dG ?_; go_simp)
  (refine dG ?_; go_simp)
  (refine dG ?_; go_simp);refine dl.ie O ?_;clear O kk;refine dl.sr λkk O=>?_
  (refine dG ?_; go_simp)
  (refine dG ?_; go_simp)
  (refine dG ?_; go_simp);refine Ht rfl (by rfl) (by kernel_rfl) λτ=>?_;have q:(tp w1 τ).cell? _=_:=E2.out.cell;unfold gm; go_simp; simp only[io]; refine dl.uz τ ?_;clear q
  (refine dG ?_; go_simp)
  (refine dG ?_; go_simp);refine fP.ask (i:=6) m 0 20 U E2.out (pN HT.out Y.out) HQ.out λw2 u2 B hs=>?_;have Y:cg (lz wl w2):=Y.out.trans B;have S2:cg (kp _ _ _):=hs;have E1:cg (fP e1 w2 b1 W1 K):=E1.out.low B;have E2:cg (fP e2 w2 b2 W2 K):=E2.out.low B;have E3:cg (fP e3 w2 b3 W3 K):=E3.out.low B;have S1:cg (kp w2 u1 (ix K m U 0 20)):=S1.out.low B;clear B hs;rw[fA];go_simp
  (refine dG ?_; go_simp)
  (refine dG ?_; go_simp)
  (refine dG ?_; go_simp)
  (refine dG ?_; go_simp)
  (refine dG ?_; go_simp);refine dl.ie O ?_;clear O kk;refine dl.sr λkk O=>?_
  (refine dG ?_; go_simp)
  (refine dG ?_; go_simp)
  (refine dG ?_; go_simp);refine Ht rfl (by rfl) (by kernel_rfl) λτ=>?_;have q:(tp w2 τ).cell? _=_:=E3.out.cell;unfold gm; go_simp; simp only[io]; refine dl.uz τ ?_;clear q
  (refine dG ?_; go_simp)
  (refine dG ?_; go_simp);refine fP.ask (i:=6) m 0 20 U E3.out (pN HT.out Y.out) HQ.out λw3 u3 B hs=>?_;have Y:cg (lz wl w3):=Y.out.trans B;have S3:cg (kp _ _ _):=hs;have E1:cg (fP e1 w3 b1 W1 K):=E1.out.low B;have E2:cg (fP e2 w3 b2 W2 K):=E2.out.low B;have E3:cg (fP e3 w3 b3 W3 K):=E3.out.low B;have S1:cg (kp w3 u1 (ix K m U 0 20)):=S1.out.low B;have S2:cg (kp w3 u2 (ix K m U 0 20)):=S2.out.low B;clear B hs;rw[fA];go_simp
  (refine dG ?_; go_simp)
  (refine dG ?_; go_simp)
  (refine dG ?_; go_simp)
  (refine dG ?_; go_simp)
  (refine dG ?_; go_simp);refine dl.ie O ?_;clear O kk;refine dl.sc λkk O=>?_;refine iZ (by kernel_rfl) (by rw[O.out]; rfl) λy4 hy aa=>?_;have B:=mn hy aa;have E1:cg (fP e1 y4 b1 W1 K):=E1.out.low B;have E2:cg (fP e2 y4 b2 W2 K):=E2.out.low B;have E3:cg (fP e3 y4 b3 W3 K):=E3.out.low B;have S1:cg (kp y4 u1 (ix K m U 0 20)):=S1.out.low B;have S2:cg (kp y4 u2 (ix K m U 0 20)):=S2.out.low B;have S3:cg (kp y4 u3 (ix K m U 0 20)):=S3.out.low B;have Y:cg (lz wl y4):=Y.out.trans B;clear hy aa B;have C:=AL u1 u2 _ y4 S1.out S2.out (by have:=zf K m U 0 20; omega);go_wp2_with fail;refine C.mono ?_;clear C;rintro e w4 ⟨rfl,hb⟩;have B:lz y4 w4:=.of hb;have E1:cg (fP e1 w4 b1 W1 K):=E1.out.low B;have E2:cg (fP e2 w4 b2 W2 K):=E2.out.low B;have E3:cg (fP e3 w4 b3 W3 K):=E3.out.low B;have S1:cg (kp w4 u1 (ix K m U 0 20)):=S1.out.low B;have S2:cg (kp w4 u2 (ix K m U 0 20)):=S2.out.low B;have S3:cg (kp w4 u3 (ix K m U 0 20)):=S3.out.low B;have Y:cg (lz wl w4):=Y.out.trans B;clear hb B;go_wp2;refine e9 ?_;rw[O.out];clear O kk;refine dl.sc λkk O=>?_;refine iZ (by kernel_rfl) (by rw[O.out]; rfl) λy5 hy aa=>?_;have B:=mn hy aa;have E1:cg (fP e1 y5 b1 W1 K):=E1.out.low B;have E2:cg (fP e2 y5 b2 W2 K):=E2.out.low B;have E3:cg (fP e3 y5 b3 W3 K):=E3.out.low B;have S1:cg (kp y5 u1 (ix K m U 0 20)):=S1.out.low B;have S2:cg (kp y5 u2 (ix K m U 0 20)):=S2.out.low B;have S3:cg (kp y5 u3 (ix K m U 0 20)):=S3.out.low B;have Y:cg (lz wl y5):=Y.out.trans B;clear hy aa B;have C:=AL u1 u3 _ y5 S1.out S3.out (by have:=zf K m U 0 20; omega);go_wp2_with fail;refine C.mono ?_;clear C;rintro e w5 ⟨rfl,hb⟩;have B:lz y5 w5:=.of hb;have E1:cg (fP e1 w5 b1 W1 K):=E1.out.low B;have E2:cg (fP e2 w5 b2 W2 K):=E2.out.low B;have E3:cg (fP e3 w5 b3 W3 K):=E3.out.low B;have S1:cg (kp w5 u1 (ix K m U 0 20)):=S1.out.low B;have S2:cg (kp w5 u2 (ix K m U 0 20)):=S2.out.low B;have S3:cg (kp w5 u3 (ix K m U 0 20)):=S3.out.low B;have Y:cg (lz wl w5):=Y.out.trans B;clear hb B;go_wp2;refine e9 ?_;rw[O.out];clear O kk;refine dl.sc λkk O=>?_;refine iZ (by kernel_rfl) (by rw[O.out]; rfl) λy6 hy aa=>?_;have B:=mn hy aa;have E1:cg (fP e1 y6 b1 W1 K):=E1.out.low B;have E2:cg (fP e2 y6 b2 W2 K):=E2.out.low B;have E3:cg (fP e3 y6 b3 W3 K):=E3.out.low B;have Y:cg (lz wl y6):=Y.out.trans B;clear hy aa B S1 S2 S3;go_wp2;refine e9 ?_;rw[O.out];clear O kk;refine dl.nL trivial rfl (dl.skip (dl.inBlock ?_));refine kq λkk O=>?_;refine dl.region ?_
  (refine dG ?_; go_simp)
  (refine dG ?_; go_simp)
  (refine dG ?_; go_simp);refine dl.ie O ?_;clear O kk;refine dl.inLoop ?_;have ew:IntKind.i64.wrap ((m:Int)+1)=((m+1:Nat):Int):=by simp only[cG]; omega
  rw[ew];exact ih (m+1) y6 _ _ _ _ _ _ _ _ _ _ _ _ _ _ _ _ _ _ _ _ _ _ _ _ _ _ _ _ _ _ _ _ _ _ _ _ _ _ _ _ _ _ _ _ _ _ _ _ _ _ _ _ _ _ _ _ _ _ _ _ _ _ _ _ _ _ _ _ _ _ _ _ _ _ _ _ _ _ _ _ _ _ _ _ _ _ _ _ _ _ _ _ _ _ _ _ _ _ _ _ _ (by have:=HM.out; omega) Y.out E1.out E2.out E3.out
theorem DO{la ta oa:Option Addr}{ls:List Raw}{rs qs:List Int}{lc rc oc:Nat}{c fr too:Int}(hW:WT wl)(h5:5<=wl.heap.size)(ab:rM wl la ls)(ac:wC wl ta rs)(ad:wC wl oa qs)(ae:ls.length<=lc)(af:rs.length<=rc)(ag:qs.length<=oc)(ah:ls.length<=9223372036854775807)(ai:rs.length<=9223372036854775807)(aj:qs.length<=9223372036854775807)
  (c0 : -9223372036854775808<=c) (c1:c<=9223372036854775807) (f0 : -9223372036854775808<=fr) (f1:fr<=9223372036854775807) (t0 : -9223372036854775808<=too) (t1:too<=9223372036854775807)
  (hn:∀(w:World)(ak:Array Value),lz wl w->ak[12]?=some (.bool true)->dl (fy Z W0 Mp) [⟨7,ak,[.code .ret]⟩] w []) :
  dl (fy Z W0 Mp) [⟨7,#[.slice la ls.length lc,.slice ta rs.length rc,.slice oa qs.length oc,.int .i64 c,.int .i64 fr,.int .i64 too,cS,cS,cS,cS,cS,cS,cS,cS,cS,cS,cS,cS,cS,cS,cS,cS,cS,cS,cS,cS,cS,cS,cS,cS,cS,cS,cS,cS,cS,cS,cS,cS,cS,cS,cS,cS,cS,cS,cS,cS,cS,cS,cS,cS,cS,cS,cS,cS,cS,cS,cS,cS,cS,cS,cS,cS,cS,cS,cS,cS,cS,cS,cS,cS,cS,cS,cS,cS,cS,cS,cS,cS,cS,cS,cS,cS,cS,cS,cS,cS,cS,cS,cS,cS,cS,cS,cS,cS,cS,cS,cS,cS,cS,cS,cS,cS,cS,cS,cS,cS],[.code (dX Tryz.f7)]⟩] wl []:=by
 have O:cg _:=And.intro hW (And.intro h5 (And.intro ab (And.intro ac (And.intro ad (And.intro ae (And.intro af (And.intro ag (And.intro ah (And.intro ai aj)))))))));have HX:cg _:=And.intro c0 (And.intro c1 (And.intro f0 (And.intro f1 (And.intro t0 (And.intro t1 (And.intro hW.2 hn))))));have U:cg (lz wl wl):=lz.refl _;clear hW h5 ab ac ad ae af ag ah ai aj c0 c1 f0 f1 t0 t1 hn;show dl _ [⟨_,_,[.code (.seq (.region 0 _ false) (.seq (.region 1 _ false) (.seq (.region 2 _ false) (.seq (.region 3 _ false) (.seq (.seq (.region 4 _ false) (.cond _ _ .skip)) (.seq (.region 6 _ false) (.seq (.seq (.region 7 _ false) (.block 0 (.loop _))) _)))))))]⟩] _ _;refine dl.sr λkk Y=>?_
 (refine dG ?_; go_simp);refine dl.ie Y ?_;clear Y kk;refine dl.sr λkk Y=>?_
 (refine dG ?_; go_simp)
 (refine dG ?_; go_simp);refine fP.fill (i:=2) la ta ls rs lc rc (xh O.out.1 O.out.2.1 U.out) (bX O.out.2.1 U.out.size) (O.out.2.2.1.low U.out) (O.out.2.2.2.1.low U.out) O.out.2.2.2.2.2.1 O.out.2.2.2.2.2.2.1 O.out.2.2.2.2.2.2.2.2.1 O.out.2.2.2.2.2.2.2.2.2.1 λw1 b1 W1 B he=>?_;have E1:cg (fP _ _ _ _ _):=he;have U:cg (lz wl w1):=U.out.trans B;clear B he;rw[fA];go_simp
 (refine dG ?_; go_simp);refine dl.ie Y ?_;clear Y kk;refine dl.sr λkk Y=>?_
 (refine dG ?_; go_simp)
 (refine dG ?_; go_simp);refine fP.fill (i:=2) la oa ls qs lc oc (xh O.out.1 O.out.2.1 U.out) (bX O.out.2.1 U.out.size) (O.out.2.2.1.low U.out) (O.out.2.2.2.2.1.low U.out) O.out.2.2.2.2.2.1 O.out.2.2.2.2.2.2.2.1 O.out.2.2.2.2.2.2.2.2.1 O.out.2.2.2.2.2.2.2.2.2.2 λw2 b2 W2 B he=>?_;have E1:cg (fP wl w2 b1 W1 (l8 ls)):=E1.out.low B;have E2:cg (fP _ _ _ _ _):=he;have U:cg (lz wl w2):=U.out.trans B;clear B he;rw[fA];go_simp
 (refine dG ?_; go_simp);refine dl.ie Y ?_;clear Y kk;refine dl.sr λkk Y=>?_
 (refine dG ?_; go_simp);refine fP.fill (i:=1) la none ls [] lc 0 (xh O.out.1 O.out.2.1 U.out) (bX O.out.2.1 U.out.size) (O.out.2.2.1.low U.out) ⟨λj hj=>absurd hj (by simp),λx hx=>absurd hx (by simp),λx hx=>absurd hx (by simp)⟩ O.out.2.2.2.2.2.1 (ce _) O.out.2.2.2.2.2.2.2.2.1 (by simp) λw3 b3 W3 B he=>?_;have E1:cg (fP wl w3 b1 W1 (l8 ls)):=E1.out.low B;have E2:cg (fP w1 w3 b2 W2 (l8 ls)):=E2.out.low B;have E3:cg (fP _ _ _ _ _):=he;have U:cg (lz wl w3):=U.out.trans B;clear B he;rw[fA];go_simp
 (refine dG ?_; go_simp);refine dl.ie Y ?_;clear Y kk;refine dl.seq (dl.sc λkk Y=>?_);refine iZ (by kernel_rfl) (by rw[Y.out]; rfl) λy4 hy aa=>?_;have B:=mn hy aa;have E1:cg (fP wl y4 b1 W1 (l8 ls)):=E1.out.low B;have E2:cg (fP w1 y4 b2 W2 (l8 ls)):=E2.out.low B;have E3:cg (fP w2 y4 b3 W3 (l8 ls)):=E3.out.low B;have U:cg (lz wl y4):=U.out.trans B;clear hy aa B;go_wp2;refine e9 ?_;rw[Y.out];clear Y kk;refine dl.nL trivial rfl (dl.skip (dl.sc λkk Y=>?_));refine iZ (by kernel_rfl) (by rw[Y.out]; rfl) λy5 hy aa=>?_;have B:=mn hy aa;have E1:cg (fP wl y5 b1 W1 (l8 ls)):=E1.out.low B;have E2:cg (fP w1 y5 b2 W2 (l8 ls)):=E2.out.low B;have E3:cg (fP w2 y5 b3 W3 (l8 ls)):=E3.out.low B;have U:cg (lz wl y5):=U.out.trans B;clear hy aa B;have C:=KF c fr too 1 y5 HX.out.1 HX.out.2.1 HX.out.2.2.1 HX.out.2.2.2.1 HX.out.2.2.2.2.1 HX.out.2.2.2.2.2.1 (by omega) (by omega);go_wp2_with fail;refine C.mono ?_;clear C;rintro e w6 ⟨qb,rfl,hq,hb⟩;have B:lz y5 w6:=.of hb;have E1:cg (fP wl w6 b1 W1 (l8 ls)):=E1.out.low B;have E2:cg (fP w1 w6 b2 W2 (l8 ls)):=E2.out.low B;have E3:cg (fP w2 w6 b3 W3 (l8 ls)):=E3.out.low B;have U:cg (lz wl w6):=U.out.trans B;have HQ:cg _:=hq;clear hb B hq;go_wp2;refine e9 ?_;rw[Y.out];clear Y kk;refine dl.seq (dl.sr λkk Y=>?_)
 (refine dG ?_; go_simp);refine dl.ie Y ?_;clear Y kk;refine dl.block (dl.loop ?_);exact EL (K:=l8 ls) ⟨HX.out.2.2.2.2.2.2.1,O.out.2.1⟩ HQ.out HX.out.2.2.2.2.2.2.2 4 0 w6 _ _ _ _ _ _ _ _ _ _ _ _ _ _ _ _ _ _ _ _ _ _ _ _ _ _ _ _ _ _ _ _ _ _ _ _ _ _ _ _ _ _ _ _ _ _ _ _ _ _ _ _ _ _ _ _ _ _ _ _ _ _ _ _ _ _ _ _ _ _ _ _ _ _ _ _ _ _ _ _ _ _ _ _ _ _ _ _ _ _ _ _ _ _ _ _ _ _ _ _ _ rfl U.out E1.out E2.out E3.out
end
end
section
open Go.ChangeShapes Go.WideShapes Go.ChangeAt Go.RowKit Go.Conc
variable {p:List MemPlace} {cs:List Value} {base c l o:Nat} {a:Option Addr} {H:Type} {W:World} {d:DataW H} {enc:cp×Value->H}
theorem pY{n:Int}(h:(Lit.int .i64 n).wf=true) : -9223372036854775808<=n/\n<=9223372036854775807:=by
 simpa[Lit.wf,cI,cJ,cH,cK]using h
theorem AV:prog.cellsOf 3=1:=by kernel_rfl
theorem Jy(U:cM prog W .any base 26 (.slice a l c))(h:cR enc prog W 0 (λ_=>true) true 26 (.slice a l c) d p) :
  ∃rs:List Int,rs.length=l/\wC W a rs/\l<=c/\l<=9223372036854775807/\∀x,a=some x->∃c e f,W.heap[x.block]?=some (.cells c e f):=by
 obtain⟨ae,hf⟩:=h;rcases open_ints cy cx AV hf with⟨B,Y⟩|⟨x,af,ag,zs,B,_,hl,hm,hz,Y,O,aa⟩
 .simp[cL]at B;obtain⟨rfl,rfl,rfl⟩:=B;exact⟨[],rfl,⟨λj hj=>absurd hj (by simp),λx Y=>absurd Y (by simp),λx Y=>absurd Y (by simp)⟩,ce _,by omega,λx e=>by cases e⟩
 .simp[cL]at B;obtain⟨rfl,rfl,rfl⟩:=B;simp only[if_true]at hz;obtain⟨ab,ac⟩:=Aw cy U;have ah:c<=9223372036854775807:=hm;refine⟨zs.take l,by simp; omega,⟨λj hj=>?_,λy hy=>(pY (aa y (bP hy))).1,λy hy=>(pY (aa y (bP hy))).2⟩,hl,by omega,λy e=>by cases e; exact ac⟩;obtain⟨b,off,spot⟩:=x;simp only at ab;subst ab;have ad:j<zs.length:=by simp at hj; omega
  have:=O j ad;rw[Addr.add_lit]at this;refine⟨b,off,rfl,?_⟩;rw[this];simp[List.getD,ad]
theorem GU:prog.cellsOf 48=4:=by kernel_rfl
theorem take_one{v:Value}(h:(cs.drop o).take 1=[v]):cs[o]?=some v:=by
 have:((cs.drop o).take 1)[0]?=some v:=by rw[h]; rfl
 rw[List.getElem?_take,if_pos (by omega),List.getElem?_drop]at this;simpa using this
theorem Oo{w:World}{spare:Nat->Bool}{held:Bool}{O:Nat}{b:Nat}{x:DataW H×List MemPlace}
  (hc:w.cells? base ⟨b,o,none⟩ 4=some cs) (h:cQ enc prog w base spare held O 48 cs=some x) :
  ∃r:Raw,r.Ok/\w.cell? ⟨b,o,none⟩=some (.int .i64 r.name)/\w.cell? ⟨b,o+1,none⟩=some (.int .i64 r.text)/\w.cell? ⟨b,o+2,none⟩=some (.int .i64 r.dq)/\w.cell? ⟨b,o+3,none⟩=some (.int .i64 r.dB):=by
 obtain⟨xs,n,rfl,_,hl,Y,U⟩:=DataW.trod_struct underlying48 h;obtain⟨_,aa,B⟩:=World.cells?_some hc;have ab:xs.length=4:=Y
 have cell:∀i,i<4->∀v,cs[i]?=some v->w.cell? ⟨b,o+i,none⟩=some v:=λi hi v hv=>by
  have:=B i hi;rw[Addr.add_lit,hv]at this;exact this
 have one:∀i,i<4->∃n:Int,w.cell? ⟨b,o+i,none⟩=some (.int .i64 n)/\-9223372036854775808<=n/\n<=9223372036854775807:=λi hi=>by
  obtain⟨y,e⟩:∃y,xs[i]?=some y:=⟨xs[i],bN (by omega)⟩
  have f:cQ enc prog w base spare held n 3 ((cs.drop i).take (prog.cellsOf 3))=some y:=by
   rcases(by omega:i=0\/i=1\/i=2\/i=3)with rfl|rfl|rfl|rfl
   .exact(U 0 _ rfl).trans e
   .exact(U 1 _ rfl).trans e
   .exact(U 2 _ rfl).trans e
   .exact(U 3 _ rfl).trans e
  rw[AV]at f;obtain⟨n,g,_,wf⟩:=DataW.trod_int cx f;exact⟨n,cell i hi _ (take_one g),pY wf⟩
 obtain⟨n0,p0,q0⟩:=one 0 (by omega);obtain⟨n1,p1,q1⟩:=one 1 (by omega);obtain⟨n2,p2,q2⟩:=one 2 (by omega);obtain⟨n3,p3,q3⟩:=one 3 (by omega);exact⟨⟨n0,n1,n2,n3⟩,⟨q0.1,q0.2,q1.1,q1.2,q2.1,q2.2,q3.1,q3.2⟩,p0,p1,p2,p3⟩
theorem Md(aa:cM prog W .any base 25 (.slice a l c))(h:cR enc prog W 0 (λ_=>true) true 25 (.slice a l c) d p) :
  ∃rs:List Raw,rs.length=l/\rM W a rs/\l<=c/\l<=9223372036854775807/\∀x,a=some x->∃c e f,W.heap[x.block]?=some (.cells c e f):=by
 obtain⟨ae,hf⟩:=h;rcases DataW.trod_slice cz hf with⟨B,hx⟩|⟨x,af,ag,elems,rest,n,_,B,_,hb,hl,hm,ah,ac,ai,aj⟩
 .simp[cL]at B;obtain⟨rfl,rfl,rfl⟩:=B;exact⟨[],rfl,⟨λj O=>absurd O (by simp),λx hx=>absurd hx (by simp)⟩,ce _,by omega,λx e=>by cases e⟩
 .simp[cL]at B;obtain⟨rfl,rfl,rfl⟩:=B;obtain⟨U,ab⟩:=Aw cz aa;have ak:c<=9223372036854775807:=hm;obtain⟨b,off,spot⟩:=x;simp only at U;subst U
  have each:∀j,j<l->∃r:Raw,r.Ok/\W.cell? ⟨b,off+j*4,none⟩=some (.int .i64 r.name)/\W.cell? ⟨b,off+j*4+1,none⟩=some (.int .i64 r.text)/\W.cell? ⟨b,off+j*4+2,none⟩=some (.int .i64 r.dq)/\W.cell? ⟨b,off+j*4+3,none⟩=some (.int .i64 r.dB):=λj O=>by
   have h1:=ac j O;rw[bN (by omega),GU,Option.bind_eq_some_iff]at h1;obtain⟨cs,h2,h3⟩:=h1;rw[Addr.add_lit]at h2;exact Oo h2 h3
  have Y:∀j:Nat,∃r:Raw,j<l->r.Ok/\W.cell? ⟨b,off+j*4,none⟩=some (.int .i64 r.name)/\W.cell? ⟨b,off+j*4+1,none⟩=some (.int .i64 r.text)/\W.cell? ⟨b,off+j*4+2,none⟩=some (.int .i64 r.dq)/\W.cell? ⟨b,off+j*4+3,none⟩=some (.int .i64 r.dB):=λj=>by
   by_cases O:j<l
   .obtain⟨r,hr⟩:=each j O;exact⟨r,λ_=>hr⟩
   .exact⟨⟨0,0,0,0⟩,λh=>absurd h O⟩
  refine⟨(List.range l).map λj=>Classical.choose (Y j),by simp,⟨λj O=>?_,λy hy=>?_⟩,hl,by omega,λy e=>by cases e; exact ab⟩
  .have ad:j<l:=by simpa using O
   have:=Classical.choose_spec (Y j) ad;rw[List.getElem_map,List.getElem_range];exact⟨b,off,rfl,this.2⟩
  .obtain⟨j,O,rfl⟩:=bV.1 hy;exact(Classical.choose_spec (Y j) (List.mem_range.1 O)).1
theorem MU(h:laidMetH prog Qe W):lC W:=by
 rw[MakeChecks.laidMetH_plain _ _ _ (by kernel_rfl)]at h;have B:=h.tail.tail;exact Lib.tabIs_of_head (k:=.u64) (zs:=Lib.pow10Tab) (g:=2) (t:=295) (e:=141) (n:=20) (by kernel_rfl) (by kernel_rfl) underlying295 underlying141 (by kernel_rfl) (by kernel_rfl) B
theorem Nx{Mp:Nat->Prop}(h:lC W):lC (mS W Mp):=by
 unfold lC Lib.TabIs World.var? at h⊢;rw[show prog.globalNamed "internal/strconv.uint64pow10" = some 2 by kernel_rfl]at h⊢;simp only[Option.bind_some]at h⊢
 cases B:W.heap[2]? with
 |none=>rw[B]at h; cases h
 |some o=>
  rw[B]at h
  cases o with
  |cells c e f=>
   simp only[c']at h;by_cases hm:Mp 2
   .rw[oO hm B];simp only[c'];rw[h];apply Array.ext';simp only[Array.toList_map,bW];apply List.map_congr_left;intro z _;exact tE trivial
   .rw[Bq hm,B];simp only[c'];exact h
  |_=>cases h
end
section
open Go.ChangeShapes Go.WideShapes Go.ChangeAt Go.RowKit Go.Conc
variable {Mp:Nat->Prop} {ra:Option Addr} {W:World}
theorem Bo{rs:List Int}(h:wC W ra rs):wC (mS W Mp) ra rs:=⟨λj B=>by
 obtain⟨b,off,e,O⟩:=h.cell j B
 exact⟨b,off,e,j6 trivial O⟩,h.lo,h.hi⟩
theorem GR{rs:List Raw}(h:rM W ra rs):rM (mS W Mp) ra rs:=⟨λj B=>by
 obtain⟨b,off,e,O,U,Y,h4⟩:=h.cell j B
 exact⟨b,off,e,j6 trivial O,j6 trivial U,j6 trivial Y,j6 trivial h4⟩,h.ok⟩
theorem Fs{la O U:Option Addr}{ls:List Raw}{rs qs:List Int}{lc rc oc:Nat}{c fr too:Int}(B:W.ShapedOpen prog)(hW:Mc W)(Y:lC W)(hL:rM W la ls)(hT:wC W O rs)(hO:wC W U qs)(aa:∀a,some a∈[la,O,U]->∃c e f,W.heap[a.block]?=some (.cells c e f))(ab:ls.length<=lc)(ac:rs.length<=rc)(ad:qs.length<=oc)(ae:ls.length<=9223372036854775807)(af:rs.length<=9223372036854775807)(ag:qs.length<=9223372036854775807)
  (c0 : -9223372036854775808<=c) (c1:c<=9223372036854775807) (f0 : -9223372036854775808<=fr) (f1:fr<=9223372036854775807) (t0 : -9223372036854775808<=too) (t1:too<=9223372036854775807) :
  tf prog (λv' w=>v'=.bool true/\sT W w) (solo (G (Frame.enter prog 7 #[.slice la ls.length lc,.slice O rs.length rc,.slice U qs.length oc,.int .i64 c,.int .i64 fr,.int .i64 too] .normal) []) W) #[]:=by
 refine Nq (gs:=[la,O,U]) (tm:=#[.slice la ls.length lc,.slice O rs.length rc,.slice U qs.length oc,.int .i64 c,.int .i64 fr,.int .i64 too,cS,cS,cS,cS,cS,cS,cS,cS,cS,cS,cS,cS,cS,cS,cS,cS,cS,cS,cS,cS,cS,cS,cS,cS,cS,cS,cS,cS,cS,cS,cS,cS,cS,cS,cS,cS,cS,cS,cS,cS,cS,cS,cS,cS,cS,cS,cS,cS,cS,cS,cS,cS,cS,cS,cS,cS,cS,cS,cS,cS,cS,cS,cS,cS,cS,cS,cS,cS,cS,cS,cS,cS,cS,cS,cS,cS,cS,cS,cS,cS,cS,cS,cS,cS,cS,cS,cS,cS,cS,cS,cS,cS,cS,cS,cS,cS,cS,cS,cS,cS]) (gH:=Tryz.f7) (c:=dX Tryz.f7) B aa c5 (by kernel_rfl) (.cons (sK (by simp)) (.cons (sK (by simp)) (.cons (sK (by simp)) (.cons (.int _ _) (.cons (.int _ _) (.cons (.int _ _) .nil)))))) (by kernel_rfl) ?_;refine DO ⟨MS hW,Nx Y⟩ (by rw[sq]; exact J0 B) (GR hL) (Bo hT) (Bo hO) ab ac ad ae af ag c0 c1 f0 f1 t0 t1 λw ai hF ah=>?_;refine PH (gH:=Tryz.f7) (rs:=#[]) (F8 B aa) c5 (by kernel_rfl) (λk hk=>hF.block k (by rw[sq]; exact hk)) trivial λw=>?_;simp[cn,results7,go_sem,ah]
end
section
open Go.ChangeShapes Go.WideShapes Go.ChangeAt Go.RowKit Go.Conc
theorem Ld(os:Os)(args:Array Value):laidMet prog Qe ((cN prog 29 os).forCall (λ_ _=>0) ⟨#[],args,[]⟩).memory:=
 laidMet_of_run' 8 (by kernel_rfl) (by kernel_rfl)
theorem QM(os:Os){H:Type}(enc:cp×Value->H):∃places,DataW.whole enc prog ((cN prog 29 os).forCall (λ_ _=>0) ⟨#[],#[.slice none 0 0,.slice none 0 0,.slice none 0 0,.int .i64 0,.int .i64 0,.int .i64 0],[]⟩).memory Tryz.f7.params.toList Rows.turnedSpec.vars false #[Value.slice none 0 0,.slice none 0 0,.slice none 0 0,.int .i64 0,.int .i64 0,.int .i64 0].toList 8=some ([.nil,.nil,.nil,.lit (.int .i64 0),.lit (.int .i64 0),.lit (.int .i64 0)],[],places):=
 ⟨[],by kernel_rfl⟩
theorem Pl(os:Os)(O:os.Started)(H:Type)(enc:cp×Value->H) :
  ReturnsInLeavingWide {} c7 os 7 .any ((OpenSpec.ofChange Rows.turnedSpec).preRow enc prog Tryz.f7 Rows.turnedRow.domain false Qe) (Rows.turnedSpec.post enc prog Tryz.f7 false true false false):=by
 obtain⟨places,hx⟩:=QM os enc
 refine oZ (C:=c7) (s:=OpenSpec.ofChange Rows.turnedSpec) (F:=λ_ _ _=>0) S9 O c5
  (witness_row_at (enc:=enc) (C:=c7) false (cN prog 29 os) #[.slice none 0 0,.slice none 0 0,.slice none 0 0,.int .i64 0,.int .i64 0,.int .i64 0] rfl (by kernel_rfl) (by kernel_rfl) (by kernel_rfl)
    (OpenSpec.preRow_of_cond 8 hx (by kernel_rfl) (λk hk=>by cases hk) (by kernel_rfl) (Ld os _))) ?_
 intro W base args ds gs ag U hW _ hL ah _;have B:∀(j:Nat)t v,Tryz.f7.params[j]?=some t->args[j]?=some v->cM prog W .any base t v:=U;have ae:=hW;obtain⟨p,q,af,hV,rfl,_,_⟩:=hW;have hA:DataW.TrodAll enc prog W 0 (λ_=>true) true Tryz.f7.params.toList args.toList ds p:=af;rw[params7]at hA B;obtain⟨v0,a6,d0,a7,p0,q0,aa,rfl,rfl,h0,r0⟩:=trodAll_cons hA;obtain⟨v1,a8,d1,a9,p1,q1,rfl,rfl,rfl,h1,r1⟩:=trodAll_cons r0;obtain⟨v2,a',d2,aA,p2,q2,rfl,rfl,rfl,h2,r2⟩:=trodAll_cons r1;obtain⟨v3,aB,d3,aC,p3,q3,rfl,rfl,rfl,h3,r3⟩:=trodAll_cons r2;obtain⟨v4,aD,d4,aE,p4,q4,rfl,rfl,rfl,h4,r4⟩:=trodAll_cons r3;obtain⟨v5,aF,d5,aG,p5,q5,rfl,rfl,rfl,h5,r5⟩:=trodAll_cons r4;obtain⟨rfl,rfl,rfl⟩:=trodAll_nil r5;obtain rfl:args=#[v0,v1,v2,v3,v4,v5]:=by cases args; simp_all
 obtain⟨rfl,rfl⟩:=trodVars_none hV;obtain⟨a0,ax,ay,rfl⟩:=okWide_slice cz (B 0 25 v0 rfl rfl);obtain⟨a1,az,a3,rfl⟩:=okWide_slice cy (B 1 26 v1 rfl rfl);obtain⟨a2,a4,a5,rfl⟩:=okWide_slice cy (B 2 26 v2 rfl rfl);have ai:=B 0 25 _ rfl rfl;have aj:=B 1 26 _ rfl rfl;have ak:=B 2 26 _ rfl rfl;obtain⟨qa,rfl,rfl,rfl,wa⟩:=open_int cx (B 3 3 v3 rfl rfl) h3;obtain⟨qb,rfl,rfl,rfl,wb⟩:=open_int cx (B 4 3 v4 rfl rfl) h4;obtain⟨qc,rfl,rfl,rfl,wc⟩:=open_int cx (B 5 3 v5 rfl rfl) h5;have k0:=h0;have k1:=h1;have k2:=h2;have al:∀x∈p0,x.block<W.heap.size:=by obtain⟨m,hm⟩:=k0; exact cP m _ _ _ hm
 have RS:∀x∈p1,x.block<W.heap.size:=by obtain⟨m,hm⟩:=k1; exact cP m _ _ _ hm
 have RO:∀x∈p2,x.block<W.heap.size:=by obtain⟨m,hm⟩:=k2; exact cP m _ _ _ hm
 obtain⟨ls,rfl,am,an,ao,ab⟩:=Md ai h0;obtain⟨rs,rfl,ap,aq,ar,ac⟩:=Jy aj h1;obtain⟨qs,rfl,au,av,aw,ad⟩:=Jy ak h2;clear af U aa;simp only[List.append_nil]at ae
 refine(Fs ah (Di hL) (MU hL) am ap au (λa ha=>by
  simp only[List.mem_cons,List.not_mem_nil,or_false]at ha;rcases ha with ha|ha|ha
  .exact ab a ha.symm
  .exact ac a ha.symm
  .exact ad a ha.symm) an aq av ao ar aw (pY wa).1 (pY wa).2 (pY wb).1 (pY wb).2 (pY wc).1 (pY wc).2).mono λv w ⟨hv,Y⟩=>?_
 subst hv;refine⟨{w with tape:=W.tape},rfl,?_⟩;exact⟨_,_,_,[],_,[],ae,trodAll_mk1 (shut_bool underlying4 _),ck (Below.trod oz (by kernel_rfl) (of_decide_eq_true (by kernel_rfl)) k0 Y al) (ck (Below.trod oz (by kernel_rfl) (of_decide_eq_true (by kernel_rfl)) k1 Y RS) (ck (Below.trod oz (by kernel_rfl) (of_decide_eq_true (by kernel_rfl)) k2 Y RO) (ck (shut_int cx wa) (ck (shut_int cx wb) (ck (shut_int cx wc) trodAll_mk0))))),rfl,Y.frame _,λh=>by cases h⟩
theorem Hh:Rows.TurnedSaid:=
 OpenClaim.holds_of_wide_leaving 7 Tryz.f7 rfl rfl rfl rfl rfl rfl rfl ⟨rfl,rfl,rfl,rfl,rfl⟩ rfl rfl rfl rfl rfl (by kernel_rfl) c5 (by kernel_rfl)
  (of_decide_eq_true (by kernel_rfl)) (by unfold Func.isWrapper; first|(rw[if_pos (by decide +kernel)]; kernel_rfl)|(rw[if_neg (by decide +kernel)]; exact⟨rfl,rfl⟩))
  (λos B H enc _=>by rw[OpenClaim.pre_eq_preRow]; exact Pl os B H enc)
theorem FE(f:cm)(fn:Func)(U:Tryz.pinned.checked.prog.funcNamed Rows.turnedRow.func=some f)(B:Tryz.pinned.checked.prog.funcs[f]?=some fn) :
  true=Tryz.pinned.checked.prog.looks []/\∀(j:Nat)t,fn.params[j]?=some t->Tryz.pinned.checked.prog.wantsStandIn t=false:=by
 obtain rfl:f=7:=cA ((show prog.funcNamed Rows.turnedRow.func=some 7 by kernel_rfl).symm.trans U) |>.symm
 obtain rfl:fn=Tryz.f7:=(cA (c5.symm.trans B)).symm;refine⟨by kernel_rfl,λj t O=>?_⟩;rw[params7]at O;have:t=25\/t=26\/t=3:=by simpa using Array.mem_of_getElem? O
 rcases this with rfl|rfl|rfl
 .exact(show prog.wantsStandIn 25=false by kernel_rfl)
 .exact(show prog.wantsStandIn 26=false by kernel_rfl)
 .exact(show prog.wantsStandIn 3=false by kernel_rfl)
end
end Go.Proofs.YtocbogeoffeolaaGreatDoor
