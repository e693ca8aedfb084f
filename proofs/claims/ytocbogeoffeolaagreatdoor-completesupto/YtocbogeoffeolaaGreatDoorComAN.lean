import Derived.Test.YtocbogeoffeolaaGreatDoorComAL
import Derived.Test.YtocbogeoffeolaaGreatDoorComAM
set_option linter.all false
set_option maxHeartbeats 8000000
set_option maxRecDepth 1000000
open List renaming getElem?_eq_getElem->bA,mem_filter->bB,length_filter_le->bC,take_succ_eq_append_getElem->bD,getD_eq_getElem?_getD->bE,getElem_append_right->bF,getElem_append_left->bG,getElem_cons_zero->bH,mem_of_mem_take->bI,length_append->bJ,filter_append->bK,length_take->bL,length_drop->bM,length_set->bN,mem_cons->bO,set_set->bP
open Nat renaming le_refl->bQ,le_trans->bR,zero_le->bT,mul_le_mul_right->bU,sub_self->bV
open Go renaming maxLen->bW,cell_later->bX,Calls->bY,FuncId->bZ,info_parts->cb
open Go.RowKit.Below renaming heap_alloc->cc,refl->cd,heap_setCell->ce
open Go.RowKit renaming Hid->cf
open Go.World renaming ownsRow_nil->cg,setCell->ch
open Go.Value renaming ownBlock->ci
open Go renaming undef->cj
open And renaming intro->A?
open Bool renaming false->f?,true->t?
open Go renaming Value->v?,World->w?
open Go.Ending renaming returned->e?
open Go.IntKind renaming i64->i?
open Go.Item renaming inRegion->r?
open Go.Obj renaming cells->c?
open Go.Value renaming int->n?,pointer->p?,string->s?
open List renaming length->l?
open Option renaming none->x?,some->y?
namespace Go.Proofs.YtocbogeoffeolaaGreatDoor
open Go.Proofs.Tryz
section
open Go.RowKit
def G2{w w1 F b vB vS vS' vT buf ss' ts vs'}(hF:∀k,F k->k<w.1.size)
  (hh:w.1[b]?=y? (c? #[vB,vS,vT] 120 (0,0))) (aa:F b) (Y:jE w F vB buf) (hT:pV w F vT ts) (U:B? w w1)
  (ho:w1.ownsRow w.1.size 75 1 vS' ss'.length vs') (ad:l? vs'=l? ss')
  (ae:∀i(h:i<l? ss'),∃u,vs'[i]?=y? u/\jE w1 (kJ F w w1) u ss'[i]) :
  w1.1[b]?=y? (c? #[vB,vS,vT] 120 (0,0))/\j6 (w1.setCell ⟨b,1,x?⟩ vS') (kJ F w (w1.setCell ⟨b,1,x?⟩ vS')) b buf ss' ts/\dp F w (w1.setCell ⟨b,1,x?⟩ vS'):=by
 have af:=U.size;have ag:=hF b aa;have ab:(w1.setCell ⟨b,1,x?⟩ vS').1.size=w1.1.size:=by simp[ch]
 have ac:w1.1[b]?=y? (c? #[vB,vS,vT] 120 (0,0)):=by rw[U.block b ag];exact hh
 have W:∀k,k≠b->(w1.setCell ⟨b,1,x?⟩ vS').1[k]?=w1.1[k]?:=λk O=>ce _ _ _ _ O;have hold:∀k,F k->k≠b->(w1.setCell _ vS').1[k]?=w.1[k]?:=λk O ah=>by rw[W k ah,U.block k (hF k O)]
 have ai:∀k,kJ F w w1 k->kJ F w _ k:=λk O=>by
  obtain h|h:=O
  exact Or.inl h;exact Or.inr ⟨h.1,by rw[ab];exact h.2⟩
 refine⟨ac,⟨vB,vS',vT,?_,Or.inl aa,⟨?_,λk O=>Or.inl (Y.2 k O)⟩,⟨vs',ad,?_,?_,?_⟩,?_⟩,?_⟩;rw[heap_set ac];rfl;exact dG Y.1 (λk O=>hold k (Y.2 k O) (λe=>by subst e;exact fc hh Y.1 d! O));refine dK (fj ho (bT _)) (λk O=>W k (λe=>?_));have:=(ho.lt k O).1;omega;intro k O;have:=ho.lt k O;exact Or.inr ⟨this.1,by rw[ab];exact this.2⟩;intro i hi;obtain⟨u,hu,hE⟩:=ae i hi;exact⟨u,hu,dG hE.1 (λk O=>W k (λe=>by subst e;exact fc ac hE.1 d! O)),λk O=>ai k (hE.2 k O)⟩;obtain⟨vs,h1,h2,h3,h4⟩:=hT;refine⟨vs,h1,dK h2 (λk O=>hold k (h3 k O) (λe=>by subst e;exact gD hh h2 d! O)),λk O=>Or.inl (h3 k O),λi hi=>?_⟩;obtain⟨v,hv,hE,hf⟩:=h4 i hi;exact⟨v,hv,dK hE (λk O=>hold k (hf k O) (λe=>by subst e;exact gD hh hE d! O)),λk O=>Or.inl (hf k O)⟩;refine⟨U.os,U.tape,U.output,by rw[ab];exact af,λk O hn=>?_⟩;rw[W k (λe=>hn (by rw[e];exact aa)),U.block k O]
def O5(F)(b)(buf)(ss)(ts)(n)(w)(hF:∀k,F k->k<w.1.size)(hR:j6 w F b buf ss ts)
  (bs : -9223372036854775808<=n) (bt:n<=9223372036854775807) (h1:gF ss<=536870912) :
  bY prog 107 #[p? (y? ⟨b,0,x?⟩),n? i? n] w λe w'=>e=e? (n? i? (fD ss n).1)/\
   j6 w' (kJ F w w') b buf (fD ss n).2 ts/\dp F w w':=by
 have HR:cf _:=hR;obtain⟨vB,vS,vT,hh,aA,aB,aC,aD⟩:=id hR;obtain⟨vs,aY,an,bu,af⟩:=id aC;obtain⟨aS,cS,rfl,bv⟩:=dH an;have bw:=hF b aA;have ag:=dq hh 1;have HH:cf _:=hh;have aZ:cf _:=aB;have ba:cf _:=aD;have HOS:cf _:=an;have aE:cf _:=af;have HZ:cf (Zip (jE w F) vs ss):=⟨aY,af⟩
 have am:cf (∀u∈vs,u.oneCell'=t?):=λu hu=>by obtain⟨i,hi,rfl⟩:=List.mem_iff_getElem.1 hu;obtain⟨u',ao,hE⟩:=af i o!;rw[bA hi]at ao;simp only[Option.some.injEq]at ao;obtain⟨a,c,e,_⟩:=dL hE.1;rw[ao,e];rfl
 obtain⟨i8,ap,aq,av,aw⟩:=cb Hu;have bl:=wW ss;clear hR hh aB aD aC an af;by_cases aF:n<0
 .have HU:cf (fD ss n=(6,ss)):=by show fD _ _=_;unfold fD;rw[if_pos (Or.inl aF)]
  go_enter func107,ntmps107;go_wp2;go_ret;refine⟨dQ (by rw[HU.out];rfl),?_,dp.refl _ _⟩;rw[HU.out];exact kJ.ow HR
 by_cases aG:(l? ss:Int)-1<=n
 .have HU:cf (fD ss n=(6,ss)):=by show fD _ _=_;unfold fD;rw[if_pos (Or.inr aG)]
  go_enter func107,ntmps107;go_wp2;go_ret;refine⟨dQ (by rw[HU.out];rfl),?_,dp.refl _ _⟩;rw[HU.out];exact kJ.ow HR
 obtain⟨m,rfl⟩:=Int.eq_ofNat_of_zero_le (o!:0<=n);have ax:m+1<l? ss:=o!;obtain⟨u0,bc,bd⟩:=aE.out m o!;obtain⟨u1,be,bf⟩:=aE.out (m+1) ax;have aH:cf (ss.getD m []=ss[m]):=by show _=_;rw[bE,bA o!];rfl
 have aI:cf (ss.getD (m+1) []=ss[m+1]):=by show _=_;rw[bE,bA ax];rfl
 have b0:ss[m].length<=536870912:=by have a1:=oE ss m o!;have a2:=qF ss (m+1);omega
 have bm:ss[m+1].length<=536870912:=by have a1:=oE ss (m+1) ax;have a2:=qF ss (m+1+1);omega
 generalize ss[m]=s0 at *;generalize ss[m+1]=s1 at *;obtain⟨bS,oS,rfl,aJ⟩:=fy HOS m _ bc;obtain⟨b3,b4,aK,aM⟩:=fy HOS (m+1) _ be;simp only[Option.some.injEq,Addr.mk.injEq]at aK;obtain⟨rfl,rfl,_⟩:=aK;go_enter func107,ntmps107;have aN:iu w 5 u0 s0.length (dv s0):=iu.eL bd.1;have aO:iu w 5 u1 s1.length (dv s1):=iu.eL bf.1;have bn:(m:Int)<(l? ss:Int):=o!;have bo:(m:Int)+1<(l? ss:Int):=o!;have b5:IntKind.i64.wrap ((m:Int)+1)=(m:Int)+1:=CG _ _ q? o! o!;have ay:cf (∀W:w?,B? w W->bY prog 145 #[u0,u1] W λe w'=>∃u,e=e? u/\w'.ownsRow W.1.size 202 5 u (dM s0 s1).length (dv (dM s0 s1))/\B? W w'):=λW hW=>qu _ _ s0 s1 W (aN.below hW) (aO.below hW) o! o!;clear aN aO;go_wp2
 go_region_held (λw'=>w'.cell? ⟨b,1,x?⟩=y? (.slice (y? ⟨bS,oS,x?⟩) ss.length cS)/\w'.cell? ⟨bS,oS+m,x?⟩=y? u0/\w'.cell? ⟨bS,oS+(m+1),x?⟩=y? u1) (go_keep) (first
  |(go_at_call 145;refine(ay _ ?hB).mono ?_;(case hB=>exact(cd _ _).drew);rintro e w1 ⟨u,rfl,az,aa⟩;have t1:=bX aa ag;have t2:=bX aa aJ;have t3:=bX aa aM))
 obtain⟨au,cu,rfl,b6⟩:=dL az;have ah:B? w w1:=⟨aa.os,aa.tape,aa.output,aa.size,aa.block⟩;have how:w1.ownsRow w.1.size 202 5 (.slice au (dM s0 s1).length cu) (dM s0 s1).length (dv (dM s0 s1)):=az;have aP:=sV s0 s1;clear az aa t2 t3;by_cases ai:m=0
 case' pos=>
  have bg:((m:Int)==0)=t?:=beq_iff_eq.2 o!;have a0:cf (ja ss m=du (dM s0 s1)):=by show ja _ _=_;unfold ja;rw[if_pos ai,aH.out,aI.out]
  go_wp2_with fail;refine(oZ _ (dM s0 s1) w1 (iu.eL how) o!).mono ?_;rintro e W2 ⟨uL,rfl,a3,aQ⟩;obtain⟨aL,cL,rfl,b7⟩:=dL a3;have ab:B? w W2:=ah.trans (aQ.mono ah.size);have aR:(du (dM s0 s1)).length<=1073741824:=bR (bC _ _) o!;have ac:=fj a3 ah.size;clear a3 aQ how ai ay aP;generalize du (dM s0 s1)=M at *
 case' neg=>
  have bg:((m:Int)==0)=f?:=beq_eq_false_iff_ne.2 o!;have a0:cf (ja ss m=dM s0 s1):=by show ja _ _=_;unfold ja;rw[if_neg ai,aH.out,aI.out]
  have aR:(dM s0 s1).length<=1073741824:=o!;have ac:=how;have ab:=ah;clear how ai ay aP;generalize w1=W2 at *;generalize dM s0 s1=M at *;have aL:=au;generalize bh:au=aL at *;generalize aT:cu=cL at *;clear bh aT
 all_goals
  go_wp2_with fail;refine(GS _ M W2 (iu.eL ac) aR).mono ?_;rintro e w3 ⟨rfl,hb3⟩;have ad:=ab.size;have hb4:B? w w3:=ab.trans (hb3.mono ad);by_cases hg:100<l? M-(du M).length
  case pos=>
   have HU:cf (fD ss (m:Int)=(4,ss)):=by show fD _ _=_;unfold fD;rw[if_neg o!,Int.toNat_natCast,a0.out,if_pos hg]
   go_wp2;go_ret;refine⟨dQ (by rw[HU.out];rfl),?_,dp.eB hb4⟩;rw[HU.out];exact kA HR hF hb4
  have q1:=bX hb4 ag;go_wp2_with (at_builtin;go_must (refine qj _ q? _ _ 118 q? W2.1.size 75 i8 (.slice x? 0 0) 24 underlying118 ap aq av aw q? _ _ _ q? (cg _ _ _ _) _ (vs.take m) q? ?xa0 ?xa9 ?xa1 ?xa2 ?xa3 ?_))
  case xa0=>exact((Rd.eL HOS).below hb4).take m o!
  case xa9=>intro u hu;exact am u (bI hu)
  case xa1=>rw[bL];omega
  case xa2=>rw[bL];simp only[bW];omega
  case xa3=>exact hb3.size
  intro v1 w4 U bi;have aU:min m ss.length=m:=Nat.min_eq_left o!;simp only[aU]at U;have aj:B? W2 w4:=hb3.grown bi hb3.size (by simp[ci]);have bj:=aj.size;obtain⟨a4,c4,rfl,b8⟩:=dH U;have q2:=bX (ab.trans (aj.mono ad)) ag;clear aU;by_cases hM:0<l? M
  case' pos=>
   go_wp2_with (at_builtin;go_must (refine fE _ q? _ _ 118 q? W2.1.size 75 i8 (.slice x? 0 0) 24 underlying118 ap aq av aw q? _ _ _ q? (U.alloc _) ⟨w4.1.size,0,x?⟩ _ q? iC q? ?xb1 ?xb2 ?xb3 ?_))
   case xb1=>omega
   case xb2=>unfold bW;omega
   case xb3=>first|omega|(simp;omega)
   intro v2 w5 O bk _;have hB5:B? W2 w5:=(aj.alloc bj _).grown bk j! (λb hb=>(U.lt b hb).1);obtain⟨a5,c5,rfl,b9⟩:=dH O;obtain⟨X,hX⟩:∃X,X=[Value.slice aL M.length cL]:=⟨_,q?⟩;obtain⟨Y,hY⟩:∃Y,Y=[M]:=⟨_,q?⟩
   have HX:cf (∀W',B? W2 W'->Zip (jE W' (kJ F w W')) X Y):=by rw[hX,hY];exact λW' h=>Zip.one ⟨dG (fj ac (bT _)) (λk hk=>h.block k (ac.lt k hk).2),λk hk=>Or.inr ⟨(ac.lt k hk).1,Nat.lt_of_lt_of_le (ac.lt k hk).2 h.size⟩⟩
   have HY:cf ((if 0<M.length then [M]else [])=Y):=by rw[hY];exact if_pos hM
   rw[<-hX]at O;clear hX hY;obtain⟨N,hN⟩:∃N,N=m+1:=⟨_,q?⟩;have b':N<=l? ss:=o!;rw[<-hN]at O⊢;clear hN
  case' neg=>
   have hB5:=aj;obtain⟨X,hX⟩:∃X:List v?,X=[]:=⟨_,q?⟩;obtain⟨Y,hY⟩:∃Y:List (List dD),Y=[]:=⟨_,q?⟩;have HX:cf (∀W',B? W2 W'->Zip (jE W' (kJ F w W')) X Y):=by rw[hX,hY];exact λW' _=>Zip.nil _
   have HY:cf ((if 0<M.length then [M]else [])=Y):=by rw[hY];exact if_neg hM
   have O:w4.ownsRow W2.1.size 75 1 (.slice a4 m c4) m (vs.take m++X):=by rw[hX,List.append_nil];exact U
   clear hX hY;generalize w4=w5 at *
  all_goals
   have q3:=bX (ab.trans (hB5.mono ad)) ag;by_cases a7:cS=m+2
   case' pos=>subst a7
   case' neg=>have bp:¬m+2=cS:=λh=>a7 h.symm
   all_goals
    go_wp2_with (at_builtin;go_must (refine qj _ q? _ _ 118 q? W2.1.size 75 i8 (.slice x? 0 0) 24 underlying118 ap aq av aw q? _ _ _ q? O _ (vs.drop (m+2)) q? ?xc0 ?xc9 ?xc1 ?xc2 ?xc3 ?_))
    case xc0=>go_light;simp only[Act.eval,Array.getD_eq_getD_getElem?];have:=((Rd.eL HOS).below (ab.trans (hB5.mono ad))).drop (m+2) o!;(first|rw[if_pos rfl]at this|rw[if_neg a7]at this);first|simpa[Addr.add_lit]using this|(rw[(o!:l? ss-(m+2)=0)]at this;simpa[Addr.add_lit]using this)
    case xc9=>intro u hu;exact am u (List.mem_of_mem_drop hu)
    case xc1=>rw[bM];omega
    case xc2=>rw[bM];simp only[bW];omega
    case xc3=>exact hB5.size
    intro v3 w6 ae aV;have a8:B? W2 w6:=hB5.grown aV hB5.size (λb hb=>(O.lt b hb).1);have a9:B? w w6:=ab.trans (a8.mono ad);have hold:∀u l,jE w F u l->jE w6 (kJ F w w6) u l:=λu l h=>h.stay (λk hk=>a9.block k (hF k hk)) (λ_ hk=>Or.inl hk);have ak:=((HZ.take m).mono hold).append ((HX w6 a8).append ((HZ.drop (m+2)).mono hold));obtain⟨K,a'⟩:∃K,w6.ownsRow W2.1.size 75 1 v3 K (vs.take m++(X++vs.drop (m+2))):=⟨_,ae⟩;obtain⟨a6,c6,rfl,_⟩:=dH a'
    have aW:w6.ownsRow w.1.size 75 1 (.slice a6 K c6) (ss.take m++(Y++ss.drop (m+2))).length (vs.take m++(X++vs.drop (m+2))):=by rw[<-ak.1,show(vs.take m++(X++vs.drop (m+2))).length=K by have:=a'.1;omega];exact fj a' ad
    have al:=G2 hF HH aA aZ ba a9 aW ak.1 ak.2;have bq:=dq al.1 1;have br:=dP al.1 1;have aX:cf _:=al.2
    have HU:cf (fD ss (m:Int)=(0,ss.take m++(Y++ss.drop (m+2)))):=by show fD _ _=_;unfold fD;rw[if_neg o!,Int.toNat_natCast,a0.out,if_neg hg,HY.out]
    clear al aW ak hold ae aV a8 a9;go_wp2;go_ret;refine⟨dQ (by rw[HU.out];rfl),?_⟩;rw[HU.out];exact aX
variable {f:bZ} {b1 b2 i:Nat} {v:v?} {ar:v?->Array v?}
def Q2(f:bZ)(ar:v?->Array v?)(s:Sg)(v:v?)(s':Sg):Prop:=∀(w0 w:w?)(F1 F2:Nat->Prop)(b:Nat),AW w0 w F1 F2 b s.b s.s s.t->
 bY prog f (ar (p? (y? ⟨b,0,x?⟩))) w λe w'=>e=e? v/\∃F1' F2',AW w0 w' F1' F2' b s'.b s'.s s'.t/\St w w' F1 F2 F1' F2'
def P4(f:bZ)(ar:v?->Array v?)(s:Sg)(v:v?)(s':Sg):Prop:=∀(w:w?)(F:Nat->Prop)(b:Nat),j6 w F b s.b s.s s.t->(∀k,F k->k<w.1.size)->Inv s.b s.s->
 bY prog f (ar (p? (y? ⟨b,0,x?⟩))) w λe w'=>e=e? v/\j6 w' (kJ F w w') b s'.b s'.s s'.t/\dp F w w'/\Inv s'.b s'.s
section
variable {w0 w w':w?} {c:Nat->Nat} {B:Nat} {va vl vm:v?} {last:Nat} {us:List v?} {ms:List Wd} {es:List vG} {s s':Sg}
def sE{O:Type}{l:List O}{a}(h):(l.set i a)[i]=a:=List.getElem_set_self h
def PS.VZ{y}(h:PS w0 w c B va vl vm last us ms (es.set i ⟨b1,b2,s,y⟩))(hi:i<l? es)(hX:Q2 f ar s v s') :
  bY prog f (ar (p? (y? ⟨b1,0,x?⟩))) w λe w'=>e=e? v/\∃W,PS w0 w' W B va vl vm last us ms (es.set i ⟨b1,b2,s',y⟩)/\Zc c w W w':=by
 have O:i<(es.set i ⟨b1,b2,s,y⟩).length:=by rw[bN];exact hi
 obtain⟨F1,F2,U,hc⟩:=h.x i O;rw[sE]at U;refine(hX _ _ _ _ _ U).mono ?_;rintro e w' ⟨rfl,F1',F2',h2,hs⟩;refine⟨q?,?_⟩;have Y:=h.VP (w':=w') O (s:=s') (F1:=F1) (F2:=F2) (F1':=F1') (F2':=F2') (by rw[sE];exact U) hc (by rw[sE];exact h2) hs;simp only[sE,bP]at Y;exact Y
def PS.Wg{x}(h:PS w0 w c B va vl vm last us ms (es.set i ⟨b1,b2,x,s⟩))(hi:i<l? es)(hY:P4 f ar s v s') :
  bY prog f (ar (p? (y? ⟨b2,0,x?⟩))) w λe w'=>e=e? v/\∃W,PS w0 w' W B va vl vm last us ms (es.set i ⟨b1,b2,x,s'⟩)/\Zc c w W w':=by
 have O:i<(es.set i ⟨b1,b2,x,s⟩).length:=by rw[bN];exact hi
 obtain⟨F,Y,hc,hI⟩:=h.y i O;rw[sE]at Y hI;refine(hY _ _ _ Y (λk hk=>(hc k hk).1) hI).mono ?_;rintro e w' ⟨rfl,h2,hs,U⟩;refine⟨q?,?_⟩;have h3:=h.VT (w':=w') O (s:=s') (F:=F) hc (by rw[sE];exact h2) hs U;simp only[sE,bP]at h3;exact h3
end
section
variable {s:Sg}
def Wk(n t)(x y)(O:n.size<=bW)(U:t.size<=bW):Q2 38 (λp=>#[p,s? n,s? t,n? i? x,n? i? y]) s (n? i? (iG s.b s.s n.1.1 t.1.1 x y).1) ⟨(iG s.b s.s n.1.1 t.1.1 x y).2,s.s,s.t⟩:=
 λ_ _ _ F2 _ h=>(h.WD n t x y O U).mono λ_ _ ⟨W,F1',Y,h3⟩=>⟨W,F1',F2,Y,h3⟩
def VV(n)(O:n.size<=bW):Q2 37 (λp=>#[p,s? n]) s (n? i? (jG s.b s.s n.1.1).1) ⟨(jG s.b s.s n.1.1).2,s.s,s.t⟩:=
 λ_ _ _ F2 _ h=>(h.del n O).mono λ_ _ ⟨U,F1',W,Y⟩=>⟨U,F1',F2,W,Y⟩
def Um:Q2 29 (λp=>#[p]) s (n? i? (eQ s.b s.s).1) ⟨(eQ s.b s.s).2.1,(eQ s.b s.s).2.2,s.t⟩:=
 λ_ _ _ F2 _ h=>h.flush.mono λ_ _ ⟨O,F1',U,W⟩=>⟨O,F1',F2,U,W⟩
def TY(n):Q2 39 (λp=>#[p,n? i? n]) s (n? i? (fD s.s n).1) ⟨s.b,(fD s.s n).2,s.t⟩:=
 λ_ _ _ F2 _ h=>(h.merge n).mono λ_ _ ⟨O,F1',U,W⟩=>⟨O,F1',F2,U,W⟩
def Tl(n)(O:n.size<=bW):Q2 25 (λp=>#[p,s? n]) s (n? i? (gr s.b s.s n.1.1).1) ⟨s.b,(gr s.b s.s n.1.1).2,s.t⟩:=
 λ_ _ _ F2 _ h=>(h.load n O).mono λ_ _ ⟨U,F1',W,Y⟩=>⟨U,F1',F2,W,Y⟩
def V1(n):Q2 26 (λp=>#[p,n? i? n]) s (.tuple #[s? ⟨(iZ s.s n).1.toArray⟩,n? i? (iZ s.s n).2]) s:=
 λ_ _ F1 F2 _ h=>(h.Wm n).mono λ_ _ ⟨U,O⟩=>⟨U,F1,F2,O▸h,O▸.same (.refl _)⟩
def ql{s:Sg}(h:Inv s.b s.s):gF s.s<=536870912/\l? s.b<=536870912:=by have O:=vU h;have U:=nY h;simp[gF]at O⊢;omega
def VM(n t)(x y)(U:n.size<=bW)(W:t.size<=bW):P4 103 (λp=>#[p,s? n,s? t,n? i? x,n? i? y]) s (n? i? (iG s.b s.s n.1.1 t.1.1 x y).1) ⟨(iG s.b s.s n.1.1 t.1.1 x y).2,s.s,s.t⟩:=
 λ_ _ _ h hF O=>(Mw _ _ _ _ _ n t x y _ hF h U W (ql O).1 (ql O).2).mono λ_ _ ⟨Y,h2,h3⟩=>⟨Y,h2,h3,K3 O _ _ _ _⟩
def Wa(n)(U:n.size<=bW):P4 105 (λp=>#[p,s? n]) s (n? i? (jG s.b s.s n.1.1).1) ⟨(jG s.b s.s n.1.1).2,s.s,s.t⟩:=
 λ_ _ _ h hF O=>(Me _ _ _ _ _ n _ hF h U (ql O).1 (ql O).2).mono λ_ _ ⟨W,Y,h3⟩=>⟨W,Y,h3,Kl O _⟩
def T9:P4 106 (λp=>#[p]) s (n? i? (eQ s.b s.s).1) ⟨(eQ s.b s.s).2.1,(eQ s.b s.s).2.2,s.t⟩:=
 λ_ _ _ h hF O=>(Qe _ _ _ _ _ _ hF h (ql O).2).mono λ_ _ ⟨U,W,Y⟩=>⟨U,W,Y,CK O⟩
def U2(n)(W : -9223372036854775808<=n)(O:n<=9223372036854775807):P4 107 (λp=>#[p,n? i? n]) s (n? i? (fD s.s n).1) ⟨s.b,(fD s.s n).2,s.t⟩:=
 λ_ _ _ h hF U=>(O5 _ _ _ _ _ n _ hF h W O (ql U).1).mono λ_ _ ⟨O,Y,h3⟩=>⟨O,Y,h3,C4 U _⟩
end
def NL:Sg:=⟨[],[],[]⟩
section
variable {w0 w w1 w2:w?} {c:Nat->Nat} {B b:Nat} {va va' vl vm:v?} {last:Nat} {us:List v?} {ms:List Wd} {es:List vG} {F1 F2:Nat->Prop} {o:Obj}
def PS.made(h:PS w0 w c B va vl vm last us ms es)(ah:B? w w1)(hx:AW w w1 F1 F2 b [] [] [])
  (ho:w2.ownsRow 0 122 2 va' (l? es+1) (nz es++[p? (y? ⟨b,0,x?⟩),p? (y? ⟨w1.1.size,0,x?⟩)]))
  (hg:((w1.alloc (c? #[rD,rD,rD] 120)).alloc o).grownBy w2 va.ownBlock) (O:va'.ownBlock=va.ownBlock\/va'.ownBlock=y? (w1.1.size+2)) :
  w2.1[B]?=y? (c? #[va,vl,vm,n? i? last] 74 (0,0))/\
  ∃c',PS w0 (w2.setCell ⟨B,0,x?⟩ va') c' B va' vl vm last us ms (es++[⟨b,w1.1.size,NL,NL⟩]):=by
 have aq:=ah.size;have au:w1.1.size+2<=w2.1.size:=by have:=hg.size;simpa using this
 have U:=h.law;have ak:=U.bz;have al:va.ownBlock≠y? B:=fc U.1 U.row d!;have aa:=λk O=>(U.row.lt k O).2;obtain⟨D,hD,ap,am⟩:=U.lists
 have ae:∀k,k<w1.1.size->va.ownBlock≠y? k->w2.1[k]?=w1.1[k]?:=λk O ai=>by rw[hg.block k j! (λe=>ai e.symm),cc _ _ _ j!,cc _ _ _ O]
 have hold:∀k,k<w.1.size->va.ownBlock≠y? k->w2.1[k]?=w.1[k]?:=λk O ai=>by rw[ae k o! ai,ah.block k O]
 have hy:w2.1[w1.1.size]?=y? (c? #[rD,rD,rD] 120 (0,0)):=by rw[hg.block _ j! (λe=>by have:=aa _ e.symm;omega),cc _ _ _ i!];show(w1.1.push _)[w1.1.size]?=_;rw[Array.getElem?_push,if_pos rfl]
 have aj:=(hold B ak al).trans U.1;have W:∀k,k≠B->(w2.setCell ⟨B,0,x?⟩ va').1[k]?=w2.1[k]?:=λk O=>ce _ _ _ _ O;have av:(w2.setCell ⟨B,0,x?⟩ va').1.size=w2.1.size:=by simp[ch]
 obtain⟨c',ad⟩:∃c':Nat->Nat,c'=λk=>if k<w.1.size then c k else if k<w1.1.size then 2*l? es+2 else if k=w1.1.size then 2*l? es+3 else 1:=⟨_,q?⟩
 have c0:∀k,k<w.1.size->c' k=c k:=λk O=>by rw[ad];exact if_pos O
 have hf:BB c c' 1 w (w2.setCell ⟨B,0,x?⟩ va'):=⟨c0,hg.os.trans ah.os,o!,λk O hn=>by rw[W k (λe=>hn (e▸U.cB)),hold k O λe=>hn (U.ca k e)]⟩;have hl:=h.Ph hf o!;have af:∀k,va'.ownBlock=y? k->va.ownBlock=y? k\/k=w1.1.size+2:=λk ab=>O.elim (λh=>.inl (h▸ab)) λh=>.inr (by rw[h]at ab;exact(Option.some.inj ab).symm);have e1:(es++[(⟨b,w1.1.size,NL,NL⟩:vG)]).length=l? es+1:=i!;refine⟨aj,c',⟨?_,h.ED c0,hl,λi hi=>?_,λi hi=>?_⟩⟩;have an:=λk O=>(hD.ol.lt k O).2;have ao:=λk O=>(hD.om.lt k O).2;have Y:∀k,k<w.1.size->va.ownBlock≠y? k->k≠B->(w2.setCell ⟨B,0,x?⟩ va').1[k]?=w.1[k]?:=λk O h1 h2=>by rw[W k h2,hold k O h1]
 refine⟨by rw[heap_set aj];rfl,⟨D,hD.stay o! (λk hd=>Y k (hD.yP k hd) (λe=>am k e hd) (λe=>hD.dB (e▸hd))) (λk hv=>Y k (an k hv) (λe=>fP U.row hD.ol d! k e hv) (λe=>gD U.1 hD.ol d! (e▸hv))) (λk hv=>Y k (ao k hv) (λe=>fP U.row hD.om d! k e hv) (λe=>gD U.1 hD.om d! (e▸hv))),λk O=>(c0 k (hD.yP k O)).trans (ap k O),λk O hd=>?_⟩,U.len,?_,(c0 B ak).trans U.cB,λk O=>?_,λk O=>(c0 k (an k O)).trans (U.cl k O),λk O=>(c0 k (ao k O)).trans (U.cm k O)⟩;obtain h1|h1:=af k O
 exact am k h1 hd;have:=hD.yP k hd;omega;rw[e1,show nz (es++[(⟨b,w1.1.size,NL,NL⟩:vG)])=nz es++[p? (y? ⟨b,0,x?⟩),p? (y? ⟨w1.1.size,0,x?⟩)] by simp[nz]];exact dG ho λk ab=>W k λe=>fc aj ho d! (e▸ab);obtain h1|h1:=af k O
 exact(c0 k (aa k h1)).trans (U.ca k h1);subst h1;rw[ad];simp only;rw[if_neg o!,if_neg o!,if_neg o!];by_cases ac:i<l? es;rw[bG ac];exact(h.x i ac).stay hf o! hl;obtain rfl:i=l? es:=o!;rw[bF (bQ _)];simp only[bV,bH];have hb:=λk (O:F1 k\/F2 k)=>O.elim (hx.VH k) (hx.Ey k);have ag:=λk (O:F1 k\/F2 k)=>O.elim (hx.j.Wr k) (hx.j.VN k);refine⟨F1,F2,⟨hx.j.stay o! λk O=>?_,λk O=>bR h.low.size (hx.VH k O),λk O=>bR h.low.size (hx.Ey k O),hl⟩,λk O=>?_⟩;have:=hb k O;rw[W k o!,ae k (ag k O) λe=>by have:=aa k e;omega];have:=hb k O;rw[ad];simp only;rw[if_neg o!,if_pos (ag k O)];by_cases ac:i<l? es;rw[bG ac];exact(h.y i ac).stay hf o!;obtain rfl:i=l? es:=o!;rw[bF (bQ _)];simp only[bV,bH];refine⟨λk=>k=w1.1.size,⟨rD,rD,rD,by rw[W _ o!];exact hy,q?,⟨cg _ _ _ _,λk O=>by simp[rD,ci]at O⟩,⟨[],q?,cg _ _ _ _,λk O=>by simp[rD,ci]at O,λi hi=>by simp[NL]at hi⟩,⟨[],q?,cg _ _ _ _,λk O=>by simp[rD,ci]at O,λi hi=>by simp[NL]at hi⟩⟩,λk O=>?_,K7⟩;have e:k=w1.1.size:=O;subst e;refine⟨o!,?_⟩;rw[ad];simp only;rw[if_neg o!,if_neg o!];simp
def Pv(h:PS w0 w c B va vl vm last us ms es)(an:l? es<=10) :
  bY prog 40 #[p? (y? ⟨B,0,x?⟩)] w λe w'=>e=e? (.bool t?)/\∃(c':Nat->Nat)(va':v?)(bx yb:Nat),PS w0 w' c' B va' vl vm last us ms (es++[⟨bx,yb,NL,NL⟩]):=by
 obtain⟨i3,ag,ah,ai,aj⟩:=cb Qc;have HG:cf _:=h;have ak:=h.law.bz;clear h;go_enter func40,ntmps40;go_wp2_with fail;refine(Wt w).mono ?_;rintro e w1 ⟨bx,F1,F2,rfl,aa,U⟩;have ab:=(U.block B ak).trans HG.law.1;have O:w1.ownsRow 0 122 2 va es.length (nz es):=dG HG.law.row (λk hk=>U.block k (HG.law.row.lt k hk).2);have ao:=dq ab 0;have ac:cf _:=aa;clear aa ab;go_wp2_with (at_builtin;go_must (refine ux _ q? _ _ 71 q? 0 122 i3 (.agg #[p? x?,p? x?]) 2 16 underlying71 ag ah ai aj q? d! _ _ _ q? ((O.alloc _).alloc _) ⟨w1.1.size+1,0,x?⟩ 1 1 [p? (y? ⟨bx,0,x?⟩),p? (y? ⟨w1.1.size,0,x?⟩)] q? q? d! ?c0 ?c1 ?c2 ?c3 ?c4 ?_))
 case c0=>exact JE i!
 case c1=>intro u hu;simp only[bO,List.not_mem_nil,or_false]at hu;obtain rfl|rfl:=hu<;>rfl
 case c2=>unfold bW;omega
 case c3=>omega
 case c4=>exact bT _
 intro va' w2 W ad ae;obtain⟨a2,c2,rfl,ap⟩:=dL W;obtain⟨Y,c',af⟩:=HG.made U ac W ad ae;have al:=dq Y 0;have am:=dP Y 0;have HM:cf _:=af;clear Y af W ad ae U O ac HG;go_wp2;go_ret;exact⟨q?,_,_,_,_,HM⟩
def TL{u n xs}(h:PS w0 w c B va vl vm last us ms es)(hl:lI w w2)(hu:w2.ownsRow w.1.size 9 1 u n xs)(ag:last<=1073741824)(ah:l? us<=17179869184)(hn:n<=1000) :
  bY prog 113 #[p? (y? ⟨B,0,x?⟩),u] w2 λe w'=>e=e? (.tuple #[])/\lI w0 w'/\∃c' ab ac W ad,PS w0 w' c' B va ab ac (last+1) W ad es/\l? W=l? us+9:=by
 obtain⟨D,hD,ai,aj⟩:=h.law.lists;have hb:∀k,k<w.1.size->w2.1[k]?=w.1[k]?:=hl.block;have af:=λk O=>(hD.ol.lt k O).2;have ae:=λk O=>(hD.om.lt k O).2;refine(Po B D va vl vm u us ms last n xs w2 ((hb B h.law.bz).trans h.law.1) (hD.stay hl.size (λk O=>hb k (hD.yP k O)) (λk O=>hb k (af k O)) λk O=>hb k (ae k O)) h.law.len (fj hu (bT _)) (λk O hd=>?_) (λk O hm=>?_) ag ah hn).mono ?_;have:=(hu.lt k O).1;have:=hD.yP k hd;omega
 .have:=(hu.lt k O).1;have:=ae k hm;omega
 rintro e w' ⟨rfl,D',ab,ac,W,ad,q1,q2,q3,q4,q5,q6,q7,q8⟩;have hz:=hl.size;have am:=q5.size;have Y:∀k,u.ownBlock=y? k->w.1.size<=k:=λk O=>(hu.lt k O).1;have aa:∀k,w.1.size<=k->ub c w.1.size 1 k=1:=λk O=>qO O
 have hf:BB c (ub c w.1.size 1) 1 w w':=⟨mP,q5.os.trans hl.os,o!,λk O hn=>by
  rw[q5.block k o! ?_,hb k O];rintro(e|e|e|e);exact hn (e▸h.law.cB);exact hn (h.law.cl k e);exact hn (h.law.cm k e)
  have:=Y k e;omega⟩
 have ak:=h.Ph hf o!;refine⟨q?,ak,_,ab,ac,W,ad,h.Wh hf ⟨q1,⟨D',q2,λk O=>?_,λk O hd=>?_⟩,q3,?_,(je h.law.bz).trans h.law.cB,λk O=>(je (h.law.row.lt k O).2).trans (h.law.ca k O),λk O=>?_,λk O=>?_⟩,q4⟩;obtain U|U|U:=q6 k O
 rw[je (hD.yP k U)];exact ai k U;exact aa k (Y k U);exact aa k o!;have:=(h.law.row.lt k O).2;obtain U|U|U:=q6 k hd
 exact aj k O U;have:=Y k U;omega;omega;refine dG h.law.row λk O=>?_;have al:=(h.law.row.lt k O).2;rw[q5.block k o! ?_,hb k al];rintro(e|e|e|e);exact fc h.law.1 h.law.row d! (e▸O);exact fP h.law.row hD.ol d! k O e;exact fP h.law.row hD.om d! k O e;have:=Y k e;omega;obtain U|U:=q7 k O
 rw[je (af k U)];exact h.law.cl k U;exact aa k o!;obtain U|U:=q8 k O
 rw[je (ae k U)];exact h.law.cm k U;exact aa k o!
end
structure R9(N M K W:Int)(S T:ByteArray):Prop where
 n0 : -9223372036854775808<=N
 n1:N<=9223372036854775807
 m0 : -9223372036854775808<=M
 m1:M<=9223372036854775807
 k0 : -9223372036854775808<=K
 k1:K<=9223372036854775807
 w0 : -9223372036854775808<=W
 w1:W<=9223372036854775807
 s:S.size<=bW
 t:T.size<=bW
section
variable {w0 w:w?} {c:Nat->Nat} {B:Nat} {va vl vm:v?} {last:Nat} {us:List v?} {ms:List Wd} {es:List vG} {s:Sg}
def PS.two(h:PS w0 w c B va vl vm last us ms es)(o p):∃O,PS w0 ((w.alloc o).alloc p) O B va vl vm last us ms es/\O w.1.size=0/\O (w.1.size+1)=0/\((w.alloc o).alloc p).1[w.1.size]?=y? o/\((w.alloc o).alloc p).1[w.1.size+1]?=y? p/\w.1.size+2<=((w.alloc o).alloc p).1.size/\lI w ((w.alloc o).alloc p):=by have U:lI w ((w.alloc o).alloc p):=.of (((cd _ _).alloc (bQ _) _).alloc i! _);refine⟨_,h.same U 0,qO (bQ _),qO o!,?_,?_,i!,U⟩;rw[cc _ _ _ i!];exact uO _ _;have:=uO (w.alloc o) p;simpa using this
def PS.lr{i}(h:PS w0 w c B va vl vm last us ms es)(hi)(O:es[i].x=s)(U:es[i].y=s):PS w0 w c B va vl vm last us ms (es.set i ⟨es[i].bx,es[i].yb,s,s⟩):=by
 have e:(⟨es[i].bx,es[i].yb,s,s⟩:vG)=es[i]:=by generalize es[i]=z at *;obtain⟨a,b,x,y⟩:=z;simp only at O U⊢;rw[O,U]
 rw[e,List.set_getElem_self];exact h
def R5{i O W N M K S T aL nL cL made}(h:PS w0 w c B va vl vm last us ms es)(hi)(hx:es[i].x=s)(hy:es[i].y=s)(U:R9 N M K W S T)(h2:2<=O)(h5:O<=5) :
  bY prog 76 #[.agg #[p? (y? ⟨es[i].bx,0,x?⟩),p? (y? ⟨es[i].yb,0,x?⟩)],.agg (Hs O W N M K S T (.slice aL nL cL) made)] w λe w'=>e=e? (.bool t?)/\∃c' s',s'.t=s.t/\PS w0 w' c' B va vl vm last us ms (es.set i ⟨es[i].bx,es[i].yb,s',s'⟩):=by
 have hk:O=2\/O=3\/O=4\/O=5:=o!;obtain⟨c1,h1,z1,z2,p1,p2,aa,_⟩:=(h.lr hi hx hy).two (c? #[p? (y? ⟨es[i].bx,0,x?⟩),p? (y? ⟨es[i].yb,0,x?⟩)] 122) (c? (Hs O W N M K S T (.slice aL nL cL) made) 77);generalize es[i].bx=b1 at *;generalize es[i].yb=b2 at *;have H1:cf _:=h1;clear h h1 hx hy h2 h5;have d1:=dq p1;have d2:=dq p2;unfold Hs at *;obtain rfl|rfl|rfl|rfl:=hk
 case' inl=>have X:=Wk (s:=s) S T N M U.s U.t;have Y:=VM (s:=s) S T N M U.s U.t
 case' inr.inl=>have X:=VV (s:=s) S U.s;have Y:=Wa (s:=s) S U.s
 case' inr.inr.inl=>have X:=Um (s:=s);have Y:=T9 (s:=s)
 case' inr.inr.inr=>have X:=TY (s:=s) N;have Y:=U2 (s:=s) N U.n0 U.n1
 all_goals
  have HX:cf (Q2 _ _ _ _ _):=X;have HY:cf (P4 _ _ _ _ _):=Y;clear X Y;go_enter func76,ntmps76;go_wp2_with fail;refine(H1.VZ hi HX).mono ?_;rintro e w1 ⟨rfl,c2,h2,z⟩;have q1:=dq ((z.block _ o! z1).1.trans p1);have q2:=dq ((z.block _ o! z2).1.trans p2);have H2:cf _:=h2;clear h2 z d1 d2 p1 p2 H1;go_wp2_with fail;refine(H2.Wg hi HY).mono ?_;rintro e w2 ⟨rfl,c3,h3,_⟩;have H3:cf _:=h3;clear h3 H2 q1 q2;go_wp2_with fail;refine(yT _ _).mono ?_;rintro e w' ⟨rfl,rfl⟩;go_wp2;go_ret;refine⟨dT i!,_,_,?_,H3⟩;rfl
end
variable {l:List dD} {k:Nat}
def rX(l:List dD)(k:Nat):List dD:=(l.take k).filter λe=>e.gone
def Q9(h)(O:l[k].gone=t?):rX l (k+1)=rX l k++[l[k]]:=by unfold rX;rw[bD h,bK];simp[O]
def Rz(h)(O:l[k].gone=f?):rX l (k+1)=rX l k:=by unfold rX;rw[bD h,bK];simp[O]
def FR(l)(k):(rX l k).length<=k:=by unfold rX;have:=bC (λe:dD=>e.gone) (l.take k);simp at this⊢;omega
def zx(m)(h:∀e∈m,mH e):(m.flatMap λe=>dI e.name).length<=l? m*1048577:=by
 induction m with
 |nil=>simp|cons e m O=>
  have W:=(h e i!).1;have Y:=O (λx U=>h x (by simp[U]));rw[List.flatMap_cons,bJ,List.length_cons];have h3:(dI e.name).length=l? e.name+1:=by simp[dI]
  omega
def Lu{O:ByteArray}(h:∀e∈l,mH e)(U:O.1.1=(rX l k).flatMap λe=>dI e.name):O.size<=k*1048577:=by have h1:=zx (rX l k) (λe W=>h e (bI (bB.1 W).1));have Y:=FR l k;have h3:=congrArg List.length U;have h4:l? O.1.1=O.size:=i!;have:=bU 1048577 Y;omega
def S8(l:List dD):∀e∈l,l? e.text<=(l.map λe=>l? e.text).sum:=by
 induction l with
 |nil=>intro e O;simp at O|cons x l U=>
  intro e O;rw[List.map_cons,List.sum_cons];obtain rfl|h:=bO.1 O
  omega;have:=U e h;omega
def Eu(v)(l)(w)(hv:iu w 5 v l.length (dv l))(hr:∀e∈l,mH e)(ah:l? l<=1048576)(ai:(l.map λe=>l? e.text).sum<=1048576) :
  bY prog 109 #[v] w λe w'=>e=e? (s? ⟨(mL l).toArray⟩)/\B? w w':=by
 have HT:cf (∀e∈eK l,mH e):=λe he=>hr e (j9.1 he);have ab:(eK l).length<=1048576:=by rw[tH];exact ah
 have aj:cf (∀e∈du (eK l),(dC e).length<=(ns l-1)+(⟨#[]⟩:ByteArray).size):=λe he=>by have h1:=S8 l e (j9.1 (bB.1 he).1);unfold ns dC;rw[fO];show _<=_+0;omega
 have ak:ns l-1<=2097152/\ns l-1+1=ns l:=by unfold ns;omega
 obtain⟨a,cap,rfl,hc,hm,_,_⟩:=id hv;have al:=E7 _ l w hv o!;have ac:cf _:=ak;clear hv hr ak ai;unfold bW at hm;go_enter func109,ntmps109;go_wp2_with fail;refine al.mono ?_;rintro e w1 ⟨u,rfl,Y,ad⟩;have av:=ad.size;obtain⟨sl,ae⟩:∃sl,sl=eK l:=⟨_,q?⟩;rw[<-ae]at Y ab HT aj;have aw:cf _:=ae;clear ae al;obtain⟨a2,c2,rfl,aA⟩:=dL Y;have HV:cf (iu w1 5 (.slice a2 sl.length c2) sl.length (dv sl)):=iu.eL Y;have ax:cf _:=ad;clear Y ad;go_wp2;go_loopw [4,5,6] (λsv nv iv wr=>∃(k:Nat)(ob:ByteArray),k<=l? sl/\iv=n? i? k/\sv=s? ob/\ob.1.1=((rX sl k).flatMap λe=>dI e.name)/\nv=n? i? (rX sl k).length/\B? w1 wr) (λ_ _ i _=>l? sl-(intOf i).toNat)
 case atStart=>exact⟨0,⟨#[]⟩,bT _,q?,q?,q?,q?,cd _ _⟩
 case round=>
  obtain⟨k,ob,hk,rfl,rfl,af,rfl,O⟩:=hrel;have HO:cf _:=af;have a9:ob.size<=k*1048577:=Lu HT af;have ay:=FR sl k;have HS:=O.size;clear af;by_cases W:k<l? sl
  .obtain⟨b,off,rfl,c0,c1,aB,c3,c4⟩:=jc (HV.below O) k W;have aC:(k:Int)<(l? sl:Int):=o!
   cases hg:sl[k].gone with
   |false=>
    have HX:cf (rX sl (k+1)=rX sl k):=Rz W hg;rw[hg]at c1;clear hg;go_wp2;go_roundw
    case rel=>exact⟨k+1,ob,o!,by go_num,q?,by rw[HX.out];exact HO,by rw[HX.out],O⟩
    case measure=>simp[intOf];omega
   |true=>
    have HX:cf (rX sl (k+1)=rX sl k++[sl[k]]):=Q9 W hg;obtain⟨P1,g1,C1⟩:=wQ sl[k].name (HT sl[k] (List.getElem_mem W)).1;have HG:cf (P1.1.1=dI sl[k].name):=g1.1;have p1:=g1.2;have az:¬(9223372036854775807<ob.size+P1.size):=o!;rw[hg]at c1;clear hg g1;have a0:cf (∀w:w?,bY prog 149 #[s? ⟨sl[k].name.toArray⟩] w λe w'=>e=e? (s? P1)/\eJ w w'):=C1;clear C1;go_wp2_with fail;refine(a0 wr).mono ?_;rintro e w3 ⟨rfl,am⟩;have a1:cf (B? w1 w3):=O.trans (Below.mono am HS);clear am O;go_wp2;go_roundw
    case rel=>refine⟨k+1,ob++P1,o!,by go_num,q?,?_,?_,a1⟩;rw[HX.out,List.flatMap_append,ByteArray.data_append,Array.toList_append,HO.out,HG.out];simp;rw[HX.out,bJ];go_num
    case measure=>simp[intOf];omega
  have a3:k=l? sl:=o!;subst a3;have an:rX sl sl.length=sl.filter λe=>e.gone:=by unfold rX;rw[List.take_length]
  rw[an]at HO ay⊢;clear an W hk;have ao:=oZ (.slice a2 sl.length c2) sl wr (HV.below O) o!;have a5:cf (B? w wr):=ax.trans (O.mono av);have hz:=O.size;clear O;go_wp2_with fail;refine ao.mono ?_;rintro e w4 ⟨u4,rfl,ag,ap⟩;have aq:cf (B? w w4):=a5.trans (ap.mono o!);obtain⟨a4,c4,rfl,aD⟩:=dL ag;have aE:(du sl).length<=l? sl:=bC _ _;have au:=λ(y:w?) (U:eJ w4 y)=>Pu (du sl) (λe he=>HT.out e (bB.1 he).1) o! (ns l-1) ⟨#[]⟩ ⟨#[]⟩ (.slice a4 (du sl).length c4) y ac.1 ((iu.eL ag).below U) aj (bQ _) (by show 0<=_;omega);obtain⟨P2,aa⟩:∃P2:ByteArray,P2=⟨(jO (ns l) (du sl) [] []).toArray⟩:=⟨_,q?⟩
  have a6:cf (∀y:w?,eJ w4 y->bY prog 150 #[.slice a4 (du sl).length c4,s? ⟨#[]⟩,s? ⟨#[]⟩] y λe w'=>e=e? (s? P2)/\eJ y w'):=λy U=>by have h:=au y U;rw[ac.2]at h;rw[aa];exact h
  have a':P2.size<=7000000000000000000:=by
   have h:=AP (ns l) (du sl) [] [] (λe he=>HT.out e (bB.1 he).1);have h4:ns l*((du sl).length*3145743)<=2097153*(1048576*3145743):=Nat.mul_le_mul (v! ac.out) (bU _ o!);have h5:P2.size=(jO (ns l) (du sl) [] []).length:=by rw[aa];rfl
   simp only[List.length_nil]at h;omega
  have a7:cf (⟨#[u8 (sl.filter λe=>e.gone).length]⟩++ob++P2=(⟨(mL l).toArray⟩:ByteArray)):=by show _=_;rw[aa];apply ByteArray.ext;apply Array.toList_inj.1;unfold mL;rw[<-aw.out];simp only[ByteArray.data_append,Array.toList_append,HO.out,List.cons_append,List.nil_append,du]
  have f2:((⟨#[u8 (sl.filter λe=>e.gone).length]⟩:ByteArray)++ob).size=1+ob.size:=by rw[ByteArray.size_append];rfl
  have az:¬(9223372036854775807<1+ob.size):=o!;have aF:¬(9223372036854775807<1+ob.size+P2.size):=o!;clear au aa ag ap ao;go_wp2_with fail;refine jm k! ?_;refine dx 0 ?_ ?_ ?_;rotate_left
  .intro y U;unfold fL;go_simp;refine⟨eJ.refl _,?_⟩;with_reducible rfl
  refine dx 1 ?_ ?_ ?_;rotate_left
  .intro y U;unfold fL;go_simp;refine⟨eJ.refl _,?_⟩;with_reducible rfl
  refine dx 4 ?_ ?_ ?_;rotate_left
  .intro y U;unfold fL;go_simp;refine⟨eJ.refl _,?_⟩;with_reducible rfl
  refine dx 6 ?_ ?_ ?_;rotate_left
  .intro y U;unfold fL;go_simp;refine⟨eJ.refl _,?_⟩;with_reducible rfl
  refine dx 7 ?_ ?_ ?_;rotate_left
  .intro y U;unfold fL;go_simp;refine⟨q?,(a6 y U).mono ?_⟩;rintro e y2 ⟨rfl,h2⟩;refine⟨_,q?,h2,?_⟩;with_reducible rfl
  refine Db (rs:=[2]) k! i! ?_;intro i hi;simp only[List.mem_singleton]at hi;subst hi;refine Dx (λg=>(.slice (y? ⟨g,0,x?⟩) 1 1:v?)) (λg y=>y.cell? ⟨g,0,x?⟩=y? (n? .u8 (IntKind.u8.wrap ((sl.filter λe=>e.gone).length:Int)))) q? (fC _) (λg=>(eu _ _)) l! ?_ ?_
  .intro y U;unfold fL;go_simp;exact⟨eJ.alloc _ _,q?,by rw[World.cell?_alloc_at _ _ _ _ rfl];rfl⟩
  intro g;refine dx 3 ?_ ?_ ?_ (hC:=((fC _).and (eu _ _)));rotate_left
  .intro y U;have q:=qH U.2;unfold fL;go_simp;refine⟨eJ.refl _,?_⟩;with_reducible rfl
  refine dx 5 ?_ ?_ ?_ (hC:=((fC _).and (eu _ _)));rotate_left
  .intro y U;unfold fL;go_simp;refine⟨eJ.refl _,?_⟩;with_reducible rfl
  refine dx 8 ?_ ?_ ?_ (hC:=((fC _).and (eu _ _)));rotate_left
  .intro y U;unfold fL;go_simp;refine⟨eJ.refl _,?_⟩;with_reducible rfl
  refine dx 9 ?_ ?_ ?_ (hC:=((fC _).and (eu _ _)));rotate_left
  .intro y U;unfold fL;go_simp;refine⟨eJ.refl _,?_⟩;with_reducible rfl
  refine pS k! ?_ _;intro y U;have a8:cf (eJ w4 y):=U.1;clear U;go_simp;go_wp2;go_ret;refine⟨wB ?_,aq.trans (Below.mono a8 aq.size)⟩;exact a7.out
open Go.Conc Go.Maps
def lI.tape{w w'}(h:lI w w')(τ:Tape):lI w (tp w' τ):=⟨h.os,h.size,h.block⟩
def MB(l)(mode)(q)(dE most):(kI l mode q dE most).1.length<=20:=by
 unfold kI;split;simp;split;rw[List.length_map];rename_i h _
 have:∀(l:List dD)(ok:Nat->Bool)(n:Nat)(t:List Nat),(gS l ok n t).length<=n:=by
  intro l ok n;induction n with
  |zero=>intro t;simp[gS]|succ n O=>intro t;rw[gS];split;simp;have:=O (t++[‹Nat›]);simp;omega
 exact bR (this _ _ _ _) o!;simp
section
variable {Z:mE prog} {W0:w?} {Mp:Nat->Prop} {fn:bZ} {tm:Array v?} {os:List OF} {wl w0:w?} {k:List Item}
variable {c:Nat->Nat} {B:Nat} {va vl vm:v?} {last:Nat} {us:List v?} {ms:List Wd} {es:List vG} {s:Sg}
def IK{ops:Array Oper}{i}{rest:List Nat}{o:Oper}{j W N M K S T}{aL:Option Addr}{nL cL made}(hi:ops[i]?=y? o)(h:PS w0 wl c B va vl vm last us ms es)(hj:j<l? es)(hx:es[j].x=s)(hy:es[j].y=s)(h5:5<=w0.1.size)(ac:nV wl)(ho:R9 N M K W S T)(Y:last<=1073741824)(hu:l? us<=17179869184)
  (hn:∀w2 c' ae af ad ag,PS w0 w2 c' B va ae af (last+1) ad ag es->l? ad=l? us+9->dk (jk Z W0 Mp) (⟨fn,fq o.dst tm (.bool t?),r? ops rest::k⟩::os) w2 []) :
  dk (jk Z W0 Mp) (⟨78,#[p? (y? ⟨B,0,x?⟩),.agg #[p? (y? ⟨es[j].bx,0,x?⟩),p? (y? ⟨es[j].yb,0,x?⟩)],.agg (Hs 9 W N M K S T (.slice aL nL cL) made),cj,cj,cj,cj,cj,cj,cj,cj,cj,cj,cj,cj,cj,cj,cj,cj,cj,cj,cj,cj,cj,cj,cj,cj,cj,cj,cj,cj,cj,cj,cj,cj,cj,cj,cj,cj,cj,cj,cj,cj,cj,cj,cj,cj,cj,cj,cj,cj,cj,cj,cj,cj,cj,cj,cj,cj,cj,cj,cj,cj,cj,cj,cj,cj,cj,cj,cj,cj,cj,cj,cj,cj,cj,cj,cj,cj,cj,cj,cj,cj,cj,cj,cj,cj,cj,cj,cj,cj,cj,cj,cj,cj,cj,cj,cj,cj,cj,cj,cj,cj,cj,cj,cj,cj,cj,cj,cj,cj,cj,cj],[.code (eD f78)]⟩::⟨fn,tm,r? ops (i::rest)::k⟩::os) wl []:=by
 unfold Hs;obtain⟨F1,F2,hA,_⟩:=h.x j hj;obtain⟨F,hR,hF,hI⟩:=h.y j hj;rw[hx]at hA;rw[hy]at hR hI;generalize es[j].bx=b1 at *;generalize es[j].yb=b2 at *;have H:cf _:=A? h (A? h5 (A? ac (A? ho (A? Y (A? hu hn)))));have HA:cf (AW w0 wl F1 F2 b1 s.b s.s s.t):=hA;have HR:cf (j6 wl F b2 s.b s.s s.t/\Inv s.b s.s/\∀k,F k->k<wl.1.size):=⟨hR,hI,λk hk=>(hF k hk).1⟩;clear h hx hy h5 ac ho Y hu hn hA hR hI hF;show dk _ (⟨_,_,[.code (.seq (.region 0 _ f?) (.seq (.seq (.region 1 _ f?) (.block 0 (.seq (.region 2 _ f?) (.cond _ (.seq (.region 3 _ f?) (.seq (.region 4 _ f?) (.seq (.region 5 _ f?) (.seq (.region 6 _ f?) (.seq (.region 7 _ f?) .ret))))) _)))) _))]⟩::_) _ _;refine iR λkk HK y Y=>?_;have hz:wl.1.size<=y.1.size:=Y.size;have HL:cf (lI wl ((y.alloc (c? #[p? (y? ⟨b1,0,x?⟩),p? (y? ⟨b2,0,x?⟩)] 122)).alloc (c? #[n? i? 9,n? i? W,n? i? N,n? i? M,n? i? K,s? S,s? T,.slice aL nL cL,.bool made] 77))):=Y.trans (.of (((cd _ _).alloc (bQ _) _).alloc i! _));have p1:((y.alloc (c? #[p? (y? ⟨b1,0,x?⟩),p? (y? ⟨b2,0,x?⟩)] 122)).alloc (c? #[n? i? 9,n? i? W,n? i? N,n? i? M,n? i? K,s? S,s? T,.slice aL nL cL,.bool made] 77)).1[y.1.size]?=_:=(cc _ _ _ i!).trans (uO _ _);have p2:=uO (y.alloc (c? #[p? (y? ⟨b1,0,x?⟩),p? (y? ⟨b2,0,x?⟩)] 122)) (c? #[n? i? 9,n? i? W,n? i? N,n? i? M,n? i? K,s? S,s? T,.slice aL nL cL,.bool made] 77);clear Y;go_wp2;refine fR HK ?_;clear HK kk;have am:∃P O:Nat,P=y.1.size/\O=y.1.size+1:=⟨_,_,q?,q?⟩;rw[show(y.alloc (c? #[p? (y? ⟨b1,0,x?⟩),p? (y? ⟨b2,0,x?⟩)] 122)).1.size=y.1.size+1 by simp]at p2;generalize ((y.alloc (c? #[p? (y? ⟨b1,0,x?⟩),p? (y? ⟨b2,0,x?⟩)] 122)).alloc (c? #[n? i? 9,n? i? W,n? i? N,n? i? M,n? i? K,s? S,s? T,.slice aL nL cL,.bool made] 77))=w1 at *;generalize y.1.size+1=O at *;generalize y.1.size=Pb at *;clear am;have HP:cf (∀y,lI w1 y->(∀o,y.cell? ⟨Pb,o,x?⟩=_)/\∀o,y.cell? ⟨O,o,x?⟩=_):=λy Y=>⟨dq ((Y.block _ (eG p1)).trans p1),dq ((Y.block _ (eG p2)).trans p2)⟩;clear p1 p2;refine dk.seq (iR λkk HK y Y=>?_);have HY:cf (lI w1 y):=Y;obtain⟨d1,d2⟩:=HP.out y Y;clear Y;go_wp2;refine fR HK ?_;clear HK kk d1 d2;refine dk.block (iR λkk HK y2 Y=>?_);have HY:cf (lI w1 y2):=HY.out.trans Y;clear Y;go_wp2;refine fR HK ?_;clear HK kk;refine dk.rN trivial q? (dk.sr λkk HK=>?_)
 (refine fu ?_;go_simp);refine s7 q? l! k! λτ=>?_;have q:=(HP (tp y2 τ) (HY.out.tape τ)).1;unfold fL;go_simp;simp only[iJ];refine dk.pj τ ?_;clear q
 (refine fu ?_;go_simp);refine s7 q? l! k! λτ=>?_;have q:=(HP (tp y2 τ) (HY.out.tape τ)).2;unfold fL;go_simp;simp only[iJ];refine dk.pj τ ?_;clear q
 (refine fu ?_;go_simp);refine s7 q? l! k! λτ=>?_;have q:=(HP (tp y2 τ) (HY.out.tape τ)).2;unfold fL;go_simp;simp only[iJ];refine dk.pj τ ?_;clear q
 (refine fu ?_;go_simp);refine s7 q? l! k! λτ=>?_;have q:=(HP (tp y2 τ) (HY.out.tape τ)).2;unfold fL;go_simp;simp only[iJ];refine dk.pj τ ?_;clear q
 (refine fu ?_;go_simp);refine s7 q? l! k! λτ=>?_;have q:=(HP (tp y2 τ) (HY.out.tape τ)).2;unfold fL;go_simp;simp only[iJ];refine dk.pj τ ?_;clear q;refine AW.Vz (i:=10) (mode:=N) (dE:=M) (most:=K) (qb:=S) (HA.out.same (HL.out.trans HY)) H.out.2.1 (D7 ⟨H.out.2.2.1,bR H.out.2.1 HA.out.low.size⟩ (HL.out.trans HY)) H.out.2.2.2.1.s λw3 u Y aa=>?_;have ah:cf (lI w1 w3):=HY.out.trans Y;have aa:=fj aa (HL.out.trans HY).size;have C:=λy (Y:lI wl y)=>Fw (mode:=N) (dE:=M) (most:=K) (qb:=S) (w:=y) (HR.out.1.stay λk hk=>Y.block k (HR.out.2.2 k hk)) HR.out.2.1 H.out.2.2.2.1.s;have lg:=MB (dO s.s s.b) N S.1.1 M K;generalize (kI (dO s.s s.b) N S.1.1 M K).1=U at *;generalize (kI (dO s.s s.b) N S.1.1 M K).2=code at *;have HU:cf (w3.ownsRow wl.1.size 9 1 u U.length (dy U)):=aa;obtain⟨ua,uc,rfl,_⟩:=dH aa;clear Y aa;rw[kh];go_simp
 (iterate 5 (refine fu ?_;go_simp));refine dk.ie HK ?_;clear HK kk;have HC:cf _:=C;clear C HA HR;refine iR λkk HK y4 Y=>?_;have ab:cf (lI w1 y4):=ah.out.trans Y;have HU:cf (y4.ownsRow wl.1.size 9 1 (.slice ua U.length uc) U.length (dy U)):=dK HU λk hk=>Y.block k (HU.out.lt k hk).2;obtain⟨d1,d2⟩:=HP.out y4 ab;clear Y ah HY;go_wp2_with fail;refine(HC y4 (HL.out.trans ab)).mono ?_;rintro e w5 ⟨v,rfl,hv,hb⟩;have ai:cf (lI w1 w5):=ab.out.trans (.of hb);have HU:cf (w5.ownsRow wl.1.size 9 1 (.slice ua U.length uc) U.length (dy U)):=dK HU λk hk=>hb.block k (HU.out.lt k hk).2;have HV:cf (w5.ownsRow y4.1.size 9 1 v U.length (dy U)):=hv;obtain⟨va',vc,rfl,_⟩:=dH hv;clear hb hv HC ab d1 d2;go_wp2;refine fR HK ?_;clear HK kk;refine iR λkk HK y6 Y=>?_;have aj:cf (lI w1 y6):=ai.out.trans Y;have HU:cf (y6.ownsRow wl.1.size 9 1 (.slice ua U.length uc) U.length (dy U)):=dK HU λk hk=>Y.block k (HU.out.lt k hk).2;have C:=Qk (.slice ua U.length uc) (.slice va' U.length vc) U y6 (Rd.eL HU) (Rd.eL (dK HV λk hk=>Y.block k (HV.out.lt k hk).2)) o!;clear Y HV ai;go_wp2_with fail;refine C.mono ?_;rintro e w7 ⟨rfl,nq,rfl⟩;have ak:cf (lI w1 (y6.drewN nq)):=aj.out.trans (.of (below_drewN (cd _ _) nq));have HU:cf ((y6.drewN nq).ownsRow wl.1.size 9 1 (.slice ua U.length uc) U.length (dy U)):=HU.out;clear C aj;generalize y6.drewN nq=w7 at *;go_wp2;refine fR HK ?_;clear HK kk;refine iR λkk HK y8 Y=>?_;have C:=TL H.out.1 ((HL.out.trans ak).trans Y) (dK HU λk hk=>Y.block k (HU.out.lt k hk).2) H.out.2.2.2.2.1 H.out.2.2.2.2.2.1 o!;clear Y HU ak;go_wp2_with fail;refine C.mono ?_;rintro e w9 ⟨rfl,_,c',ae,af,ad,ag,hp,al⟩;have H9:cf _:=A? hp al;clear C hp al;go_wp2;refine fR HK ?_;clear HK kk;refine iR λkk HK an Y=>?_;have H9:cf _:=A? (H9.out.1.same Y 0) H9.out.2;clear Y;go_wp2_with fail;refine(yT _ _).mono ?_;rintro e w' ⟨rfl,rfl⟩;go_wp2;refine fR HK ?_;clear HK kk;refine dk.back (v:=.bool t?) (.inr ⟨_,q?⟩) func78 hi (λτ=>by simp[results,results78,go_sem]) ?_;exact H.out.2.2.2.2.2.2 _ _ _ _ _ _ H9.out.1 H9.out.2
end
end
