import Derived.Test.YtocbogeoffeolaaGreatDoorComAK
import Derived.OpenShut
set_option linter.all false
set_option maxHeartbeats 8000000
set_option maxRecDepth 1000000
open List renaming getD_eq_getElem?_getD->bx,getElem?_eq_getElem->bz,getElem_mem->bO,range->bP,all->bQ
open Int renaming eq_ofNat_of_zero_le->bR,tmod_eq_emod_of_nonneg->bS,tdiv_eq_ediv_of_nonneg->bT
open Option.some renaming injEq->bU
open Go renaming cell_later->bV,Calls->bW,maxLen->bX,info_parts->bY
open Nat renaming le_trans->bZ,div_le_self->ca,zero_add->cb
open Go.RowKit renaming Hid->cc
open Go.World renaming ownsRow_nil->cd
open Bool renaming false->f?,true->t?
open Go renaming Program->P?,Value->v?,World->w?
open Go.Ending renaming returned->e?
open Go.IntKind renaming i64->i?
open Go.Obj renaming cells->c?
open Go.Value renaming int->n?,pointer->p?,string->s?
open List renaming length->l?,toArray->a?
open Option renaming none->x?,some->y?
namespace Go.Proofs.YtocbogeoffeolaaGreatDoor
open Go.Proofs.Tryz
section
def Sc(a b:Wd):(⟨a? a⟩:ByteArray)++⟨a? b⟩=⟨(a++b).toArray⟩:=by apply ByteArray.ext;simp
def uO(w:w?)(o):(w.alloc o).1[w.1.size]?=y? o:=by simp[World.alloc,-World.alloc_eq]
open Go.RowKit
variable {w y:w?}
def sW{P ops Q a}(h:Q .normal a w):pE P ops Q [] a w:=λ_ _ _=>⟨.normal,a,w,h,.one step_region_end⟩
def eM{a v}(h:kO w y)(B:w.cell? a=y? v):y.cell? a=y? v:=by obtain⟨τ,O⟩:=h;exact eu a v _ _ (show(tp w τ).cell? a=y? v from B) O
def vh(h:kO w y)(B:y.tape=w.tape):eJ w y:=by obtain⟨τ,O,h2,U,W,Y⟩:=h;exact⟨O,B,U,W,Y⟩
open Go.Conc Go.Maps
def l5{w a v}(B:lI w y)(h:w.cell? a=y? v):y.cell? a=y? v:=by rw[<-h];exact World.cell?_of_block (B.block _ (World.block_lt_of_cell? w a h))
def Lt{q:Wd}(h:eR q=t?):l? q<=24/\∀c∈q,nG c=t?:=by unfold eR at h;simp only[Bool.and_eq_true,decide_eq_true_eq,List.all_eq_true]at h;exact h
section
variable {w0 w:w?} {F1 F2:Nat->Prop} {b:Nat} {buf:List dD} {ss:List (List dD)} {ts:List (List Wd)}
def AW.load(h:AW w0 w F1 F2 b buf ss ts)(s:ByteArray)(B:s.size<=bX):bW prog 25 #[p? (y? ⟨b,0,x?⟩),s? s] w λe w'=>e=e? (n? i? (gr buf ss s.1.1).1)/\∃F1',AW w0 w' F1' F2 b buf (gr buf ss s.1.1).2 ts/\St w w' F1 F2 F1' F2:=
 h.Cc λU W O=>(Vw w F1 b buf ss s O B).mono λ_ _ h=>h
def AW.Wm(h:AW w0 w F1 F2 b buf ss ts)(n:Int):bW prog 26 #[p? (y? ⟨b,0,x?⟩),n? i? n] w λe w'=>e=e? (.tuple #[s? ⟨(iZ ss n).1.toArray⟩,n? i? (iZ ss n).2])/\w=w':=by obtain⟨O,U,B⟩:=h.Wx;exact V7 w F1 b buf ss n B
end
end
section
open Go.RowKit
variable {qb:ByteArray} {ss:List (List dD)} {buf:List dD} {b:Nat} {w:w?}
section
open Go.Conc
variable {P:P?} {ops:Array Oper} {md:Region.Mode} {last:Nat} {tl:List Nat->Prop} {Sd:Act->w?->Prop}
def T5(md:Region.Mode)(ops:Array Oper):Nat->List Nat->List Nat
 |0,acc=>acc|n+1,acc=>T5 md ops n (if acc.any (λk=>(uN md ops k).contains n)then n::acc else acc)
def KA:∀(n)(acc),(∀i∈acc,i=last\/Tw md ops last i)->∀i∈T5 md ops n acc,i=last\/Tw md ops last i
 |0,_,h=>h|n+1,acc,h=>KA n _ (by
  intro i B;split at B;rename_i Y;obtain rfl|B:=List.mem_cons.1 B
  obtain⟨k,hk,hp⟩:=List.any_eq_true.1 Y;obtain⟨o,e,O,U,W,rfl⟩:=Ar (List.contains_iff_mem.1 hp);obtain rfl|ha:=h k hk
  exact .inr (.base O U W);exact .inr (.step ha O U W);exact h i B
  exact h i B)
def Tu(md:Region.Mode)(ops:Array Oper)(last:Nat)(listed:Array Bool)(i:Nat):Bool:=Region.noSelect ops&&Region.free md ops listed i&&(Region.ready md ops listed).contains i&&(T5 md ops last [last]).contains i&&i != last&&Ko md ops listed
def ew(i)(v){oi fuel listed}{C:w?->Prop}{a}(U:∀y,C y->fL P oi a y (λu W=>eJ y W/\u=v))
  (h:WS P md ops last tl Sd fuel (listed.setIfInBounds i t?) C (a.put oi.dst v)) (B:ops[i]?=y? oi:=by rfl) (hb:Tu md ops last listed i=t?:=by kernel_rfl) (hC:fW eJ C:=by exact kO.wN _) (hT:im C:=by exact kO.free _)
  (Y:Region.wanted oi (yielded ops a.tmps)=t?:=by rfl):WS P md ops last tl Sd (fuel+1) listed C a:=by
 simp only[Tu,Bool.and_eq_true]at hb;obtain⟨⟨⟨⟨⟨h1,h2⟩,h3⟩,h4⟩,O⟩,h6⟩:=hb;exact Hn B ((KA last [last] (λi B=>.inl (u! B)) i (u! h4)).resolve_left (u! O)) (u! O) (Region.noSelect_spec h1) fuel listed C a (KY h6) (λj oj a b c d=>.inl (Region.free_spec B h2 j oj a b c d)) (u! h3) hC hT (.inl ⟨Y,U⟩) h
end
def SV{e}(h:Ai e){N:Nat}(B:e.dn=N):(⟨(jy e).toArray⟩)=(⟨a? e.name⟩:ByteArray)++⟨#[32]⟩++⟨(np N).toArray⟩++⟨#[32]⟩++⟨a? e.text⟩/\
  (⟨a? e.name⟩:ByteArray).size<=1000/\(⟨a? e.text⟩:ByteArray).size<=1000/\(⟨(np N).toArray⟩:ByteArray).size<=7/\N<=1000000:=by
 have hb:N<=1000000:=by have:=h.2.2.2.2.2.1;omega
 refine⟨?_,?_,?_,?_,hb⟩;rw[Sc];simp[jy,B];have:=(yU h).1;show e.name.toArray.size<=_;simp;omega;have:=(yU h).2;show e.text.toArray.size<=_;simp;omega;have:=Fz 7 N o! o!;show(np N).toArray.size<=_;simpa using this
def zl{F vB vS vT}{m t n:Nat}(hh:w.1[b]?=y? (c? #[vB,vS,vT] 120 (0,0)))(aA:jE w F vB buf)(aB:Ay w F vS ss)(hI:Inv buf ss)
  (hm:m<=3) (ht:t<=255) (b3:1<=n) (hn:n<=20) (hq:eR qb.1.1=t?) (aT:qb.size<=1048576) {L} (hL:L=dO ss buf) :
  bW prog 111 #[p? (y? ⟨b,0,x?⟩),n? i? m,s? qb,n? i? t,n? i? n] w λe w'=>∃v,e=e? (.tuple #[v,n? i? 0])/\
   w'.ownsRow w.1.size 9 1 v (gS L (λi=>oM m t qb.1.1 (L.getD i iA)) n []).length (dy (nO L (gS L (λi=>oM m t qb.1.1 (L.getD i iA)) n [])))/\Below w.1.size w w':=by
 have aC:cc (bW prog 143 #[p? (y? ⟨b,0,x?⟩)] w λe w'=>∃u,e=e? u/\w'.ownsRow w.1.size 202 5 u L.length (dv L)/\Below w.1.size w w'):=by rw[hL];exact tG F b vB vS vT buf ss w hh aA aB (by have:=vU hI;simp[gF]at this⊢;omega) (v! (nY hI))
 have aD:cc ((L.map dD.name).Nodup):=by rw[hL];exact xA hI
 have ay:cc (∀e∈L,Ai e):=by rw[hL];exact λe he=>xa hI he
 have bs:l? L<=30:=by rw[hL];exact hI.all
 obtain⟨ok,az⟩:∃ok:Nat->Bool,ok=λi=>oM m t qb.1.1 (L.getD i iA):=⟨_,q?⟩;rw[<-az];have aU:cc _:=az;clear az hL hh aA aB hI;have b4:(0:Int)<=m:=o!;have b5:(m:Int)<=3:=o!;have b6:(0:Int)<=t:=o!;have b7:(t:Int)<=255:=o!;have b8:(1:Int)<=n:=o!;have b9:(n:Int)<=20:=o!;obtain⟨i4,aV,aW,aX,hx2⟩:=bY US;obtain⟨i9,aY,aZ,ba,bc⟩:=bY Cl;go_enter func111,ntmps111;go_wp2_with fail;refine(kP qb _ (by unfold bX;omega)).mono ?_;rintro e w' ⟨rfl,rfl⟩;rw[hq];go_wp2_with fail;refine aC.out.mono ?_;rintro e w1 ⟨u,rfl,ap,U⟩;obtain⟨au,cu,rfl,b'⟩:=dL ap;have hz1:=U.size;clear aC;go_wp2_with (at_make;go_must (refine wpList_make_full _ q? _ _ 209 q? w.1.size 4 i4 (.bool f?) 1 underlying209 aV aW aX i? i? _ _ L.length q? q? q? q? ?m1 ?m2 ?m3 ?_))
 case m1=>rw[hx2];omega
 case m2=>unfold bX;omega
 case m3=>exact hz1
 intro w5 a0 a1;rw[Mh]at a0;have HL5:cc (w5.ownsRow w.1.size 202 5 (.slice au L.length cu) L.length (dv L)):=dG ap (λk Y=>a1.block k (ap.lt k Y).2 i!);have HB5:cc (Below w.1.size w w5):=U.grown a1 hz1 i!;have HT5:cc _:=a0;clear a0 a1 ap U hz1;generalize w1.1.size=g at *;go_wp2;go_loopw [14] (λv wr=>∃told:List Nat,l? told<=n/\gS L ok n []=told++gS L ok (n-l? told) told/\wr.ownsRow w.1.size 4 1 (.slice (y? ⟨g,0,x?⟩) L.length L.length) L.length (rR L.length told)/\wr.ownsRow w.1.size 9 1 v told.length (dy (nO L told))/\wr.ownsRow w.1.size 202 5 (.slice au L.length cu) L.length (dv L)/\Below w.1.size w wr) (λv _=>n-(lenOf v))
 case atStart=>exact⟨[],i!,i!,HT5.out,cd _ _ _ _,HL5.out,HB5.out⟩
 case round=>
  obtain⟨told,bA,aE,aF,aj,aG,B⟩:=hrel;obtain⟨aR,cR,rfl,bB⟩:=dH aj;have HP:cc _:=aE;have HU:cc (wr.ownsRow w.1.size 4 1 (.slice (y? ⟨g,0,x?⟩) L.length L.length) L.length (rR L.length told)):=aF;have HO:cc (wr.ownsRow w.1.size 9 1 (.slice aR told.length cR) told.length (dy (nO L told))):=aj;have HR:cc (wr.ownsRow w.1.size 202 5 (.slice au L.length cu) L.length (dv L)):=aG;have HB:cc (Below w.1.size w wr):=B;clear aE aF aj aG B HL5 HB5 HT5;by_cases aH:l? told<n
  .have bt:(l? told:Int)<(n:Int):=o!;obtain⟨aa,aw⟩:∃aa:Nat->Bool,aa=λi=>ok i && !told.contains i:=⟨_,q?⟩;have HT:cc _:=aw;clear aw;generalize wr=wo at *;go_wp2;go_loopw [16,17] (λbv iv wr=>∃i:Nat,i<=l? L/\iv=n? i? i/\bv=n? i? (Gc (jx L aa i))/\Below wo.1.size wo wr) (λ_ i _=>l? L-(intOf i).toNat)
   case atStart=>exact⟨0,o!,q?,q?,Below.refl _ _⟩
   case round=>
    obtain⟨i,hi,rfl,rfl,B⟩:=hrel;have ab:cc (Below wo.1.size wo wr):=B;by_cases ak:i<l? L
    .have bw:(i:Int)<(l? L:Int):=o!;obtain⟨bl,off,rfl,d0,d1,d2,d3,d4⟩:=jc ((iu.eL HR.out).below B) i ak;obtain⟨bu,ou,al,hu⟩:=fy HU.out i _ (Cp ak);simp only[bU,Addr.mk.injEq]at al;obtain⟨rfl,rfl,_⟩:=al;rw[cb]at hu;have hu:=bV B hu;have HE:cc (Ai L[i]):=ay.out _ (bO ak);have a2:cc (L.getD i iA=L[i]):=by show _=_;rw[bx,bz ak];rfl
     obtain⟨tg,hg⟩:∃tg:Nat,L[i].dE=(tg:Int):=⟨L[i].dE.toNat,by have:=HE.out.2.2.2.2.2.2.1;omega⟩;have bd:tg<=255:=by have:=HE.out.2.2.2.2.2.2.2;omega
     have a3:cc (L[i].text.length<=1048576):=bZ (yU HE.out).2 o!
     have aq:cc (aa i=(mO t tg&&ik m (eA qb.1.1) (eA L[i].text) && !told.contains i)):=by show _=_;rw[HT.out];show(ok i&&_)=_;rw[aU.out];show(oM _ _ _ (L.getD i iA)&&_)=_;rw[a2.out];unfold oM dC;rw[hg];rfl
     have aI:cc (∀y,bW prog 152 #[n? i? m,s? qb,s? ⟨L[i].text.toArray⟩] y λee w'=>ee=e? (.bool (ik m (eA qb.1.1) (eA L[i].text)))/\Below y.1.size y w'):=λy=>OM m qb ⟨L[i].text.toArray⟩ y hm aT (by show L[i].text.toArray.size<=_;simpa using a3.out);rw[hg]at d4;have aJ:cc (uC L[i]=.agg #[s? ⟨L[i].name.toArray⟩,.bool L[i].gone,s? ⟨L[i].text.toArray⟩,n? i? L[i].dn,n? i? (tg:Int)]):=by show _=_;rw[<-hg];rfl
     clear hg B;generalize told.contains i=tl at *;generalize ik m (eA qb.1.1) (eA L[i].text)=ft at *;generalize hx:L[i]=x at *;have HX:cc (L[i]=x):=hx;clear hx;obtain⟨nm,gn,tx,wt,a4⟩:=x;simp only at d0 d1 d2 d3;go_wp2;go_loopw [18,19] (λhv bv wy=>∃j:Nat,j<=8/\bv=n? i? ((2 ^ j:Nat):Int)/\hv=.bool ((bP j).all λi=>vi t tg i)/\wy=wr) (λ_ b _=>256-(intOf b).toNat)
     case atStart=>exact⟨0,o!,q?,q?,q?⟩
     case round=>
      obtain⟨j,hj,rfl,rfl,rfl⟩:=hrel;by_cases bC:j<8
      .have hp:0<2 ^ j/\2 ^ j<=128:=⟨Nat.two_pow_pos j,Nat.pow_le_pow_right o! (o!:j<=7)⟩;have HM:cc _:=Mv (t:=t) (g:=tg) (j:=j);have aK:2 ^ (j+1)=2*2 ^ j:=by rw[Nat.pow_succ,Nat.mul_comm]
       generalize 2 ^ j=p at *;generalize aL:2 ^ (j+1)=p2 at *;have bD:(p:Int)≠0:=o!;have bE:(p:Int)<256:=o!;have bF:IntKind.i64.wrap (2*(p:Int))=((p2:Nat):Int):=by simp only[IntKind.wrap_i64];omega
       have q1:(t:Int).tdiv (p:Int)=((t / p:Nat):Int):=by rw[bT o!];rfl
       have q2:(tg:Int).tdiv (p:Int)=((tg / p:Nat):Int):=by rw[bT o!];rfl
       have b1:t / p<=255:=bZ (ca _ _) ht;have b2:tg / p<=255:=bZ (ca _ _) bd;generalize t / p=d1 at *;generalize tg / p=d2 at *;generalize aM:(bQ (bP (j+1)) λi=>vi t tg i)=nw at *;generalize (bQ (bP j) λi=>vi t tg i)=od at *;have w1:IntKind.i64.wrap (d1:Int)=(d1:Int):=by simp only[IntKind.wrap_i64];omega
       have w2:IntKind.i64.wrap (d2:Int)=(d2:Int):=by simp only[IntKind.wrap_i64];omega
       have HZ:cc (p2=2*p/\2 ^ (j+1)=p2):=⟨aK,aL⟩;have be:cc _:=aM;have r1:(d1:Int).tmod 2=((d1 % 2:Nat):Int):=by rw[bS o!];rfl
       have r2:(d2:Int).tmod 2=((d2 % 2:Nat):Int):=by rw[bS o!];rfl
       have s1:d1 % 2=0\/d1 % 2=1:=o!;have s2:d2 % 2=0\/d2 % 2=1:=o!;generalize d1 % 2=m1 at *;generalize d2 % 2=m2 at *;clear aK aL aM;have am:cc (∀v,nw=v->(∃j:Nat,j<=8/\Value.int i? (p2:Int)=n? i? ((2 ^ j:Nat):Int)/\Value.bool v=.bool ((bP j).all λi=>vi t tg i)/\True)/\256-(intOf (n? i? (p2:Int))).toNat<256-(intOf (n? i? (p:Int))).toNat):=λv hv=>⟨⟨j+1,o!,by rw[HZ.out.2],by rw[be.out,hv],t!⟩,by have:=HZ.out.1;simp[intOf];omega⟩
       cases od with
       |false=>go_wp2;exact am.out _ HM.out
       |true=>
        obtain rfl|rfl:=s1
        go_wp2;exact am.out _ HM.out;obtain rfl|rfl:=s2
        all_goals
         go_wp2;exact am.out _ HM.out
      obtain rfl:j=8:=o!;rw[<-LZ o!];generalize mO t tg=hs at *;go_wp2_with fail;refine(aI.out _).mono ?_;rintro ee wf ⟨rfl,ac⟩;have y0:=bV ac d0;have y1:=bV ac d1;have y2:=bV ac d2;have y3:=bV ac d3;have y4:=bV ac d4;have hu:=bV ac hu;have ag:cc (Below wo.1.size wo wf):=ab.out.trans (ac.mono ab.out.size);clear ac d0 d1 d2 d3 d4 aI ab;cases tl<;>cases hs<;>cases ft
      case false.true.true=>
       cases W:jx L aa i with
       |none=>have HN:cc (jx L aa (i+1)=y? i):=IW (by rw[aq.out];rfl) W;rw[show Gc x? = -1 from rfl];clear W;go_wp2;exact⟨⟨i+1,o!,by go_num,by rw[HN.out];rfl,ag.out⟩,by simp[intOf];omega⟩
       |some bb=>
        obtain⟨U,_,_⟩:=uj aD.out i bb o! W;have a5:bb<l? L:=o!;have HN:cc (jx L aa (i+1)=if eU (L.getD i iA) (L.getD bb iA)=t? then y? i else y? bb):=Nr (by rw[aq.out];rfl) W;have ax:Below wo.1.size wo wf:=ag.out;obtain⟨bG,b0,aN,e0,e1,e2,e3,e4⟩:=jc ((iu.eL HR.out).below ax) bb a5;simp only[bU,Addr.mk.injEq]at aN;obtain⟨rfl,rfl,_⟩:=aN;have HC:cc (∀y,bW prog 153 #[uC ⟨nm,gn,tx,wt,a4⟩,uC L[bb]] y λee w'=>ee=e? (.bool (eU ⟨nm,gn,tx,wt,a4⟩ L[bb]))/\Below y.1.size y w'):=λy=>Nc _ _ y a3.out (bZ (yU (ay.out _ (bO a5))).2 o!);rw[a2.out,show L.getD bb iA=L[bb] by rw[bx,bz a5];rfl]at HN;rw[aJ.out]at HC;generalize eU ⟨nm,gn,tx,wt,a4⟩ L[bb]=ah at *;generalize L[bb]=z at *;obtain⟨bH,bI,bJ,bK,bL⟩:=z;unfold uC at HC;simp only at e0 e1 e2 e3 e4 HC;rw[show Gc (y? bb)=(bb:Int)from rfl];have bf:(bb:Int)<(l? L:Int):=o!;clear ax W aJ aq a2 HX HE a3;go_wp2_with fail;refine jC (Sd:=λa y=>y.tape=wf.tape->pE _ _ _ [8,9] a y) (last:=8) (tl:=[9]) k! ?_ (λa y h ht=>h ht);refine dX 0 ?_ ?_<|dX 1 ?_ ?_<|dX 2 ?_ ?_<|dX 3 ?_ ?_ ?_
        any_goals(intro y O;have q0:=eM O y0;have q1:=eM O y1;have q2:=eM O y2;have q3:=eM O y3;have q4:=eM O y4;unfold fL;go_simp;refine⟨eJ.refl _,?_⟩;with_reducible rfl)
        go_simp;refine dX 4 ?_ ?_<|dX 5 ?_ ?_<|dX 6 ?_ ?_<|dX 7 ?_ ?_ ?_
        any_goals(intro y O;have q0:=eM O e0;have q1:=eM O e1;have q2:=eM O e2;have q3:=eM O e3;have q4:=eM O e4;unfold fL;go_simp;refine⟨eJ.refl _,?_⟩;with_reducible rfl)
        go_simp;refine qY k! (λt=>Dy k! k! _ _) ?_;intro y O ht;have hF:=HC.out y;have a6:cc (Below wo.1.size wo y):=ag.out.trans (Below.mono (vh O ht) ag.out.size);clear O ht y0 y1 y2 y3 y4 e0 e1 e2 e3 e4 HC ag hu;refine oR q? q? ?_;unfold fL;go_simp;refine⟨q?,hF.mono ?_⟩;rintro ee y3 ⟨rfl,aO⟩;have bg:cc (Below wo.1.size wo y3):=a6.out.trans (aO.mono a6.out.size);clear hF aO a6;refine⟨_,q?,?_⟩;refine oR q? q? ?_;unfold fL;go_simp;refine sW ?_;cases ah
        all_goals
         go_wp2;exact⟨⟨i+1,o!,by go_num,by rw[HN.out];rfl,bg.out⟩,by simp[intOf];omega⟩
      all_goals
       have HN:cc (jx L aa (i+1)=jx L aa i):=SQ (by rw[aq.out];rfl);go_wp2;exact⟨⟨i+1,o!,by go_num,by rw[HN.out],ag.out⟩,by simp[intOf];omega⟩
    obtain rfl:i=l? L:=o!;have bM:¬(l? L:Int)<(l? L:Int):=o!;clear B ak hi
    cases W:jx L aa L.length with
    |none=>have HF:cc _:=IG HP.out (by rw[<-HT.out];exact W);rw[show Gc x? = -1 from rfl];have bh:cc (wr.ownsRow w.1.size 9 1 (.slice aR told.length cR) told.length (dy (nO L told))):=dK HO.out λk Y=>ab.out.block k (HO.out.lt k Y).2;have ar:cc (Below w.1.size w wr):=HB.out.trans (ab.out.mono HB.out.size);clear W;go_wp2;go_ret2;refine⟨_,q?,?_,ar.out⟩;rw[HF.out];exact bh.out
    |some bb=>
     obtain⟨U,_,_⟩:=uj aD.out L.length bb (Nat.le_refl _) W;have bi:cc _:=Jw HP.out aH (by rw[<-HT.out];exact W);have HE:cc (Ai L[bb]):=ay.out _ (bO U)
     have bj:cc (nO L (told++[bb])=nO L told++[jy L[bb]]):=by show _=_;unfold nO;rw[List.map_append];simp[bx,bz U]
     obtain⟨N,hN⟩:∃N:Nat,L[bb].dn=(N:Int):=⟨L[bb].dn.toNat,by have:=HE.out.2.2.2.2.1;omega⟩;obtain⟨r1,r2,r3,r4,r5⟩:=SV HE.out hN;have af:cc (wr.ownsRow w.1.size 4 1 (.slice (y? ⟨g,0,x?⟩) L.length L.length) L.length (rR L.length told)):=dK HU.out λk Y=>ab.out.block k (HU.out.lt k Y).2;have a7:cc (wr.ownsRow w.1.size 9 1 (.slice aR told.length cR) told.length (dy (nO L told))):=dK HO.out λk Y=>ab.out.block k (HO.out.lt k Y).2;have a9:cc (wr.ownsRow w.1.size 202 5 (.slice au L.length cu) L.length (dv L)):=dG HR.out λk Y=>ab.out.block k (HR.out.lt k Y).2;have ar:cc (Below w.1.size w wr):=HB.out.trans (ab.out.mono HB.out.size);obtain⟨bu,ou,al,hu⟩:=fy af.out bb _ (Cp U);simp only[bU,Addr.mk.injEq]at al;obtain⟨rfl,rfl,_⟩:=al;rw[cb]at hu;have bk:=nA af.out bb;obtain⟨ws,an⟩:∃ws,wr.setCell ⟨g,bb,x?⟩ (.bool t?)=ws:=⟨_,q?⟩;have ai:cc (ws.ownsRow w.1.size 4 1 (.slice (y? ⟨g,0,x?⟩) L.length L.length) L.length (rR L.length (told++[bb]))):=by rw[<-an,<-MZ U];exact sy af.out bb (.bool t?) U
     have ad:cc (ws.ownsRow w.1.size 9 1 (.slice aR told.length cR) told.length (dy (nO L told))):=by rw[<-an];exact sq a7.out ⟨g,bb,x?⟩ (.bool t?) (by obtain h|h:=tk a7.out af.out d!;rw[h];simp;exact h)
     have ae:cc (ws.ownsRow w.1.size 202 5 (.slice au L.length cu) L.length (dv L)):=by rw[<-an];exact dG a9.out λk Y=>Below.heap_setCell _ _ _ _ λe=>fP a9.out af.out d! k Y (by rw[e];rfl)
     have HBS:cc (Below w.1.size w ws):=by rw[<-an];exact ar.out.setCell (af.out.lt g q?).1 _
     obtain⟨bl,off,rfl,e0,_,e2,e3,_⟩:=jc (iu.eL ae.out) bb U;rw[hN]at e3;have HD:cc (∀y,bW prog 154 #[n? i? (N:Int)] y λe w'=>e=e? (s? ⟨(np N).toArray⟩)/\y=w'):=λy=>Ic N y o!;obtain⟨lb,a'⟩:∃lb:ByteArray,lb=⟨(jy L[bb]).toArray⟩:=⟨_,q?⟩;have bm:cc (lb=⟨(jy L[bb]).toArray⟩):=a';rw[<-a']at r1;have bn:cc _:=r1;rw[show Gc (y? bb)=(bb:Int)from rfl];have bf:(bb:Int)<(l? L:Int):=o!;clear W hN a' r1 HU HO HR HP HT ab af a7 a9 ar HE;generalize (⟨L[bb].name.toArray⟩:ByteArray)=nb at *;generalize (⟨L[bb].text.toArray⟩:ByteArray)=tb at *;generalize (⟨(np N).toArray⟩:ByteArray)=db at *;have q1:¬(9223372036854775807<nb.size+1):=o!;have q2:¬(9223372036854775807<nb.size+1+db.size):=o!;have q3:¬(9223372036854775807<nb.size+1+db.size+1):=o!;have q4:¬(9223372036854775807<nb.size+1+db.size+1+tb.size):=o!;go_wp2;clear an hu bk;refine jC (Sd:=λa y=>y.tape=ws.tape->pE _ _ _ [22,23] a y) (last:=22) (tl:=[23]) k! ?_ (λa y h ht=>h ht);refine ew 0 ?_ ?_<|ew 1 ?_ ?_<|ew 2 ?_ ?_<|ew 3 ?_ ?_<|ew 4 ?_ ?_<|ew 5 ?_ ?_<|ew 6 ?_ ?_ ?_
     any_goals(intro y O;have q:=eM O e0;unfold fL;go_simp;refine⟨eJ.refl _,?_⟩;with_reducible rfl)
     refine ew 7 ?_ ?_<|ew 8 ?_ ?_<|ew 9 ?_ ?_<|ew 10 ?_ ?_<|ew 11 ?_ ?_ ?_
     any_goals(intro y O;have q:=eM O e3;unfold fL;go_simp;refine⟨eJ.refl _,?_⟩;with_reducible rfl)
     refine ew 12 ?_ ?_ ?_;rotate_left
     .intro y O;unfold fL;go_simp;refine⟨q?,(HD.out y).mono ?_⟩;rintro e y2 ⟨rfl,rfl⟩;refine⟨_,q?,eJ.refl _,?_⟩;with_reducible rfl
     refine ew 13 ?_ ?_<|ew 14 ?_ ?_<|ew 15 ?_ ?_<|ew 16 ?_ ?_<|ew 17 ?_ ?_<|ew 18 ?_ ?_<|ew 19 ?_ ?_<|ew 20 ?_ ?_ ?_
     any_goals(intro y O;have q:=eM O e2;unfold fL;go_simp;refine⟨eJ.refl _,?_⟩;with_reducible rfl)
     go_simp;refine Iw (i:=21) k! d! (Hc (λg=>.slice (y? ⟨g,0,x?⟩) 1 1) (λg y=>y.cell? ⟨g,0,x?⟩=y? (s? (nb++⟨#[32]⟩++db++⟨#[32]⟩++tb))) q? (kO.wN _) (kO.free _) (λ_=>eu _ _) (λ_ _ _ h=>h) l! ?_ λg'=>?_)
     .intro y O;unfold fL;go_simp;exact⟨eJ.alloc _ _,q?,by rw[World.cell?_alloc_at _ _ _ _ rfl];rfl⟩
     refine qY k! (λt=>Dy k! k! _ _) ?_;rintro y ⟨O,aP⟩ ht;rw[<-bn.out]at aP;have hx:=vh O ht;have ai:cc (y.ownsRow w.1.size 4 1 (.slice (y? ⟨g,0,x?⟩) L.length L.length) L.length (rR L.length (told++[bb]))):=dK ai.out λk Y=>hx.block k (ai.out.lt k Y).2;have ad:cc (y.ownsRow w.1.size 9 1 (.slice aR told.length cR) told.length (dy (nO L told))):=dK ad.out λk Y=>hx.block k (ad.out.lt k Y).2;have ae:cc (y.ownsRow w.1.size 202 5 (.slice (y? ⟨bl,off,x?⟩) L.length cu) L.length (dv L)):=dG ae.out λk Y=>hx.block k (ae.out.lt k Y).2;have HBS:cc (Below w.1.size w y):=HBS.out.trans (hx.mono HBS.out.size);clear O ht hx e0 e2 e3 HD;refine oR q? q? ?_;refine Ad _ _ 31 q? w.1.size 9 i9 (s? ⟨#[]⟩) 16 underlying31 aY aZ ba bc q? _ _ _ q? ad.out _ [s? lb] q? (Rd.one aP) ?c00 ?c1 ?c2 ?c3 ?_
     case c00=>intro u hu;simp at hu;subst hu;rfl
     case c1=>simp;omega
     case c2=>unfold bX;simp;omega
     case c3=>exact HBS.out.size
     intro v8 w8 ao av bo;have aQ:=HBS.out.size;have bp:cc (Below w.1.size w w8):=HBS.out.grown av aQ λk Y=>(ad.out.lt k Y).1;have bq:cc (w8.ownsRow w.1.size 4 1 (.slice (y? ⟨g,0,x?⟩) L.length L.length) L.length (rR L.length (told++[bb]))):=ai.out.kept av (tk ai.out ad.out d!)
     have br:cc (w8.ownsRow w.1.size 202 5 (.slice (y? ⟨bl,off,x?⟩) L.length cu) L.length (dv L)):=dG ae.out λk Y=>by rw[av.block k (ae.out.lt k Y).2 (λe=>fP ae.out ad.out d! k Y e.symm)]
     have aS:cc (w8.ownsRow w.1.size 9 1 v8 (l? told+1) (dy (nO L (told++[bb])))):=by show World.ownsRow _ _ _ _ _ _ _;rw[bj.out,nX,<-bm.out];exact ao
     obtain⟨a8,c8,rfl,_⟩:=dH aS.out;clear ao av bo aQ ad HBS ai ae;refine oR q? q? ?_;unfold fL;go_simp;refine sW ?_;go_wp2;exact⟨⟨told++[bb],j!,bi.out,bq.out,by rw[List.length_append];exact aS.out,br.out,bp.out⟩,by simp[lenOf];omega⟩
  have bN:¬(l? told:Int)<(n:Int):=o!;have HF:cc _:=JX HP.out aH;go_wp2;go_ret2;refine⟨_,q?,?_,HB.out⟩;rw[HF.out];exact HO.out
def Fw{F ts mode dE most}(hR:j6 w F b buf ss ts)(hI:Inv buf ss)(O:qb.size<=bX) :
  bW prog 111 #[p? (y? ⟨b,0,x?⟩),n? i? mode,s? qb,n? i? dE,n? i? most] w λe w'=>∃v,e=e? (.tuple #[v,n? i? (kI (dO ss buf) mode qb.1.1 dE most).2])/\
   w'.ownsRow w.1.size 9 1 v (kI (dO ss buf) mode qb.1.1 dE most).1.length (dy (kI (dO ss buf) mode qb.1.1 dE most).1)/\B? w w':=by
 by_cases hb:mode<0\/3<mode\/dE<0\/255<dE\/most<1\/20<most
 .have e:kI (dO ss buf) mode qb.1.1 dE most=([],3):=by unfold kI;rw[if_pos hb]
  rw[e];have hc:mode<0\/(¬mode<0/\3<mode)\/(¬mode<0/\¬3<mode/\dE<0)\/(¬mode<0/\¬3<mode/\¬dE<0/\255<dE)\/(¬mode<0/\¬3<mode/\¬dE<0/\¬255<dE/\most<1)\/(¬mode<0/\¬3<mode/\¬dE<0/\¬255<dE/\¬most<1/\20<most):=o!;clear hb e;obtain c|⟨c,d⟩|⟨c,d,f⟩|⟨c,d,f,g⟩|⟨c,d,f,g,h⟩|⟨c,d,f,g,h,i⟩:=hc
  all_goals
   go_enter func111,ntmps111;go_wp2;go_ret2;exact⟨_,q?,cd _ _ _ _,Below.refl _ _⟩
 by_cases B:eR qb.1.1=t?;obtain⟨m,rfl⟩:=bR (o!:0<=mode);obtain⟨t,rfl⟩:=bR (o!:0<=dE);obtain⟨n,rfl⟩:=bR (o!:0<=most);have Y:=(Lt B).1;rw[Array.length_toList]at Y;obtain⟨vB,vS,vT,hh,_,U,W,_⟩:=hR
 have e:kI (dO ss buf) m qb.1.1 t n=(nO (dO ss buf) (gS (dO ss buf) (λi=>oM m t qb.1.1 ((dO ss buf).getD i iA)) n []),0):=by unfold kI;rw[if_neg hb,if_pos B];rfl
 rw[e];have h:=zl (F:=F) hh U W hI (m:=m) (t:=t) (n:=n) o! o! o! o! B (bZ Y o!) rfl;unfold nO at h⊢;simp only[List.length_map]at h⊢;exact h;have e:kI (dO ss buf) mode qb.1.1 dE most=([],2):=by unfold kI;rw[if_neg hb,if_neg B]
 rw[e];have h1:¬mode<0/\¬3<mode/\¬dE<0/\¬255<dE/\¬most<1/\¬20<most:=o!;go_enter func111,ntmps111;go_wp2_with fail;refine(kP qb _ O).mono ?_;rintro e w' ⟨rfl,rfl⟩;go_wp2;go_ret2;exact⟨_,q?,cd ..,Below.refl ..⟩
end
section
open Go.ChangeShapes Go.WideShapes Go.ChangeAt Go.RowKit Go.Conc
def Ql{W}(h:laidMetH prog TJ W):nV W:=by have B:=h.tail.tail;exact Lib.tabIs_of_head (k:=.u64) (zs:=Lib.pow10Tab) (g:=2) (t:=295) (e:=141) (n:=20) k! k! underlying295 underlying141 k! k! B
def Qh{W Mp}(h:nV W):nV (mj W Mp):=by
 unfold nV Lib.TabIs World.var? at h⊢;rw[show prog.globalNamed "internal/strconv.uint64pow10" = y? 2 by kernel_rfl]at h⊢;simp only[Option.bind_some]at h⊢
 cases B:W.1[2]? with
 |none=>rw[B]at h;cases h
 |some o=>
  rw[B]at h
  cases o with
  |cells c e f=>simp only[bU]at h;by_cases hm:Mp 2;rw[qn hm B];simp only[bU];rw[h];apply Array.ext';simp only[Array.toList_map,List.map_map];apply List.map_congr_left;intro z _;exact vH trivial;rw[C5 hm B];simp only[bU];exact h
  |_=>cases h
end

