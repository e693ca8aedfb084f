import Derived.Test.YtocbogeoffeolaaGreatDoorComAG
set_option linter.all false
set_option maxHeartbeats 8000000
set_option maxRecDepth 1000000
open ByteArray renaming size_append->bx,data_extract->bz,data_append->bQ
open List renaming take_of_length_le->bR,length_filter_le->bS,length_append->bT,getElem_range->bU,take_length->bV,getElem_mem->bW,length->bX
open Go renaming cell_later->bY,Calls->bZ
open Go.ByteArray renaming toList_eq->ca
open Go.RowKit renaming Hid->cb
open Nat renaming le_refl->cc,lt_or_ge->cd,zero_le->ce
open Bool renaming false->f?,true->t?
open Go renaming Value->v?,World->w?
open Go.Ending renaming returned->e?
open Go.IntKind renaming i64->i?
open Go.Value renaming int->n?,string->s?
open List renaming length->l?,toArray->a?
open Option renaming none->x?,some->y?
namespace Go.Proofs.YtocbogeoffeolaaGreatDoor
open Go.Proofs.Tryz
section
open Go.RowKit
def Pu(l)(hr:∀e∈l,mH e)(aC:l? l<=1048576):∀(f)(p a)(v)(w),f<=2097152->iu w 5 v l.length (dv l)->(∀e∈l,(dC e).length<=f+p.size)->a.size<=p.size->p.size<=1073741824->
  bZ prog 150 #[v,s? p,s? a] w λe w'=>e=e? (s? ⟨(jO (f+1) l p.1.1 a.1.1).toArray⟩)/\B? w w':=by
 intro f;induction f using Nat.strongRecOn with
 |ind f ih=>
 intro p ah v w aD hv aj bE bF;have aE:=aC;obtain⟨a,cap,rfl,hc,hm,_,_⟩:=id hv;have HV:cb (iu w 5 (.slice a l.length cap) l.length (dv l)):=hv;have HT:cb (∀e∈l,mH e):=hr;have HD:cb (∀e∈l,(dC e).length<=f+p.size):=aj
 have HI:cb (∀g,g<f->∀(p a:ByteArray)(v:v?)(w:w?),g<=2097152->iu w 5 v l.length (dv l)->(∀e∈l,(dC e).length<=g+p.size)->a.size<=p.size->p.size<=1073741824->
  bZ prog 150 #[v,s? p,s? a] w λe w'=>e=e? (s? ⟨(jO (g+1) l p.1.1 a.1.1).toArray⟩)/\B? w w'):=ih
 clear hv hr aj ih;unfold maxLen at hm;go_enter func150,ntmps150;go_wp2;go_loopw [7,8,9,11] (λg o c i wr=>∃(k:Nat)(ob:ByteArray),k<=l? l/\i=n? i? k/\g=n? i? (fI (lr (l.take k) p.1.1))/\o=s? ob/\ob.1.1=(fT (l.take k) p.1.1).flatMap kC/\c=n? i? (fT (l.take k) p.1.1).length/\iS w wr (ep l p.1.1 k)/\B? w wr) (λ_ _ _ i _=>l? l-(intOf i).toNat)
 case atStart=>exact⟨0,⟨#[]⟩,ce _,q?,q?,q?,q?,q?,by unfold iS;rw[<-QX];exact heap_alloc_new w _,(Below.refl _ _).alloc (cc _) _⟩
 case round=>
  obtain⟨k,ob,hk,rfl,rfl,rfl,aF,rfl,ab,B⟩:=hrel;have HO:cb (ob.1.1=(fT (l.take k) p.1.1).flatMap kC):=aF;have HN:cb (iS w wr (ep l p.1.1 k)):=ab;clear aF ab;have HS:=B.size;have ar:ob.size<=k*2097160:=P' HT HO
  have ba:(fT (l.take k) p.1.1).length<=k:=by have:=bS (λe=>dC e==p.1.1) (l.take k);unfold fT;simp at this⊢;omega
  by_cases Y:k<l? l
  .obtain⟨b,off,rfl,c0,c1,c2,c3,c4⟩:=jc (HV.below B) k Y;obtain⟨r1,r2,⟨r3,r4⟩,r5,r6⟩:=HT.out l[k] (bW Y)
   have bc:(⟨l[k].text.toArray⟩:ByteArray).size<=1099511627776:=by show l[k].text.toArray.size<=_;simp;omega
   go_wp2_with fail;refine(qi _ _ bc).mono ?_;rintro e w1 ⟨rfl,ac⟩;obtain⟨O,ao⟩:∃O:ByteArray,O=⟨(dC l[k]).toArray⟩:=⟨_,q?⟩;have au:(⟨(eA (⟨l[k].text.toArray⟩:ByteArray).1.1).toArray⟩:ByteArray)=O:=by rw[ao];rfl
   have HK:cb (O.1.1=dC l[k]):=by show _=_;rw[ao]
   have bB:O.size<=1048576:=by rw[ao];show(dC l[k]).toArray.size<=_;unfold dC;rw[List.size_toArray,fO];omega
   rw[au];clear ao au;have az:B? w w1:=B.trans (ac.mono HS);have HN1:cb (iS w w1 (ep l p.1.1 k)):=HN.ext ac;have d0:=bY ac c0;have d2:=bY ac c2;have d3:=bY ac c3;have d4:=bY ac c4;clear c0 c1 c2 c3 c4 HN;go_wp2_with fail;refine(rh O p w1).mono ?_;rintro e w2 ⟨rfl,rfl⟩
   cases ak:iW O.1.1 p.1.1 with
   |false=>
    have hB:iW (dC l[k]) p.1.1=f?:=by rw[<-HK.out];exact ak
    obtain⟨s1,s2,s3⟩:=xU Y hB;have HX:cb (lr (l.take (k+1)) p.1.1=lr (l.take k) p.1.1/\fT (l.take (k+1)) p.1.1=fT (l.take k) p.1.1/\ep l p.1.1 (k+1)=ep l p.1.1 k):=⟨s1,s2,s3⟩;clear ak hB s1 s2 s3;go_wp2;go_roundw
    case rel=>exact⟨k+1,ob,o!,by go_num,by rw[HX.1],q?,by rw[HX.2.1];exact HO,by rw[HX.2.1],by rw[HX.2.2];exact HN1,az⟩
    case measure=>simp[intOf];omega
   |true=>
    have HB:cb (iW (dC l[k]) p.1.1=t?):=by show _=_;rw[<-HK.out];exact ak
    have aG:=me (lr (l.take k) p.1.1)
    have hA:lr (l.take (k+1)) p.1.1=lr (l.take k) p.1.1++[l[k]]:=by by_cases aa:O.1.1=p.1.1;exact(r7 Y (by rw[<-HK.out];exact aa)).1;exact(pL Y HB (by rw[<-HK.out];exact aa)).1
    have HMX:cb (fI (lr (l.take (k+1)) p.1.1)=if fI (lr (l.take k) p.1.1)<l[k].dn then l[k].dn else fI (lr (l.take k) p.1.1)):=by show _=_;rw[hA,N1]
    clear hA;by_cases aa:O.1.1=p.1.1
    .have bd:(O.toList==p.toList)=t?:=by rw[ca,ca,aa];simp
     obtain⟨_,s2,s3⟩:=r7 Y (p:=p.1.1) (by rw[<-HK.out];exact aa);have HX:cb (fT (l.take (k+1)) p.1.1=fT (l.take k) p.1.1++[l[k]]/\ep l p.1.1 (k+1)=ep l p.1.1 k):=⟨s2,s3⟩;clear ak aa s2 s3;obtain⟨W,g1,C1⟩:=wQ l[k].name r1;obtain⟨P2,g2,C2⟩:=wQ l[k].text r2;obtain⟨P3,g3,C3⟩:=CU l[k].dn r3 r4;have a0:cb (∀w:w?,bZ prog 149 #[s? ⟨l[k].name.toArray⟩] w λe w'=>e=e? (s? W)/\eJ w w'):=C1;have a1:cb (∀w:w?,bZ prog 149 #[s? ⟨l[k].text.toArray⟩] w λe w'=>e=e? (s? P2)/\eJ w w'):=C2;have bf:cb (∀w:w?,bZ prog 202 #[n? i? l[k].dn] w λe w'=>e=e? (s? P3)/\eJ w w'):=C3;clear C1 C2 C3;have HG:cb (W.1.1=dI l[k].name/\P2.1.1=dI l[k].text/\P3.1.1=gh l[k].dn):=⟨g1.1,g2.1,g3.1⟩;have p1:=g1.2;have p2:=g2.2;have p3:=g3.2;clear g1 g2 g3;have f2:(ob++W).size=ob.size+W.size:=bx;have f3:(ob++W++P2).size=ob.size+W.size+P2.size:=by rw[bx,bx]
     have f4:(ob++W++P2++P3).size=ob.size+W.size+P2.size+P3.size:=by rw[bx,bx,bx]
     have bg:¬(9223372036854775807<ob.size+W.size):=o!;have bh:¬(9223372036854775807<ob.size+W.size+P2.size):=o!;have bi:¬(9223372036854775807<ob.size+W.size+P2.size+3):=o!;have bj:¬(9223372036854775807<ob.size+W.size+P2.size+3+1):=o!;have bG:(k:Int)<(l? l:Int):=o!;have HB2:cb (B? w w1):=az;have bk:=HD;have bl:=HI;clear HD HI ac B;by_cases hw:fI (lr (l.take k) p.1.1)<l[k].dn
     all_goals
      go_wp2_with fail;refine jm k! ?_;refine dx 0 ?_ ?_<|dx 1 ?_ ?_<|dx 2 ?_ ?_<|dx 3 ?_ ?_<|dx 4 ?_ ?_<|dx 5 ?_ ?_ ?_
      any_goals(intro y U;have q:=bY U d0;unfold fL;go_simp;refine⟨eJ.refl _,?_⟩;with_reducible rfl)
      refine dx 6 ?_ ?_ ?_;rotate_left
      .intro y U;unfold fL;go_simp;refine⟨q?,(a0 y).mono ?_⟩;rintro e y2 ⟨rfl,h2⟩;refine⟨_,q?,h2,?_⟩;with_reducible rfl
      refine dx 7 ?_ ?_<|dx 8 ?_ ?_<|dx 9 ?_ ?_<|dx 10 ?_ ?_<|dx 11 ?_ ?_<|dx 12 ?_ ?_ ?_
      any_goals(intro y U;have q:=bY U d2;unfold fL;go_simp;refine⟨eJ.refl _,?_⟩;with_reducible rfl)
      refine dx 13 ?_ ?_ ?_;rotate_left
      .intro y U;unfold fL;go_simp;refine⟨q?,(a1 y).mono ?_⟩;rintro e y2 ⟨rfl,h2⟩;refine⟨_,q?,h2,?_⟩;with_reducible rfl
      refine dx 14 ?_ ?_<|dx 15 ?_ ?_<|dx 16 ?_ ?_<|dx 17 ?_ ?_<|dx 18 ?_ ?_<|dx 19 ?_ ?_ ?_
      any_goals(intro y U;have q:=bY U d3;unfold fL;go_simp;refine⟨eJ.refl _,?_⟩;with_reducible rfl)
      refine dx 20 ?_ ?_ ?_;rotate_left
      .intro y U;unfold fL;go_simp;refine⟨q?,(bf y).mono ?_⟩;rintro e y2 ⟨rfl,h2⟩;refine⟨_,q?,h2,?_⟩;with_reducible rfl
      refine dx 21 ?_ ?_<|dx 22 ?_ ?_<|dx 23 ?_ ?_<|dx 24 ?_ ?_<|dx 25 ?_ ?_<|dx 26 ?_ ?_<|dx 27 ?_ ?_ ?_
      any_goals(intro y U;have q:=bY U d4;unfold fL;go_simp;refine⟨eJ.refl _,?_⟩;with_reducible rfl)
      refine I6 (i:=28) (n? .u8 (IntKind.u8.wrap l[k].dE)) λg=>?_;refine jh 29 ?_ ?_<|jh 30 ?_ ?_<|jh 31 ?_ ?_ ?_
      any_goals(intro y U;have q:=qH U.2;unfold fL;go_simp;refine⟨eJ.refl _,?_⟩;with_reducible rfl)
      refine pS k! ?_ _;intro y U;have a2:cb (B? w y):=HB2.trans (Below.mono U.1 HB2.size);have bm:cb (iS w y (ep l p.1.1 k)):=HN1.ext U.1;clear U;have HD:=bk;have HI:=bl;go_wp2;go_roundw
      case rel=>refine⟨k+1,_,o!,by go_num,by rw[HMX.out];first|rw[if_pos hw]|rw[if_neg (Int.not_lt.2 hw)],q?,?_,?_,by rw[HX.2];exact bm,a2⟩;rw[HX.1];exact OQ HO HG;rw[HX.1,bT];go_num
      case measure=>simp[intOf];omega
    have bd:(O.toList==p.toList)=f?:=by rw[ca,ca,beq_eq_false_iff_ne];exact aa
    clear ak
    have aH:p.size<O.size:=by have h1:=nJ ((fh _ _).1 HB) (by rw[<-HK.out];exact aa);rw[<-HK.out]at h1;have e1:l? p.1.1=p.size:=i!;have e2:l? O.1.1=O.size:=i!;omega
    have aI:cb (dC l[k]≠p.1.1):=by show _≠_;rw[<-HK.out];exact aa
    clear aa;have HB2:cb (B? w w1):=az;have bn:cb (∀y,B? w y->iu y 5 (.slice (y? ⟨b,off,x?⟩) l.length cap) l.length (dv l)):=λy U=>HV.below U;clear ac B d0 d2 d4 HS ar;by_cases hw:fI (lr (l.take k) p.1.1)<l[k].dn
    all_goals
     go_wp2;go_loopw [14] (λnv wr=>∃n:Nat,nv=n? i? n/\p.size+1<=n/\n<=O.size/\(∀i,p.size+1<=i->i<n->gM l (O.1.1.take i)=f?)/\iS w wr (ep l p.1.1 k)/\B? w wr) (λn _=>O.size-(intOf n).toNat)
     case atStart=>exact⟨p.size+1,by go_num,o!,o!,λi hi Ey=>o!,HN1,HB2⟩
     case round=>
      obtain⟨n,rfl,bH,hn,aJ,ab,B⟩:=hrel;have HJ:cb (∀i,p.size+1<=i->i<n->gM l (O.1.1.take i)=f?):=aJ;have aK:cb (iS w wr (ep l p.1.1 k)):=ab;have hz:=B.size;have a3:=IE (.slice (y? ⟨b,off,x?⟩) l.length cap) l (O.extract 0 n) wr (bn wr B) (λe he=>by have:=(HT e he).2.1;omega);rw[wk]at a3;have aL:cb (B? w wr):=B;have aM:cb (bZ prog 203 #[.slice (y? ⟨b,off,x?⟩) l.length cap,s? (O.extract 0 n)] wr λe w'=>e=e? (.bool (gM l (O.1.1.take n)))/\B? wr w'):=by show bZ _ _ _ _ _;rw[wk];exact a3
      clear aJ ab B a3;have bI:(n:Int)<=(O.size:Int):=o!;go_wp2_with fail;refine aM.mono ?_;rintro e w4 ⟨rfl,a4⟩;have a5:cb (B? w w4):=aL.trans (a4.mono hz);have al:cb (iS w w4 (ep l p.1.1 k)):=aK.ext a4;clear a4 aM aL aK hz
      cases af:gM l (O.1.1.take n)with
      |false=>
       have bC:n<O.size:=by
        obtain h|h:=cd n O.size
        exact h;exfalso;rw[bR j!,HK.out,Fl Y rfl]at af;cases af
       have bo:cb (gM l (O.1.1.take n)=f?):=af;clear af;go_wp2;go_roundw
       case rel=>exact⟨n+1,by go_num,o!,o!,λi hi Ey=>by
        obtain h|h:=cd i n
        exact HJ i hi h;have:i=n:=o!
        subst this;exact bo,al,a5⟩
       case measure=>simp[intOf];omega
      |true=>
       have bp:cb (ep l p.1.1 (k+1)=(ep l p.1.1 k).set ((dC l[k]).getD p.1.1.length 0).toNat (O.1.1.take n)):=by show _=_;rw[(pL Y HB.out aI.out).2.2,<-HK.out];congr 2;unfold xI;have bq:l? p.1.1=p.size:=i!;rw[bq,ng _ _ (n-(p.size+1)) j! (λi hi=>?_) (λhi=>?_)];omega;simp only[bU,Bool.not_eq_true'];exact HJ _ o! o!;simp only[bU,Bool.not_eq_false'];rw[(o!:p.size+1+(n-(p.size+1))=n)];exact af
       have aN:cb (fT (l.take (k+1)) p.1.1=fT (l.take k) p.1.1):=(pL Y HB aI).2.1;clear af;have bJ:(p.size:Int)<(O.size:Int):=o!;have a6:O[p.size].toNat<256:=UInt8.toNat_lt _;have aZ:(O[p.size].toNat:Int)<256:=o!;obtain⟨ov,br⟩:∃ov:ByteArray,w4.cell? ⟨w.1.size,O[p.size].toNat,x?⟩=y? (s? ov):=⟨_,KC al _ (by rw[tD];exact a6)⟩;have bs:w4.frozen? ⟨w.1.size,O[p.size].toNat,x?⟩=f?:=dP al _;go_wp2;refine wp_region_held (S:=λw'=>True) k! ?_;refine fV 0 ?_ trivial ?_<|fV 1 ?_ trivial ?_<|fV 2 ?_ trivial ?_<|fV 3 ?_ trivial ?_<|fV 4 ?_ trivial ?_<|fV 5 ?_ trivial ?_<|fV 6 ?_ trivial ?_<|fV 7 ?_ trivial ?_ ?_
       any_goals(rintro w' _;go_simp;first|done|with_reducible rfl)
       refine kL 8 λK' aO=>?_;unfold Oper.wp;go_simp;refine aO _ _ ⟨t!,wpAnyH_done k! ?_ _⟩;clear aO;have bt:cb (B? w (w4.setCell ⟨w.1.size,O[p.size].toNat,x?⟩ (s? (O.extract 0 n)))):=by exact Below.setCell a5 (cc _) _
       have bu:cb (iS w (w4.setCell ⟨w.1.size,O[p.size].toNat,x?⟩ (s? (O.extract 0 n))) (ep l p.1.1 (k+1))):=by
        show iS _ _ _;have h5:=al.set O[p.size].toNat (O.extract 0 n);rw[bp.out,<-HK.out];have e1:(O.extract 0 n).1.1=O.1.1.take n:=by rw[wk]
        have e2:O.1.1.getD p.1.1.length 0=O[p.size]:=by rw[List.getD_eq_getElem?_getD,(i!:l? p.1.1=p.size)];simp[aH];rfl
        rw[e1]at h5;rw[e2];exact h5
       clear al a5 br bs;go_wp2;go_roundw
       case rel=>exact⟨k+1,ob,o!,by go_num,by rw[HMX.out];first|rw[if_pos hw]|rw[if_neg (Int.not_lt.2 hw)],q?,by rw[aN.out];exact HO,by rw[aN.out],bu,bt.drew⟩
       case measure=>simp[intOf];omega
  have bw:k=l? l:=o!;subst bw;rw[bV]at HO;clear Y hk ar ba;rw[bV];have av:=J9 HT aE aD p.1.1 ah.1.1 j!;have aw:=λ(c:Nat)=>IB l p.1.1 c (λq=>jO f l q p.1.1);have aP:cb (∀c:Nat,((jM l p.1.1 c).flatMap λq=>jO f l q p.1.1).length<=((mG l p.1.1).flatMap λq=>jO f l q p.1.1).length):=aw;have a7:cb ((dI (p.1.1.drop ah.1.1.length)).length+3+1+((fT l p.1.1).flatMap kC).length+1+((mG l p.1.1).flatMap λq=>jO f l q p.1.1).length<=7000000000000000000):=av;have HB0:cb (B? w wr):=B;clear av aw B HS;go_wp2;go_loopw [16,17,18] (λbv mv cv wx=>∃(c:Nat)(be:ByteArray),c<=256/\cv=n? i? c/\bv=s? be/\be.1.1=((jM l p.1.1 c).flatMap λq=>jO f l q p.1.1)/\mv=n? i? (jM l p.1.1 c).length/\iS w wx (ep l p.1.1 l.length)/\B? w wx) (λ_ _ c _=>256-(intOf c).toNat)
  case atStart=>exact⟨0,⟨#[]⟩,ce _,q?,q?,q?,q?,HN,HB0⟩
  case round=>
   obtain⟨c,be,b0,rfl,rfl,a8,rfl,ab,B⟩:=hrel;have am:cb (be.1.1=((jM l p.1.1 c).flatMap λq=>jO f l q p.1.1)):=a8;have ap:cb (iS w wr (ep l p.1.1 l.length)):=ab;have ag:cb (B? w wr):=B
   have bD:be.size<=7000000000000000000:=by have h1:=aP.out c;have h2:=a7.out;have h3:=congrArg bX a8;have h4:l? be.1.1=be.size:=i!;omega
   have bK:(jM l p.1.1 c).length<=256:=by unfold jM;have:=bS (λq:Wd=>!q.isEmpty) ((ep l p.1.1 l.length).take c);simp at this;have h2:=tD l p.1.1 l.length;omega
   clear a8 ab B;by_cases Y:c<256
   .have bL:(c:Int)<256:=o!;have aq:c<(ep l p.1.1 l.length).length:=by rw[tD];exact Y
    obtain⟨q,hq⟩:∃q,q=(ep l p.1.1 l.length)[c]:=⟨_,q?⟩;have ax:wr.cell? ⟨w.1.size,c,x?⟩=y? (s? ⟨a? q⟩):=by rw[hq];exact KC ap c aq
    have aQ:cb (jM l p.1.1 (c+1)=jM l p.1.1 c++(if q.isEmpty=t? then []else [q])):=by show _=_;rw[hq];exact FT l p.1.1 c aq
    have b1:cb (q≠[]->∃e∈l,q <+: dC e/\l? p.1.1<l? q):=λb2=>Uk l p.1.1 l.length (cc _) q (by rw[hq];exact bW aq) b2;clear hq aq;by_cases ai:q=[]
    .have HK2:cb (jM l p.1.1 (c+1)=jM l p.1.1 c):=by show _=_;rw[aQ.out,ai];simp
     subst ai;go_wp2;go_roundw
     case rel=>exact⟨c+1,be,o!,by go_num,q?,by rw[HK2.out];exact am,by rw[HK2.out],ap,ag⟩
     case measure=>simp[intOf];omega
    obtain⟨e0,aR,an,a9⟩:=b1.out ai;have b3:=HD.out e0 aR;have hk0:=an.length_le
    have aS:l? q<=1048576:=by have:=(HT e0 aR).2.1;unfold dC at hk0;rw[fO]at hk0;omega
    have b4:l? p.1.1=p.size:=i!;have b5:(⟨a? q⟩:ByteArray).size=l? q:=rfl;have bM:0<f:=o!;have ad:=HI.out (f-1) o! ⟨a? q⟩ p (.slice a l.length cap) wr o! (HV.below ag) (λe he=>by have:=HD.out e he;omega) o! o!;rw[(o!:f-1+1=f)]at ad;obtain⟨P,a'⟩:∃P:ByteArray,P=⟨(jO f l q p.1.1).toArray⟩:=⟨_,q?⟩;have ae:bZ prog 150 #[.slice a l.length cap,s? ⟨a? q⟩,s? p] wr λe w'=>e=e? (s? P)/\B? wr w':=by rw[a'];exact ad
    have aA:cb (bZ prog 150 #[.slice a l.length cap,s? ⟨a? q⟩,s? p] wr λe w'=>e=e? (s? P)/\B? wr w'):=ae
    have HK2:cb (jM l p.1.1 (c+1)=jM l p.1.1 c++[q]):=by show _=_;rw[aQ.out,if_neg (u! ai)]
    have HB6:cb ((be++P).1.1=((jM l p.1.1 (c+1)).flatMap λq=>jO f l q p.1.1)):=by show _=_;rw[HK2.out,List.flatMap_append,bQ,Array.toList_append,am.out,a'];simp
    have bN:¬(9223372036854775807<be.size+P.size):=by have h1:=aP.out (c+1);have h2:=a7.out;have h3:=congrArg bX HB6;have h4:(be++P).1.1.length=be.size+P.size:=i!;omega
    have aT:(⟨a? q⟩:ByteArray).toList.isEmpty=f?:=by
     rw[ca]
     cases q with
     |nil=>exact absurd q? ai|cons x q=>rfl
    clear ad ae a' b5 b4 b3 hk0 an a9 aS;have hz:=ag.size;generalize (⟨a? q⟩:ByteArray)=qb at ax aA aT;clear ai;go_wp2_with fail;refine aA.mono ?_;rintro e w5 ⟨rfl,aB⟩;have b6:cb (B? w w5):=ag.trans (aB.mono hz);have b7:cb (iS w w5 (ep l p.1.1 l.length)):=ap.ext aB;clear aB aA ax;go_wp2;go_roundw
    case rel=>exact⟨c+1,be++P,o!,by go_num,q?,HB6,by rw[HK2.out,bT];go_num,b7,b6⟩
    case measure=>simp[intOf];omega
   have b8:c=256:=o!;subst b8;rw[I5]at am⊢;have aU:l? p.1.1=p.size:=i!;have ay:l? ah.1.1=ah.size:=i!;have aV:=Nv (lr l p.1.1) (λe he=>(HT e (oh.1 he).1).2.2.1.2);have aG:=me (lr l p.1.1);obtain⟨P2,g2,C2⟩:=CU (fI (lr l p.1.1)) o! aV
   obtain⟨W,g1,C1⟩:∃W:ByteArray,W.1.1=dI (p.1.1.drop ah.1.1.length)/\∀w:w?,bZ prog 149 #[s? (p.extract ah.size p.size)] w λe w'=>e=e? (s? W)/\eJ w w':=by
    refine⟨⟨(dI (p.1.1.drop ah.1.1.length)).toArray⟩,q?,λw=>?_⟩;have h:=Cy (p.extract ah.size p.size) w j!
    have e1:(p.extract ah.size p.size).1.1=p.1.1.drop ah.1.1.length:=by rw[ay,bz];simp;rw[bR i!]
    rw[e1]at h;exact h
   have a0:cb (∀w:w?,bZ prog 149 #[s? (p.extract ah.size p.size)] w λe w'=>e=e? (s? W)/\eJ w w'):=C1;have a1:cb (∀w:w?,bZ prog 202 #[n? i? (fI (lr l p.1.1))] w λe w'=>e=e? (s? P2)/\eJ w w'):=C2;have b9:cb (W++P2++⟨#[u8 (fT l p.1.1).length]⟩++ob++⟨#[u8 (mG l p.1.1).length]⟩++be=⟨(jO (f+1) l p.1.1 ah.1.1).toArray⟩):=SD g1 g2.1 HO am;have p2:=g2.2;have b':W.size=(dI (p.1.1.drop ah.1.1.length)).length:=by rw[<-g1];simp
   have aW:ob.size=((fT l p.1.1).flatMap kC).length:=by rw[<-HO.out];simp
   have aX:be.size=((mG l p.1.1).flatMap λq=>jO f l q p.1.1).length:=by rw[<-am.out];simp
   have bA:=a7.out;have f2:(W++P2).size=W.size+P2.size:=bx;have f3:(W++P2++⟨#[u8 (fT l p.1.1).length]⟩).size=W.size+P2.size+1:=by rw[bx,bx];rfl
   have f4:(W++P2++⟨#[u8 (fT l p.1.1).length]⟩++ob).size=W.size+P2.size+1+ob.size:=by rw[bx,f3]
   have f5:(W++P2++⟨#[u8 (fT l p.1.1).length]⟩++ob++⟨#[u8 (mG l p.1.1).length]⟩).size=W.size+P2.size+1+ob.size+1:=by rw[bx,f4];rfl
   have bg:¬(9223372036854775807<W.size+3):=o!;have bh:¬(9223372036854775807<W.size+3+1):=o!;have bi:¬(9223372036854775807<W.size+3+1+ob.size):=o!;have bj:¬(9223372036854775807<W.size+3+1+ob.size+1):=o!;have bO:¬(9223372036854775807<W.size+3+1+ob.size+1+be.size):=o!;have bP:(ah.size:Int)<=(p.size:Int):=o!;have aY:cb (B? w wr):=ag.out;clear b' aW aX bA C1 C2 g1 g2 aV aG aU ay ag ap Y;clear HI HD;go_wp2;refine jm k! ?_;refine dx 0 ?_ ?_<|dx 1 ?_ ?_<|dx 2 ?_ ?_<|dx 3 ?_ ?_ ?_
   any_goals(intro y U;unfold fL;go_simp;refine⟨eJ.refl _,?_⟩;with_reducible rfl)
   refine dx 4 ?_ ?_ ?_;rotate_left
   .intro y U;unfold fL;go_simp;refine⟨q?,(a0 y).mono ?_⟩;rintro e y2 ⟨rfl,h2⟩;refine⟨_,q?,h2,?_⟩;with_reducible rfl
   refine dx 5 ?_ ?_ ?_;rotate_left
   .intro y U;unfold fL;go_simp;refine⟨eJ.refl _,?_⟩;with_reducible rfl
   refine dx 6 ?_ ?_ ?_;rotate_left
   .intro y U;unfold fL;go_simp;refine⟨q?,(a1 y).mono ?_⟩;rintro e y2 ⟨rfl,h2⟩;refine⟨_,q?,h2,?_⟩;with_reducible rfl
   refine dx 7 ?_ ?_<|dx 8 ?_ ?_<|dx 9 ?_ ?_<|dx 13 ?_ ?_<|dx 15 ?_ ?_<|dx 16 ?_ ?_<|dx 20 ?_ ?_ ?_
   any_goals(intro y U;unfold fL;go_simp;refine⟨eJ.refl _,?_⟩;with_reducible rfl)
   refine Db (rs:=[10,17]) k! i! ?_;intro i hi;simp only[List.mem_cons,List.mem_nil_iff,or_false]at hi;obtain rfl|rfl:=hi
   case' inl=>
    refine Df (n? .u8 (IntKind.u8.wrap ((fT l p.1.1).length:Int))) λg=>jh 11 ?_ ?_<|jh 12 ?_ ?_<|jh 14 ?_ ?_ ?_
    any_goals(intro y U;have q:=qH U.2;unfold fL;go_simp;refine⟨eJ.refl _,?_⟩;with_reducible rfl)
    refine I6 (i:=17) (n? .u8 (IntKind.u8.wrap ((mG l p.1.1).length:Int))) λg=>jh 18 ?_ ?_ ?_
   case' inr=>
    refine Df (n? .u8 (IntKind.u8.wrap ((mG l p.1.1).length:Int))) λg=>jh 18 ?_ ?_ ?_
    any_goals(intro y U;have q:=qH U.2;unfold fL;go_simp;refine⟨eJ.refl _,?_⟩;with_reducible rfl)
    refine I6 (i:=10) (n? .u8 (IntKind.u8.wrap ((fT l p.1.1).length:Int))) λg=>jh 11 ?_ ?_<|jh 12 ?_ ?_<|jh 14 ?_ ?_ ?_
   any_goals(intro y U;have q:=qH U.2;unfold fL;go_simp;refine⟨eJ.refl _,?_⟩;with_reducible rfl)
   all_goals
    refine jh 19 ?_ ?_<|jh 21 ?_ ?_<|jh 22 ?_ ?_ ?_
    any_goals(intro y U;unfold fL;go_simp;refine⟨eJ.refl _,?_⟩;with_reducible rfl)
    refine pS k! ?_ _;intro y U;have a2:cb (eJ wr y):=U.1.1;clear U;go_simp;go_wp2;go_ret;refine⟨wB ?_,aY.trans (Below.mono a2 aY.size)⟩;exact b9.out
end
