import Derived.Test.YtocbogeoffeolaaGreatDoorFolBA
set_option linter.unusedVariables false
set_option linter.unusedSimpArgs false
set_option maxHeartbeats 8000000
set_option maxRecDepth 1000000
open List renaming drop_eq_getElem_cons->bbq,length_take->cc,getElem_mem->ch
open Nat renaming le_refl->cp,zero_le->cs
open Go.RowKit renaming Hid->cx
open Go renaming undef->c0
namespace Go.Proofs.YtocbogeoffeolaaGreatDoor
open Go.Proofs.Tryz
section
open Go.Conc Go.RowKit Go.Maps
theorem P3(A ws:List Wd)(k:Nat):iY A ws (k+1)=iY A ws k+(if kJ A ws k=true then 1 else 0):=by
 unfold iY;rw[List.range_succ,List.filter_append,List.length_append,List.filter_cons];split<;>simp
theorem Qc(A:List Wd)(u v x:Wd)(k:Nat)(h:k+2<A.length):kJ A [u,v,x] k=true↔A[k]=u/\A[k+1]=v/\A[k+2]=x:=by
 unfold kJ rO;rw[decide_eq_true_eq]
 have e:(A.drop k).take 3=[A[k],A[k+1],A[k+2]]:=by
  rw[bbq (by omega),bbq (by omega),bbq (by omega)];rfl
 show(A.drop k).take 3=[u,v,x]↔_;rw[e];simp
theorem Rm{F G:Prop}{y:List (List Wd)}{S M:List Wd}{u v:Wd}{D j:Nat}{X Y:Prop}(h:X/\Y/\M3 y 15/\S.Perm (iA y)/\M=S.take (min 2 S.length)/\u≠[]/\v≠[]/\F/\G/\D=(jD y).length)(O:j<S.length):iO y [u,v,S[j]]<=1000:=by
 obtain⟨_,_,B,U,_,W,h4,_⟩:=h;have hx:S[j]≠[]:=AJ B (U.mem_iff.1 (ch O));rw[<-Fb [u,v,S[j]] rfl (by simp; exact⟨λe=>W e,λe=>h4 e,λe=>hx e⟩)];have e1:=Ae (jD y) [u,v,S[j]];have e2:=DH B;have e3:=B.len;omega
section
variable {Z:ob prog} {W0:World} {Mp:Nat->Prop}
theorem R2{F:World->Prop}(aS:∀w y,F w->rz w y->F y)(hn:∀(w:World)(aT:Array Value),F w->aT[6]?=some (.bool true)->gP (mC Z W0 Mp) [⟨10,aT,[.code .ret]⟩] w []):I1 Z W0 Mp F:=by
 intro w D u v S M ag al am cg cl cm a0 a1 a2 a3 a4 a5 a6 a7 a8 eW eX eY eZ fa fc fd fe fg fh fi fj fk fl fm fo fp fq fs ft fu fv fw fx fy f' fA fC fD fE fF fG fH fI fJ fK fL fM fN fO fP fQ fR fS fT fU fV fW fX fY fZ ga gc gd ge gf gg gh gi gj gm gn gp gq gr gs gt gu gv gw gx gy gz g0 g1 g2 g3 g4 g5 g6 g7 g8 g9 g' gA gB b9 b' bA bB bC bD bE bF bG bH bI bJ bK bL bM bN bO bP bQ bR bS bT bU bV bW bX bY bZ ca cb cd ce cf ci cj ck cq cr cu cv cw cy cz c6 c7 c8 c9 c' cA cB cC cD cE cF cG cH cI cJ cK cL cM cN cO cP cQ cR cS cT cU cV cW cX cY cZ da db dc de df dg dh di dj dk dl dn dp dq dr dt du dv dw dx dy dz d' dA dB dC dD dE dF dG dH dI dJ dK dL dM dN dO dP dQ dR dS dT dU dV dW dX dY dZ ed ee ef eg eh ei ej ek en eo ep er es et eu ev ew ey ez e1 e2 e3 e4 e5 e6 e7 e8 e9 e' eA eB eC eD eE eF eG eH eI eJ eK eL eM eN eO eP eQ hA hL hM ap hS ak hu hv aq hF;obtain⟨nA,ac⟩:∃nA,nA=(jD D).length:=⟨_,rfl⟩
 have bg:nA<=75:=by
  have h1:=DH ap;have h2:=ap.len;omega
 have bh:S.length<=5:=by rw[hS.length_eq]; exact rB ap
 have bj:M.length<=2:=by rw[ak,cc]; omega
 have mL:=hL.cap;have aU:=hM.cap;have aA:=hA.cap;have HX:cx _:=And.intro aS (And.intro hn (And.intro ap (And.intro hS (And.intro ak (And.intro hu (And.intro hv (And.intro aq (And.intro hF ac))))))));have HR:cx (∀y,rz w y->pA y 1 (.slice ag (jD D).length cg) (jD D).length (gQ (jD D))/\pA y 1 (.slice al S.length cl) S.length (gQ S)/\pA y 1 (.slice am M.length cm) M.length (gQ M)):=λy Y=>⟨hA.low Y,hL.low Y,hM.low Y⟩;rw[<-ac]at aA⊢;clear aS hn ap hS ak hu hv aq hF hA hL hM ac;obtain⟨nS,aH⟩:∃nS,nS=S.length:=⟨_,rfl⟩;obtain⟨nM,aI⟩:∃nM,nM=M.length:=⟨_,rfl⟩;have ad:cx (nS=S.length/\nM=M.length):=⟨aH,aI⟩;rw[<-aH]at bh mL⊢;rw[<-aI]at bj aU⊢;clear aH aI;have eR:nS<=cl:=mL.1;have eS:cl<=9223372036854775807:=mL.2;have eT:nA<=cg:=aA.1;have eU:cg<=9223372036854775807:=aA.2;clear mL aU aA;show gP _ [⟨_,_,[.code (.seq (.seq (.region 28 _ false) (.block 4 _)) (.seq (.seq (.region 35 _ false) (.block 6 _)) (.seq (.region 41 _ false) (.seq (.seq (.region 42 _ false) (.block 8 _)) (.seq (.seq (.region 55 _ false) (.block 12 _)) (.seq (.region 60 _ false) .ret))))))]⟩] _ _;refine gP.seq ?_;refine gZ λkk O=>?_;have HK:cx _:=O;clear O;refine kA (by kernel_rfl) (by rw[HK.out]; rfl) λy Y U=>?_;have HL:cx (rz w y):=kz Y U;clear Y U;go_wp2;go_loopw [21] (λi wr=>∃n:Nat,n<=nS/\i=.int .i64 n/\rz w wr) (λi _=>nS-(intOf i).toNat)
 case atStart=>exact⟨0,cs _,rfl,HL.out⟩
 case round=>
  obtain⟨n,bk,rfl,W⟩:=hrel;have ar:cx (rz _ _):=W;clear W;by_cases au:n<nS
  .have HLT:cx (n+1<=nS):=au;have ae:(n:Int)<(nS:Int):=by omega
   have B:n<S.length:=by have:=ad.out.1; omega
   obtain⟨b1,o1,rfl,c1⟩:=(HR.out wr ar.out).2.1.str n B;obtain⟨x,hx⟩:∃x,x=S[n]:=⟨_,rfl⟩;have an:x∈iA D:=by rw[hx]; exact HX.out.2.2.2.1.mem_iff.1 (ch B)
   have av:x≠[]:=AJ HX.out.2.2.1 an
   have C1:Calls prog 20 #[.slice (some ⟨b1,o1+n,none⟩) 1 (cl-n),.slice ag nA cg] wr λe w'=>e=.returned (.bool true)/\Below wr.heap.size wr w':=by
    have h:=u9 _ _ [S[n]] (jD D) wr ((HR.out wr ar.out).2.1.one n B) (HR.out wr ar.out).1 (by simp) (by have:=HX.out.2.2.2.2.2.2.2.2.2; omega);rw[uz,(En _ _).2 (by rw[<-hx]; exact(JH av).2 an)]at h;rw[HX.out.2.2.2.2.2.2.2.2.2];exact h
   have bl:cx (∀y,rz w y->Calls prog 20 #[.slice (some ⟨b1,o1+n,none⟩) 1 (cl-n),.slice (some ⟨b1,o1,none⟩) n cl] y λe w'=>e=.returned (.bool false)/\kC y w'):=λy Y=>by
    have h:=u9 _ _ [S[n]] (S.take n) y ((HR.out y Y).2.1.one n B) ((HR.out y Y).2.1.ahead n (by omega)) (by simp) (by rw[cc]; omega);rw[uz,KJ (HX.out.2.2.2.1.nodup_iff.2 (jN D).nodup) n B]at h;exact h
   rw[<-hx]at c1;have aC:¬cl=n:=by omega
   have aV:cx (x∈iA D/\x≠[]):=⟨an,av⟩;clear hx an B av;go_wp2_with fail;refine C1.mono ?_;clear C1;rintro e w1 ⟨rfl,aJ⟩;have aW:cx (rz w w1):=ar.out.trans (.of aJ);have d1:=cell_later aJ c1;clear aJ c1;go_wp2_with fail;have bm:IntKind.i64.wrap ((n:Int)+1)=(n:Int)+1:=by simp only[IntKind.wrap_i64]; omega
   have bn:0<=(n:Int)+1/\(n:Int)+1<=(cl:Int):=by omega
   have bo:((n:Int)+1).toNat=n+1:=by omega
   have bp:n+1-n=1:=by omega
   have bq:0<=(n:Int)/\(n:Int)<=(cl:Int):=by omega
   refine n8 (by kernel_rfl) ?_;refine ic 0 ?_ ?_<|ic 1 ?_ ?_<|ic 2 ?_ ?_<|ic 3 ?_ ?_<|ic 4 ?_ ?_<|ic 5 ?_ ?_<|ic 6 ?_ ?_<|ic 7 ?_ ?_ ?_
   any_goals(intro y Y; unfold jh; go_simp; refine⟨kC.refl _,?_⟩; with_reducible rfl)
   go_simp;refine ic 8 ?_ ?_ ?_;rotate_left
   .intro y Y; unfold jh; go_simp; refine⟨rfl,(bl.out y (aW.out.trans (.of Y))).mono ?_⟩; rintro e y2 ⟨rfl,h2⟩; refine⟨_,rfl,h2,?_⟩; with_reducible rfl
   go_simp;refine ic 9 ?_ ?_ ?_;rotate_left
   .intro y Y; unfold jh; go_simp; refine⟨kC.refl _,?_⟩; with_reducible rfl
   refine tD (by kernel_rfl) ?_ _;intro y2 aK;have HL2:cx (rz w y2):=aW.out.trans (.of aK);have d2:=cell_later aK d1;clear aK d1
   have br:¬((⟨x.toArray⟩:ByteArray)=⟨#[]⟩):=by
    intro e;apply aV.out.2;have:=congrArg (λz:ByteArray=>z.data.toList) e;simpa using this
   have ah:¬x=[]:=aV.out.2;have bs:(x==[])=false:=by rw[beq_eq_false_iff_ne]; exact ah
   go_simp;go_wp2;clear bn bo bp bq bm d2 br aC ah bs;go_roundw
   case rel=>exact⟨n+1,HLT.out,by go_num,HL2.out⟩
   case measure=>have:=HLT.out; simp[intOf]; omega
  .have ae:¬((n:Int)<(nS:Int)):=by omega
   go_wp2;refine im ?_;rw[HK.out];refine gP.seq ?_;clear HL ae au bk;generalize wr=wo at *;refine gZ λgC O=>?_;have aX:cx _:=O;clear O;refine kA (by kernel_rfl) (by rw[aX.out]; rfl) λy3 Y U=>?_;have HL3:cx (rz w y3):=ar.out.trans (kz Y U);clear Y U;go_wp2;go_loopw [24] (λi wx=>∃q:Nat,q<=nA/\i=.int .i64 q/\rz w wx) (λi _=>nA-(intOf i).toNat)
   case atStart=>exact⟨0,cs _,rfl,HL3.out⟩
   case round=>
    obtain⟨q,hq,rfl,W⟩:=hrel;have aw:cx (rz _ _):=W;clear W;by_cases au:q<nA
    .have HLT:cx (q+1<=nA):=au;have ae:(q:Int)<(nA:Int):=by omega
     have ac:=HX.out.2.2.2.2.2.2.2.2.2;have aa:q<(jD D).length:=by omega
     obtain⟨b2,o2,rfl,c2⟩:=(HR.out wr aw.out).1.str q aa;obtain⟨x,hx⟩:∃x,x=(jD D)[q]:=⟨_,rfl⟩;obtain⟨bi,aL⟩:∃bi,bi=GF S x:=⟨_,rfl⟩
     have bt:cx (bi=false->x=[]):=λhf=>by
      by_cases ah:x=[]
      .exact ah
      .have hk:x∈iA D:=(JH ah).1 (by rw[hx]; exact ch aa);have:=(En S x).2 (HX.out.2.2.2.1.mem_iff.2 hk);rw[aL,this]at hf;cases hf
     have C1:Calls prog 20 #[.slice (some ⟨b2,o2+q,none⟩) 1 (cg-q),.slice al nS cl] wr λe w'=>e=.returned (.bool bi)/\Below wr.heap.size wr w':=by
      have h:=u9 _ _ [(jD D)[q]] S wr ((HR.out wr aw.out).1.one q aa) (HR.out wr aw.out).2.1 (by simp) (by have:=ad.out.1; omega);rw[uz,<-hx,<-aL]at h;rw[ad.out.1];exact h
     rw[<-hx]at c2;have aC:¬cg=q:=by omega
     clear hx aL aa ac;go_wp2_with fail;refine C1.mono ?_;clear C1;rintro e w5 ⟨rfl,aM⟩;have HL5:cx (rz w w5):=aw.out.trans (.of aM);have d2:=cell_later aM c2;clear aM c2
     cases bi with
     |true=>
      go_wp2;go_roundw
      case rel=>exact⟨q+1,HLT.out,by go_num,HL5.out⟩
      case measure=>have:=HLT.out; simp[intOf]; omega
     |false=>
      have ah:=bt.out rfl;subst ah;go_wp2;go_roundw
      case rel=>exact⟨q+1,HLT.out,by go_num,HL5.out⟩
      case measure=>have:=HLT.out; simp[intOf]; omega
    .have ae:¬((q:Int)<(nA:Int)):=by omega
     go_wp2;refine im ?_;rw[aX.out];refine gP.seq ?_;clear HL3 ae au hq;generalize wr=gD at *;refine gZ λgE O=>?_;have bu:cx _:=O;clear O;refine gP.region ?_
     (refine jn rfl (by rfl) (by kernel_rfl) λτ=>?_; unfold jh; go_simp; simp only[ik]; refine gP.ij τ ?_);refine gP.inRegion ?_;rw[bu.out];refine gP.seq ?_;refine gZ λgF O=>?_;have aY:cx _:=O;clear O;refine kA (by kernel_rfl) (by rw[aY.out]; rfl) λy5 Y U=>?_;have HL5:cx (rz w y5):=aw.out.trans (kz Y U);clear Y U;go_wp2;go_loopw [26,27] (λla i wx=>∃(r lt:Nat),r<=nS/\i=.int .i64 r/\la=.int .i64 lt/\lt<=1000/\(∀j(h:j<S.length),r<=j->0<iO D [u,v,S[j]]->iO D [u,v,S[j]]<=lt)/\rz w wx) (λ_ i _=>nS-(intOf i).toNat)
     case atStart=>exact⟨0,1000,cs _,rfl,rfl,cp _,λj h _ _=>Rm HX.out h,HL5.out⟩
     case round=>
      obtain⟨r,lt,hr,rfl,rfl,eV,aD,W⟩:=hrel;have HL6:cx (rz _ _):=W;have HINV:cx _:=aD;clear W aD;by_cases aE:r<nS
      .have HLTR:cx (r+1<=nS):=aE;have ax:(r:Int)<(nS:Int):=by omega
       have B:r<S.length:=by have:=ad.out.1; omega
       obtain⟨x,hx⟩:∃x,x=S[r]:=⟨_,rfl⟩;have bv:cx (∀y,rz w y->∃b off,al=some ⟨b,off,none⟩/\y.cell? ⟨b,off+r,none⟩=some (.string ⟨x.toArray⟩)):=λy Y=>by rw[hx]; exact(HR.out y Y).2.1.str r B
       have bw:cx (x=S[r]):=hx;clear hx;generalize wr=bx at *;go_wp2;go_loopw [28,29] (λcn i wx=>∃(c:Nat),c<=nA-2/\i=.int .i64 c/\cn=.int .i64 (iY (jD D) [u,v,x] c:Nat)/\rz w wx) (λ_ i _=>nA-(intOf i).toNat)
       case atStart=>exact⟨0,cs _,rfl,rfl,HL6.out⟩
       case round=>
        obtain⟨c,hc,rfl,rfl,W⟩:=hrel;have HL7:cx (rz _ _):=W;clear W
        have aZ:iY (jD D) [u,v,x] c<=c:=by
         unfold iY;have:=List.length_filter_le (kJ (jD D) [u,v,x]) (List.range c);simpa using this
        obtain⟨ct,aN⟩:∃ct,ct=iY (jD D) [u,v,x] c:=⟨_,rfl⟩;have ay:cx _:=aN;rw[<-aN]at aZ⊢;clear aN;by_cases ba:c+2<nA
        .have HLC:cx (c+2<nA):=ba;have aO:(c:Int)+2<(nA:Int):=by omega
         have ac:=HX.out.2.2.2.2.2.2.2.2.2;have aa:c+2<(jD D).length:=by omega
         obtain⟨b2,o2,rfl,p0⟩:=(HR.out wr HL7.out).1.str c (by omega);obtain⟨b3,o3,bz,p1⟩:=(HR.out wr HL7.out).1.str (c+1) (by omega);obtain⟨b4,o4,b0,p2⟩:=(HR.out wr HL7.out).1.str (c+2) aa;cases bz;cases b0;obtain⟨b1,o1,rfl,p3⟩:=bv.out wr HL7.out;obtain⟨z0,aP⟩:∃z,z=(jD D)[c]:=⟨_,rfl⟩;obtain⟨z1,aQ⟩:∃z,z=(jD D)[c+1]:=⟨_,rfl⟩;obtain⟨z2,aR⟩:∃z,z=(jD D)[c+2]:=⟨_,rfl⟩;have ai:cx (kJ (jD D) [u,v,x] c=true↔z0=u/\z1=v/\z2=x):=by rw[aP,aQ,aR]; exact Qc (jD D) u v x c aa
         have aB:cx _:=P3 (jD D) [u,v,x] c;rw[<-aP]at p0;rw[<-aQ]at p1;rw[<-aR]at p2;clear aa ac aP aQ aR;by_cases ab:z0=u
         .by_cases af:z1=v
          .by_cases ao:z2=x
           .have bc:cx (z0=u/\z1=v/\z2=x):=⟨ab,af,ao⟩;rw[ab]at p0;rw[af]at p1;rw[ao]at p2;clear ab af ao;go_wp2;go_quiet (fail);go_wp2;go_roundw
            case rel=>
             refine⟨c+1,by have:=HLC.out; omega,by go_num,?_,HL7.out.trans ⟨rfl,cp _,λ_ _=>rfl⟩⟩;rw[aB.out,<-ay.out,if_pos (ai.out.2 bc.out)]
             first|rfl|go_num|simp
            case measure=>have:=HLC.out; simp[intOf]; omega
           .have az:cx (¬(z0=u/\z1=v/\z2=x)):=λh=>ao h.2.2;have gG:(z2==x)=false:=by rw[beq_eq_false_iff_ne]; exact ao
            have n2:¬((⟨z2.toArray⟩:ByteArray)=⟨x.toArray⟩):=by
             intro e;apply ao;have:=congrArg (λz:ByteArray=>z.data.toList) e;simpa using this
            rw[ab]at p0;rw[af]at p1;clear ab af;go_wp2;go_quiet (fail);go_wp2;go_roundw
            case rel=>
             refine⟨c+1,by have:=HLC.out; omega,by go_num,?_,HL7.out.trans ⟨rfl,cp _,λ_ _=>rfl⟩⟩;have a9:¬kJ (jD D) [u,v,x] c=true:=λh=>az.out (ai.out.1 h);rw[aB.out,<-ay.out,if_neg a9]
             first|rfl|go_num|simp
            case measure=>have:=HLC.out; simp[intOf]; omega
          .have az:cx (¬(z0=u/\z1=v/\z2=x)):=λh=>af h.2.1;have gH:(z1==v)=false:=by rw[beq_eq_false_iff_ne]; exact af
           have n1:¬((⟨z1.toArray⟩:ByteArray)=⟨v.toArray⟩):=by
            intro e;apply af;have:=congrArg (λz:ByteArray=>z.data.toList) e;simpa using this
           rw[ab]at p0;go_wp2;go_quiet (fail);go_wp2;go_roundw
           case rel=>
            refine⟨c+1,by have:=HLC.out; omega,by go_num,?_,HL7.out.trans ⟨rfl,cp _,λ_ _=>rfl⟩⟩;have a9:¬kJ (jD D) [u,v,x] c=true:=λh=>az.out (ai.out.1 h);rw[aB.out,<-ay.out,if_neg a9]
            first|rfl|go_num|simp
           case measure=>have:=HLC.out; simp[intOf]; omega
         .have az:cx (¬(z0=u/\z1=v/\z2=x)):=λh=>ab h.1;have gI:(z0==u)=false:=by rw[beq_eq_false_iff_ne]; exact ab
          have n0:¬((⟨z0.toArray⟩:ByteArray)=⟨u.toArray⟩):=by
           intro e;apply ab;have:=congrArg (λz:ByteArray=>z.data.toList) e;simpa using this
          go_wp2;go_quiet (fail);go_wp2;go_roundw
          case rel=>
           refine⟨c+1,by have:=HLC.out; omega,by go_num,?_,HL7.out.trans ⟨rfl,cp _,λ_ _=>rfl⟩⟩;have a9:¬kJ (jD D) [u,v,x] c=true:=λh=>az.out (ai.out.1 h);rw[aB.out,<-ay.out,if_neg a9]
           first|rfl|go_num|simp
          case measure=>have:=HLC.out; simp[intOf]; omega
        .have aO:¬((c:Int)+2<(nA:Int)):=by omega
         have aj:cx (ct=iO D [u,v,S[r]]):=by
          have e0:=ay.out;have ac:=HX.out.2.2.2.2.2.2.2.2.2;have bd:c=(jD D).length+1-[u,v,x].length:=by simp; omega
          rw[HX.out.2.2.2.2.2.1 |> λ_=>bw.out]at e0 bd;have an:S[r]≠[]:=AJ HX.out.2.2.1 (HX.out.2.2.2.1.mem_iff.1 (ch B));rw[e0,bd,<-Fb [u,v,S[r]] rfl (by simp; exact⟨λe=>HX.out.2.2.2.2.2.1 e,λe=>HX.out.2.2.2.2.2.2.1 e,λe=>an e⟩)];rfl
         have gJ:ct<=lt:=by
          by_cases h0:0<ct
          .have:=HINV.out r B (cp _) (by rw[<-aj.out]; exact h0);rw[<-aj.out]at this;exact this
          .omega
         have gK:¬((lt:Int)<(ct:Int)):=by omega
         by_cases h0:0<ct
         .have b5:(0:Int)<(ct:Int):=by omega
          go_wp2;go_roundw
          case rel=>
           refine⟨r+1,ct,HLTR.out,by go_num,rfl,by omega,?_,HL7.out⟩;intro j hj hrj hp;have hm:=HX.out.2.2.2.2.2.2.2.1 r j B hj (by omega) hp (by rw[<-aj.out]; exact h0);rw[<-aj.out]at hm;exact hm
          case measure=>have:=HLTR.out; simp[intOf]; omega
         .have b5:¬((0:Int)<(ct:Int)):=by omega
          go_wp2;go_roundw
          case rel=>exact⟨r+1,lt,HLTR.out,by go_num,rfl,by omega,λj hj hrj hp=>HINV.out j hj (by omega) hp,HL7.out⟩
          case measure=>have:=HLTR.out; simp[intOf]; omega
      .have ax:¬((r:Int)<(nS:Int)):=by omega
       go_wp2;refine im ?_;rw[aY.out];refine gP.seq ?_;clear HL5 ax aE hr HINV;generalize wr=bx at *;refine gZ λgL O=>?_;have be:cx _:=O;clear O;refine kA (by kernel_rfl) (by rw[be.out]; rfl) λy7 Y U=>?_;have HL7:cx (rz w y7):=HL6.out.trans (kz Y U);clear Y U;go_wp2;go_loopw [30] (λi wx=>∃q:Nat,q<=nM/\i=.int .i64 q/\rz w wx) (λi _=>nM-(intOf i).toNat)
       case atStart=>exact⟨0,cs _,rfl,HL7.out⟩
       case round=>
        obtain⟨g,hg,rfl,W⟩:=hrel;have HL8:cx (rz _ _):=W;clear W;by_cases aF:g<nM
        .have HLTG:cx (g+1<=nM):=aF;have a':(g:Int)<(nM:Int):=by omega
         have aG:g<M.length:=by have:=ad.out.2; omega
         have b6:M.length<=S.length:=by rw[HX.out.2.2.2.2.1,cc]; omega
         have B:g<S.length:=by omega
         have ak:M[g]=S[g]:=by
          have:=HX.out.2.2.2.2.1;subst this;rw[List.getElem_take]
         have gM:¬((nS:Int)<=(g:Int)):=by have:=ad.out.1; omega
         obtain⟨b1,o1,rfl,p1⟩:=(HR.out wr HL8.out).2.2.str g aG;obtain⟨b2,o2,rfl,p2⟩:=(HR.out wr HL8.out).2.1.str g B;rw[ak]at p1;generalize S[g]=x at *;have gN:g<nS:=by have:=ad.out.1; omega
         clear b6 B aG ak;go_wp2;go_quiet (fail);go_wp2;go_roundw
         case rel=>exact⟨g+1,HLTG.out,by go_num,HL8.out.trans ⟨rfl,cp _,λ_ _=>rfl⟩⟩
         case measure=>have:=HLTG.out; simp[intOf]; omega
        .have a':¬((g:Int)<(nM:Int)):=by omega
         go_wp2;refine im ?_;rw[be.out];refine gP.seq ?_;clear HL7 a' aF hg;generalize wr=gO at *
         have b7:cx (nM=2\/nM≠2/\nM=nS):=by
          have h1:=ad.out;have h2:=congrArg List.length HX.out.2.2.2.2.1;rw[cc]at h2;show nM=2\/nM≠2/\nM=nS;omega
         refine kA (by kernel_rfl) (by rfl) λy9 Y U=>?_;have bf:cx (rz w y9):=HL8.out.trans (kz Y U);clear Y U;rcases b7.out with h2|⟨h2,h3⟩
         .have b8:(nM:Int)=2:=by omega
          go_wp2;refine im ?_;exact HX.out.2.1 _ _ (HX.out.1 _ _ HX.out.2.2.2.2.2.2.2.2.1 bf.out) rfl
         .have b8:¬((nM:Int)=2):=by omega
          have gP:(nM:Int)=(nS:Int):=by omega
          go_wp2;refine im ?_;exact HX.out.2.1 _ _ (HX.out.1 _ _ HX.out.2.2.2.2.2.2.2.2.1 bf.out) rfl
end
end
section
open Go.ChangeShapes Go.WideShapes Go.ChangeAt Go.RowKit Go.Conc
theorem Da{W:World}{D:Option Addr}{rs:List Int}{rc:Nat}{Y qb:Int}(B:W.ShapedOpen prog)(hW:Jd W)(hR:QH W D rs)(O:∀a,some a∈[D]->∃c e f,W.heap[a.block]?=some (.cells c e f))(aa:rs.length<=rc)(U:rs.length<=9223372036854775807)(ab : -9223372036854775808<=Y)(ac:Y<=9223372036854775807)(ad : -9223372036854775808<=qb)(ae:qb<=9223372036854775807) :
  vX prog (λv' w=>v'=.bool true/\uQ W w) (solo (G (Frame.enter prog 10 #[.slice D rs.length rc,.int .i64 Y,.int .i64 qb] .normal) []) W) #[]:=by
 refine Nx (gs:=[D]) (tm:=#[.slice D rs.length rc,.int .i64 Y,.int .i64 qb,c0,c0,c0,c0,c0,c0,c0,c0,c0,c0,c0,c0,c0,c0,c0,c0,c0,c0,c0,c0,c0,c0,c0,c0,c0,c0,c0,c0,c0,c0,c0,c0,c0,c0,c0,c0,c0,c0,c0,c0,c0,c0,c0,c0,c0,c0,c0,c0,c0,c0,c0,c0,c0,c0,c0,c0,c0,c0,c0,c0,c0,c0,c0,c0,c0,c0,c0,c0,c0,c0,c0,c0,c0,c0,c0,c0,c0,c0,c0,c0,c0,c0,c0,c0,c0,c0,c0,c0,c0,c0,c0,c0,c0,c0,c0,c0,c0,c0,c0,c0,c0,c0,c0,c0,c0,c0,c0,c0,c0,c0,c0,c0,c0,c0,c0,c0,c0,c0,c0,c0,c0,c0,c0,c0,c0,c0,c0,c0,c0,c0,c0,c0,c0,c0,c0,c0,c0,c0,c0,c0,c0,c0,c0,c0,c0,c0,c0,c0,c0,c0,c0,c0,c0,c0,c0,c0,c0,c0,c0,c0,c0,c0,c0,c0,c0,c0,c0,c0,c0,c0,c0,c0,c0,c0,c0,c0,c0,c0,c0,c0,c0,c0,c0,c0,c0,c0,c0,c0,c0,c0,c0,c0,c0,c0,c0,c0,c0,c0,c0,c0,c0,c0,c0,c0,c0,c0,c0,c0,c0,c0,c0,c0,c0,c0,c0,c0,c0,c0,c0,c0,c0,c0,c0,c0,c0,c0,c0,c0,c0,c0,c0,c0,c0,c0,c0,c0,c0,c0,c0,c0,c0,c0,c0,c0,c0,c0,c0,c0,c0,c0,c0,c0,c0,c0,c0,c0,c0,c0,c0,c0,c0,c0,c0,c0,c0,c0]) (jZ:=Tryz.f10) (c:=jc Tryz.f10) B O func10 (by kernel_rfl) (.cons (Is (by simp)) (.cons (.int _ _) (.cons (.int _ _) .nil))) (by kernel_rfl) ?_;refine DX (NR hW) (by rw[uJ]; exact J6 B) ⟨λj hj=>?_,hR.lo,hR.hi⟩ aa U ab ac ad ae (R2 (λw y h1 h2=>h1.trans h2) λw af hF h6=>?_)
 .obtain⟨b,off,e,hc⟩:=hR.cell j hj;exact⟨b,off,e,rY trivial hc⟩
 .refine QG (jZ:=Tryz.f10) (rs:=#[]) (Gd B O) func10 (by kernel_rfl) (λk hk=>hF.block k (by rw[uJ]; exact hk)) trivial λw=>?_;simp[results,results10,go_sem,h6]
end
end Go.Proofs.YtocbogeoffeolaaGreatDoor
