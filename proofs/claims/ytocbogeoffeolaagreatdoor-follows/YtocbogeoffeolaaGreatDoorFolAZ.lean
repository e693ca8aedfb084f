import Derived.Test.YtocbogeoffeolaaGreatDoorFolAG
set_option linter.unusedVariables false
set_option linter.unusedSimpArgs false
set_option maxHeartbeats 8000000
set_option maxRecDepth 1000000
open Int renaming tmod_eq_emod_of_nonneg->ao,emod_nonneg->ap
open List renaming take_succ_eq_append_getElem->aq,take_length->ar
namespace Go.Proofs.YtocbogeoffeolaaGreatDoor
open Go.Proofs.Tryz
section
open Go.RowKit
def pk(c:Int)(n:Nat):Nat:=((if c<0 then -(c+1)else c) % (n:Int)).toNat
theorem xW(c:Int)(n:Nat)(h:0<n):pk c n<n:=by
 unfold pk;have y:=ap (if c<0 then -(c+1)else c) (show(n:Int)≠0 by omega);have B:=Int.emod_lt_of_pos (if c<0 then -(c+1)else c) (show(0:Int)<n by omega);omega
theorem Ck(c:Int)(n:Nat)(w:World)(Y : -9223372036854775808<=c)(h1:c<=9223372036854775807)(B:0<n)(O:n<=1000000):Calls prog 15 #[.int .i64 c,.int .i64 (n:Int)] w λe w'=>e=.returned (.int .i64 (pk c n:Nat))/\w=w':=by
 have U:¬((n:Int)=0):=by omega
 have W:¬((n:Int) = -1):=by omega
 by_cases D:c<0
 .have e:((pk c n:Nat):Int)=(-(c+1)).tmod (n:Int):=by
   unfold pk;rw[if_pos D,ao (by omega)];have:=ap (-(c+1)) (show(n:Int)≠0 by omega);omega
  have h:0<=(-(c+1)).tmod (n:Int):=by rw[<-e]; omega
  have y:(-(c+1)).tmod (n:Int)<=9223372036854775807:=by rw[<-e]; have:=xW c n B; omega
  rw[e];have g1:IntKind.i64.wrap (c+1)=c+1:=by simp only[IntKind.wrap_i64]; omega
  have g2:IntKind.i64.wrap (-(c+1)) = -(c+1):=by simp only[IntKind.wrap_i64]; omega
  go_enter func15,ntmps15;go_wp2;go_ret;refine⟨?_,rfl⟩;show Ending.returned (.int .i64 (-((c+1).tmod (n:Int))))=_;rw[Int.neg_tmod]
 .have e:((pk c n:Nat):Int)=c.tmod (n:Int):=by
   unfold pk;rw[if_neg D,ao (by omega)];have:=ap c (show(n:Int)≠0 by omega);omega
  have h:0<=c.tmod (n:Int):=by rw[<-e]; omega
  have y:c.tmod (n:Int)<=9223372036854775807:=by rw[<-e]; have:=xW c n B; omega
  rw[e];go_enter func15,ntmps15;go_wp2;go_ret;refine⟨?_,rfl⟩;show Ending.returned (.int .i64 (c % (n:Int)))=_;rw[ao (by omega)]
def iq:Nat->Wd
 |0=>[116,104,101]
 |1=>[99,97,116]
 |2=>[115,97,116]
 |3=>[97]
 |_=>[120,57]
def ml(c:Int):Wd:=iq (pk c 5)
theorem wT(c:Int)(w:World)(D : -9223372036854775808<=c)(O:c<=9223372036854775807):Calls prog 33 #[.int .i64 c] w λe w'=>e=.returned (.string ⟨(ml c).toArray⟩)/\Below w.heap.size w w':=by
 have h:=Ck c 5 w D O (by omega) (by omega);have y:=xW c 5 (by omega);unfold ml;obtain⟨k,B⟩:∃k,k=pk c 5:=⟨_,rfl⟩;rw[<-B]at h y⊢;clear B;have hb:Below w.heap.size w (w.alloc (.cells #[.string ⟨#[116,104,101]⟩,.string ⟨#[99,97,116]⟩,.string ⟨#[115,97,116]⟩,.string ⟨#[97]⟩,.string ⟨#[120,57]⟩] 9)):=(Below.refl _ _).alloc (Nat.le_refl _) _;have U:Hid _:=hb;clear hb;go_enter func33,ntmps33;go_wp2_with fail;refine h.mono ?_;rintro e w1 ⟨rfl,rfl⟩;clear h;rcases(by omega:k=0\/k=1\/k=2\/k=3\/k=4)with rfl|rfl|rfl|rfl|rfl
 all_goals
  go_wp2;go_ret;exact⟨rfl,U.out⟩
end
section
open Go.RowKit
def GF(ys:List Wd)(x:Wd):Bool:=ys.any λy=>y==x
def oE(xs ys:List Wd):Bool:=xs.all λx=>GF ys x
theorem MN(ys:List Wd)(k:Nat)(h:k<ys.length)(x:Wd):GF (ys.take (k+1)) x=(GF (ys.take k) x || ys[k]==x):=by
 unfold GF;rw[aq h,List.any_append];simp
theorem qP(xs:List Wd)(j:Nat)(h:j<xs.length):(gQ xs)[j]?=some (.string ⟨xs[j].toArray⟩):=kW xs j h
theorem u9(va vb:Value)(xs ys:List Wd)(w:World)(ha:pA w 1 va xs.length (gQ xs))(hb:pA w 1 vb ys.length (gQ ys))(hx:xs.length<=1000000)(hy:ys.length<=1000000) :
  Calls prog 20 #[va,vb] w λe w'=>e=.returned (.bool (oE xs ys))/\Below w.heap.size w w':=by
 obtain⟨aa,ca,rfl,am,ah,_,hA⟩:=ha;obtain⟨ab,cb,rfl,an,ai,_,hB⟩:=hb;have HA:Hid (∀j(h:j<xs.length),∃b off,aa=some ⟨b,off,none⟩/\w.cell? ⟨b,off+j,none⟩=some (.string ⟨xs[j].toArray⟩)):=λj h=>hA j _ (qP xs j h);have HB:Hid (∀j(h:j<ys.length),∃b off,ab=some ⟨b,off,none⟩/\w.cell? ⟨b,off+j,none⟩=some (.string ⟨ys[j].toArray⟩)):=λj h=>hB j _ (qP ys j h);clear hA hB ah ai;go_enter func20,ntmps20;go_wp2;go_loopw [5] (λi wr=>∃n:Nat,n<=xs.length/\i=.int .i64 n/\oE (xs.take n) ys=true/\Below w.heap.size w wr) (λi _=>xs.length-(intOf i).toNat)
 case atStart=>exact⟨0,Nat.zero_le _,rfl,by simp[oE],Below.refl _ _⟩
 case round=>
  obtain⟨n,hn,rfl,W,hb⟩:=hrel;have HWI:Hid _:=W;have HBW:Hid _:=hb;clear W hb;by_cases U:n<xs.length
  .have Y:(n:Int)<(xs.length:Int):=by omega
   generalize wr=wo at *;go_wp2;go_loopw [6,7] (λu i wr=>∃k:Nat,k<=ys.length/\i=.int .i64 k/\u=.bool (GF (ys.take k) xs[n])/\Below w.heap.size w wr) (λ_ i _=>ys.length-(intOf i).toNat)
   case atStart=>exact⟨0,Nat.zero_le _,rfl,by simp[GF],HBW.out⟩
   case round=>
    obtain⟨k,hk,rfl,rfl,ac⟩:=hrel;have B:Hid _:=ac;clear ac;by_cases ad:k<ys.length
    .have ae:(k:Int)<(ys.length:Int):=by omega
     obtain⟨b1,o1,rfl,c1⟩:=HA.out n U;obtain⟨b2,o2,rfl,c2⟩:=HB.out k ad;have d1:=cell_later B.out c1;have d2:=cell_later B.out c2;have af:=MN ys k ad xs[n];have HST:Hid _:=af;clear af c1 c2;generalize xs[n]=x at *;generalize ys[k]=y at *
     cases D:GF (ys.take k) x with
     |true=>
      rw[D]at HST;go_wp2;go_quiet (fail);go_wp2;go_roundw
      case rel=>exact⟨k+1,by omega,by go_num,by rw[HST.out]; rfl,mA B.out _⟩
      case measure=>simp[intOf]; omega
     |false=>
      rw[D]at HST;by_cases O:y=x
      .subst O;go_wp2;go_quiet (fail);go_wp2;go_roundw
       case rel=>exact⟨k+1,by omega,by go_num,by rw[HST.out]; simp,mA B.out _⟩
       case measure=>simp[intOf]; omega
      .have al:¬((⟨y.toArray⟩:ByteArray)=⟨x.toArray⟩):=by
        intro e;apply O;have:=congrArg (λz:ByteArray=>z.data.toList) e;simpa using this
       go_wp2;go_quiet (fail);go_wp2;go_roundw
       case rel=>
        refine⟨k+1,by omega,by go_num,?_,mA B.out _⟩;rw[HST.out];have:(y==x)=false:=by rw[beq_eq_false_iff_ne]; exact O
        rw[this]
        first|rfl|simp[O]
       case measure=>simp[intOf]; omega
    .have aj:k=ys.length:=by omega
     subst aj;have ae:¬((ys.length:Int)<(ys.length:Int)):=by omega
     rw[ar]
     have HNW:Hid (oE (xs.take (n+1)) ys=(oE (xs.take n) ys&&GF ys xs[n])):=by
      show _=_;unfold oE;rw[aq U,List.all_append];simp
     have ag:Hid (GF ys xs[n]=false->oE xs ys=false):=λh=>by
      unfold oE;rw[List.all_eq_false];exact⟨xs[n],List.getElem_mem U,by rw[h]; simp⟩
     generalize xs[n]=x at *
     cases D:GF ys x with
     |true=>
      rw[D]at HNW;go_wp2;go_roundw
      case rel=>exact⟨n+1,by omega,by go_num,by rw[HNW.out,HWI.out]; rfl,B.out⟩
      case measure=>simp[intOf]; omega
     |false=>
      go_wp2;go_ret;refine⟨?_,B.out⟩;rw[ag.out D];rfl
  .have ak:n=xs.length:=by omega
   subst ak;have Y:¬((xs.length:Int)<(xs.length:Int)):=by omega
   go_wp2;go_ret;have h:=HWI.out;rw[ar]at h;refine⟨?_,HBW.out⟩;rw[h];rfl
end
end Go.Proofs.YtocbogeoffeolaaGreatDoor
