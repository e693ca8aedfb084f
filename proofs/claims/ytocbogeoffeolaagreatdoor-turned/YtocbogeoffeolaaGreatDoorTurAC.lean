import Derived.Test.YtocbogeoffeolaaGreatDoorTurAB
import Derived.OrdersHeld
import Derived.RegionTactic
import Derived.Deep.RegionHeld3
import Derived.Recover
import Derived.Laws.EntriesVeiled
set_option linter.all false
set_option maxHeartbeats 8000000
set_option maxRecDepth 1000000
open List renaming append_nil->aM,length_map->aN,length_append->aO,mem_map->aP,mem_cons_self->aQ,map_append->aR,length_cons->aT,append_assoc->aU,getElem_append_right->aV,getElem_append_left->aW,mem_cons_of_mem->aX,mem_filter->aY,map_cons->aZ,take_of_length_le->ba,mem_append_right->bc,filter_eq_self->bd,mem_singleton->be,nodup_append->bf,perm_middle->bg,getElem_mem->bh,map_nil->bi
open Nat renaming le_refl->bj,shiftLeft_eq->bk,le_trans->bl,zero_le->bm,shiftLeft_add_eq_or_of_lt->bn,lt_of_lt_of_le->bo
open Go renaming maxLen->bp,Calls->bq,heap_alloc_new->br,cell_later->bs,TypeId->bt,wpList->bu,wp_region_held->bv,wpAnyH->bw,results->bx
open Go.RowKit renaming Hid->bz,wrap64->b0,run_makeMap->b1
open Go.RowKit.Below renaming refl->b2,heap_alloc->b3
open Option renaming bind_eq_some_iff->b4,bind_some->b5
open Go.Proofs.Tryz renaming underlying9->b6,underlying85->b7,underlying214->b8,underlying136->b9,ntmps69->b',func69->bA
open Go.World renaming grownBy_alloc->bB,setCell->bC
open List.Perm renaming refl->bD
open Go.IntKind renaming wrap_i64->bE
open Go.Op renaming bytesLess->bF
namespace Go.Proofs.YtocbogeoffeolaaGreatDoor
open Go.Proofs.Tryz
section
variable {a:Act} {listed:Array Bool} {fuel:Nat} {w:World}
section
variable {P:Program} {md:Region.Mode} {ops:Array Oper} {Q:Exit->Act->World->Prop} {S:World->Prop}
theorem fu(i:Nat)(v:Value){y:Oper}(O:S w)
  (U:∀w,S w->(execOp a.eval y).run P w=.ok (.value v) w) (h:bw P md ops Q S fuel (listed.setIfInBounds i true) (a.put y.dst v) w)
  (hi:ops[i]?=some y:=by rfl) (W:Region.noSelect ops=true:=by kernel_rfl) (Y:Region.free md ops listed i=true:=by kernel_rfl)
  (hr:(Region.ready md ops listed).contains i=true:=by kernel_rfl) (hQ:∀c a w,Q (.panic c) (a.put y.dst v) w->Q (.panic c) a w:=by exact λ_ _ _ h=>h)
  (hw:Region.wanted y (yielded ops a.tmps)=true:=by rfl):bw P md ops Q S (fuel+1) listed a w:=
 wpAnyH_take hi W Y hr hQ (.inl ⟨hw,U⟩) O h
theorem kY(i:Nat){o:Oper}(h:∀K':Act->World->Prop,(∀y w',S w'/\bw P md ops Q S fuel (listed.setIfInBounds i true) y w'->K' y w')->Oper.wp P o a w K' Q)
  (O:Region.ready md ops listed=[i]:=by kernel_rfl) (U:ops[i]?=some o:=by rfl) (W:Region.wanted o (yielded ops a.tmps)=true:=by rfl):bw P md ops Q S (fuel+1) listed a w:=
 wpAnyH_all O (by simp) λj Y=>by
  obtain rfl:j=i:=by simpa using Y
  exact wpOp_step U λK' hK=>by rw[if_pos W]; exact h K' hK
end
end
section
open Go.RowKit
def Oz:PanicEntry:={v:=.iface 264 (.agg #[]),recovered:=false}
theorem gh(w:World):bq prog 212 #[.bool true] w λe w'=>e=.returned (.tuple #[])/\w=w':=by
 go_enter func212,ntmps212;go_wp2;go_end0;exact⟨rfl,rfl⟩
theorem OT(w:World):bq prog 212 #[.bool false] w λe w'=>e=.panicked [Oz]/\w=w':=by
 go_enter func212,ntmps212;go_wp2;exact⟨rfl,rfl,rfl⟩
def Ao(w:World)(Rb:Nat)(S:ByteArray)(p:Nat)(Mk:Nat)(y:Value):Prop:=w.heap[Rb]?=some (.cells #[.string S,.int .i64 p,.map (some Mk),y] 216 (0,0))
theorem J9(s:ByteArray)(p n:Nat):s.extract p (p+n)=⟨((s.data.toList.drop p).take n).toArray⟩:=by
 apply ByteArray.ext;rw[ByteArray.data_extract];apply Array.ext';simp[List.take_drop]
theorem ki{w:World}{b o:Nat}{v:Value}{F:Nat->Prop}(hF:F b):du F w (w.setCell ⟨b,o,none⟩ v):=
 ⟨rfl,rfl,rfl,by simp[bC],λk O y=>Below.heap_setCell _ _ _ _ (by intro e; subst e; exact y hF)⟩
theorem Mu(Rb:Nat)(S:ByteArray)(p Mk:Nat)(O:Value)(n:Nat)(w:World)(h:Ao w Rb S p Mk O)(hp:p+n<=S.size)(hS:S.size<=1099511627776) :
  bq prog 236 #[.pointer (some ⟨Rb,0,none⟩),.int .i64 n] w λe w'=>e=.returned (.string (S.extract p (p+n)))/\Ao w' Rb S (p+n) Mk O/\du (· = Rb) w w'/\w'.heap.size=w.heap.size:=by
 unfold Ao at h;have c0:w.cell? ⟨Rb,0,none⟩=some (.string S):=by rw[dh h]; rfl
 have c1:w.cell? ⟨Rb,1,none⟩=some (.int .i64 p):=by rw[dh h]; rfl
 have f1:w.frozen? ⟨Rb,1,none⟩=false:=dJ h 1;have HH:bz _:=h;have aa:IntKind.i64.wrap ((S.size:Int)-(p:Int))=(S.size:Int)-(p:Int):=by simp only[bE]; omega
 have ab:(n:Int)<=(S.size:Int)-(p:Int):=by omega
 have U:IntKind.i64.wrap ((p:Int)+(n:Int))=((p+n:Nat):Int):=by simp only[bE]; omega
 have W:(p:Int)<=((p+n:Nat):Int):=by omega
 have Y:((p+n:Nat):Int)<=(S.size:Int):=by omega
 clear h;go_enter func236,ntmps236;go_wp2_with fail;go_region_held3 (λw'=>w'.cell? ⟨Rb,0,none⟩=some (.string S)/\w'.cell? ⟨Rb,1,none⟩=some (.int .i64 p)) (go_keep) (first|(go_at_call 212; refine(gh _).mono ?_; rintro e w' ⟨rfl,rfl⟩));go_wp2_with fail;go_quiet (fail);go_wp2;go_ret
 have h1:((w.drewN (1+nq)).setCell ⟨Rb,1,none⟩ (.int .i64 ((p:Int)+(n:Int)))).heap[Rb]?=some (.cells #[.string S,.int .i64 ((p+n:Nat):Int),.map (some Mk),O] 216 (0,0)):=by
  rw[heap_set (w:=w.drewN (1+nq)) HH.out];simp
 refine⟨rfl,h1,?_,by simp[bC,World.drewN]⟩;have y:=ki (w:=w.drewN (1+nq)) (b:=Rb) (o:=1) (v:=.int .i64 ((p:Int)+(n:Int))) (F:=(· = Rb)) rfl;exact⟨y.os,y.tape,y.output,y.size,y.block⟩
theorem MV(R:Ending->World->Prop)(Rb:Nat)(S:ByteArray)(p Mk:Nat)(U:Value)(n:Nat)(w:World)(h:Ao w Rb S p Mk U)(hp:S.size<p+n)(W:p<=S.size)(hS:S.size<=1099511627776)(y:R (.panicked [Oz]) w.drew) :
  bq prog 236 #[.pointer (some ⟨Rb,0,none⟩),.int .i64 n] w R:=by
 unfold Ao at h;have c0:w.cell? ⟨Rb,0,none⟩=some (.string S):=by rw[dh h]; rfl
 have c1:w.cell? ⟨Rb,1,none⟩=some (.int .i64 p):=by rw[dh h]; rfl
 have Y:IntKind.i64.wrap ((S.size:Int)-(p:Int))=(S.size:Int)-(p:Int):=by simp only[bE]; omega
 have aa:decide ((n:Int)<=(S.size:Int)-(p:Int))=false:=decide_eq_false (by omega);have O:∀tm:Array Value,bodyPost prog f236 R (.panic [Oz]) {tmps:=tm,defers:=[]} w.drew:=λ_=>⟨rfl,y⟩;clear h;go_enter func236,ntmps236;go_wp2_with fail;refine bv (S:=λw'=>w'=w.drew) (by kernel_rfl) ?_;refine fu 0 ?_ rfl ?_<|fu 1 ?_ rfl ?_<|fu 2 ?_ rfl ?_<|fu 3 ?_ rfl ?_<|fu 4 ?_ rfl ?_<|fu 5 ?_ rfl ?_<|fu 6 ?_ rfl ?_<|fu 7 ?_ rfl ?_<|fu 8 ?_ rfl ?_<|fu 9 ?_ rfl ?_<|fu 10 ?_ rfl ?_<|fu 11 ?_ rfl ?_ ?_
 any_goals(rintro _ rfl; go_simp; first|done|with_reducible rfl)
 refine kY 12 λK' _=>?_;unfold Oper.wp;go_simp;refine(OT _).mono ?_;rintro e w' ⟨rfl,rfl⟩;exact⟨rfl,y⟩
theorem PD(Rb:Nat)(S:ByteArray)(p Mk:Nat)(O:Value)(n:Nat)(w:World)(h:Ao w Rb S p Mk O)(U:S.size<p+n)(y:p<=S.size)(W:S.size<=1099511627776) :
  bq prog 236 #[.pointer (some ⟨Rb,0,none⟩),.int .i64 n] w λe w'=>e=.panicked [Oz]/\du (· = Rb) w w'/\w'.heap.size=w.heap.size:=
 MV _ Rb S p Mk O n w h U y W ⟨rfl,⟨rfl,rfl,rfl,bj _,λ_ _ _=>rfl⟩,rfl⟩
def GX(w:World)(Rb:Nat)(S:ByteArray)(rest:Wd)(Mk:Nat)(y:Value):Prop:=∃p:Nat,Ao w Rb S p Mk y/\p<=S.size/\S.data.toList.drop p=rest
def Ends{y:Type}(F:Nat->Prop)(w:World)(X:Option y)(ok:y->Ending->World->Prop)(e:Ending)(w':World):Prop:=du F w w'/\match X with
 |some x=>ok x e w'
 |none=>e=.panicked [Oz]
theorem zm(Rb:Nat)(S:ByteArray)(rest:Wd)(Mk:Nat)(y:Value)(n:Nat)(w:World)(h:GX w Rb S rest Mk y)(U:S.size<=1099511627776) :
  bq prog 236 #[.pointer (some ⟨Rb,0,none⟩),.int .i64 n] w (Ends (· = Rb) w (lL n rest) λx e w'=>e=.returned (.string ⟨x.1.toArray⟩)/\GX w' Rb S x.2 Mk y/\w'.heap.size=w.heap.size):=by
 obtain⟨p,W,h2,rfl⟩:=h;have hl:(S.data.toList.drop p).length=S.size-p:=by simp
 unfold lL;by_cases Y:n<=(S.data.toList.drop p).length
 .rw[if_pos Y];refine(Mu Rb S p Mk y n w W (by omega) U).mono ?_;rintro e w' ⟨rfl,g1,O,g3⟩;refine⟨O,?_,⟨p+n,g1,by omega,by simp⟩,g3⟩;rw[J9]
 .rw[if_neg Y];refine(PD Rb S p Mk y n w W (by omega) h2 U).mono ?_;rintro e w' ⟨rfl,O,g3⟩;exact⟨O,rfl⟩
theorem nk(Rb:Nat)(S:ByteArray)(rest:Wd)(Mk:Nat)(O:Value)(w:World)(h:GX w Rb S rest Mk O)(Y:S.size<=1099511627776) :
  bq prog 233 #[.pointer (some ⟨Rb,0,none⟩)] w (Ends (· = Rb) w (rdNum rest) λx e w'=>e=.returned (.int .i64 x.1)/\GX w' Rb S x.2 Mk O/\w'.heap.size=w.heap.size):=by
 have U:=zm Rb S rest Mk O 1 w h Y;clear h Y
 cases rest with
 |nil=>
  go_enter func233,ntmps233;go_wp2_with fail;refine U.mono ?_;rintro e w' ⟨g1,y⟩;simp[lL]at y;subst y;exact⟨rfl,g1,rfl⟩
 |cons b r=>
  go_enter func233,ntmps233;go_wp2_with fail;refine U.mono ?_;rintro e w' ⟨g1,y⟩;simp only[lL,aT,Nat.le_add_left,if_true,List.take_succ_cons,List.take_zero,List.drop_succ_cons,List.drop_zero]at y;obtain⟨rfl,g3,g4⟩:=y;have W:bz (du (· = Rb) w w'/\GX w' Rb S r Mk O/\w'.heap.size=w.heap.size):=⟨g1,g3,g4⟩;clear g1 g3 g4 U;go_wp2;go_ret;refine⟨W.out.1,?_,W.out.2.1,W.out.2.2⟩;have hb:=b.toNat_lt;show Ending.returned (.int .i64 (b0 ((b.toNat:Nat):Int)))=.returned (.int .i64 (b.toNat:Nat));refine eQ ?_;unfold b0;omega
end
section
open Go.RowKit
theorem du.then{F:Nat->Prop}{a b c:World}(h:du F a b)(k:du F b c):du F a c:=h.trans k (λ_ _ h=>h)
theorem tU(Rb:Nat)(S:ByteArray)(rest:Wd)(Mk:Nat)(W:Value)(w:World)(h:GX w Rb S rest Mk W)(hS:S.size<=1099511627776) :
  bq prog 213 #[.pointer (some ⟨Rb,0,none⟩)] w (Ends (· = Rb) w (j5 rest) λx e w'=>e=.returned (.string ⟨x.1.toArray⟩)/\GX w' Rb S x.2 Mk W/\w'.heap.size=w.heap.size):=by
 have Y:=nk Rb S rest Mk W w h hS;unfold j5;clear h
 cases U:rdNum rest with
 |none=>
  rw[U]at Y;clear U;go_enter func213,ntmps213;go_wp2_with fail;refine Y.mono ?_;rintro e w' ⟨g1,rfl⟩;exact⟨rfl,g1,rfl⟩
 |some x=>
  obtain⟨n,r⟩:=x;rw[U]at Y;clear U;go_enter func213,ntmps213;go_wp2_with fail;refine Y.mono ?_;rintro e w1 ⟨g1,rfl,g2,g3⟩;have O:=zm Rb S r Mk W n w1 g2 hS;clear Y g2
  cases U:lL n r with
  |none=>
   rw[U]at O;go_wp2_with fail;refine O.mono ?_;rintro e w2 ⟨g4,rfl⟩;exact⟨rfl,g1.then g4,by simp only[b5,U]⟩
  |some y=>
   rw[U]at O;have HN:bz _:=U;clear U;go_wp2_with fail;refine O.mono ?_;rintro e w2 ⟨g4,rfl,g5,g6⟩;have HF:bz (du (· = Rb) w w2/\GX w2 Rb S y.2 Mk W/\w2.heap.size=w.heap.size):=⟨g1.then g4,g5,by omega⟩;clear g1 g3 g4 g5 g6 O;go_wp2;go_ret;refine⟨HF.out.1,?_⟩;simp only[b5,HN.out];exact⟨rfl,HF.out.2⟩
theorem B4(n:Nat)(h:n<18446744073709551616):(BitVec.ofInt 64 (n:Int)).toNat=n:=by
 rw[BitVec.toNat_ofInt];omega
theorem N2(x y:Nat)(O:x<4294967296)(U:y<4294967296):bits .or .i64 (x:Int) (y:Int)=((x ||| y:Nat):Int):=by
 show IntKind.i64.wrap ((BitVec.ofInt 64 (x:Int) ||| BitVec.ofInt 64 (y:Int)).toNat:Int)=_;rw[BitVec.toNat_or,B4 x (by omega),B4 y (by omega)];have h:x ||| y<2 ^ 32:=Nat.or_lt_two_pow (by omega) (by omega)
 rw[bE];omega
theorem Ix(a b c:UInt8):bits BinOp.or IntKind.i64 (bits BinOp.or IntKind.i64 (b0 (b0 (a.toNat:Int)*65536)) (b0 (b0 (b.toNat:Int)*256))) (b0 (c.toNat:Int))=((a.toNat*65536+b.toNat*256+c.toNat:Nat):Int):=by
 have ha:=a.toNat_lt;have hb:=b.toNat_lt;have hc:=c.toNat_lt;have y:b0 (b0 (a.toNat:Int)*65536)=((a.toNat <<< 16:Nat):Int):=by rw[bk]; unfold b0; omega
 have O:b0 (b0 (b.toNat:Int)*256)=((b.toNat <<< 8:Nat):Int):=by rw[bk]; unfold b0; omega
 have U:b0 (c.toNat:Int)=(c.toNat:Int):=by unfold b0; omega
 have W:a.toNat <<< 16<4294967296:=by rw[bk]; omega
 have Y:b.toNat <<< 8<2 ^ 16:=by rw[bk]; omega
 have j1:a.toNat <<< 16 ||| b.toNat <<< 8=a.toNat <<< 16+b.toNat <<< 8:=(bn Y _).symm
 have j2:(a.toNat <<< 16+b.toNat <<< 8) ||| c.toNat=a.toNat <<< 16+b.toNat <<< 8+c.toNat:=by
  have:a.toNat <<< 16+b.toNat <<< 8=(a.toNat*256+b.toNat) <<< 8:=by simp only[bk]; omega
  rw[this];exact(bn (by omega) _).symm
 rw[y,O,U,N2 _ _ W (by omega),j1,N2 _ _ (by simp only[bk]; omega) (by omega),j2];simp only[bk]
theorem yA(Rb:Nat)(S:ByteArray)(rest:Wd)(Mk:Nat)(Y:Value)(w:World)(h:GX w Rb S rest Mk Y)(hS:S.size<=1099511627776) :
  bq prog 237 #[.pointer (some ⟨Rb,0,none⟩)] w (Ends (· = Rb) w (il rest) λx e w'=>e=.returned (.int .i64 x.1)/\GX w' Rb S x.2 Mk Y/\w'.heap.size=w.heap.size):=by
 have y:=zm Rb S rest Mk Y 3 w h hS;clear h hS
 have O:∀rest:Wd,rest.length<3->bq prog 236 #[.pointer (some ⟨Rb,0,none⟩),.int .i64 3] w (Ends (· = Rb) w (lL 3 rest) λx e w'=>e=.returned (.string ⟨x.1.toArray⟩)/\GX w' Rb S x.2 Mk Y/\w'.heap.size=w.heap.size)->il rest=none->
   bq prog 237 #[.pointer (some ⟨Rb,0,none⟩)] w (Ends (· = Rb) w (il rest) λx e w'=>e=.returned (.int .i64 x.1)/\GX w' Rb S x.2 Mk Y/\w'.heap.size=w.heap.size):=by
  intro rest hl y hw;have hn:lL 3 rest=none:=by unfold lL; rw[if_neg (by omega)]
  rw[hn]at y;rw[hw];go_enter func237,ntmps237;go_wp2_with fail;refine y.mono ?_;rintro e w' ⟨g1,rfl⟩;exact⟨rfl,g1,rfl⟩
 match rest,y with
 |[],y=>exact O _ (by simp) y rfl
 |[_],y=>exact O _ (by simp) y rfl
 |[_,_],y=>exact O _ (by simp) y rfl
 |a::b::c::r,y=>
  clear O;have hn:lL 3 (a::b::c::r)=some ([a,b,c],r):=by unfold lL; rw[if_pos (by simp)]; rfl
  rw[hn]at y;clear hn;have i0:(0:Int)<((3:Nat):Int):=by omega
  have U:(⟨[a,b,c].toArray⟩:ByteArray).size=3:=rfl;have k0:(⟨[a,b,c].toArray⟩:ByteArray)[0]'(by rw[U]; omega)=a:=rfl;have k1:(⟨[a,b,c].toArray⟩:ByteArray)[1]'(by rw[U]; omega)=b:=rfl;have k2:(⟨[a,b,c].toArray⟩:ByteArray)[2]'(by rw[U]; omega)=c:=rfl;generalize (⟨[a,b,c].toArray⟩:ByteArray)=T at *;go_enter func237,ntmps237;go_wp2_with fail;refine y.mono ?_;rintro e w1 ⟨g1,rfl,g2,g3⟩;have W:bz (du (· = Rb) w w1/\GX w1 Rb S r Mk Y/\w1.heap.size=w.heap.size):=⟨g1,g2,g3⟩;clear g1 g2 g3 y;go_wp2_with fail;go_quiet (fail);go_wp2;go_ret;refine⟨⟨W.out.1.os,W.out.1.tape,W.out.1.output,W.out.1.size,W.out.1.block⟩,?_,W.out.2.1,W.out.2.2⟩;exact eQ (Ix a b c)
end
section
open Go.RowKit Go.Maps
variable {l:List (Wd×Value)} {B:Nat} {P:Program} {k:bt} {w:World}
theorem qT(s:ByteArray)(w:World)(hs:s.size<=bp) :
  bq prog 69 #[.string s] w λe w'=>e=.returned (.bool (iL s.data.toList))/\w=w':=by
 unfold bp at hs;by_cases h0:0<s.size
 .by_cases h8:s.size<=8
  .go_enter bA,b';go_wp2;go_loop [14] (λi=>∃k:Nat,k<=s.size/\i=.int .i64 k/\(s.data.toList.take k).all fc=true) (λi=>s.size-(intOf i).toNat)
   case atStart=>exact⟨0,bm _,rfl,rfl⟩
   case round=>
    obtain⟨k,hk,rfl,ft⟩:=hrel;have HA:bz _:=ft;clear ft;by_cases y:k<s.size
    .have HS:bz (s.data.toList.take (k+1)=s.data.toList.take k++[s[k]]):=AM s k y;go_wp2_with fail;refine(mI _ _).mono ?_;rintro e w' ⟨rfl,rfl⟩
     cases U:fc s[k]with
     |true=>
      have W:bz _:=U;clear U;go_wp2;go_round
      case rel=>exact⟨k+1,by omega,by go_num,by rw[HS.out,List.all_append,HA.out]; simp[W.out]⟩
      case measure=>simp[intOf]; omega
     |false=>
      have W:bz _:=U;clear U;go_wp2;go_ret;refine⟨eG ?_,rfl⟩;symm;rw[Bool.eq_false_iff];intro Y;simp only[iL,Bool.and_eq_true]at Y;have:=List.all_eq_true.1 Y.1.1 _ (CK s k y);rw[W.out]at this;simp at this
    .go_wp2;go_ret;refine⟨eG ?_,rfl⟩;have e:s.data.toList.take k=s.data.toList:=ba (by simp; omega);have O:=HA.out;rw[e]at O;unfold iL;rw[O];simp;omega
  .go_enter bA,b';go_wp2;go_ret;refine⟨eG ?_,rfl⟩;simp[iL];omega
 .go_enter bA,b';go_wp2;go_ret;refine⟨eG ?_,rfl⟩;simp[iL];omega
def tY(e:dp):Wd:=if e.gone then []else e.name
def qI(e:dp):Value:=.agg #[.bool e.gone,.string ⟨(tY e).toArray⟩,.string ⟨e.text.toArray⟩,.int .i64 e.dq,.int .i64 e.dB]
def ji(e:dp):Wd×Value:=(e.name,qI e)
def Ph(e:dp):Wd×Value:=(e.name,.agg #[])
def eh(w:World)(B:Nat)(es:List dp):Prop:=dL prog 9 w B (es.map ji)
theorem dL.map(h:dL P k w B l):∃es clock,w.heap[B]?=some (.map es clock):=by
 obtain⟨D,⟨es,clock,y,_⟩,_⟩:=h;exact⟨es,clock,y⟩
theorem dL.nC{b:Nat}(h:dL P k w B l){cs:Array Value}{t:bt}{fz:Nat×Nat}(hb:w.heap[b]?=some (.cells cs t fz)):B≠b:=by
 obtain⟨es,clock,y⟩:=h.map;intro e;rw[e,hb]at y;cases y
theorem eT{k:Nat}{o:Obj}(h:w.heap[k]?=some o):k<w.heap.size:=(Array.getElem?_eq_some_iff.1 h).1
theorem La(told:List dp)(x:Wd):((told.map Ph).any λp=>p.1==x)=decide (x∈told.map dp.name):=by
 rw[Bool.eq_iff_iff,decide_eq_true_eq,List.any_eq_true,aP];constructor
 .rintro⟨p,O,h⟩;obtain⟨e,y,rfl⟩:=aP.1 O;exact⟨e,y,by simpa[Ph]using h⟩
 .rintro⟨e,y,rfl⟩;exact⟨Ph e,aP.2 ⟨e,y,rfl⟩,by simp[Ph]⟩
theorem KI(told:List dp)(x:Wd):mA (told.map Ph) x (.agg #[])=.agg #[]:=by
 unfold mA;split
 .rename_i p y;obtain⟨e,_,rfl⟩:=aP.1 (List.mem_of_find?_eq_some y);rfl
 .rfl
theorem Kb(y:List Wd)(last O:Wd):mZ y last O=(j5 O).bind λx=>if iL x.1=true/\bF last x.1=true/\x.1 ∉ y then some x else none:=rfl
theorem SO(x y:Wd):(!bF x y && !x==y)=bF y x:=by
 rcases im x y with h|h|h
 .rw[h,pM h]; rfl
 .subst h; rw[gZ]; simp
 .rw[h,pM h];have:(x==y)=false:=by rw[beq_eq_false_iff_ne]; exact λe=>BH h e.symm
  rw[this]; rfl
theorem Pg(w:World):(zeroValue 263).run prog w=.ok (.agg #[]) w:=by kernel_rfl
def zA(e:dp):Value:=.agg #[.string ⟨e.name.toArray⟩,.string ⟨e.text.toArray⟩,.int .i64 e.dq,.int .i64 e.dB]
theorem IR(told:List dp)(e:dp)(f:dp->Wd×Value)(y:∀e,(f e).1=e.name)(h:e.name ∉ told.map dp.name):qv (told.map f) e.name (f e).2=(told++[e]).map f:=by
 unfold qv;rw[bd.2,aR,aZ,bi]
 .have:(e.name,(f e).2)=f e:=by rw[<-y e]
  rw[this]
 .intro p O;obtain⟨x,U,rfl⟩:=aP.1 O;simp only[bne_iff_ne,ne_eq,y];intro W;exact h (aP.2 ⟨x,U,W⟩)
theorem du.oA{w':World}(h:w.grownBy w' (some B)):du (· = B) w w':=⟨h.os,h.tape,h.output,h.size,λk y O=>h.block k y (λe=>O (by simpa using e))⟩
theorem OJ(Bx W:Nat)(told:List dp)(e:dp)(at_:Int)(w:World)(hx:w.heap[Bx]?=some (.cells #[.map (some W)] 85 (0,0)))(hs:eh w W told)(hn:e.name ∉ told.map dp.name)(hl:told.length<1099511627776)(ab:e.name.length<=bp) :
  bq prog 130 #[.int .i64 at_,.string ⟨e.name.toArray⟩,qI e,.pointer (some ⟨Bx,0,none⟩)] w λen w'=>en=.returned (.tuple #[])/\eh w' W (told++[e])/\du (· = W) w w':=by
 have ag:=eT hx;have hc:w.cell? ⟨Bx,0,none⟩=some (.map (some W)):=by rw[dh hx]; rfl
 have U:=IR told e ji (λ_=>rfl) hn;obtain⟨w0,Y⟩:∃w0,w.alloc (.cells #[.bool e.gone,.string ⟨(tY e).toArray⟩,.string ⟨e.text.toArray⟩,.int .i64 e.dq,.int .i64 e.dB] 111)=w0:=⟨_,rfl⟩;have O:Below w.heap.size w w0:=by rw[<-Y]; exact(b2 _ _).alloc (bj _) _
 have aa:eh w0 W told:=dL.below hs O;have y:w0.heap[w.heap.size]?=some (.cells #[.bool e.gone,.string ⟨(tY e).toArray⟩,.string ⟨e.text.toArray⟩,.int .i64 e.dq,.int .i64 e.dB] 111 (0,0)):=by rw[<-Y]; exact br w _
 have d0:w0.cell? ⟨w.heap.size,0,none⟩=some (.bool e.gone):=by rw[dh y]; rfl
 have d1:w0.cell? ⟨w.heap.size,1,none⟩=some (.string ⟨(tY e).toArray⟩):=by rw[dh y]; rfl
 have d2:w0.cell? ⟨w.heap.size,2,none⟩=some (.string ⟨e.text.toArray⟩):=by rw[dh y]; rfl
 have d3:w0.cell? ⟨w.heap.size,3,none⟩=some (.int .i64 e.dq):=by rw[dh y]; rfl
 have d4:w0.cell? ⟨w.heap.size,4,none⟩=some (.int .i64 e.dB):=by rw[dh y]; rfl
 have ah:=bs O hc;have ac:bz _:=O;have ad:bz _:=aa;have HP:bz _:=U;clear hx hs hn y hc O aa U;unfold qI;go_enter func130,ntmps130;go_wp2_with (first|(at_mapUpdate; refine jr _ rfl _ _ _ 85 rfl 111 b6 b7 rfl ad.out (by rw[aN]; unfold bp; omega) e.name ab rfl (qI e) rfl ?_; intro w1 ae af ai));go_end0;refine⟨rfl,?_,?_⟩
 .unfold eh;rw[<-HP.out];exact ae
 .exact(du.fC ac.out).then (du.oA af)
end
section
open Go.RowKit Go.Maps
theorem Cu{nm r:Wd}{y:dp×Wd}(h:jV nm r=some y):∃tx wt tg O,y=(⟨nm,false,tx,wt,tg⟩,O)/\tx.length<256/\O.length<=r.length:=by
 have h0:=h;unfold jV at h;obtain⟨x,U,h⟩:=b4.1 h;split at h
 .obtain⟨z,W,h⟩:=b4.1 h;split at h
  .obtain⟨u,Y,h⟩:=b4.1 h;simp only[Option.some.injEq]at h;subst h;obtain⟨g1,g2⟩:=ik U;refine⟨_,_,_,_,rfl,g2,?_⟩;have g3:=(jM W).1;have g4:=(gV Y).1;rw[g1,g3,g4];simp;omega
  .simp at h
 .simp at h
end
section
open Go.RowKit Go.Maps
theorem QY(a b:Wd):(⟨a.toArray⟩:ByteArray)++⟨b.toArray⟩=⟨(a++b).toArray⟩:=by
 apply ByteArray.ext;simp
end
section
open Go.RowKit Go.Maps
theorem Iw(p:Addr)(w:World) :
  CallsD prog 210 #[.pointer (some p)] .returning w λe O w'=>e=.returned (.tuple #[])/\O=.returning/\w'=w:=by
 refine callsD_of_wpS func210 rfl λy cs U=>?_;apply wpS_seq;apply wpS_region;simp[wpOpsS,go_sem,recoverD,U,ntmps210,Exit.thenS];refine wpS_of_wp ?_;change Code.wp _ _ _ {tmps:=#[.pointer (some p),.nilIface,undef,undef,.nilIface,undef,undef,undef,undef,undef,undef,undef,undef,undef,undef],defers:=[]} _;go_wp2;cases y;simp_all [bodyPostS,bx,results210]
end
section
open Go.RowKit Go.Maps
variable {fs rst:List dp} {r:Nat}
theorem tI(es:List dp)(e:dp)(v:Value)(y:v=qI e):qv (es.map ji) e.name v=(dH es [e]).map ji:=by
 subst y;unfold qv dH;rw[aR,List.filter_map]
 have:(es.filter ((λp=>p.1 != e.name) ∘ ji))=es.filter (jf [e]):=by
  refine List.filter_congr λx _=>?_;rw[Bool.eq_iff_iff,ia];simp[names,ji]
 rw[this];rfl
theorem eh.perm{w:World}{B:Nat}{es:List dp}(h:eh w B es)(y:es.Perm fs):eh w B fs:=dL.perm h (y.map ji)
theorem eh.nodup{w:World}{B:Nat}{es:List dp}(h:eh w B es):(es.map dp.name).Nodup:=by
 have:=dL.nodup h;rw[List.map_map]at this;exact this
theorem Pz(B:Nat)(es:List dp)(e:dp)(w:World)(hs:eh w B es)(hg:e.gone=false)(hl:es.length<1099511627776)(Y:e.name.length<=bp) :
  bq prog 72 #[.map (some B),zA e] w λen w'=>en=.returned (.tuple #[])/\eh w' B (dH es [e])/\du (· = B) w w':=by
 obtain⟨nm,gn,tx,wt,tg⟩:=e;simp only at hg;subst hg;have O:=tI es ⟨nm,false,tx,wt,tg⟩ (.agg #[.bool false,.string ⟨nm.toArray⟩,.string ⟨tx.toArray⟩,.int .i64 wt,.int .i64 tg]) rfl;obtain⟨w0,W⟩:∃w0,w.alloc (.cells #[.string ⟨nm.toArray⟩,.string ⟨tx.toArray⟩,.int .i64 wt,.int .i64 tg] 96)=w0:=⟨_,rfl⟩;have U:Below w.heap.size w w0:=by rw[<-W]; exact(b2 _ _).alloc (bj _) _
 have y:w0.heap[w.heap.size]?=some (.cells #[.string ⟨nm.toArray⟩,.string ⟨tx.toArray⟩,.int .i64 wt,.int .i64 tg] 96 (0,0)):=by rw[<-W]; exact br w _
 have d0:w0.cell? ⟨w.heap.size,0,none⟩=some (.string ⟨nm.toArray⟩):=by rw[dh y]; rfl
 have d1:w0.cell? ⟨w.heap.size,1,none⟩=some (.string ⟨tx.toArray⟩):=by rw[dh y]; rfl
 have d2:w0.cell? ⟨w.heap.size,2,none⟩=some (.int .i64 wt):=by rw[dh y]; rfl
 have d3:w0.cell? ⟨w.heap.size,3,none⟩=some (.int .i64 tg):=by rw[dh y]; rfl
 have aa:bz _:=U;have ab:bz (eh w0 B es):=dL.below hs U;have HP:bz _:=O;clear hs y U O;unfold zA;go_enter func72,ntmps72;go_wp2_with (first|(at_mapUpdate; refine jr _ rfl _ _ _ 85 rfl 111 b6 b7 rfl ab.out (by rw[aN]; unfold bp; omega) nm Y rfl _ rfl ?_; intro w1 ac ad ae));go_end0;refine⟨rfl,?_,(du.fC aa.out).then (du.oA ad)⟩;unfold eh;rw[<-HP.out];exact ac
theorem Ck(B:Nat)(es:List dp)(nm:Wd)(w:World)(hs:eh w B es)(hl:es.length<1099511627776)(O:nm.length<=bp) :
  bq prog 71 #[.map (some B),.string ⟨nm.toArray⟩] w λen w'=>en=.returned (.tuple #[])/\eh w' B (dH es [⟨nm,true,[],0,0⟩])/\du (· = B) w w':=by
 have y:=tI es ⟨nm,true,[],0,0⟩ (.agg #[.bool true,.string ⟨#[]⟩,.string ⟨#[]⟩,.int .i64 0,.int _ 0]) rfl;have U:bz _:=hs;have HP:bz _:=y;go_enter func71,ntmps71;go_wp2_with (first|(refine jr _ rfl _ _ _ 85 rfl _ b6 b7 rfl U.out (by rw[aN]; unfold bp; omega) nm O rfl _ rfl ?_; intro w1 W Y aa));go_end0;refine⟨rfl,?_,du.oA Y⟩;unfold eh;rw[<-HP.out];exact W
def lM(w:World)(B r:Nat)(es rst:List dp):Prop:=eu prog 9 w B r (es.map ji) (rst.map ji)
theorem eu.perm{P:Program}{k:bt}{w:World}{B:Nat}{l a b:List (Wd×Value)}(h:eu P k w B r l a)(y:a.Perm b):eu P k w B r l b:=by
 obtain⟨O,U,D,left,cnt,W,Y,h5⟩:=h;exact⟨(y.map _).nodup_iff.1 O,λp hm=>U p (y.mem_iff.2 hm),D,left,cnt,W,Y,λx=>by rw[h5 x,Et y]⟩
theorem PC{p:Wd×Value}{left:List (Wd×Value)}(h:(rst.map ji).Perm (p::left)):∃e y,p=ji e/\left.Perm (y.map ji)/\rst.Perm (e::y):=by
 have hm:=h.mem_iff.2 (aQ ..);obtain⟨e,O,rfl⟩:=aP.1 hm;obtain⟨a,b,rfl⟩:=List.append_of_mem O;refine⟨e,a++b,rfl,?_,bg⟩
 have U:((a++e::b).map ji).Perm (ji e::(a++b).map ji):=by
  exact bg.map _
 exact(h.symm.trans U).cons_inv
section
variable {B:Nat} {es:List dp} (w:World) {ops:Array Oper} {rest:List Oper} {o:Oper} {a:Act} {Q:Exit->Act->World->Prop}
theorem jO(O:o.guard=none)(m:Operand)(y:o.op=Op.range 85 m)(hm:a.eval m=.map (some B))(h:eh w B es)
  (U:∀w',lM w' B w.heap.size es es->w.grownBy w' none->w'.heap.size=w.heap.size+1->bu prog ops Q rest (a.put o.dst (.pointer (some ⟨w.heap.size,0,none⟩))) w') :
  bu prog ops Q (o::rest) a w:=
 zY w O m 85 y _ b6 b7 hm h U
theorem kP(hg:o.guard=none)(it:Operand)(U:o.op=Op.next it false)(r:Nat)(rst:List dp)
  (W:a.eval it=.pointer (some ⟨r,0,none⟩)) (h:lM w B r es rst)
  (O:rst=[]->bu prog ops Q rest (a.put o.dst (.tuple #[.bool false])) w)
  (hMore:∀(e:dp)(y:List dp)(w':World),rst.Perm (e::y)->lM w' B r es y->w'.rangeLeft B r<w.rangeLeft B r->w.grownBy w' (some r)->w'.heap.size=w.heap.size->
    (Instr.entry (.pointer (some ⟨r,0,none⟩))).run prog w'=.ok (.tuple #[.string ⟨e.name.toArray⟩,.agg #[.bool e.gone,.string ⟨(tY e).toArray⟩,.string ⟨e.text.toArray⟩,.int .i64 e.dq,.int .i64 e.dB]]) w'->
    bu prog ops Q rest (a.put o.dst (.tuple #[.bool true,.string ⟨e.name.toArray⟩,.agg #[.bool e.gone,.string ⟨(tY e).toArray⟩,.string ⟨e.text.toArray⟩,.int .i64 e.dq,.int .i64 e.dB]])) w') :
  bu prog ops Q (o::rest) a w:=by
 refine CL w hg it U b6 r _ W h (λh0=>O (by simpa using h0)) ?_;intro p Y w' hp hr aa ab ac ad;obtain⟨e,y,rfl,h1,h2⟩:=PC hp;exact hMore e y w' h2 (hr.perm h1) aa ab ac ad
end
theorem lM.alloc{w:World}{B:Nat}{es:List dp}(h:lM w B r es rst)(o:Obj):lM (w.alloc o) B r es rst:=eu.kept h (bB w o none) (by simp) (by simp)
theorem iP{w:World}{B:Nat}{o:Obj}(y:B<w.heap.size)(O:r<w.heap.size):(w.alloc o).rangeLeft B r=w.rangeLeft B r:=
 eu.jA (b3 _ _ _ y) (b3 _ _ _ O)
theorem lO{w0 w w':World}(h:Below w0.heap.size w0 w)(y:w.grownBy w' (some r))(O:w0.heap.size<=r):Below w0.heap.size w0 w':=h.grown y h.size (λk U=>by cases U; exact O)
def iV(es:List dp):Nat:=(es.filter λe=>e.gone).length
theorem yR(es:List dp)(e:dp):iV (es++[e])=iV es+(if e.gone then 1 else 0):=by
 unfold iV;cases h:e.gone<;>simp[h]
theorem EY(es:List dp):iV es<=es.length:=List.length_filter_le ..
theorem ID{es:List dp}(h:es.Perm fs):iV es=iV fs:=(h.filter _).length_eq
theorem ja{O y es:List dp}{e:dp}(h:(O++rst).Perm es)(U:rst.Perm (e::y)):((O++[e])++y).Perm es:=by
 refine List.Perm.trans ?_ h;rw[aU];exact(bD O).append U.symm
theorem AE(B:Nat)(es:List dp)(w:World)(hs:eh w B es)(hl:es.length<1099511627776) :
  bq prog 70 #[.map (some B)] w λen w'=>en=.returned (.int .i64 (iV es))/\Below w.heap.size w w':=by
 have HS:bz (eh w B es):=hs;have ai:=dL.lt hs;clear hs;go_enter func70,ntmps70;go_wp2_with (first|(at_range; refine jO _ rfl _ rfl rfl HS.out ?_; intro w0 hrg0 hg0 aj));go_frame;go_loopw [3] (λg wr=>∃(y rst:List dp),(y++rst).Perm es/\g=.int .i64 (iV y)/\lM wr B w.heap.size es rst/\Below w.heap.size w wr) (λ_ wr=>wr.rangeLeft B w.heap.size)
 case atStart=>exact⟨[],es,bD _,rfl,hrg0,(b2 _ w).grown hg0 (bj _) (λk hk=>by cases hk)⟩
 case round=>
  obtain⟨y,rst,eA,rfl,hr,hb⟩:=hrel;have HP:bz ((y++rst).Perm es):=eA;have HR:bz (lM wr B w.heap.size es rst):=hr;have HB:bz (Below w.heap.size w wr):=hb
  have ak:iV y<=es.length:=by
   have h1:=EY y;have h2:=eA.length_eq;rw[aO]at h2;omega
  clear eA hr hb;go_wp2_with (first|(at_next; refine kP _ rfl _ rfl w.heap.size rst rfl HR.out ?_ ?_))
  .intro h0
   have HE:bz (iV y=iV es):=by
    show _=_;refine ID ?_;have:=HP.out;rw[h0,aM]at this;exact this
   clear h0;go_wp2;go_ret;exact⟨eQ (by rw[HE.out]),HB.out⟩
  .intro e O w1 Y U W aa ab al;have ac:=eu.lt U;have ad:=dL.lt (eu.owns U);have ae:bz (Below w.heap.size w w1):=lO HB.out aa (bj _);have af:bz (lM w1 B w.heap.size es O):=U;have ag:bz (w1.rangeLeft B w.heap.size<wr.rangeLeft B w.heap.size):=W;have ah:bz (rst.Perm (e::O)):=Y;clear Y U W aa;obtain⟨nm,gn,tx,wt,tg⟩:=e
   cases gn with
   |false=>
    go_wp2;go_roundw
    case rel=>
     refine⟨y++[⟨nm,false,tx,wt,tg⟩],O,ja HP.out ah.out,?_,af.out.alloc _,ae.out.alloc (bl HB.out.size (by rw[ab]; exact bj _)) _⟩;rw[yR];simp
    case measure=>
     rw[iP ad ac];exact ag.out
   |true=>
    go_wp2;go_roundw
    case rel=>
     refine⟨y++[⟨nm,true,tx,wt,tg⟩],O,ja HP.out ah.out,?_,af.out.alloc _,ae.out.alloc (bl HB.out.size (by rw[ab]; exact bj _)) _⟩;rw[yR];go_num
    case measure=>
     rw[iP ad ac];exact ag.out
end
section
open Go.RowKit Go.Maps
variable {e:dp} {l:List dp}
theorem FP(h:e.name ∉ l.map dp.name):dH l [e]=l++[e]:=by
 unfold dH;rw[bd.2];intro x y;rw[ia];simp only[names,aZ,bi,be];intro O;exact h (aP.2 ⟨x,y,O⟩)
theorem Dv{y rst O es:List dp}(Y:(es.map dp.name).Nodup)(h:(y++rst).Perm es)(hp:rst.Perm (e::O)):e.name ∉ y.map dp.name:=by
 have h1:=ja h hp;have U:=(h1.map _).nodup_iff.2 Y;rw[aR,aR,bf]at U;have W:=U.1;rw[bf]at W;intro hm;exact W.2.2 _ hm _ (by simp) rfl
theorem vH(l:List dp)(e:dp):dw (l++[e])=dw l++(if e.gone then []else [e]):=by
 unfold dw;cases h:e.gone<;>simp[h]
theorem BM{x:Wd}(h:x ∉ l.map dp.name):x ∉ (dw l).map dp.name:=by
 intro hm;obtain⟨e,y,rfl⟩:=aP.1 hm;exact h (aP.2 ⟨e,(aY.1 y).1,rfl⟩)
theorem qC(B:Nat)(es:List dp)(w:World)(hs:eh w B es)(hl:es.length<1099511627776)(ai:∀e∈es,e.name.length<=bp) :
  bq prog 60 #[.map (some B)] w λen w'=>∃C,en=.returned (.map (some C))/\w.heap.size<=C/\eh w' C (dw es)/\Below w.heap.size w w':=by
 have a5:=@b1 prog;have aj:=hs.nodup;obtain⟨w0,ae⟩:∃w0,w.alloc (.map #[] 0)=w0:=⟨_,rfl⟩;have au:w0.heap.size=w.heap.size+1:=by rw[<-ae]; simp
 have hb0:Below w.heap.size w w0:=by rw[<-ae]; exact(b2 _ _).alloc (bj _) _
 have hM0:eh w0 w.heap.size []:=by rw[<-ae]; exact dL.made w
 have HS:bz (eh w0 B es):=dL.below hs hb0;have av:bz ((es.map dp.name).Nodup):=aj;have aw:bz (∀e∈es,e.name.length<=bp):=ai;have a6:=dL.lt hs;clear hs aj ai;go_enter func60,ntmps60;go_wp2_with (first|(at_range; refine jO _ rfl _ rfl rfl HS.out ?_; intro w1 hrg0 hg0 ax));rw[au]at hrg0 ax⊢;go_frame;go_loopw [4] (λ_ wr=>∃(y rst:List dp),(y++rst).Perm es/\lM wr B (w.heap.size+1) es rst/\eh wr w.heap.size (dw y)/\Below w.heap.size w wr) (λ_ wr=>wr.rangeLeft B (w.heap.size+1))
 case atStart=>exact⟨[],es,bD _,hrg0,dL.kept hM0 hg0 (by simp),hb0.grown hg0 hb0.size (λk hk=>by cases hk)⟩
 case round=>
  obtain⟨y,rst,eA,hr,hm,hb⟩:=hrel;have HP:bz ((y++rst).Perm es):=eA;have HR:bz (lM wr B (w.heap.size+1) es rst):=hr;have HM:bz (eh wr w.heap.size (dw y)):=hm;have HB:bz (Below w.heap.size w wr):=hb
  have a7:(dw y).length<=es.length:=by
   have h1:=oE y;have h2:=eA.length_eq;rw[aO]at h2;omega
  clear eA hr hb hm;go_wp2_with (first|(at_next; refine kP _ rfl _ rfl (w.heap.size+1) rst rfl HR.out ?_ ?_))
  .intro h0
   have HE:bz (y.Perm es):=by
    show List.Perm _ _;have:=HP.out;rw[h0,aM]at this;exact this
   clear h0;go_wp2;go_ret;exact⟨_,rfl,bj _,HM.out.perm (ve HE.out),HB.out⟩
  .intro e O w2 W Y ac af ay a8;have ak:=eu.lt Y;have al:=dL.lt (eu.owns Y);have ag:bz (Below w.heap.size w w2):=lO HB.out af (by omega);have am:bz (lM w2 B (w.heap.size+1) es O):=Y;have an:bz (w2.rangeLeft B (w.heap.size+1)<wr.rangeLeft B (w.heap.size+1)):=ac;have ao:bz (rst.Perm (e::O)):=W;have ap:bz (eh w2 w.heap.size (dw y)):=dL.kept HM.out af (by simp);have az:e.name.length<=bp:=aw.out e (HP.out.mem_iff.1 (bc _ (W.mem_iff.2 (aQ ..))));have ad:=Dv av.out HP.out W;have U:=tI (dw y) e (.agg #[.bool e.gone,.string ⟨(tY e).toArray⟩,.string ⟨e.text.toArray⟩,.int .i64 e.dq,.int .i64 e.dB]) rfl;rw[FP (BM ad)]at U;have aa:=vH y e;clear W Y ac af ad;obtain⟨nm,gn,tx,wt,tg⟩:=e
   cases gn with
   |true=>
    have ah:bz (dw (y++[⟨nm,true,tx,wt,tg⟩])=dw y):=by show _=_; rw[aa]; simp
    clear aa U;go_wp2;go_roundw
    case rel=>
     exact⟨y++[⟨nm,true,tx,wt,tg⟩],O,ja HP.out ao.out,am.out.alloc _,by rw[ah.out]; exact dL.kept ap.out (bB _ _ none) (by simp),ag.out.alloc (bl HB.out.size (by rw[ay]; exact bj _)) _⟩
    case measure=>
     rw[iP al ak];exact an.out
   |false=>
    have ah:bz (dw (y++[⟨nm,false,tx,wt,tg⟩])=dw y++[⟨nm,false,tx,wt,tg⟩]):=by show _=_; rw[aa]; simp
    have aq:bz (qv ((dw y).map ji) nm (.agg #[.bool false,.string ⟨(tY (⟨nm,false,tx,wt,tg⟩:dp)).toArray⟩,.string ⟨tx.toArray⟩,.int .i64 wt,.int .i64 tg])=(dw y++[(⟨nm,false,tx,wt,tg⟩:dp)]).map ji):=U;clear aa U;have ar:=λo:Obj=>dL.kept ap.out (bB w2 o none) (by simp);have a0:bz (∀o:Obj,dL prog 9 (w2.alloc o) w.heap.size ((dw y).map ji)):=ar;clear ar;go_wp2_with (first|(at_mapUpdate; refine jr _ rfl _ _ _ 85 rfl 111 b6 b7 rfl (a0.out _) (by rw[aN]; unfold bp; omega) nm az rfl (.agg #[.bool false,.string ⟨(tY (⟨nm,false,tx,wt,tg⟩:dp)).toArray⟩,.string ⟨tx.toArray⟩,.int .i64 wt,.int .i64 tg]) rfl ?_; intro w3 a3 ab a9));have a4:w.heap.size<=w2.heap.size:=ag.out.size;refine⟨⟨y++[⟨nm,false,tx,wt,tg⟩],O,ja HP.out ao.out,eu.kept (am.out.alloc _) ab (by simp; omega) (by simp),?_,(ag.out.alloc a4 _).grown ab (by simp; omega) (λk hk=>by cases hk; exact bj _)⟩,?_⟩
    .rw[ah.out];unfold eh;rw[<-aq.out];exact a3
    .rw[eu.jA (ab.block B (by simp; omega) (by simp; omega)) (ab.block (w.heap.size+1) (by simp; omega) (by simp)),iP al ak];exact an.out
theorem Ml(B C:Nat)(ds es:List dp)(w:World)(hd:eh w B ds)(hs:eh w C es)(ax:B≠C)(hl:es.length<549755813888)(ay:ds.length<549755813888)(af:∀e∈es,e.name.length<=bp) :
  bq prog 89 #[.map (some B),.map (some C)] w λen w'=>en=.returned (.tuple #[])/\eh w' B (dH ds es)/\du (· = B) w w':=by
 have ag:=hs.nodup;have HS:bz (eh w C es):=hs;have HD:bz (eh w B ds):=hd;have aj:bz ((es.map dp.name).Nodup):=ag;have ak:bz (∀e∈es,e.name.length<=bp):=af;have az:=dL.lt hd;have a0:=dL.lt hs;clear hs hd ag af;go_enter func89,ntmps89;go_wp2_with (first|(at_range; refine jO _ rfl _ rfl rfl HS.out ?_; intro w1 hrg0 O a3));go_frame;go_loopw [4] (λ_ wr=>∃(y rst:List dp),(y++rst).Perm es/\lM wr C w.heap.size es rst/\eh wr B (dH ds y)/\du (· = B) w wr) (λ_ wr=>wr.rangeLeft C w.heap.size)
 case atStart=>exact⟨[],es,bD _,hrg0,by rw[oT]; exact dL.kept HD.out O (by simp),⟨O.os,O.tape,O.output,O.size,λk hk _=>O.block k hk (by simp)⟩⟩
 case round=>
  obtain⟨y,rst,eA,hr,hm,hb⟩:=hrel;have HP:bz ((y++rst).Perm es):=eA;have HR:bz (lM wr C w.heap.size es rst):=hr;have HM:bz (eh wr B (dH ds y)):=hm;have HB:bz (du (· = B) w wr):=hb
  have a4:(dH ds y).length<=1099511627775:=by
   have h1:=Ay ds y;have h2:=eA.length_eq;rw[aO]at h2;omega
  clear eA hr hb hm;go_wp2_with (first|(at_next; refine kP _ rfl _ rfl w.heap.size rst rfl HR.out ?_ ?_))
  .intro h0
   have HE:bz (y.Perm es):=by
    show List.Perm _ _;have:=HP.out;rw[h0,aM]at this;exact this
   clear h0;go_wp2;go_end0;exact⟨rfl,HM.out.perm (Lp (bD _) HE.out),HB.out⟩
  .intro e U w2 Y aa ac ae a5 a6;have al:=eu.lt aa;have am:=dL.lt (eu.owns aa);have a7:=HB.out.size;have an:bz (du (· = B) w w2):=HB.out.trans (du.oA ae) (λi hi hg=>by omega);have ao:bz (lM w2 C w.heap.size es U):=aa;have ap:bz (w2.rangeLeft C w.heap.size<wr.rangeLeft C w.heap.size):=ac;have aq:bz (rst.Perm (e::U)):=Y;have ah:bz (eh w2 B (dH ds y)):=dL.kept HM.out ae (by simp; omega);have ar:e.name.length<=bp:=ak.out e (HP.out.mem_iff.1 (bc _ (Y.mem_iff.2 (aQ ..))));have ad:=Dv aj.out HP.out Y;have W:=tI (dH ds y) e (.agg #[.bool e.gone,.string ⟨(tY e).toArray⟩,.string ⟨e.text.toArray⟩,.int .i64 e.dq,.int .i64 e.dB]) rfl;rw[pX,FP ad]at W;have ai:bz (qv ((dH ds y).map ji) e.name (.agg #[.bool e.gone,.string ⟨(tY e).toArray⟩,.string ⟨e.text.toArray⟩,.int .i64 e.dq,.int .i64 e.dB])=(dH ds (y++[e])).map ji):=W;have au:bz (∀o:Obj,dL prog 9 (w2.alloc o) B ((dH ds y).map ji)):=λo=>dL.kept ah.out (bB w2 o none) (by simp);clear Y aa ac ae ad W;go_wp2_with (first|(at_mapUpdate; refine jr _ rfl _ _ _ 85 rfl 111 b6 b7 rfl (au.out _) (by rw[aN]; unfold bp; omega) e.name ar rfl (.agg #[.bool e.gone,.string ⟨(tY e).toArray⟩,.string ⟨e.text.toArray⟩,.int .i64 e.dq,.int .i64 e.dB]) rfl ?_; intro w3 av ab a8));have aw:=dL.lt ah.out;refine⟨⟨_,_,_,_,_,_,_,_,_,_,⟨y++[e],U,ja HP.out aq.out,eu.kept (ao.out.alloc _) ab (by simp; omega) (by simp; omega),?_,(an.out.then (du.fC ((b2 _ _).alloc (bj _) _))).then (du.oA ab)⟩,rfl⟩,?_⟩
   .unfold eh;rw[<-ai.out];exact av
   .rw[eu.jA (ab.block C (by simp; omega) (by simp; omega)) (ab.block _ (by simp; omega) (by simp; omega)),iP am al];exact ap.out
end
section
open Go.RowKit Go.Maps
def Told(e:dp):Prop:=e.name.length<=255/\e.text.length<=255/\(e.gone=false->0<=e.dB/\e.dB<=255)
structure Ds where
 fn:FuncId
 cp:Array Value
 own:Nat->Prop
 OM:Nat->Prop
 T:World->List (Nat×dp)->Prop
def Ds.v(t:Ds):Value:=.func (.func t.fn) #[] t.cp
structure Ds.Ok(t:Ds)(mx:Nat):Prop where
 gH:∃gH c,prog.funcs[t.fn]?=some gH/\gH.body=some c/\(gH.name == "runtime.NumGoroutine")=false
 sub:∀k,t.own k->t.OM k
 lt:∀{w told k},t.T w told->t.OM k->k<w.heap.size
 stay:∀{w w' told},t.T w told->(∀k,t.OM k->w'.heap[k]?=w.heap[k]?)->t.T w' told
 tell:∀(w:World)(q:Nat)(told:List (Nat×dp))(e:dp),t.T w told->e.name ∉ (sn told).map dp.name->told.length<1099511627776->Told e->q<=mx->
  bq prog t.fn (#[.int .i64 (q:Int),.string ⟨e.name.toArray⟩,qI e]++t.cp) w λen w'=>en=.returned (.tuple #[])/\t.T w' (told++[(q,e)])/\du t.own w w'
structure RG(w:World)(Rb Mk:Nat)(t:Ds)(S:ByteArray)(rest:Wd)(told:List (Nat×dp)):Prop where
 rd:GX w Rb S rest Mk t.v
 kn:dL prog 9 w Mk ((sn told).map Ph)
 sd:t.T w told
 qi:told.length+rest.length<=S.size
 ne:∀k,t.OM k->k≠Rb/\k≠Mk
def r8(Rb Mk:Nat)(t:Ds)(k:Nat):Prop:=k=Rb\/k=Mk\/t.own k
section
variable {w w':World} {Rb Mk mx:Nat} {t:Ds} {S:ByteArray} {rest r:Wd} {told:List (Nat×dp)}
theorem RG.mr(h:RG w Rb Mk t S rest told):Mk≠Rb:=by
 obtain⟨p,y,_⟩:=h.rd;exact h.kn.nC y
theorem RG.turn(y:t.Ok mx)(h:RG w Rb Mk t S rest told)(O:du (· = Rb) w w')(W:GX w' Rb S r Mk t.v)(Y:r.length<=rest.length):RG w' Rb Mk t S r told:=
 ⟨W,h.kn.stay (O.block _ h.kn.lt h.mr),y.stay h.sd λk U=>O.block k (y.lt h.sd U) (h.ne k U).1,by have:=h.qi; omega,h.ne⟩
theorem RG.below(y:t.Ok mx)(h:RG w Rb Mk t S rest told)(hb:Below w.heap.size w w'):RG w' Rb Mk t S rest told:=by
 obtain⟨p,O,U⟩:=h.rd;exact⟨⟨p,by unfold Ao at *; rw[hb.block Rb (eT O)]; exact O,U⟩,h.kn.below hb,y.stay h.sd λk W=>hb.block k (y.lt h.sd W),h.qi,h.ne⟩
theorem RG.pos(h:RG w Rb Mk t S rest told):w.cell? ⟨Rb,1,none⟩=some (.int .i64 ((S.size-rest.length:Nat):Int)):=by
 obtain⟨p,y,O,rfl⟩:=h.rd;rw[dh y];have e:S.size-(S.data.toList.drop p).length=p:=by simp; omega
 rw[e];rfl
end
theorem ql{Rb Mk mx:Nat}{t:Ds}{S:ByteArray}{rest:Wd}{told:List (Nat×dp)}{last nm r:Wd}{w:World}(hT:t.Ok mx)(h:RG w Rb Mk t S rest told)(hS:S.size<=1099511627775)(O:mZ ((sn told).map dp.name) last rest=some (nm,r)) :
  bq prog 234 #[.pointer (some ⟨Rb,0,none⟩),.string ⟨last.toArray⟩] w λe w'=>e=.returned (.string ⟨nm.toArray⟩)/\RG w' Rb Mk t S r told/\du (· = Rb) w w':=by
 have ht:=tU Rb S rest Mk t.v w h.rd (by omega);have HR:bz _:=h;rw[Kb]at O;clear h
 cases Y:j5 rest with
 |none=>rw[Y]at O; cases O
 |some x=>
  obtain⟨ai,r'⟩:=x;rw[Y]at ht O;simp only[b5]at O;split at O
  .rename_i hc;cases O;obtain⟨aa,W,hk⟩:=hc;obtain⟨y,ah⟩:=ik Y;have ab:r.length<=rest.length:=by rw[y]; simp
   clear Y y;have ac:(⟨nm.toArray⟩:ByteArray).size<=bp:=by show nm.toArray.size<=bp; unfold bp; simp; omega
   have ad:nm.length<=bp:=by unfold bp; omega
   have ae:bF (⟨last.toArray⟩:ByteArray).toList (⟨nm.toArray⟩:ByteArray).toList=true:=by rw[ByteArray.toList_eq,ByteArray.toList_eq]; exact W
   have HT:bz _:=hT;clear hT;go_enter func234,ntmps234;go_wp2_with fail;refine ht.mono ?_;rintro e w1 ⟨g1,rfl,g2,g3⟩;have U:bz (RG w1 Rb Mk t S r told):=HR.out.turn HT.out g1 g2 ab;have af:bz _:=g1;clear g1 g2 g3 ht;go_wp2_with fail;refine(qT _ _ ac).mono ?_;rintro e w' ⟨rfl,rfl⟩;rw[show iL (⟨nm.toArray⟩:ByteArray).data.toList=true from aa];clear ae;go_wp2_with fail;rw[SO,W];refine(gh _).mono ?_;rintro e w' ⟨rfl,rfl⟩
   have aj:w1.cell? ⟨Rb,2,none⟩=some (.map (some Mk)):=by
    obtain⟨p,h1,_⟩:=U.out.rd;rw[dh h1]; rfl
   have ag:=(U.out.kn.look b6 b8 (Pg w1) nm ad).2;rw[KI,La,decide_eq_false hk]at ag;go_wp2_with fail;refine(gh _).mono ?_;rintro e w' ⟨rfl,rfl⟩;go_wp2;go_ret;have hb:=(b2 _ w1).alloc (bj _) (.cells #[] 263);exact⟨rfl,U.out.below HT.out hb,af.out.then (du.fC hb)⟩
  .cases O
end
section
open Go.RowKit Go.Maps
variable {S:ByteArray} {told:List (Nat×dp)} {Mk Rb mx:Nat} {t:Ds} {nm r3 rest:Wd} {w:World}
theorem RG.TU{w':World}{b:Nat}{cs:Array Value}{W:bt}{fz:Nat×Nat}(O:t.Ok mx)(h:RG w Rb Mk t S rest told)(hb:w.heap[b]?=some (.cells cs W fz))(Y:b≠Rb)(h2:∀k,t.OM k->k≠b)(y:du (· = b) w w'):RG w' Rb Mk t S rest told:=by
 obtain⟨p,g1,g2⟩:=h.rd;exact⟨⟨p,by unfold Ao at *; rw[y.block Rb (eT g1) (λe=>Y e.symm)]; exact g1,g2⟩,h.kn.stay (y.block _ h.kn.lt (h.kn.nC hb)),O.stay h.sd λk U=>y.block k (O.lt h.sd U) (h2 k U),h.qi,h.ne⟩
theorem tQ{e:dp}(h:jV nm rest=some (e,r3)):∃tx wt tg r y,j5 rest=some (tx,r)/\(ep tx=true/\tx≠[])/\il r=some (wt,y)/\wt<=1000000/\rdNum y=some (tg,r3)/\e=⟨nm,false,tx,wt,tg⟩:=by
 unfold jV at h;simp only[b4]at h;obtain⟨⟨tx,r⟩,O,h⟩:=h;split at h
 .rename_i U;simp only[b4]at h;obtain⟨⟨wt,y⟩,W,h⟩:=h;split at h
  .rename_i Y;simp only[b4]at h;obtain⟨⟨tg,r4⟩,h3,h⟩:=h;cases h;exact⟨tx,wt,tg,r,y,O,U,W,Y,h3,rfl⟩
  .cases h
 .cases h
theorem GH{en:dp}(hT:t.Ok mx)(h:RG w Rb Mk t S rest told)(hS:S.size<=1099511627775)(hX:jV nm rest=some (en,r3)) :
  bq prog 266 #[.pointer (some ⟨Rb,0,none⟩),.string ⟨nm.toArray⟩] w λe w'=>e=.returned (zA en)/\RG w' Rb Mk t S r3 told/\du (· = Rb) w w':=by
 obtain⟨tx,wt,tg,r,r2,W,hq,Y,ay,aa,rfl⟩:=tQ hX;clear hX;obtain⟨w0,ab⟩:∃w0,w.alloc (.cells #[.string ⟨#[]⟩,.string ⟨#[]⟩,.int .i64 0,.int .i64 0] 96)=w0:=⟨_,rfl⟩;have ac:Below w.heap.size w w0:=by rw[<-ab]; exact(b2 _ _).alloc (bj _) _
 have ad:bz (w0.heap[w.heap.size]?=some (.cells #[.string ⟨#[]⟩,.string ⟨#[]⟩,.int .i64 0,.int .i64 0] 96 (0,0))):=by show _=_; rw[<-ab]; exact br w _
 have ae:bz _:=h.below hT ac;have aj:bz (du (· = Rb) w w0):=du.fC ac
 have az:Rb<w.heap.size:=by
  obtain⟨p,h1,_⟩:=h.rd;exact eT h1
 have HD:bz (∀k,t.OM k->k≠w.heap.size):=λk hk e=>by have:=hT.lt h.sd hk; omega
 have ht:=tU Rb S rest Mk t.v w0 ae.out.rd (by omega);rw[W]at ht;obtain⟨O,ax⟩:=ik W;obtain⟨ak,_⟩:=jM Y;obtain⟨al,_⟩:=gV aa;have ar:r.length<=rest.length:=by rw[O]; simp
 have am:r2.length<=r.length:=by rw[ak]; simp
 have an:r3.length<=r2.length:=by rw[al]; simp
 have HT:bz _:=hT;have HW:bz _:=And.intro Y aa;clear h ac W O ak al Y aa hT;have au:(⟨tx.toArray⟩:ByteArray).size<=bp:=by show tx.toArray.size<=bp; unfold bp; simp; omega
 go_enter func266,ntmps266;go_wp2_with fail;clear ab;refine ht.mono ?_;rintro e w1 ⟨g1,rfl,U,g3⟩;have af:bz _:=ae.out.turn HT.out g1 U ar;have ao:bz (du (· = Rb) w w1):=aj.out.then g1;have ag:bz (w1.heap[w.heap.size]?=some (.cells #[.string ⟨#[]⟩,.string ⟨#[]⟩,.int .i64 0,.int .i64 0] 96 (0,0))):=by show _=_; rw[g1.block _ (eT ad.out) (by show w.heap.size≠Rb; omega)]; exact ad.out
 clear g1 U g3 ht ae aj ad;go_wp2_with fail;refine(pJ _ _ au).mono ?_;rintro e w' ⟨rfl,rfl⟩;rw[show decide (ep (⟨tx.toArray⟩:ByteArray).data.toList=true/\(⟨tx.toArray⟩:ByteArray).data.toList≠[])=true from decide_eq_true hq];clear hq;go_wp2_with fail;refine(gh _).mono ?_;rintro e w' ⟨rfl,rfl⟩;have hw:=yA Rb S r Mk t.v w1 af.out.rd (by omega);rw[HW.out.1]at hw;go_wp2_with fail;refine hw.mono ?_;rintro e w2 ⟨g1,rfl,U,g3⟩;have ah:bz _:=af.out.turn HT.out g1 U am;have ap:bz (du (· = Rb) w w2):=ao.out.then g1;have ai:bz (w2.heap[w.heap.size]?=some (.cells #[.string ⟨#[]⟩,.string ⟨#[]⟩,.int .i64 0,.int .i64 0] 96 (0,0))):=by show _=_; rw[g1.block _ (eT ag.out) (by show w.heap.size≠Rb; omega)]; exact ag.out
 clear g1 U g3 hw af ao ag;have a0:(wt:Int)<=1000000:=by omega
 go_wp2_with fail;refine(gh _).mono ?_;rintro e w' ⟨rfl,rfl⟩;have hn:=nk Rb S r2 Mk t.v w2 ah.out.rd (by omega);rw[HW.out.2]at hn;go_wp2_with fail;refine hn.mono ?_;rintro e w3 ⟨g1,rfl,U,g3⟩;have av:bz _:=ah.out.turn HT.out g1 U an;have aw:bz (du (· = Rb) w w3):=ap.out.then g1;have y:bz (w3.heap[w.heap.size]?=some (.cells #[.string ⟨#[]⟩,.string ⟨#[]⟩,.int .i64 0,.int .i64 0] 96 (0,0))):=by show _=_; rw[g1.block _ (eT ai.out) (by show w.heap.size≠Rb; omega)]; exact ai.out
 clear g1 U g3 hn ah ap ai HW;have e0:w3.cell? ⟨w.heap.size,0,none⟩=some (.string ⟨#[]⟩):=by rw[dh y.out]; rfl
 have e1:w3.cell? ⟨w.heap.size,1,none⟩=some (.string ⟨#[]⟩):=by rw[dh y.out]; rfl
 have e2:w3.cell? ⟨w.heap.size,2,none⟩=some (.int .i64 0):=by rw[dh y.out]; rfl
 have e3:w3.cell? ⟨w.heap.size,3,none⟩=some (.int .i64 0):=by rw[dh y.out]; rfl
 have z0:w3.frozen? ⟨w.heap.size,0,none⟩=false:=dJ y.out 0;have z1:w3.frozen? ⟨w.heap.size,1,none⟩=false:=dJ y.out 1;have z2:w3.frozen? ⟨w.heap.size,2,none⟩=false:=dJ y.out 2;have z3:w3.frozen? ⟨w.heap.size,3,none⟩=false:=dJ y.out 3;go_wp2
 have aq:du (· = w.heap.size) w3 ((((w3.setCell ⟨w.heap.size,0,none⟩ (.string ⟨nm.toArray⟩)).setCell ⟨w.heap.size,1,none⟩ (.string ⟨tx.toArray⟩)).setCell ⟨w.heap.size,2,none⟩ (.int .i64 wt)).setCell ⟨w.heap.size,3,none⟩ (.int .i64 tg)):=
  (((ki (F:=(· = w.heap.size)) rfl).then (ki rfl)).then (ki rfl)).then (ki rfl)
 refine bodyPost_ret (v:=zA ⟨nm,false,tx,wt,tg⟩) (by simp[bx,results266,go_sem,e0,e1,e2,e3,zA]) rfl ⟨rfl,av.out.TU HT.out y.out (by omega) HD.out aq,aw.out.trans aq (λi hi hg=>by omega)⟩
end
section
open Go.RowKit Go.Maps
theorem C9{P:Program}{f:FuncId}{gH:Func}{c:Code}(y:P.funcs[f]?=some gH)(hb:gH.body=some c)(O:(gH.name == "runtime.NumGoroutine")=false) (args:Array Value) (w:World):(callFunc f args).run P w=.ok (.enter f args) w:=by
 show((match P.funcs[f]? with|none=>_|some fn=>_:Sem _)).run P w=_;rw[y];simp only[O,hb,Bool.false_eq_true,if_false,Option.isNone_some];rfl
theorem DX{Rb Mk q mx:Nat}{t:Ds}{S:ByteArray}{rest:Wd}{told:List (Nat×dp)}{e:dp}{w:World}(hT:t.Ok mx)(h:RG w Rb Mk t S rest told)(hS:S.size<=1099511627775)(hm:S.size<=mx)(hn:e.name ∉ (sn told).map dp.name)(ho:Told e)(a6:told.length+1+rest.length<=S.size)(hq:q<=S.size) :
  bq prog 235 #[.pointer (some ⟨Rb,0,none⟩),.int .i64 (q:Int),.string ⟨e.name.toArray⟩,qI e] w λen w'=>en=.returned (.tuple #[])/\RG w' Rb Mk t S rest (told++[(q,e)])/\du (r8 Rb Mk t) w w':=by
 obtain⟨w0,ak⟩:∃w0,w.alloc (.cells #[.bool e.gone,.string ⟨(tY e).toArray⟩,.string ⟨e.text.toArray⟩,.int .i64 e.dq,.int .i64 e.dB] 111)=w0:=⟨_,rfl⟩;have ae:Below w.heap.size w w0:=by rw[<-ak]; exact(b2 _ _).alloc (bj _) _
 have af:w0.heap[w.heap.size]?=some (.cells #[.bool e.gone,.string ⟨(tY e).toArray⟩,.string ⟨e.text.toArray⟩,.int .i64 e.dq,.int .i64 e.dB] 111 (0,0)):=by rw[<-ak]; exact br w _
 have W:=h.below hT ae;have n1:=W.mr;have ab:=W.ne;have ap:∀k,t.OM k->k≠w.heap.size:=λk U e=>by have:=hT.lt h.sd U; omega
 obtain⟨p,hp1,al⟩:=id W.rd;unfold Ao at hp1;have c2:w0.cell? ⟨Rb,2,none⟩=some (.map (some Mk)):=by rw[dh hp1]; rfl
 have aq:Mk≠w.heap.size:=W.kn.nC af;have ad:=IR (sn told) e Ph (λ_=>rfl) hn;have ar:e.name.length<=bp:=by have:=ho.1; unfold bp; omega
 obtain⟨gH,cc,au,av,aw⟩:=hT.gH;have ag:bz _:=W;have ah:bz _:=And.intro hp1 al;have am:bz _:=af;have ax:bz _:=ae;have HP:bz _:=ad;have HN:bz (e.name ∉ (sn told).map dp.name/\Told e/\told.length<1099511627776/\q<=mx):=⟨hn,ho,by omega,by omega⟩;have HT:bz _:=hT;clear h ae af W hp1 al ad hn hT ho;unfold qI;go_enter func235,ntmps235;go_wp2_with (first|(at_mapUpdate; refine jr _ rfl _ _ _ 214 rfl 263 b6 b8 rfl ag.out.kn (by rw[aN,aN]; unfold bp; omega) e.name ar rfl (.agg #[]) rfl ?_; intro w1 an ay a7));have ac:=du.oA ay;have ai:w1.heap[Rb]?=some (.cells #[.string S,.int .i64 p,.map (some Mk),t.v] 216 (0,0)):=by rw[ac.block Rb (eT ah.out.1) (λe=>n1 e.symm)]; exact ah.out.1
 have y:w1.heap[w.heap.size]?=some (.cells #[.bool e.gone,.string ⟨(tY e).toArray⟩,.string ⟨e.text.toArray⟩,.int .i64 e.dq,.int .i64 e.dB] 111 (0,0)):=by rw[ac.block _ (eT am.out) (λe=>aq e.symm)]; exact am.out
 have az:t.T w1 told:=HT.out.stay ag.out.sd λk U=>ac.block k (HT.out.lt ag.out.sd U) (ab k U).2;have c3:w1.cell? ⟨Rb,3,none⟩=some (.func (.func t.fn) #[] t.cp):=by rw[dh ai]; rfl
 have d0:w1.cell? ⟨w.heap.size,0,none⟩=some (.bool e.gone):=by rw[dh y]; rfl
 have d1:w1.cell? ⟨w.heap.size,1,none⟩=some (.string ⟨(tY e).toArray⟩):=by rw[dh y]; rfl
 have d2:w1.cell? ⟨w.heap.size,2,none⟩=some (.string ⟨e.text.toArray⟩):=by rw[dh y]; rfl
 have d3:w1.cell? ⟨w.heap.size,3,none⟩=some (.int .i64 e.dq):=by rw[dh y]; rfl
 have d4:w1.cell? ⟨w.heap.size,4,none⟩=some (.int .i64 e.dB):=by rw[dh y]; rfl
 have a0:bz (∀w2:World,w2.heap=w1.heap->w2.os=w1.os->w2.tape=w1.tape->w2.output=w1.output->bq prog t.fn (#[.int .i64 (q:Int),.string ⟨e.name.toArray⟩,qI e]++t.cp) w2 λen w'=>en=.returned (.tuple #[])/\t.T w' (told++[(q,e)])/\du t.own w1 w'):=by
  intro w2 k1 k2 k3 k4;obtain⟨a1,a2,a3,a4⟩:=HN.out;refine(HT.out.tell w2 q told e (HT.out.stay az λk _=>by rw[k1]) a1 a3 a2 a4).mono ?_;rintro en w' ⟨q1,q2,q3⟩;exact⟨q1,q2,⟨q3.os.trans k2,q3.tape.trans k3,q3.output.trans k4,by have:=q3.size; rw[k1]at this; exact this,λk U hn=>by rw[q3.block k (by rw[k1]; exact U) hn,k1]⟩⟩
 have O:w1.drew.cell? ⟨Rb,3,none⟩=some (.func (.func t.fn) #[] t.cp)/\w1.drew.cell? ⟨w.heap.size,0,none⟩=some (.bool e.gone)/\w1.drew.cell? ⟨w.heap.size,1,none⟩=some (.string ⟨(tY e).toArray⟩)/\w1.drew.cell? ⟨w.heap.size,2,none⟩=some (.string ⟨e.text.toArray⟩)/\w1.drew.cell? ⟨w.heap.size,3,none⟩=some (.int .i64 e.dq)/\w1.drew.cell? ⟨w.heap.size,4,none⟩=some (.int .i64 e.dB):=⟨c3,d0,d1,d2,d3,d4⟩;clear c3 d0 d1 d2 d3 d4;refine bv (S:=λw'=>w'.cell? ⟨Rb,3,none⟩=some (.func (.func t.fn) #[] t.cp)/\w'.cell? ⟨w.heap.size,0,none⟩=some (.bool e.gone)/\w'.cell? ⟨w.heap.size,1,none⟩=some (.string ⟨(tY e).toArray⟩)/\w'.cell? ⟨w.heap.size,2,none⟩=some (.string ⟨e.text.toArray⟩)/\w'.cell? ⟨w.heap.size,3,none⟩=some (.int .i64 e.dq)/\w'.cell? ⟨w.heap.size,4,none⟩=some (.int .i64 e.dB)) (by kernel_rfl) ?_;refine fu 0 ?_ O ?_<|fu 1 ?_ O ?_<|fu 2 ?_ O ?_<|fu 3 ?_ O ?_<|fu 4 ?_ O ?_<|fu 5 ?_ O ?_<|fu 6 ?_ O ?_ ?_
 any_goals(rintro w' ⟨k0,k1,k2,k3,k4,k5⟩; go_simp; first|done|with_reducible rfl)
 refine kY 7 λK' a5=>?_;have aj:=a0.out w1.drew rfl rfl rfl rfl;unfold Oper.wp;go_simp;change Oper.upon _ _ _ _ _ (Sem.run _ (callFunc t.fn _) _);rw[C9 au av aw];refine aj.mono ?_;rintro en w2 ⟨rfl,q2,q3⟩;have Y:∀k,t.own k->k≠Rb/\k≠Mk/\k≠w.heap.size:=λk U=>⟨(ab k (HT.out.sub k U)).1,(ab k (HT.out.sub k U)).2,ap k (HT.out.sub k U)⟩;have ao:w2.heap[Rb]?=some (.cells #[.string S,.int .i64 p,.map (some Mk),t.v] 216 (0,0)):=by rw[q3.block Rb (eT ai) (λe=>(Y _ e).1 rfl)]; exact ai
 have aa:w2.heap[w.heap.size]?=some (.cells #[.bool e.gone,.string ⟨(tY e).toArray⟩,.string ⟨e.text.toArray⟩,.int .i64 e.dq,.int .i64 e.dB] 111 (0,0)):=by rw[q3.block _ (eT y) (λe=>(Y _ e).2.2 rfl)]; exact y
 refine a5 _ _ ⟨⟨by rw[dh ao]; rfl,by rw[dh aa]; rfl,by rw[dh aa]; rfl,by rw[dh aa]; rfl,by rw[dh aa]; rfl,by rw[dh aa]; rfl⟩,wpAnyH_done (by kernel_rfl) ?_ _⟩;go_wp2;go_end0;refine⟨rfl,⟨⟨p,ao,ah.out.2⟩,?_,q2,by simp; omega,ab⟩,?_⟩
 .rw[show sn (told++[(q,e)])=sn told++[e] by simp[sn],<-HP.out];exact dL.stay an (q3.block _ (dL.lt an) λe=>(Y _ e).2.1 rfl)
 .exact((du.fC ax.out).then (ac.mono (λ_ U=>Or.inr (Or.inl U)))).then (q3.mono (λ_ U=>Or.inr (Or.inr U)))
end
section
open Go.RowKit Go.Maps
variable {S:ByteArray} {told:List (Nat×dp)} {Mk Rb mx n:Nat} {t:Ds} {r0 rest rf:Wd} {w:World}
theorem du.Dg{w':World}(h:du (· = Rb) w w'):du (r8 Rb Mk t) w w':=h.mono (λ_ y=>Or.inl y)
theorem RG.here(h:RG w Rb Mk t S rest told):∃p:Nat,w.cell? ⟨Rb,1,none⟩=some (.int .i64 (p:Int))/\p=S.size-rest.length:=⟨_,h.pos,rfl⟩
theorem LB{gs:List (Nat×dp)}(hT:t.Ok mx)(h:RG w Rb Mk t S rest [])(hS:S.size<=1099511627775)(hm:S.size<=mx)(hx:rdNum rest=some (n,r0))(hX:jU S.size n [] [] r0=some (gs,rf)) :
  bq prog 211 #[.pointer (some ⟨Rb,0,none⟩)] w λe w'=>e=.returned (.int .i64 n)/\du (r8 Rb Mk t) w w'/\RG w' Rb Mk t S rf gs:=by
 have ht:=nk Rb S rest Mk t.v w h.rd (by omega);have HR:bz _:=h;have HT:bz _:=hT;clear h hT;rw[hx]at ht;obtain⟨ac,aj⟩:=gV hx;have ak:r0.length<=rest.length:=by rw[ac]; simp
 clear hx ac;go_enter func211,ntmps211;go_wp2_with fail;refine ht.mono ?_;rintro e w1 ⟨g1,rfl,g2,g3⟩;have HR1:bz _:=HR.out.turn HT.out g1 g2 ak;have HF1:bz (du (r8 Rb Mk t) w w1):=g1.Dg;have HX0:bz _:=hX;clear g1 g2 g3 ht hX;go_wp2;go_loopw [4,9] (λl i wr=>∃(k:Nat)(done gs':List (Nat×dp))(ls r:Wd),k<=n/\i=.int .i64 k/\l=.string ⟨ls.toArray⟩/\RG wr Rb Mk t S r done/\du (r8 Rb Mk t) w wr/\jU S.size (n-k) ((sn done).map dp.name) ls r=some (gs',rf)/\gs=done++gs') (λ_ i _=>n-(intOf i).toNat)
 case atStart=>exact⟨0,[],gs,[],r0,bm _,rfl,rfl,HR1.out,HF1.out,HX0.out,rfl⟩
 case round=>
  obtain⟨k,done,gs',ls,r,hk,rfl,rfl,hr,hf,W,y⟩:=hrel;have ad:bz _:=hf;have HG:bz _:=And.intro W y;by_cases ao:k<n
  .obtain⟨p,hp,ae⟩:=hr.here;have O:bz _:=hr;have af:bz _:=ae;have e1:n-k=(n-(k+1))+1:=by omega
   rw[e1]at W;obtain⟨nm,r1,gs2,hx,ag,rfl⟩:=sQ W;have ah:=ql HT.out O.out hS hx;obtain⟨ai,Y,_,aa⟩:=nP hx;have U:bz _:=And.intro ag (And.intro y (And.intro aa (gG Y).2));have am:r1.length+1<=r.length:=by rw[ai]; simp[dK]
   clear hr hf W y ae hx ai Y aa ag e1 HG;go_wp2_with fail;refine ah.mono ?_;rintro e w2 ⟨rfl,g2,g1⟩;have an:=O.out.qi;have ab:=DX (q:=p) (e:=⟨nm,true,[],0,0⟩) HT.out g2 hS hm U.out.2.2.1 ⟨by show nm.length<=255; have:=U.out.2.2.2; omega,by simp,λh=>by cases h⟩ (by omega) (by have:=af.out; omega);have al:bz (du (r8 Rb Mk t) w w2):=ad.out.then g1.Dg;clear ah g1 g2 hp;go_wp2_with fail;refine ab.mono ?_;rintro e w3 ⟨rfl,q1,q2⟩;have HR3:bz _:=q1;have HF3:bz (du (r8 Rb Mk t) w w3):=al.out.then q2;clear ab q1 q2;go_wp2;go_roundw
   case rel=>exact⟨k+1,_,gs2,nm,r1,by omega,by go_num,rfl,HR3.out,HF3.out,by rw[show(sn (done++[(p,(⟨nm,true,[],0,0⟩:dp))])).map dp.name=(sn done).map dp.name++[nm] by simp[sn]]; exact U.out.1,by rw[U.out.2.1,af.out]; simp⟩
   case measure=>simp[intOf]; omega
  .have O:bz _:=hr;clear hr hf W y;go_wp2;go_ret;have W:=HG.out.1;rw[show n-k=0 by omega,jU]at W;cases W;exact⟨rfl,ad.out,by rw[HG.out.2,aM]; exact O.out⟩
theorem CC{path:Wd}{es:List (Nat×dp)}(hT:t.Ok mx)(h:RG w Rb Mk t S rest told)(hS:S.size<=1099511627775)(hm:S.size<=mx)(hx:rdNum rest=some (n,r0))(hX:kH S.size n path ((sn told).map dp.name) [] r0=some (es,rf)) :
  bq prog 238 #[.pointer (some ⟨Rb,0,none⟩),.string ⟨path.toArray⟩] w λe w'=>e=.returned (.tuple #[.int .i64 n,.int .i64 (gI (sn es))])/\du (r8 Rb Mk t) w w'/\RG w' Rb Mk t S rf (told++es):=by
 have ht:=nk Rb S rest Mk t.v w h.rd (by omega);have HR:bz _:=h;have HT:bz _:=hT;clear h hT;rw[hx]at ht;obtain⟨an,a5⟩:=gV hx;have a6:r0.length<=rest.length:=by rw[an]; simp
 clear hx an;go_enter func238,ntmps238;go_wp2_with fail;refine ht.mono ?_;rintro e w1 ⟨g1,rfl,g2,g3⟩;have a7:bz _:=HR.out.turn HT.out g1 g2 a6;have a8:bz (du (r8 Rb Mk t) w w1):=g1.Dg;have a9:bz _:=hX;clear g1 g2 g3 ht hX;go_wp2;go_loopw [5,6,12] (λg l i wr=>∃(k:Nat)(done ai:List (Nat×dp))(ls r:Wd),k<=n/\i=.int .i64 k/\l=.string ⟨ls.toArray⟩/\g=.int .i64 (gI (sn done))/\RG wr Rb Mk t S r (told++done)/\du (r8 Rb Mk t) w wr/\kH S.size (n-k) path ((sn (told++done)).map dp.name) ls r=some (ai,rf)/\es=done++ai) (λ_ _ i _=>n-(intOf i).toNat)
 case atStart=>exact⟨0,[],es,[],r0,bm _,rfl,rfl,rfl,by rw[aM]; exact a7.out,a8.out,by rw[aM]; exact a9.out,rfl⟩
 case round=>
  obtain⟨k,done,ai,ls,r,hk,rfl,rfl,rfl,hr,hf,hg,ab⟩:=hrel;have ao:bz _:=hf;have HG:bz _:=And.intro hg ab;by_cases aH:k<n
  .obtain⟨p,hp,ap⟩:=hr.here;have ac:bz _:=hr;have aq:bz _:=ap;have e1:n-k=(n-(k+1))+1:=by omega
   rw[e1]at hg;obtain⟨nm,r1,en,r2,a',hx,hy,gF,ar,rfl⟩:=Da hg;have au:=ql HT.out ac.out hS hx;obtain⟨av,ae,_,af⟩:=nP hx;obtain⟨tx,wt,tg,aI,U,aJ,aE⟩:=Cu hy;cases U;obtain⟨_,_,aK,_,_,_,_,_,_,aw,U⟩:=tQ hy
   have ag:tg<=255:=by
    simp only[dp.mk.injEq]at U;have:=(gV aw).2;omega
   have ah:0<=tg:=by
    simp only[dp.mk.injEq]at U;omega
   have y:bz _:=And.intro ar (And.intro ab (And.intro af (And.intro (gG ae).2 (And.intro ah (And.intro ag hy)))));have aF:r1.length+1<=r.length:=by rw[av]; simp[dK]
   have aL:(eo tx==path)=true:=beq_iff_eq.2 gF;clear hr hf hg ab ap hx av ae af ar e1 HG hy gF aw U ag ah;go_wp2_with fail;refine au.mono ?_;rintro e w2 ⟨rfl,g2,g1⟩;have aG:=ac.out.qi;have hent:=GH HT.out g2 hS y.out.2.2.2.2.2.2;have ax:bz (du (r8 Rb Mk t) w w2):=ao.out.then g1.Dg;clear au g1 g2 hp;unfold zA at hent;go_wp2_with fail;refine hent.mono ?_;rintro e w3 ⟨rfl,g2,g1⟩;have W:bz _:=g2;have ay:bz (du (r8 Rb Mk t) w w3):=ax.out.then g1.Dg;clear hent g1 g2 ax;have aA:(⟨tx.toArray⟩:ByteArray).size<=1099511627776:=by show tx.toArray.size<=_; simp; omega
   obtain⟨w4,aj⟩:∃w4,w3.alloc (.cells #[.string ⟨nm.toArray⟩,.string ⟨tx.toArray⟩,.int .i64 wt,.int .i64 tg] 96)=w4:=⟨_,rfl⟩;have ak:Below w3.heap.size w3 w4:=by rw[<-aj]; exact(b2 _ _).alloc (bj _) _
   have ad:w4.heap[w3.heap.size]?=some (.cells #[.string ⟨nm.toArray⟩,.string ⟨tx.toArray⟩,.int .i64 wt,.int .i64 tg] 96 (0,0)):=by rw[<-aj]; exact br w3 _
   have e1:w4.cell? ⟨w3.heap.size,1,none⟩=some (.string ⟨tx.toArray⟩):=by rw[dh ad]; rfl
   go_wp2_with fail;refine(pb _ _ aA).mono ?_;rintro e w5 ⟨rfl,al⟩;clear aj e1;have aB:=ak.size;have O:w5.heap[w3.heap.size]?=some (.cells #[.string ⟨nm.toArray⟩,.string ⟨tx.toArray⟩,.int .i64 wt,.int .i64 tg] 96 (0,0)):=by rw[al.block _ (eT ad)]; exact ad
   have Y:Below w3.heap.size w3 w5:=ak.trans (al.mono aB)
   have HD:bz (∀k,r8 Rb Mk t k->k≠w3.heap.size):=by
    rintro k (h1|h1|h1) e
    .obtain⟨p1,g1,_⟩:=W.out.rd;have:=eT g1;omega
    .have:=W.out.kn.lt;omega
    .have:=HT.out.lt W.out.sd (HT.out.sub k h1);omega
   have az:bz _:=W.out.below HT.out Y;have a0:bz (du (r8 Rb Mk t) w w5):=ay.out.then (du.fC Y);have am:bz _:=O;have d0:w5.cell? ⟨w3.heap.size,0,none⟩=some (.string ⟨nm.toArray⟩):=by rw[dh O]; rfl
   have d1:w5.cell? ⟨w3.heap.size,1,none⟩=some (.string ⟨tx.toArray⟩):=by rw[dh O]; rfl
   have d2:w5.cell? ⟨w3.heap.size,2,none⟩=some (.int .i64 wt):=by rw[dh O]; rfl
   have d3:w5.cell? ⟨w3.heap.size,3,none⟩=some (.int .i64 tg):=by rw[dh O]; rfl
   clear ak ad al O Y W ay;rw[show(eo (⟨tx.toArray⟩:ByteArray).data.toList)=eo tx from rfl];go_wp2_with fail;refine(gh _).mono ?_;rintro e w' ⟨rfl,rfl⟩;have aa:=DX (q:=p) (e:=⟨nm,false,tx,wt,tg⟩) HT.out az.out hS hm y.out.2.2.1 ⟨by show nm.length<=255; have:=y.out.2.2.2.1; omega,by show tx.length<=255; omega,λ_=>⟨y.out.2.2.2.2.1,y.out.2.2.2.2.2.1⟩⟩ (by omega) (by have:=aq.out; omega);have a3:qI ⟨nm,false,tx,wt,tg⟩=.agg #[.bool false,.string ⟨nm.toArray⟩,.string ⟨tx.toArray⟩,.int .i64 wt,.int .i64 tg]:=rfl;rw[a3]at aa;clear a3;go_wp2_with fail;refine aa.mono ?_;rintro e w6 ⟨rfl,q1,q2⟩
   have a4:w6.heap[w3.heap.size]?=some (.cells #[.string ⟨nm.toArray⟩,.string ⟨tx.toArray⟩,.int .i64 wt,.int .i64 tg] 96 (0,0)):=by
    rw[q2.block _ (eT am.out) (λh=>HD.out _ h rfl)]; exact am.out
   have d26:w6.cell? ⟨w3.heap.size,2,none⟩=some (.int .i64 wt):=by rw[dh a4]; rfl
   have aC:bz _:=q1;have aD:bz (du (r8 Rb Mk t) w w6):=a0.out.then q2;clear aa q1 q2 a4 d0 d1 d2 d3 az a0 am;go_wp2;go_roundw
   case rel=>
    refine⟨k+1,done++[(p,⟨nm,false,tx,wt,tg⟩)],a',nm,r2,by omega,by go_num,rfl,?_,by rw[<-aU]; exact aC.out,aD.out,?_,by rw[y.out.2.1,aq.out]; simp⟩
    .rw[show sn (done++[(p,(⟨nm,false,tx,wt,tg⟩:dp))])=sn done++[⟨nm,false,tx,wt,tg⟩] by simp[sn],nM,k6,show gI []=0 from rfl];have:=mY (sn done);show Value.int .i64 (max (gI (sn done)) wt)=Value.int .i64 (max (gI (sn done)) (max (max 0 wt) 0));congr 1;omega
    .rw[show((sn (told++(done++[(p,(⟨nm,false,tx,wt,tg⟩:dp))]))).map dp.name)=(sn (told++done)).map dp.name++[nm] by simp[sn]];exact y.out.1
   case measure=>simp[intOf]; omega
  .have ac:bz _:=hr;clear hr hf hg ab;go_wp2;go_ret2;have hg:=HG.out.1;rw[show n-k=0 by omega,kH]at hg;cases hg;have e:=HG.out.2;rw[aM]at e;refine⟨?_,ao.out,by rw[e]; exact ac.out⟩;rw[e];rfl
end
section
open Go.RowKit Go.Maps
def QG(t:Ds)(mx f:Nat):Prop:=∀(Rb Mk g:Nat)(S:ByteArray)(rest r:Wd)(told es:List (Nat×dp))(path:Wd)(w:World),RG w Rb Mk t S rest told->S.size<=1099511627775->S.size<=mx->path.length<=1099511627775->jW S.size f path ((sn told).map dp.name) rest=some (g,es,r)->
  bq prog 214 #[.pointer (some ⟨Rb,0,none⟩),.string ⟨path.toArray⟩] w λe w'=>e=.returned (.int .i64 g)/\du (r8 Rb Mk t) w w'/\RG w' Rb Mk t S r (told++es)
theorem Ak{Rb Mk mx n f g:Nat}{t:Ds}{S:ByteArray}{rest r0 rf path:Wd}{told es:List (Nat×dp)}{w:World}(hN:QG t mx f)(hT:t.Ok mx)(h:RG w Rb Mk t S rest told)(hS:S.size<=1099511627775)(hm:S.size<=mx)(hp:path.length<=24)(hx:rdNum rest=some (n,r0))(hX:lT (jW S.size f) n path ((sn told).map dp.name) (-1) r0=some (g,es,rf)) :
  bq prog 239 #[.pointer (some ⟨Rb,0,none⟩),.string ⟨path.toArray⟩] w λe w'=>e=.returned (.tuple #[.int .i64 n,.int .i64 g])/\du (r8 Rb Mk t) w w'/\RG w' Rb Mk t S rf (told++es):=by
 have ht:=nk Rb S rest Mk t.v w h.rd (by omega);have HR:bz _:=h;have HT:bz _:=hT;have HN:bz _:=hN;clear h hT hN;rw[hx]at ht;obtain⟨ae,aj⟩:=gV hx;have ak:r0.length<=rest.length:=by rw[ae]; simp
 clear hx ae;go_enter func239,ntmps239;go_wp2_with fail;refine ht.mono ?_;rintro e w1 ⟨g1,rfl,U,g3⟩;have al:bz _:=HR.out.turn HT.out g1 U ak;have am:bz (du (r8 Rb Mk t) w w1):=g1.Dg;have an:bz _:=hX;clear g1 U g3 ht hX;go_wp2;go_loopw [5,6,11] (λgv l i wr=>∃(k gg g':Nat)(done aa:List (Nat×dp))(la:Int)(r:Wd),k<=n/\i=.int .i64 k/\l=.int .i64 la/\gv=.int .i64 gg/\RG wr Rb Mk t S r (told++done)/\du (r8 Rb Mk t) w wr/\lT (jW S.size f) (n-k) path ((sn (told++done)).map dp.name) la r=some (g',aa,rf)/\(g=max gg g'/\es=done++aa)/\-1<=la/\la<=255) (λ_ _ i _=>n-(intOf i).toNat)
 case atStart=>exact⟨0,0,g,[],es,-1,r0,bm _,rfl,rfl,rfl,by rw[aM]; exact al.out,am.out,by rw[aM]; exact an.out,⟨by omega,rfl⟩,by omega,by omega⟩
 case round=>
  obtain⟨k,gg,g',done,aa,la,r,hk,rfl,rfl,rfl,hr,hf,W,y,av,aw⟩:=hrel;have af:bz _:=hf;have HG:bz _:=And.intro W y;have ab:bz _:=hr;by_cases ay:k<n
  .rw[show n-k=(n-(k+1))+1 by omega]at W;obtain⟨c,cs,r1,ga,ea,r2,gb,eb,hx,az,hy,hz,rfl,rfl⟩:=CF W;have ac:=tU Rb S r Mk t.v wr ab.out.rd (by omega);rw[hx]at ac;obtain⟨ag,Y⟩:=ik hx;have ah:r1.length<=r.length:=by rw[ag]; simp
   have O:bz _:=And.intro hz (And.intro y hy);have hc:=c.toNat_lt;have ai:(⟨(c::cs).toArray⟩:ByteArray).size=cs.length+1:=by show(c::cs).toArray.size=_; simp
   have a0:(⟨(c::cs).toArray⟩:ByteArray)[0]'(by rw[ai]; omega)=c:=rfl;have ao:(⟨path.toArray⟩:ByteArray).size=path.length:=by show path.toArray.size=_; simp
   have ax:¬(9223372036854775807<(⟨path.toArray⟩:ByteArray).size+(⟨(c::cs).toArray⟩:ByteArray).size):=by rw[ao,ai]; simp only[aT]at Y; omega
   clear hr hf W y hx ag hy hz HG;go_wp2_with fail;refine ac.mono ?_;rintro e w2 ⟨g1,rfl,U,g3⟩;have ap:bz _:=ab.out.turn HT.out g1 U ah;have aq:bz (du (r8 Rb Mk t) w w2):=af.out.then g1.Dg;clear ac g1 U g3;have ad:=HN.out Rb Mk ga S r1 r2 (told++done) ea (path++(c::cs)) w2 ap.out hS hm (by simp only[aO,aT]at Y⊢; omega) O.out.2.2;rw[<-QY path (c::cs)]at ad;go_wp2_with fail;refine(gh _).mono ?_;rintro e w' ⟨rfl,rfl⟩;go_wp2_with fail;refine ad.mono ?_;rintro e w3 ⟨rfl,g1,U⟩;have ar:bz _:=U;have au:bz (du (r8 Rb Mk t) w w3):=aq.out.then g1;clear ad g1 U;go_wp2;go_roundw
   case rel=>
    refine⟨k+1,max gg ga,gb,done++ea,eb,(c.toNat:Int),r2,by omega,by go_num,rfl,?_,by rw[<-aU]; exact ar.out,au.out,?_,⟨by rw[O.out.2.1.1,Nat.max_assoc],by rw[O.out.2.1.2,aU]⟩,by omega,by omega⟩
    .show Value.int .i64 (max (gg:Int) (ga:Int))=Value.int .i64 ((max gg ga:Nat):Int);congr 1;omega
    .rw[show((sn (told++(done++ea))).map dp.name)=(sn (told++done)).map dp.name++(sn ea).map dp.name by simp[sn]];exact O.out.1
   case measure=>simp[intOf]; omega
  .clear hr hf W y;go_wp2;go_ret2;have W:=HG.out.1;rw[show n-k=0 by omega]at W;cases W;have e1:=HG.out.2.1;have e2:=HG.out.2.2;rw[aM]at e2;refine⟨?_,af.out,by rw[e2]; exact ab.out⟩;rw[e1,Nat.max_zero];rfl
theorem Ko{t:Ds}{mx:Nat}(hT:t.Ok mx):∀f,QG t mx f:=by
 intro f
 induction f with
 |zero=>
  intro Rb Mk g S rest r told es path w h hS hm W hX;cases hX
 |succ f ih=>
  intro Rb Mk g S rest r told es path w h hS hm W hX;obtain⟨f',ai,hp,r0,nb,r1,own,r2,nc,r3,gb,below,Y,h2,h3,h4,h5,aa,ab,rfl⟩:=Dm hX;cases ai;clear hX W;have am:(⟨path.toArray⟩:ByteArray).size=path.length:=by show path.toArray.size=_; simp
  have an:(path.length:Int)<=24:=by omega
  have ht:=yA Rb S rest Mk t.v w h.rd (by omega);rw[Y]at ht;have aj:r0.length<=rest.length:=by rw[(jM Y).1]; simp
  have HR:bz _:=h;have HN:bz _:=ih;have HT:bz _:=hT;have HX:bz _:=And.intro h2 (And.intro h3 (And.intro h4 h5));clear h ih hT Y h2 h3 h4 h5;have HG:bz _:=aa;have HP:bz _:=ab;go_enter func214,ntmps214;go_wp2_with fail;refine(gh _).mono ?_;rintro e w' ⟨rfl,rfl⟩;go_wp2_with fail;refine ht.mono ?_;rintro e w1 ⟨g1,rfl,y,g3⟩;have ac:bz _:=HR.out.turn HT.out g1 y aj;have ad:bz (du (r8 Rb Mk t) w w1):=g1.Dg;clear ht g1 y g3 aa ab;have ae:=CC HT.out ac.out hS hm HX.out.1 HX.out.2.1;go_wp2_with fail;refine ae.mono ?_;rintro e w2 ⟨rfl,g1,y⟩;have af:bz _:=y;have ag:bz (du (r8 Rb Mk t) w w2):=ad.out.then g1;clear ae g1 y ac ad;have ah:=Ak HN.out HT.out af.out hS hm hp HX.out.2.2.1 (by rw[show(sn (told++own)).map dp.name=(sn told).map dp.name++(sn own).map dp.name by simp[sn]]; exact HX.out.2.2.2);go_wp2_with fail;refine ah.mono ?_;rintro e w3 ⟨rfl,g1,y⟩;have O:bz (RG w3 Rb Mk t S r (told++(own++below))):=by show RG _ _ _ _ _ _ _; rw[<-aU]; exact y
  have U:bz (du (r8 Rb Mk t) w w3):=ag.out.then g1;clear ah g1 y af ag HX;have ak:((g:Int)==max (gI (sn own)) (gb:Int))=true:=beq_iff_eq.2 HG.out;go_wp2_with fail;refine(gh _).mono ?_;rintro e w' ⟨rfl,rfl⟩;clear ak
  cases path with
  |nil=>
   go_wp2_with fail;refine(gh _).mono ?_;rintro e w' ⟨rfl,rfl⟩;go_wp2;go_ret;exact⟨rfl,U.out,O.out⟩
  |cons c cs=>
   by_cases Y:0<nb
   .have al:(0:Int)<(nb:Int):=by omega
    go_wp2_with fail;refine(gh _).mono ?_;rintro e w' ⟨rfl,rfl⟩;go_wp2;go_ret;exact⟨rfl,U.out,O.out⟩
   .have al:decide ((0:Int)<(nb:Int))=false:=decide_eq_false (by omega)
    have ao:(1:Int)<nc:=by
     rcases HP.out with h|h|h
     .cases h
     .exact absurd h Y
     .omega
    go_wp2_with fail;refine(gh _).mono ?_;rintro e w' ⟨rfl,rfl⟩;go_wp2;go_ret;exact⟨rfl,U.out,O.out⟩
end
section
open Go.RowKit Go.Maps
variable {S:ByteArray} {es gs:List (Nat×dp)} {Mk Rb mx:Nat} {t:Ds} {rest:Wd} {w:World}
theorem De(hT:t.Ok mx)(h:RG w Rb Mk t S rest [])(hS:S.size<=1099511627775)(hm:S.size<=mx)(hX:jd S.size rest=some (gs,es)) :
  bq prog 159 #[.pointer (some ⟨Rb,0,none⟩)] w λe w'=>e=.returned (.tuple #[])/\du (r8 Rb Mk t) w w'/\RG w' Rb Mk t S [] (gs++es):=by
 obtain⟨ng,r,r0,r1,g,h1,h2,h3,h4,h5,ap,ak⟩:=DY hX;have al:gs.length=ng:=vy h2;have ac:=LB hT h hS hm h1 h2;have ad:r1.length<=r0.length:=by rw[(ik h3).1]; simp
 have HT:bz _:=hT;have H3:bz _:=h3;have H4:bz _:=h4;clear h h1 h2 h3 h4 hX hT;go_enter func159,ntmps159;go_wp2_with fail;refine ac.mono ?_;rintro e w1 ⟨rfl,g1,W⟩;have aa:bz _:=W;have ae:bz _:=g1;clear ac g1 W;have ab:=tU Rb S r0 Mk t.v w1 aa.out.rd (by omega);rw[H3.out]at ab;go_wp2_with fail;refine ab.mono ?_;rintro e w2 ⟨g1,rfl,W,g3⟩;have af:bz _:=aa.out.turn HT.out g1 W ad;have ag:bz (du (r8 Rb Mk t) w w2):=ae.out.then g1.Dg;clear ab g1 W g3 aa ae;go_wp2_with fail;refine(gh _).mono ?_;rintro e w' ⟨rfl,rfl⟩;have ah:=Ko HT.out 26 Rb Mk g S r1 [] gs es [] w2 af.out hS hm (by simp) H4.out;go_wp2_with fail;refine ah.mono ?_;rintro e w3 ⟨rfl,g1,W⟩;have O:bz _:=W;have y:bz (du (r8 Rb Mk t) w w3):=ag.out.then g1;clear ah g1 W af ag;obtain⟨p,U,au,ai⟩:=O.out.rd;have c0:w3.cell? ⟨Rb,0,none⟩=some (.string S):=by rw[dh U]; rfl
 have c1:w3.cell? ⟨Rb,1,none⟩=some (.int .i64 p):=by rw[dh U]; rfl
 have c2:w3.cell? ⟨Rb,2,none⟩=some (.map (some Mk)):=by rw[dh U]; rfl
 have av:((p:Int)==(S.size:Int))=true:=beq_iff_eq.2 (by
  have:=List.drop_eq_nil_iff.1 ai;simp at this
  omega)
 clear U ai;have Y:=λty:bt=>dL.len (dL.stay O.out.kn rfl:dL prog 9 w3.drew Mk ((sn (gs++es)).map Ph)) b8 ty;have aj:((sn (gs++es)).map Ph).length=gs.length+es.length:=by simp
 rw[aj]at Y;obtain⟨N,hN⟩:∃N:Nat,N=gs.length+es.length:=⟨_,rfl⟩;rw[<-hN]at Y;have aw:N<=S.size:=by have:=O.out.qi; rw[aO]at this; omega
 have ax:0<N:=by omega
 have aq:(0:Int)<(N:Int):=by omega
 have ak:N-ng<=30:=by omega
 have am:(ng:Int)<=100:=by omega
 have ar:(N:Int)-(ng:Int)<=30:=by omega
 have an:bz (du (r8 Rb Mk t) w w3.drew):=⟨y.out.os,y.out.tape,y.out.output,y.out.size,y.out.block⟩
 have ao:bz (RG w3.drew Rb Mk t S [] (gs++es)):=by
  have h:=O.out;exact⟨h.rd,dL.stay h.kn rfl,HT.out.stay h.sd λ_ _=>rfl,h.qi,h.ne⟩
 clear hN al aj h5;go_wp2_with fail;go_region_held3 (λw'=>w'.cell? ⟨Rb,0,none⟩=some (.string S)/\w'.cell? ⟨Rb,1,none⟩=some (.int .i64 p)) (go_keep) (first|(go_at_call 212; refine(gh _).mono ?_; rintro e w' ⟨rfl,rfl⟩));go_wp2_with fail;refine(gh _).mono ?_;rintro e w' ⟨rfl,rfl⟩;go_wp2_with fail;refine(gh _).mono ?_;rintro e w' ⟨rfl,rfl⟩;go_wp2_with fail;refine(gh _).mono ?_;rintro e w' ⟨rfl,rfl⟩;go_wp2;go_end0;exact⟨rfl,an.out,ao.out⟩
theorem GN(Y:t.Ok mx)(h:RG w Rb Mk t S rest [])(hS:S.size<=1099511627775)(hm:S.size<=mx)(hX:jd S.size rest=some (gs,es)) :
  bq prog 158 #[.func (.func 159) #[.pointer (some ⟨Rb,0,none⟩)] #[]] w λe w'=>e=.returned (.bool true)/\du (r8 Rb Mk t) w w'/\t.T w' (gs++es):=by
 have al:∀(fn:Fn)(first cap:Array Value)(w:World),(Instr.makeFunc fn first cap).run prog w=.ok (.func fn first cap) w:=λ_ _ _ _=>rfl;obtain⟨w0,aa⟩:∃w0,w.alloc (.cells #[.bool false] 4)=w0:=⟨_,rfl⟩;have W:Below w.heap.size w w0:=by rw[<-aa]; exact(b2 _ _).alloc (bj _) _
 have ab:w0.heap[w.heap.size]?=some (.cells #[.bool false] 4 (0,0)):=by rw[<-aa]; exact br w _
 have ac:=h.below Y W;have O:=De Y ac hS hm hX;have HD:bz (∀k,t.OM k->k<w.heap.size):=λk U=>Y.lt h.sd U
 have HZ:bz (¬r8 Rb Mk t w.heap.size):=by
  rintro(U|U|U)
  .obtain⟨p,h1,_⟩:=h.rd;have:=eT h1;omega
  .have:=h.kn.lt;omega
  .have:=HD.out _ (Y.sub _ U);omega
 have ad:bz (w0.heap[w.heap.size]?=some (.cells #[.bool false] 4 (0,0))):=ab;have ag:bz (du (r8 Rb Mk t) w w0):=du.fC W;have HT:bz _:=Y;clear h W ab ac hX Y;go_enter_defers func158,ntmps158;go_wp2_with fail;refine O.mono ?_;rintro e w1 ⟨rfl,g1,g2⟩;have y:w1.heap[w.heap.size]?=some (.cells #[.bool false] 4 (0,0)):=by rw[g1.block _ (eT ad.out) HZ.out]; exact ad.out
 have c1:w1.cell? ⟨w.heap.size,0,none⟩=some (.bool false):=by rw[dh y]; rfl
 have f1:w1.frozen? ⟨w.heap.size,0,none⟩=false:=dJ y 0;have ah:bz (w1.heap[w.heap.size]?=some (.cells #[.bool false] 4 (0,0))):=y;have ae:bz _:=g2.sd;have ai:bz (du (r8 Rb Mk t) w w1):=ag.out.then g1;clear O g1 g2 y;go_wp2;refine leaves_cons (f:=210) (args:=#[.pointer (some ⟨w.heap.size,0,none⟩)]) (by simp) (by simp[go_sem]) ?_;refine(Iw _ _).mono ?_;rintro e u' w2 ⟨rfl,rfl,rfl⟩;have af:du (· = w.heap.size) w1 (w1.setCell ⟨w.heap.size,0,none⟩ (.bool true)):=ki rfl
 have aj:(w1.setCell ⟨w.heap.size,0,none⟩ (.bool true)).heap[w.heap.size]?=some (.cells #[.bool true] 4 (0,0)):=by
  rw[heap_set ah.out]; rfl
 have ak:(w1.setCell ⟨w.heap.size,0,none⟩ (.bool true)).cell? ⟨w.heap.size,0,none⟩=some (.bool true):=by rw[dh aj]; rfl
 refine⟨.bool true,?_,rfl,ai.out.trans af (λi hi hg=>by omega),HT.out.stay ae.out λk U=>af.block k (HT.out.lt ae.out U) (Nat.ne_of_lt (HD.out k U))⟩;simp[bx,results158,go_sem,ak]
theorem Av(U:t.Ok mx)(h:t.T w [])(hS:S.size<=1099511627775)(hm:S.size<=mx)(hX:jd S.size S.data.toList=some (gs,es)) :
  bq prog 117 #[.string S,t.v] w λe w'=>e=.returned (.bool true)/\du t.own w w'/\t.T w' (gs++es):=by
 have ag:=@b1 prog;have ah:∀(fn:Fn)(first cap:Array Value)(w:World),(Instr.makeFunc fn first cap).run prog w=.ok (.func fn first cap) w:=λ_ _ _ _=>rfl;obtain⟨w0,y⟩:∃w0,w.alloc (.map #[] 0)=w0:=⟨_,rfl⟩;have ae:w0.heap.size=w.heap.size+1:=by rw[<-y]; simp
 obtain⟨w1,hw1⟩:∃w1,w0.alloc (.cells #[.string S,.int .i64 0,.map (some w.heap.size),t.v] 216)=w1:=⟨_,rfl⟩;have W:Below w.heap.size w w0:=by rw[<-y]; exact(b2 _ _).alloc (bj _) _
 have O:Below w.heap.size w w1:=by rw[<-hw1]; exact W.alloc (by omega) _
 have Y:dL prog 9 w0 w.heap.size []:=by rw[<-y]; exact dL.made w
 have aa:dL prog 9 w1 w.heap.size []:=Y.stay (by rw[<-hw1]; exact b3 _ _ _ (by omega));have ab:w1.heap[w.heap.size+1]?=some (.cells #[.string S,.int .i64 0,.map (some w.heap.size),t.v] 216 (0,0)):=by rw[<-hw1,<-ae]; exact br w0 _
 have ac:RG w1 (w.heap.size+1) w.heap.size t S S.data.toList []:=
  ⟨⟨0,ab,bm _,rfl⟩,aa,U.stay h λk hk=>O.block k (U.lt h hk),by simp,λk hk=>by have:=U.lt h hk; omega⟩
 have ad:=GN U ac hS hm hX
 have af:bz (∀w',du (r8 (w.heap.size+1) w.heap.size t) w1 w'->du t.own w w'):=λw' g=>(du.fC O).trans g (λi hi hg=>by
  rcases hg with h|h|h
  .omega
  .omega
  .exact h)
 clear h W O Y aa ab ac U hX;unfold Ds.v at hw1⊢;have ai:∀(a:Addr)(w:World),(store a (.func (.func t.fn) #[] t.cp)).run prog w=stored prog w a (.func (.func t.fn) #[] t.cp) .plain:=λa w=>run_store prog w a _ .plain rfl;go_enter func117,ntmps117;go_wp2_with fail;refine ad.mono ?_;rintro e w2 ⟨rfl,g1,g2⟩;have HS:bz _:=g2;clear ad g2;go_wp2;go_ret;exact⟨rfl,af.out _ g1,HS.out⟩
end
section
open Go.RowKit Go.Maps
def Tr(O y:Nat):Ds where
 fn:=130
 cp:=#[.pointer (some ⟨O,0,none⟩)]
 own k:=k=y
 OM k:=k=y\/k=O
 T w told:=w.heap[O]?=some (.cells #[.map (some y)] 85 (0,0))/\eh w y (sn told)
theorem PV(U W mx:Nat):(Tr U W).Ok mx where
 gH:=⟨_,_,func130,rfl,by kernel_rfl⟩
 sub _ h:=Or.inl h
 lt:=by
  rintro w told k ⟨y,O⟩ (rfl|rfl)
  .exact dL.lt O
  .exact eT y
 stay:=by
  rintro w w' told ⟨y,O⟩ h;exact⟨by rw[h U (Or.inr rfl)]; exact y,dL.stay O (h W (Or.inl rfl))⟩
 tell:=by
  rintro w q told e ⟨y,O⟩ hn hl he _;refine(OJ U W (sn told) e q w y O hn (by rw[aN]; exact hl) (by have:=he.1; unfold bp; omega)).mono ?_;rintro en w' ⟨rfl,g1,Y⟩;exact⟨rfl,⟨by rw[Y.block U (eT y) (λk=>dL.nC O y k.symm)]; exact y,by rw[show sn (told++[(q,e)])=sn told++[e] by simp[sn]]; exact g1⟩,Y⟩
theorem DC{S:ByteArray}{gs es:List (Nat×dp)}(w:World)(hS:S.size<=1099511627775)(hX:jd S.size S.data.toList=some (gs,es)) :
  bq prog 88 #[.string S] w λe w'=>Below w.heap.size w w'/\∃B,e=.returned (.tuple #[.map (some B),.bool true])/\w.heap.size<=B/\eh w' B (sn (gs++es)):=by
 have ag:=@b1 prog;have ah:∀(fn:Fn)(first cap:Array Value)(w:World),(Instr.makeFunc fn first cap).run prog w=.ok (.func fn first cap) w:=λ_ _ _ _=>rfl;obtain⟨w0,O⟩:∃w0,w.alloc (.map #[] 0)=w0:=⟨_,rfl⟩;have W:w0.heap.size=w.heap.size+1:=by rw[<-O]; simp
 obtain⟨w1,U⟩:∃w1,w0.alloc (.cells #[.map (some w.heap.size)] 85)=w1:=⟨_,rfl⟩;have Y:Below w.heap.size w w0:=by rw[<-O]; exact(b2 _ _).alloc (bj _) _
 have aa:Below w.heap.size w w1:=by rw[<-U]; exact Y.alloc (by omega) _
 have ab:eh w0 w.heap.size []:=by rw[<-O]; exact dL.made w
 have ac:eh w1 w.heap.size []:=dL.stay ab (by rw[<-U]; exact b3 _ _ _ (by omega));have ad:w1.heap[w.heap.size+1]?=some (.cells #[.map (some w.heap.size)] 85 (0,0)):=by rw[<-U,<-W]; exact br w0 _
 have ae:=Av (PV (w.heap.size+1) w.heap.size S.size) ⟨ad,ac⟩ hS (bj _) hX;have y:bz _:=aa;go_enter func88,ntmps88;go_wp2_with fail;refine ae.mono ?_;rintro e w2 ⟨rfl,g1,g2,g3⟩
 have af:bz (Below w.heap.size w w2):=by
  refine⟨g1.os.trans y.out.os,g1.tape.trans y.out.tape,g1.output.trans y.out.output,bl y.out.size g1.size,λk hk=>?_⟩;rw[g1.block k (bo hk y.out.size) (by show k≠_; omega),y.out.block k hk]
 have c2:w2.cell? ⟨w.heap.size+1,0,none⟩=some (.map (some w.heap.size)):=by rw[dh g2]; rfl
 have HS:bz _:=g3;go_wp2;go_ret2;exact⟨af.out,_,rfl,bj _,HS.out⟩
end
section
open Go.RowKit Go.Maps
variable {e:dp} {l:List dp}
def zC(c:Nat):Value:=.map (some c)
structure J4(w:World)(v:Value)(Cs:List Nat)(ls:List (List dp)):Prop where
 rd:Rd w v (Cs.map zC)
 len:Cs.length=ls.length
 each:∀i(h:i<ls.length)(h':i<Cs.length),eh w Cs[i] ls[i]
theorem wI(y:List (List dp))(k:Nat)(h:k<y.length):fV (y.take (k+1))=dH (fV (y.take k)) y[k]:=by
 rw[List.take_succ_eq_append_getElem h,fg]
theorem MQ(y:List (List dp))(k:Nat)(h:k<y.length):y[k].length<=ir y:=by
 have O:=xj y k h;have U:=Fp y (k+1);omega
theorem uK(y:List (List dp))(k:Nat)(O:k<=y.length):(fV (y.take k)).length<=ir y:=by
 have U:=FA y k O;have W:=Fp y k;rw[xH]at U;omega
theorem zu(v:Value)(Y:List Nat)(y:List (List dp))(w:World)(h:J4 w v Y y)(ak:ir y<=536870912)(ad:∀l∈y,∀e∈l,e.name.length<=bp) :
  bq prog 58 #[v] w λen w'=>∃B,en=.returned (.map (some B))/\w.heap.size<=B/\eh w' B (fV y)/\Below w.heap.size w w':=by
 have al:=@b1 prog;obtain⟨a,cap,rfl,ah,hcm,ae⟩:=id h.rd;have af:(Y.map zC).length=y.length:=by rw[aN,h.len]
 rw[af]at ah⊢;have am:=Ll y;unfold bp at hcm;obtain⟨w0,ab⟩:∃w0,w.alloc (.map #[] 0)=w0:=⟨_,rfl⟩;have an:w0.heap.size=w.heap.size+1:=by rw[<-ab]; simp
 have hb0:Below w.heap.size w w0:=by rw[<-ab]; exact(b2 _ _).alloc (bj _) _
 have hM0:eh w0 w.heap.size []:=by rw[<-ab]; exact dL.made w
 have HL:bz (J4 w (.slice a (Y.map zC).length cap) Y y):=h;have ai:bz (∀j u,(Y.map zC)[j]?=some u->∃b off,a=some ⟨b,off,none⟩/\w.cell? ⟨b,off+j,none⟩=some u):=ae;have aj:bz (∀l∈y,∀e∈l,e.name.length<=bp):=ad;clear h ae af ad;go_enter func58,ntmps58;go_wp2;go_loopw [9] (λi wr=>∃k:Nat,k<=y.length/\i=.int .i64 k/\eh wr w.heap.size (fV (y.take k))/\Below w.heap.size w wr) (λi _=>y.length-(intOf i).toNat)
 case atStart=>exact⟨0,bm _,rfl,hM0,hb0⟩
 case round=>
  obtain⟨k,hk,rfl,hm,hb⟩:=hrel;have HM:bz (eh wr w.heap.size (fV (y.take k))):=hm;have W:bz (Below w.heap.size w wr):=hb;clear hm hb;by_cases O:k<y.length
  .have ag:k<Y.length:=by rw[HL.out.len]; exact O
   obtain⟨bb,off,rfl,U⟩:=ai.out k (zC Y[k]) (by simp[ag]);have hc:=bs W.out U;unfold zC at hc;have ac:=HL.out.each k O ag;have ao:=dL.lt ac;have aa:=Ml w.heap.size Y[k] (fV (y.take k)) y[k] wr HM.out (dL.below ac W.out) (by omega) (by have:=MQ y k O; omega) (by have:=uK y k hk; omega) (aj.out _ (bh O));rw[<-wI y k O]at aa;clear U ac;go_wp2_with fail;refine aa.mono ?_;rintro e w1 ⟨rfl,q1,q2⟩;have HM1:bz (eh w1 w.heap.size (fV (y.take (k+1)))):=q1
   have HB1:bz (Below w.heap.size w w1):=by
    refine⟨q2.os.trans W.out.os,q2.tape.trans W.out.tape,q2.output.trans W.out.output,bl W.out.size q2.size,λi hi=>?_⟩;rw[q2.block i (bo hi W.out.size) (by omega),W.out.block i hi]
   go_wp2;go_roundw
   case rel=>exact⟨k+1,by omega,by go_num,HM1.out,HB1.out⟩
   case measure=>simp[intOf]; omega
  .have HE:bz (y.take k=y):=ba (by omega);go_wp2;go_ret;refine⟨_,rfl,bj _,?_,W.out⟩;have:=HM.out;rw[HE.out]at this;exact this
theorem PK(h:ON e):Je e:=by
 rcases h with h|h
 .have y:=gG h.2.1;have U:=jC h.2.2.1;have W:=h.2.2.2.2;exact⟨by omega,by omega,⟨by omega,by omega⟩,by omega,by omega⟩
 .have y:=gG h.2;have O:e.text=[]:=by rw[h.1]
  have Y:e.dq=0:=by rw[h.1]
  have e3:e.dB=0:=by rw[h.1]
  exact⟨by omega,by rw[O]; simp,⟨by omega,by omega⟩,by omega,by omega⟩
theorem qL(h:ON e):iL e.name=true:=by
 rcases h with h|h
 .exact h.2.1
 .exact h.2
theorem IF(l:List dp)(h:∀e∈l,e.name.length<=8):(l.flatMap λe=>dK e.name).length<=l.length*9:=by
 induction l with
 |nil=>simp
 |cons e l y=>
  rw[List.flatMap_cons,aO];have O:=y (λx U=>h x (aX _ U));have W:=h e (aQ ..);simp only[dK,aT]at O⊢;omega
theorem re(h:mT l):(dS l).length<=3000000000:=by
 unfold dS
 have U:((fi l).filter λe=>e.gone).length<=100:=by
  rw[((fR l).filter _).length_eq];exact h.gone
 have W:((fi l).filter λe=>!e.gone).length<=30:=by
  rw[((fR l).filter _).length_eq];exact h.there
 have Y:=IF ((fi l).filter λe=>e.gone) (λe y=>(gG (qL (h.each e (mN.1 (aY.1 y).1)))).2);have h2:=M6 26 [] ((fi l).filter λe=>!e.gone) (λe y=>PK (h.each e (mN.1 (aY.1 y).1)));have O:(dK []).length=1:=rfl;simp only[aT,aO,O];omega
theorem qR(h:mT l):∀e∈l,e.name.length<=bp:=λe y=>by
 have:=(gG (qL (h.each e y))).2;unfold bp;omega
theorem mL(h:mT l):l.length<=130:=by
 have y:=jo l;have O:=h.gone;have U:(dw l).length<=30:=h.there;omega
theorem ou(s:List dp)(w:World)(h:mT s) :
  bq prog 73 #[.string ⟨(dS s).toArray⟩] w λO w'=>∃B,O=.returned (.map (some B))/\w.heap.size<=B/\eh w' B s/\Below w.heap.size w w':=by
 have hl:=re h;obtain⟨gs,es,U,W⟩:=yL h;obtain⟨ps,qs,y,Y,e2,_⟩:=A9 U;have hu:=DC (S:=⟨(dS s).toArray⟩) w (by show(dS s).toArray.size<=_; simp; omega) y;have HP:bz ((sn (ps++qs)).Perm s):=by rw[show sn _=sn ps++sn qs from aR,Y,e2]; exact W
 go_enter func73,ntmps73;go_wp2_with fail;refine hu.mono ?_;rintro e w1 ⟨hb,B,rfl,hB,hs⟩;have HS:bz _:=eh.perm hs HP.out;have HB:bz _:=hb;go_wp2;go_ret;exact⟨B,rfl,hB,HS.out,HB.out⟩
end
section
open Go.RowKit Go.Maps
variable {ss:List (List dp)} {buf:List dp}
theorem Qy:(prog.info? 85).map (λi=>(i.zero,i.size,i.bytes))=some (some (.map none),1,8):=by kernel_rfl
structure zH(w:World)(F:Nat->Prop)(b:Nat)(buf:List dp)(ss:List (List dp))(Bb:Nat)(vS vM vK:Value):Prop where
 blk:w.heap[b]?=some (.cells #[.map (some Bb),vS,vM,vK] 90 (0,0))
 fb:F b
 fB:F Bb
 say:eh w Bb buf
 row:w.ownsRow 0 9 1 vS ss.length (dn (ss.map dS))
 lr:∀k,vS.ownBlock=some k->F k
 inv:Inv buf ss
theorem pD{w:World}{base e n:Nat}{v:Value}{xs:List Value}(O:w.ownsRow base e 1 v n xs){P:Program}{k:bt}{B:Nat}{l:List (Wd×Value)}(hm:dL P k w B l):some B≠v.ownBlock:=by
 rcases O.2 with⟨rfl,_⟩|⟨g,cap,U,rfl,_,W,_⟩
 .simp[Value.ownBlock]
 .intro y;simp only[Value.ownBlock,Option.some.injEq]at y;exact hm.nC W y
theorem ru(h:Inv buf ss):buf.length<=130:=by
 have O:=jo buf;have U:=h.gone;have y:=h.all;rw[fp,fg]at y;have W:=kZ (fV ss) buf;omega
theorem LV(ss:List (List dp))(h:∀s∈ss,mT s):ir ss<=ss.length*131:=by
 induction ss with
 |nil=>simp[ir]
 |cons s ss y=>
  have O:=y (λx U=>h x (aX _ U));have W:=mL (h s (aQ ..));simp only[ir,aZ,List.sum_cons,aT]at O⊢;omega
theorem Fq(a b:List (List dp)):ir (a++b)=ir a+ir b:=by simp[ir]
theorem MC(h:Inv buf ss):ir (ss++[buf])<=1000:=by
 have y:=LV ss h.jg;have O:=h.qi;have U:=ru h;rw[Fq];have:ir [buf]=buf.length+1:=by simp[ir]
 omega
theorem AU(h:Inv buf ss):∀l∈ss++[buf],∀e∈l,e.name.length<=bp:=by
 intro l U e O;rcases List.mem_append.1 U with y|y
 .exact qR (h.jg l y) e O
 .simp only[be]at y;subst y;have:=(gG (qL (h.each e O))).2;unfold bp;omega
theorem vZ{y:List (List dp)}(h:∀l∈y,∀e∈l,e.name.length<=bp):∀e∈fV y,e.name.length<=bp:=by
 have:∀(y:List _)(a:List dp),(∀e∈a,e.name.length<=bp)->(∀l∈y,∀e∈l,e.name.length<=bp)->∀e∈y.foldl dH a,e.name.length<=bp:=by
  intro y
  induction y with
  |nil=>intro a O _ e U; exact O e U
  |cons l y ih=>
   intro a O Y e U;refine ih _ (λx hx=>?_) (λm hm=>Y m (aX _ hm)) e U;rcases kJ.1 hx with W|W
   .exact O x W.1
   .exact Y l (aQ ..) x W
 exact this y [] (nofun) h
theorem xX(F:Nat->Prop)(b:Nat)(buf:List dp)(ss:List (List dp))(Bb:Nat)(vS vM vK:Value)(w:World)(h:zH w F b buf ss Bb vS vM vK) :
  bq prog 59 #[.pointer (some ⟨b,0,none⟩)] w λen w'=>∃C,en=.returned (.map (some C))/\w.heap.size<=C/\eh w' C (eJ ss buf)/\Below w.heap.size w w':=by
 obtain⟨i0,hi,ag,ah,ai⟩:=info_parts Qy;obtain⟨aS,cS,rfl,aD⟩:=dM h.row;have aj:=Rd.jj h.row;have ay:w.cell? ⟨b,0,none⟩=some (.map (some Bb)):=by rw[dh h.blk]; rfl
 have aE:w.cell? ⟨b,1,none⟩=some (.slice aS ss.length cS):=by rw[dh h.blk]; rfl
 have h6:=h.inv.qi
 have HR:bz (∀j(hj:j<ss.length),∃bb off,aS=some ⟨bb,off,none⟩/\w.cell? ⟨bb,off+j,none⟩=some (.string ⟨(dS ss[j]).toArray⟩)):=by
  intro j hj;obtain⟨a',c',he,_,_,hr⟩:=aj;simp only[Value.slice.injEq]at he;obtain⟨rfl,_,rfl⟩:=he;exact hr j _ (by simp[dn,hj])
 have HP:bz _:=h;clear h aj;go_enter func59,ntmps59;go_wp2;go_loopw [3,11] (λv i wr=>∃(k:Nat)(Cs:List Nat),k<=ss.length/\i=.int .i64 k/\Cs.length=k/\wr.ownsRow w.heap.size 85 1 v k (Cs.map zC)/\(∀i(h:i<k)(h':i<Cs.length)(h2:i<ss.length),eh wr Cs[i] ss[i]/\w.heap.size<=Cs[i])/\Below w.heap.size w wr) (λ_ i _=>ss.length-(intOf i).toNat)
 case atStart=>exact⟨0,[],bm _,rfl,rfl,World.ownsRow_nil _ _ _ _,λi h=>by omega,b2 _ _⟩
 case round=>
  obtain⟨k,Cs,hk,rfl,hCl,O,Y,hb⟩:=hrel;have HB:bz _:=hb;have hz:=hb.size;have HE:bz _:=Y;clear Y hb;by_cases ak:k<ss.length
  .obtain⟨bb,off,rfl,aa⟩:=HR.out k ak;have hc:=bs HB.out aa;have al:=ou ss[k] wr (HP.out.inv.jg _ (bh ak));clear aa;go_wp2_with fail;refine al.mono ?_;rintro e w1 ⟨C,rfl,hC,hs,ab⟩;have aB:=ab.size;have W:w1.ownsRow w.heap.size 85 1 _ k (Cs.map zC):=eD O (λj hj=>ab.block j (O.lt j hj).2);have am:bz (eh w1 C ss[k]/\wr.heap.size<=C):=⟨hs,hC⟩;have az:bz (Below w.heap.size w w1):=HB.out.trans (ab.mono hz);have a0:bz _:=ab;clear al hs ab
   go_wp2_with (first
    |(at_builtin; refine fj _ rfl _ _ 136 rfl w.heap.size 85 i0 (.map none) 8 b9 hi ag ah ai rfl _ _ _ rfl (W.alloc _) ⟨w1.heap.size,0,none⟩ _ rfl iG rfl ?c1 ?c2 ?c3 ?_))
   case c1=>omega
   case c2=>unfold bp; omega
   case c3=>first|omega|(simp; omega)
   intro v' w2 U y _
   have HW2:bz (w2.ownsRow w.heap.size 85 1 v' (k+1) ((Cs++[C]).map zC)):=by
    show w2.ownsRow _ _ _ _ _ _;rw[aR];exact U
   have HB2:bz (Below w.heap.size w w2):=(az.out.alloc (by omega) _).grown y (by simp; omega) (λb hb=>(O.lt b hb).1)
   have HE2:bz (∀i(h:i<k+1)(h':i<(Cs++[C]).length)(h2:i<ss.length),eh w2 (Cs++[C])[i] ss[i]/\w.heap.size<=(Cs++[C])[i]):=by
    intro i h h' h2
    have key:∀(D:Nat)(l:List dp),eh w1 D l->eh w2 D l:=λD l hm=>by
     have ac:eh (w1.alloc (.cells #[.map (some C)] 85)) D l:=dL.kept hm (bB _ _ none) (by simp);exact dL.kept ac y (pD (W.alloc _) ac)
    by_cases ad:i<k
    .rw[aW (by omega)];have hh:=HE.out i ad (by omega) h2;exact⟨key _ _ (dL.below hh.1 a0.out),hh.2⟩
    .have an:i=k:=by omega
     subst an;rw[aV (by omega)];simp only[hCl,Nat.sub_self,List.getElem_cons_zero];exact⟨key _ _ am.out.1,bl hz am.out.2⟩
   obtain⟨a',c',rfl,aF⟩:=dM HW2.out;clear U y O W;go_wp2;go_roundw
   case rel=>exact⟨k+1,Cs++[C],by omega,by go_num,by simp[hCl],HW2.out,HE2.out,HB2.out⟩
   case measure=>simp[intOf]; omega
  .have a3:k=ss.length:=by omega
   subst a3;have aC:=bs HB.out ay
   go_wp2_with (first
    |(at_builtin; refine fj _ rfl _ _ 136 rfl w.heap.size 85 i0 (.map none) 8 b9 hi ag ah ai rfl _ _ _ rfl (O.alloc _) ⟨wr.heap.size,0,none⟩ _ rfl iG rfl ?c1 ?c2 ?c3 ?_))
   case c1=>omega
   case c2=>unfold bp; omega
   case c3=>first|omega|(simp; omega)
   intro v' w2 U y _;have ao:Below w.heap.size w w2:=(HB.out.alloc hz _).grown y (by simp; omega) (λb hb=>(O.lt b hb).1)
   have ap:J4 w2 v' (Cs++[Bb]) (ss++[buf]):=by
    refine⟨?_,by simp[hCl],λi h h'=>?_⟩
    .rw[aR];exact Rd.jj U
    .have key:∀(D:Nat)(l:List dp),eh wr D l->eh w2 D l:=λD l hm=>by
      have ac:eh (wr.alloc (.cells #[.map (some Bb)] 85)) D l:=dL.kept hm (bB _ _ none) (by simp);exact dL.kept ac y (pD (O.alloc _) ac)
     by_cases ad:i<ss.length
     .have e1:(Cs++[Bb])[i]=Cs[i]'(by omega):=aW (by omega);have e2:(ss++[buf])[i]=ss[i]:=aW ad;rw[e1,e2];exact key _ _ (HE.out i ad (by omega) ad).1
     .have a4:i=ss.length:=by simp at h; omega
      subst a4;have h9:=h';have e1:(Cs++[Bb])[ss.length]'h9=Bb:=by rw[aV (by omega)]; simp[hCl]
      have e2:(ss++[buf])[ss.length]'h=buf:=by rw[aV (by omega)]; simp
      rw[e1,e2];exact key _ _ (dL.below HP.out.say HB.out)
   have a5:=MC HP.out.inv;have ae:=AU HP.out.inv;have aq:=zu v' (Cs++[Bb]) (ss++[buf]) w2 ap (by omega) ae;have HB2:bz _:=ao;have a6:bz _:=ae
   have a7:bz ((fV (ss++[buf])).length<=1000):=by
    show _<=_;have:=uK (ss++[buf]) (ss++[buf]).length (bj _);rw[List.take_length]at this;omega
   clear U y O ap ao ae a5;go_wp2_with fail;refine aq.mono ?_;rintro e w3 ⟨B3,rfl,aG,ar,au⟩;have av:=qC B3 (fV (ss++[buf])) w3 ar (by have:=a7.out; omega) (vZ a6.out);have af:bz (Below w.heap.size w w3):=HB2.out.trans (au.mono HB2.out.size);clear aq ar au;go_wp2_with fail;refine av.mono ?_;rintro e w4 ⟨C,rfl,hC,aw,ax⟩;have a8:bz (eh w4 C (eJ ss buf)):=by show eh _ _ _; rw[fp]; exact aw
   have a9:bz (Below w.heap.size w w4):=af.out.trans (ax.mono af.out.size);have aA:w.heap.size<=C:=bl af.out.size hC;clear av aw ax;go_wp2;go_ret;exact⟨C,rfl,aA,a8.out,a9.out⟩
end
end Go.Proofs.YtocbogeoffeolaaGreatDoor
