import Derived.Test.YtocbogeoffeolaaGreatDoorRefAB
import Derived.OrdersHeld
import Derived.RegionTactic
import Derived.Deep.RegionHeld3
import Derived.Recover
import Derived.Laws.EntriesVeiled
set_option linter.all false
set_option maxHeartbeats 8000000
set_option maxRecDepth 1000000
open List renaming append_nil->aO,length_map->aP,length_append->aQ,mem_map->aR,mem_cons_self->aT,map_append->aU,append_assoc->aV,length_cons->aW,getElem_append_right->aX,getElem_append_left->aY,mem_cons_of_mem->aZ,mem_filter->ba,map_cons->bc,take_of_length_le->bd,mem_append_right->be,filter_eq_self->bf,mem_singleton->bg,nodup_append->bh,perm_middle->bi,getElem_mem->bj,map_nil->bk
open Go renaming maxLen->bl,Calls->bm,heap_alloc_new->bn,cell_later->bo,TypeId->bp,wpList->bq,wp_region_held->br,wpAnyH->bs,results->bt
open Nat renaming le_refl->bu,le_trans->bv,zero_le->bw,shiftLeft_add_eq_or_of_lt->bx,lt_of_lt_of_le->bz
open Go.RowKit renaming Hid->b0,wrap64->b1,run_makeMap->b2
open Go.RowKit.Below renaming refl->b3,heap_alloc->b4
open Option renaming bind_eq_some_iff->b5,bind_some->b6
open Go.Proofs.Tryz renaming underlying9->b7,underlying85->b8,underlying214->b9,underlying136->b',ntmps69->bA,func69->bB
open Go.World renaming grownBy_alloc->bC,setCell->bD
open List.Perm renaming refl->bE
open Go.IntKind renaming wrap_i64->bF
open Go.Op renaming bytesLess->bG
namespace Go.Proofs.YtocbogeoffeolaaGreatDoor
open Go.Proofs.Tryz
section
variable {a:Act} {listed:Array Bool} {fuel:Nat} {w:World}
section
variable {P:Program} {md:Region.Mode} {ops:Array Oper} {Q:Exit->Act->World->Prop} {S:World->Prop}
theorem j7(i:Nat)(v:Value){O:Oper}(U:S w)
  (Y:∀w,S w->(execOp a.eval O).run P w=.ok (.value v) w) (h:bs P md ops Q S fuel (listed.setIfInBounds i true) (a.put O.dst v) w)
  (hi:ops[i]?=some O:=by rfl) (hs:Region.noSelect ops=true:=by kernel_rfl) (hf:Region.free md ops listed i=true:=by kernel_rfl)
  (hr:(Region.ready md ops listed).contains i=true:=by kernel_rfl) (hQ:∀c a w,Q (.panic c) (a.put O.dst v) w->Q (.panic c) a w:=by exact λ_ _ _ h=>h)
  (hw:Region.wanted O (yielded ops a.tmps)=true:=by rfl):bs P md ops Q S (fuel+1) listed a w:=
 wpAnyH_take hi hs hf hr hQ (.inl ⟨hw,Y⟩) U h
theorem nY(i:Nat){o:Oper}(h:∀K':Act->World->Prop,(∀O w',S w'/\bs P md ops Q S fuel (listed.setIfInBounds i true) O w'->K' O w')->Oper.wp P o a w K' Q)
  (U:Region.ready md ops listed=[i]:=by kernel_rfl) (Y:ops[i]?=some o:=by rfl) (hw:Region.wanted o (yielded ops a.tmps)=true:=by rfl):bs P md ops Q S (fuel+1) listed a w:=
 wpAnyH_all U (by simp) λj hj=>by
  obtain rfl:j=i:=by simpa using hj
  exact wpOp_step Y λK' hK=>by rw[if_pos hw]; exact h K' hK
end
end
section
open Go.RowKit
def Ps:PanicEntry:={v:=.iface 264 (.agg #[]),recovered:=false}
theorem jJ(w:World):bm prog 212 #[.bool true] w λe w'=>e=.returned (.tuple #[])/\w=w':=by
 go_wp2;go_end0;exact⟨rfl,rfl⟩
theorem Sm(w:World):bm prog 212 #[.bool false] w λe w'=>e=.panicked [Ps]/\w=w':=by
 go_wp2;exact⟨rfl,rfl,rfl⟩
def Cv(w:World)(Rb:Nat)(S:ByteArray)(p:Nat)(Mk:Nat)(O:Value):Prop:=w.heap[Rb]?=some (.cells #[.string S,.int .i64 p,.map (some Mk),O] 216 (0,0))
theorem KQ(s:ByteArray)(p n:Nat):s.extract p (p+n)=⟨((s.data.toList.drop p).take n).toArray⟩:=by
 apply ByteArray.ext;apply Array.ext';simp[List.take_drop]
theorem nt{w:World}{b o:Nat}{v:Value}{F:Nat->Prop}(hF:F b):gz F w (w.setCell ⟨b,o,none⟩ v):=
 ⟨rfl,rfl,rfl,by simp[bD],λk U O=>Below.heap_setCell _ _ _ _ (by intro e; subst e; exact O hF)⟩
theorem Qa(Rb:Nat)(S:ByteArray)(p Mk:Nat)(U:Value)(n:Nat)(w:World)(h:Cv w Rb S p Mk U)(hp:p+n<=S.size)(hS:S.size<=1099511627776) :
  bm prog 236 #[.pointer (some ⟨Rb,0,none⟩),.int .i64 n] w λe w'=>e=.returned (.string (S.extract p (p+n)))/\Cv w' Rb S (p+n) Mk U/\gz (· = Rb) w w'/\w'.heap.size=w.heap.size:=by
 unfold Cv at h;have c0:w.cell? ⟨Rb,0,none⟩=some (.string S):=by rw[gq h]; rfl
 have c1:w.cell? ⟨Rb,1,none⟩=some (.int .i64 p):=by rw[gq h]; rfl
 have f1:w.frozen? ⟨Rb,1,none⟩=false:=gP h 1;have HH:b0 _:=h;have ac:IntKind.i64.wrap ((S.size:Int)-(p:Int))=(S.size:Int)-(p:Int):=by simp only[bF]; omega
 have ad:(n:Int)<=(S.size:Int)-(p:Int):=by omega
 have Y:IntKind.i64.wrap ((p:Int)+(n:Int))=((p+n:Nat):Int):=by simp only[bF]; omega
 have aa:(p:Int)<=((p+n:Nat):Int):=by omega
 have ab:((p+n:Nat):Int)<=(S.size:Int):=by omega
 clear h;go_enter func236,ntmps236;go_wp2_with fail;go_region_held3 (λw'=>w'.cell? ⟨Rb,0,none⟩=some (.string S)/\w'.cell? ⟨Rb,1,none⟩=some (.int .i64 p)) (go_keep) (first|(go_at_call 212; refine(jJ _).mono ?_; rintro e w' ⟨rfl,rfl⟩));go_wp2_with fail;go_quiet (fail);go_wp2;go_ret
 have h1:((w.drewN (1+nq)).setCell ⟨Rb,1,none⟩ (.int .i64 ((p:Int)+(n:Int)))).heap[Rb]?=some (.cells #[.string S,.int .i64 ((p+n:Nat):Int),.map (some Mk),U] 216 (0,0)):=by
  rw[heap_set (w:=w.drewN (1+nq)) HH.out];simp
 refine⟨rfl,h1,?_,by simp[bD,World.drewN]⟩;have O:=nt (w:=w.drewN (1+nq)) (b:=Rb) (o:=1) (v:=.int .i64 ((p:Int)+(n:Int))) (F:=(· = Rb)) rfl;exact⟨O.os,O.tape,O.output,O.size,O.block⟩
theorem OW(R:Ending->World->Prop)(Rb:Nat)(S:ByteArray)(p Mk:Nat)(Y:Value)(n:Nat)(w:World)(h:Cv w Rb S p Mk Y)(hp:S.size<p+n)(aa:p<=S.size)(hS:S.size<=1099511627776)(O:R (.panicked [Ps]) w.drew) :
  bm prog 236 #[.pointer (some ⟨Rb,0,none⟩),.int .i64 n] w R:=by
 unfold Cv at h;have c0:w.cell? ⟨Rb,0,none⟩=some (.string S):=by rw[gq h]; rfl
 have c1:w.cell? ⟨Rb,1,none⟩=some (.int .i64 p):=by rw[gq h]; rfl
 have ab:IntKind.i64.wrap ((S.size:Int)-(p:Int))=(S.size:Int)-(p:Int):=by simp only[bF]; omega
 have ac:decide ((n:Int)<=(S.size:Int)-(p:Int))=false:=decide_eq_false (by omega);have U:∀tm:Array Value,bodyPost prog f236 R (.panic [Ps]) {tmps:=tm,defers:=[]} w.drew:=λ_=>⟨rfl,O⟩;clear h;go_enter func236,ntmps236;go_wp2_with fail;refine br (S:=λw'=>w'=w.drew) (by kernel_rfl) ?_;refine j7 0 ?_ rfl ?_<|j7 1 ?_ rfl ?_<|j7 2 ?_ rfl ?_<|j7 3 ?_ rfl ?_<|j7 4 ?_ rfl ?_<|j7 5 ?_ rfl ?_<|j7 6 ?_ rfl ?_<|j7 7 ?_ rfl ?_<|j7 8 ?_ rfl ?_<|j7 9 ?_ rfl ?_<|j7 10 ?_ rfl ?_<|j7 11 ?_ rfl ?_ ?_
 any_goals(rintro _ rfl; go_simp; first|done|with_reducible rfl)
 refine nY 12 λK' _=>?_;unfold Oper.wp;go_simp;refine(Sm _).mono ?_;rintro e w' ⟨rfl,rfl⟩;exact⟨rfl,O⟩
theorem RQ(Rb:Nat)(S:ByteArray)(p Mk:Nat)(U:Value)(n:Nat)(w:World)(h:Cv w Rb S p Mk U)(Y:S.size<p+n)(O:p<=S.size)(hS:S.size<=1099511627776) :
  bm prog 236 #[.pointer (some ⟨Rb,0,none⟩),.int .i64 n] w λe w'=>e=.panicked [Ps]/\gz (· = Rb) w w'/\w'.heap.size=w.heap.size:=
 OW _ Rb S p Mk U n w h Y O hS ⟨rfl,⟨rfl,rfl,rfl,bu _,λ_ _ _=>rfl⟩,rfl⟩
def JC(w:World)(Rb:Nat)(S:ByteArray)(rest:Wd)(Mk:Nat)(O:Value):Prop:=∃p:Nat,Cv w Rb S p Mk O/\p<=S.size/\S.data.toList.drop p=rest
def Ends{O:Type}(F:Nat->Prop)(w:World)(X:Option O)(ok:O->Ending->World->Prop)(e:Ending)(w':World):Prop:=gz F w w'/\match X with
 |some x=>ok x e w'
 |none=>e=.panicked [Ps]
theorem B6(Rb:Nat)(S:ByteArray)(rest:Wd)(Mk:Nat)(O:Value)(n:Nat)(w:World)(h:JC w Rb S rest Mk O)(Y:S.size<=1099511627776) :
  bm prog 236 #[.pointer (some ⟨Rb,0,none⟩),.int .i64 n] w (Ends (· = Rb) w (rT n rest) λx e w'=>e=.returned (.string ⟨x.1.toArray⟩)/\JC w' Rb S x.2 Mk O/\w'.heap.size=w.heap.size):=by
 obtain⟨p,h1,h2,rfl⟩:=h;have hl:(S.data.toList.drop p).length=S.size-p:=by simp
 unfold rT;by_cases hn:n<=(S.data.toList.drop p).length
 .rw[if_pos hn];refine(Qa Rb S p Mk O n w h1 (by omega) Y).mono ?_;rintro e w' ⟨rfl,g1,U,g3⟩;refine⟨U,?_,⟨p+n,g1,by omega,by simp⟩,g3⟩;rw[KQ]
 .rw[if_neg hn];refine(RQ Rb S p Mk O n w h1 (by omega) h2 Y).mono ?_;rintro e w' ⟨rfl,U,g3⟩;exact⟨U,rfl⟩
theorem pZ(Rb:Nat)(S:ByteArray)(rest:Wd)(Mk:Nat)(O:Value)(w:World)(h:JC w Rb S rest Mk O)(hS:S.size<=1099511627776) :
  bm prog 233 #[.pointer (some ⟨Rb,0,none⟩)] w (Ends (· = Rb) w (rdNum rest) λx e w'=>e=.returned (.int .i64 x.1)/\JC w' Rb S x.2 Mk O/\w'.heap.size=w.heap.size):=by
 have ht:=B6 Rb S rest Mk O 1 w h hS
 cases rest with
 |nil=>
  go_enter func233,ntmps233;go_wp2_with fail;refine ht.mono ?_;rintro e w' ⟨g1,U⟩;subst U;exact⟨rfl,g1,rfl⟩
 |cons b r=>
  go_enter func233,ntmps233;go_wp2_with fail;refine ht.mono ?_;rintro e w' ⟨g1,U⟩;obtain⟨rfl,g3,g4⟩:=U;have Y:b0 (gz _ w w'/\JC w' Rb S r Mk O/\w'.heap.size=w.heap.size):=⟨g1,g3,g4⟩;go_wp2;go_ret;refine⟨Y.out.1,?_,Y.out.2.1,Y.out.2.2⟩;have hb:=b.toNat_lt;show Ending.returned (.int _ (b1 b.toNat))=.returned _;refine iP ?_;unfold b1;omega
end
section
open Go.RowKit
theorem gz.then{F:Nat->Prop}{a b c:World}(h:gz F a b)(k:gz F b c):gz F a c:=h.trans k (λ_ _ h=>h)
theorem wL(Rb:Nat)(S:ByteArray)(rest:Wd)(Mk:Nat)(Y:Value)(w:World)(h:JC w Rb S rest Mk Y)(hS:S.size<=1099511627776) :
  bm prog 213 #[.pointer (some ⟨Rb,0,none⟩)] w (Ends (· = Rb) w (lX rest) λx e w'=>e=.returned (.string ⟨x.1.toArray⟩)/\JC w' Rb S x.2 Mk Y/\w'.heap.size=w.heap.size):=by
 have ht:=pZ Rb S rest Mk Y w h hS;unfold lX;clear h
 cases U:rdNum rest with
 |none=>
  rw[U]at ht;clear U;go_enter func213,ntmps213;go_wp2_with fail;refine ht.mono ?_;rintro e w' ⟨g1,rfl⟩;exact⟨rfl,g1,rfl⟩
 |some x=>
  obtain⟨n,r⟩:=x;rw[U]at ht;go_enter func213,ntmps213;go_wp2_with fail;refine ht.mono ?_;rintro e w1 ⟨g1,rfl,g2,g3⟩;have O:=B6 Rb S r Mk Y n w1 g2 hS
  cases U:rT n r with
  |none=>
   rw[U]at O;go_wp2_with fail;refine O.mono ?_;rintro e w2 ⟨g4,rfl⟩;exact⟨rfl,g1.then g4,by simp only[b6,U]⟩
  |some y=>
   rw[U]at O;have HN:b0 _:=U;go_wp2_with fail;refine O.mono ?_;rintro e w2 ⟨g4,rfl,g5,g6⟩;have HF:b0 (gz _ w w2/\JC w2 Rb S _ Mk Y/\w2.heap.size=w.heap.size):=⟨g1.then g4,g5,by omega⟩;go_wp2;go_ret;refine⟨HF.out.1,?_⟩;simp only[b6,HN.out];exact⟨rfl,HF.out.2⟩
theorem DG(n:Nat)(h:n<18446744073709551616):(BitVec.ofInt 64 (n:Int)).toNat=n:=by
 rw[BitVec.toNat_ofInt];omega
theorem P9(x y:Nat)(O:x<4294967296)(U:y<4294967296):bits .or .i64 (x:Int) (y:Int)=((x ||| y:Nat):Int):=by
 show IntKind.i64.wrap ((BitVec.ofInt 64 x ||| BitVec.ofInt 64 _).toNat)=_;rw[BitVec.toNat_or,DG x (by omega),DG y (by omega)];have h:x ||| y<2 ^ 32:=Nat.or_lt_two_pow (by omega) (by omega)
 rw[bF];omega
theorem JL(a b c:UInt8):bits BinOp.or IntKind.i64 (bits BinOp.or IntKind.i64 (b1 (b1 (a.toNat:Int)*65536)) (b1 (b1 (b.toNat:Int)*256))) (b1 (c.toNat:Int))=((a.toNat*65536+b.toNat*256+c.toNat:Nat):Int):=by
 have ha:=a.toNat_lt;have hb:=b.toNat_lt;have hc:=c.toNat_lt;have O:b1 (b1 a.toNat*65536)=((a.toNat <<< 16)):=by unfold b1; omega
 have U:b1 (b1 b.toNat*256)=((b.toNat <<< 8)):=by unfold b1; omega
 have Y:b1 c.toNat=c.toNat:=by unfold b1; omega
 have l1:a.toNat <<< 16<4294967296:=by omega
 have l2:b.toNat <<< 8<2 ^ 16:=by omega
 have j1:a.toNat <<< 16 ||| b.toNat <<< 8=a.toNat <<< 16+b.toNat <<< 8:=(bx l2 _).symm
 have j2:(a.toNat <<< 16+b.toNat <<< 8) ||| c.toNat=a.toNat <<< 16+b.toNat <<< 8+c.toNat:=by
  have:a.toNat <<< 16+b.toNat <<< 8=(a.toNat*256+b.toNat) <<< 8:=by omega
  rw[this];exact(bx (by omega) _).symm
 rw[O,U,Y,P9 _ _ l1 (by omega),j1,P9 _ _ (by omega) (by omega),j2];simp only[Nat.shiftLeft_eq]
theorem Ag(Rb:Nat)(S:ByteArray)(rest:Wd)(Mk:Nat)(vt:Value)(w:World)(h:JC w Rb S rest Mk vt)(hS:S.size<=1099511627776) :
  bm prog 237 #[.pointer (some ⟨Rb,0,none⟩)] w (Ends (· = Rb) w (kO rest) λx e w'=>e=.returned (.int .i64 x.1)/\JC w' Rb S x.2 Mk vt/\w'.heap.size=w.heap.size):=by
 have O:=B6 Rb S rest Mk vt 3 w h hS;clear h hS
 have U:∀rest:Wd,rest.length<3->bm prog 236 #[.pointer (some ⟨Rb,0,none⟩),.int .i64 3] w (Ends (· = Rb) w (rT 3 rest) λx e w'=>e=.returned (.string ⟨x.1.toArray⟩)/\JC w' Rb S x.2 Mk vt/\w'.heap.size=w.heap.size)->kO rest=none->
   bm prog 237 #[.pointer (some ⟨Rb,0,none⟩)] w (Ends (· = Rb) w (kO rest) λx e w'=>e=.returned (.int .i64 x.1)/\JC w' Rb S x.2 Mk vt/\w'.heap.size=w.heap.size):=by
  intro rest hl O hw;have hn:rT 3 rest=none:=by unfold rT; rw[if_neg (by omega)]
  rw[hn]at O;rw[hw];go_enter func237,ntmps237;go_wp2_with fail;refine O.mono ?_;rintro e w' ⟨g1,rfl⟩;exact⟨rfl,g1,rfl⟩
 match rest,O with
 |[],O=>exact U _ (by simp) O rfl
 |[_],O=>exact U _ (by simp) O rfl
 |[_,_],O=>exact U _ (by simp) O rfl
 |a::b::c::r,O=>
  go_enter func237,ntmps237;go_wp2_with fail;refine O.mono ?_;rintro e w1 ⟨g1,rfl,g2,g3⟩;have Y:b0 (gz _ w w1/\JC w1 Rb S r Mk vt/\w1.heap.size=w.heap.size):=⟨g1,g2,g3⟩;go_wp2_with fail;go_quiet (fail);go_wp2;go_ret;refine⟨⟨Y.out.1.os,Y.out.1.tape,Y.out.1.output,Y.out.1.size,Y.out.1.block⟩,?_,Y.out.2.1,Y.out.2.2⟩;exact iP (JL a b c)
end
section
open Go.RowKit Go.Maps
variable {l:List (Wd×Value)} {B:Nat} {P:Program} {k:bp} {w:World}
theorem tC(s:ByteArray)(w:World)(hs:s.size<=bl) :
  bm prog 69 #[.string s] w λe w'=>e=.returned (.bool (jE s.data.toList))/\w=w':=by
 unfold bl at hs;by_cases h0:0<s.size
 .by_cases h8:s.size<=8
  .go_enter bB,bA;go_wp2;go_loop [14] (λi=>∃k:Nat,k<=s.size/\i=.int .i64 k/\(s.data.toList.take k).all ik=true) (λi=>s.size-(intOf i).toNat)
   case atStart=>exact⟨0,bw _,rfl,rfl⟩
   case round=>
    obtain⟨k,hk,rfl,ji⟩:=hrel;have HA:b0 _:=ji;clear ji;by_cases O:k<s.size
    .have HS:b0 (s.data.toList.take (k+1)=s.data.toList.take k++[s[k]]):=xe s k O;go_wp2_with fail;refine(pq _ _).mono ?_;rintro e w' ⟨rfl,rfl⟩
     cases Y:ik s[k]with
     |true=>
      have HP:b0 _:=Y;clear Y;go_wp2;go_round
      case rel=>exact⟨k+1,by omega,by go_num,by rw[HS.out,List.all_append,HA.out]; simp[HP.out]⟩
      case measure=>simp[intOf]; omega
     |false=>
      have HP:b0 _:=Y;clear Y;go_wp2;go_ret;refine⟨iy ?_,rfl⟩;symm;rw[Bool.eq_false_iff];intro hq;simp only[jE,Bool.and_eq_true]at hq;have:=List.all_eq_true.1 hq.1.1 _ (F5 s k O);rw[HP.out]at this;simp at this
    .go_wp2;go_ret;refine⟨iy ?_,rfl⟩;have e:s.data.toList.take k=s.data.toList:=bd (by simp; omega);have U:=HA.out;rw[e]at U;unfold jE;rw[U];simp;omega
  .go_enter bB,bA;go_wp2;go_ret;refine⟨iy ?_,rfl⟩;simp[jE];omega
 .go_enter bB,bA;go_wp2;go_ret;refine⟨iy ?_,rfl⟩;simp[jE];omega
def wP(e:gu):Wd:=if e.gone then []else e.name
def tk(e:gu):Value:=.agg #[.bool e.gone,.string ⟨(wP e).toArray⟩,.string ⟨e.text.toArray⟩,.int .i64 e.gw,.int .i64 e.gK]
def lR(e:gu):Wd×Value:=(e.name,tk e)
def Rm(e:gu):Wd×Value:=(e.name,.agg #[])
def iu(w:World)(B:Nat)(es:List gu):Prop:=gT prog 9 w B (es.map lR)
theorem gT.map(h:gT P k w B l):∃es clock,w.heap[B]?=some (.map es clock):=by
 obtain⟨D,⟨es,clock,O,_⟩,_⟩:=h;exact⟨es,clock,O⟩
theorem gT.pX{b:Nat}(h:gT P k w B l){cs:Array Value}{t:bp}{fz:Nat×Nat}(hb:w.heap[b]?=some (.cells cs t fz)):B≠b:=by
 obtain⟨es,clock,O⟩:=h.map;intro e;rw[e,hb]at O;cases O
theorem iQ{k:Nat}{o:Obj}(h:w.heap[k]?=some o):k<w.heap.size:=(Array.getElem?_eq_some_iff.1 h).1
theorem N4(told:List gu)(x:Wd):((told.map Rm).any λp=>p.1==x)=decide (x∈told.map gu.name):=by
 rw[Bool.eq_iff_iff,decide_eq_true_eq,List.any_eq_true,aR];constructor
 .rintro⟨p,U,h⟩;obtain⟨e,O,rfl⟩:=aR.1 U;exact⟨e,O,by simpa[Rm]using h⟩
 .rintro⟨e,O,rfl⟩;exact⟨Rm e,aR.2 ⟨e,O,rfl⟩,by simp[Rm]⟩
theorem MH(told:List gu)(x:Wd):pf (told.map Rm) x (.agg #[])=.agg #[]:=by
 unfold pf;split
 .rename_i p O;obtain⟨e,_,rfl⟩:=aR.1 (List.mem_of_find?_eq_some O);rfl
 .rfl
theorem Nu(O:List Wd)(last U:Wd):qd O last U=(lX U).bind λx=>if jE x.1=true/\bG last x.1=true/\x.1 ∉ O then some x else none:=rfl
theorem Uz(x y:Wd):(!bG x y && !x==y)=bG y x:=by
 rcases kR x y with h|h|h
 .rw[h,rN h]; rfl
 .subst h; rw[kJ]; simp
 .rw[h,rN h];have:(x==y)=false:=by rw[beq_eq_false_iff_ne]; exact λe=>CG h e.symm
  rw[this]; rfl
theorem RI(w:World):(zeroValue 263).run prog w=.ok (.agg #[]) w:=by kernel_rfl
def Bp(e:gu):Value:=.agg #[.string ⟨e.name.toArray⟩,.string ⟨e.text.toArray⟩,.int .i64 e.gw,.int .i64 e.gK]
theorem LD(told:List gu)(e:gu)(f:gu->Wd×Value)(O:∀e,(f e).1=e.name)(h:e.name ∉ told.map gu.name):tA (told.map f) e.name (f e).2=(told++[e]).map f:=by
 unfold tA;rw[bf.2,aU,bc,bk]
 .have:(e.name,(f e).2)=f e:=by rw[<-O e]
  rw[this]
 .intro p U;obtain⟨x,Y,rfl⟩:=aR.1 U;simp only[bne_iff_ne,ne_eq,O];intro e2;exact h (aR.2 ⟨x,Y,e2⟩)
theorem gz.rk{w':World}(h:w.grownBy w' (some B)):gz (· = B) w w':=⟨h.os,h.tape,h.output,h.size,λk O U=>h.block k O (λe=>U (by simpa using e))⟩
theorem PM(Bx Bs:Nat)(told:List gu)(e:gu)(at_:Int)(w:World)(hx:w.heap[Bx]?=some (.cells #[.map (some Bs)] 85 (0,0)))(hs:iu w Bs told)(hn:e.name ∉ told.map gu.name)(hl:told.length<1099511627776)(ac:e.name.length<=bl) :
  bm prog 130 #[.int .i64 at_,.string ⟨e.name.toArray⟩,tk e,.pointer (some ⟨Bx,0,none⟩)] w λen w'=>en=.returned (.tuple #[])/\iu w' Bs (told++[e])/\gz (· = Bs) w w':=by
 have ah:=iQ hx;have hc:w.cell? ⟨Bx,0,none⟩=some (.map (some Bs)):=by rw[gq hx]; rfl
 have Y:=LD told e lR (λ_=>rfl) hn;obtain⟨w0,aa⟩:∃w0,w.alloc (.cells #[.bool e.gone,.string ⟨(wP e).toArray⟩,.string ⟨e.text.toArray⟩,.int .i64 e.gw,.int .i64 e.gK] 111)=w0:=⟨_,rfl⟩;have U:Below w.heap.size w w0:=by rw[<-aa]; exact(b3 _ _).alloc (bu _) _
 have ab:iu w0 Bs told:=gT.below hs U;have O:w0.heap[w.heap.size]?=some (.cells #[.bool e.gone,.string ⟨(wP e).toArray⟩,.string ⟨e.text.toArray⟩,.int .i64 e.gw,.int .i64 e.gK] 111 (0,0)):=by rw[<-aa]; exact bn w _
 have d0:w0.cell? ⟨w.heap.size,0,none⟩=some (.bool e.gone):=by rw[gq O]; rfl
 have d1:w0.cell? ⟨w.heap.size,1,none⟩=some (.string ⟨(wP e).toArray⟩):=by rw[gq O]; rfl
 have d2:w0.cell? ⟨w.heap.size,2,none⟩=some (.string ⟨e.text.toArray⟩):=by rw[gq O]; rfl
 have d3:w0.cell? ⟨w.heap.size,3,none⟩=some (.int .i64 e.gw):=by rw[gq O]; rfl
 have d4:w0.cell? ⟨w.heap.size,4,none⟩=some (.int .i64 e.gK):=by rw[gq O]; rfl
 have ai:=bo U hc;have ad:b0 _:=U;have ae:b0 _:=ab;have HP:b0 _:=Y;clear hx hs hn O hc U ab Y;unfold tk;go_enter func130,ntmps130;go_wp2_with (first|(at_mapUpdate; refine mg _ rfl _ _ _ 85 rfl 111 b7 b8 rfl ae.out (by rw[aP]; unfold bl; omega) e.name ac rfl (tk e) rfl ?_; intro w1 af ag aj));go_end0;refine⟨rfl,?_,?_⟩
 .unfold iu;rw[<-HP.out];exact af
 .exact(gz.jm ad.out).then (gz.rk ag)
end
section
open Go.RowKit Go.Maps
theorem Eu{nm r:Wd}{y:gu×Wd}(h:mZ nm r=some y):∃tx wt tg O,y=(⟨nm,false,tx,wt,tg⟩,O)/\tx.length<256/\O.length<=r.length:=by
 have h0:=h;unfold mZ at h;obtain⟨x,U,h⟩:=b5.1 h;split at h
 .obtain⟨z,Y,h⟩:=b5.1 h;split at h
  .obtain⟨u,hu,h⟩:=b5.1 h;simp only[Option.some.injEq]at h;subst h;obtain⟨g1,g2⟩:=kM U;refine⟨_,_,_,_,rfl,g2,?_⟩;have g3:=(mL Y).1;have g4:=(kz hu).1;rw[g1,g3,g4];simp;omega
  .simp at h
 .simp at h
end
section
open Go.RowKit Go.Maps
theorem Uc(a b:Wd):(⟨a.toArray⟩:ByteArray)++⟨b.toArray⟩=⟨(a++b).toArray⟩:=by
 apply ByteArray.ext;simp
end
section
open Go.RowKit Go.Maps
theorem Ja(p:Addr)(w:World) :
  CallsD prog 210 #[.pointer (some p)] .returning w λe U w'=>e=.returned (.tuple #[])/\U=.returning/\w'=w:=by
 refine callsD_of_wpS func210 rfl λO cs Y=>?_;apply wpS_seq;apply wpS_region;simp[wpOpsS,go_sem,recoverD,Y,ntmps210,Exit.thenS];refine wpS_of_wp ?_;change Code.wp _ _ _ {tmps:=#[.pointer (some p),.nilIface,undef,undef,.nilIface,undef,undef,undef,undef,undef,undef,undef,undef,undef,undef],defers:=[]} _;go_wp2;cases O;simp_all [bodyPostS,bt,results210]
end
section
open Go.RowKit Go.Maps
variable {fs rst:List gu} {r:Nat}
theorem we(es:List gu)(e:gu)(v:Value)(O:v=tk e):tA (es.map lR) e.name v=(gQ es [e]).map lR:=by
 subst O;unfold tA gQ;rw[aU,List.filter_map]
 have:(es.filter ((λp=>p.1 != e.name) ∘ lR))=es.filter (lA [e]):=by
  refine List.filter_congr λx _=>?_;rw[Bool.eq_iff_iff,kH];simp[names,lR]
 rw[this];rfl
theorem iu.perm{w:World}{B:Nat}{es:List gu}(h:iu w B es)(O:es.Perm fs):iu w B fs:=gT.perm h (O.map lR)
theorem iu.nodup{w:World}{B:Nat}{es:List gu}(h:iu w B es):(es.map gu.name).Nodup:=by
 have:=gT.nodup h;rw[List.map_map]at this;exact this
theorem R5(B:Nat)(es:List gu)(e:gu)(w:World)(hs:iu w B es)(hg:e.gone=false)(hl:es.length<1099511627776)(ab:e.name.length<=bl) :
  bm prog 72 #[.map (some B),Bp e] w λen w'=>en=.returned (.tuple #[])/\iu w' B (gQ es [e])/\gz (· = B) w w':=by
 obtain⟨nm,gn,tx,wt,tg⟩:=e;simp only at hg;subst hg;have U:=we es ⟨nm,false,tx,wt,tg⟩ (.agg #[.bool false,.string ⟨nm.toArray⟩,.string ⟨tx.toArray⟩,.int .i64 wt,.int .i64 tg]) rfl;obtain⟨w0,aa⟩:∃w0,w.alloc (.cells #[.string ⟨nm.toArray⟩,.string ⟨tx.toArray⟩,.int .i64 wt,.int .i64 tg] 96)=w0:=⟨_,rfl⟩;have Y:Below w.heap.size w w0:=by rw[<-aa]; exact(b3 _ _).alloc (bu _) _
 have O:w0.heap[w.heap.size]?=some (.cells #[.string ⟨nm.toArray⟩,.string ⟨tx.toArray⟩,.int .i64 wt,.int .i64 tg] 96 (0,0)):=by rw[<-aa]; exact bn w _
 have d0:w0.cell? ⟨w.heap.size,0,none⟩=some (.string ⟨nm.toArray⟩):=by rw[gq O]; rfl
 have d1:w0.cell? ⟨w.heap.size,1,none⟩=some (.string ⟨tx.toArray⟩):=by rw[gq O]; rfl
 have d2:w0.cell? ⟨w.heap.size,2,none⟩=some (.int .i64 wt):=by rw[gq O]; rfl
 have d3:w0.cell? ⟨w.heap.size,3,none⟩=some (.int .i64 tg):=by rw[gq O]; rfl
 have ac:b0 _:=Y;have ad:b0 (iu w0 B es):=gT.below hs Y;have HP:b0 _:=U;clear hs O Y U;unfold Bp;go_enter func72,ntmps72;go_wp2_with (first|(at_mapUpdate; refine mg _ rfl _ _ _ 85 rfl 111 b7 b8 rfl ad.out (by rw[aP]; unfold bl; omega) nm ab rfl _ rfl ?_; intro w1 ae af ag));go_end0;refine⟨rfl,?_,(gz.jm ac.out).then (gz.rk af)⟩;unfold iu;rw[<-HP.out];exact ae
theorem DV(B:Nat)(es:List gu)(nm:Wd)(w:World)(hs:iu w B es)(hl:es.length<1099511627776)(U:nm.length<=bl) :
  bm prog 71 #[.map (some B),.string ⟨nm.toArray⟩] w λen w'=>en=.returned (.tuple #[])/\iu w' B (gQ es [⟨nm,true,[],0,0⟩])/\gz (· = B) w w':=by
 have O:=we es ⟨nm,true,[],0,0⟩ (.agg #[.bool true,.string ⟨#[]⟩,.string ⟨#[]⟩,.int .i64 0,.int _ 0]) rfl;have Y:b0 _:=hs;have HP:b0 _:=O;go_enter func71,ntmps71;go_wp2_with (first|(refine mg _ rfl _ _ _ 85 rfl _ b7 b8 rfl Y.out (by rw[aP]; unfold bl; omega) nm U rfl _ rfl ?_; intro w1 aa ab ac));go_end0;refine⟨rfl,?_,gz.rk ab⟩;unfold iu;rw[<-HP.out];exact aa
def ow(w:World)(B r:Nat)(es rst:List gu):Prop:=iq prog 9 w B r (es.map lR) (rst.map lR)
theorem iq.perm{P:Program}{k:bp}{w:World}{B:Nat}{l a b:List (Wd×Value)}(h:iq P k w B r l a)(O:a.Perm b):iq P k w B r l b:=by
 obtain⟨U,Y,D,left,cnt,h3,h4,h5⟩:=h;exact⟨(O.map _).nodup_iff.1 U,λp hm=>Y p (O.mem_iff.2 hm),D,left,cnt,h3,h4,λx=>by rw[h5 x,FW O]⟩
theorem QU{p:Wd×Value}{left:List (Wd×Value)}(h:(rst.map lR).Perm (p::left)):∃e O,p=lR e/\left.Perm (O.map lR)/\rst.Perm (e::O):=by
 have hm:=h.mem_iff.2 (aT ..);obtain⟨e,U,rfl⟩:=aR.1 hm;obtain⟨a,b,rfl⟩:=List.append_of_mem U;refine⟨e,a++b,rfl,?_,bi⟩
 have Y:((a++e::b).map lR).Perm (lR e::(a++b).map lR):=by
  exact bi.map _
 exact(h.symm.trans Y).cons_inv
section
variable {B:Nat} {es:List gu} (w:World) {ops:Array Oper} {rest:List Oper} {o:Oper} {a:Act} {Q:Exit->Act->World->Prop}
theorem mR(U:o.guard=none)(m:Operand)(O:o.op=Op.range 85 m)(hm:a.eval m=.map (some B))(h:iu w B es)
  (Y:∀w',ow w' B w.heap.size es es->w.grownBy w' none->w'.heap.size=w.heap.size+1->bq prog ops Q rest (a.put o.dst (.pointer (some ⟨w.heap.size,0,none⟩))) w') :
  bq prog ops Q (o::rest) a w:=
 Cp w U m 85 O _ b7 b8 hm h Y
theorem nN(hg:o.guard=none)(it:Operand)(Y:o.op=Op.next it false)(r:Nat)(rst:List gu)
  (aa:a.eval it=.pointer (some ⟨r,0,none⟩)) (h:ow w B r es rst)
  (U:rst=[]->bq prog ops Q rest (a.put o.dst (.tuple #[.bool false])) w)
  (hMore:∀(e:gu)(O:List gu)(w':World),rst.Perm (e::O)->ow w' B r es O->w'.rangeLeft B r<w.rangeLeft B r->w.grownBy w' (some r)->w'.heap.size=w.heap.size->
    (Instr.entry (.pointer (some ⟨r,0,none⟩))).run prog w'=.ok (.tuple #[.string ⟨e.name.toArray⟩,.agg #[.bool e.gone,.string ⟨(wP e).toArray⟩,.string ⟨e.text.toArray⟩,.int .i64 e.gw,.int .i64 e.gK]]) w'->
    bq prog ops Q rest (a.put o.dst (.tuple #[.bool true,.string ⟨e.name.toArray⟩,.agg #[.bool e.gone,.string ⟨(wP e).toArray⟩,.string ⟨e.text.toArray⟩,.int .i64 e.gw,.int .i64 e.gK]])) w') :
  bq prog ops Q (o::rest) a w:=by
 refine Ev w hg it Y b7 r _ aa h (λh0=>U (by simpa using h0)) ?_;intro p ab w' hp hr ac ad ae af;obtain⟨e,O,rfl,h1,h2⟩:=QU hp;exact hMore e O w' h2 (hr.perm h1) ac ad ae af
end
theorem ow.alloc{w:World}{B:Nat}{es:List gu}(h:ow w B r es rst)(o:Obj):ow (w.alloc o) B r es rst:=iq.kept h (bC w o none) (by simp) (by simp)
theorem lE{w:World}{B:Nat}{o:Obj}(O:B<w.heap.size)(U:r<w.heap.size):(w.alloc o).rangeLeft B r=w.rangeLeft B r:=
 iq.mB (b4 _ _ _ O) (b4 _ _ _ U)
theorem ox{w0 w w':World}(h:Below w0.heap.size w0 w)(O:w.grownBy w' (some r))(U:w0.heap.size<=r):Below w0.heap.size w0 w':=h.grown O h.size (λk Y=>by cases Y; exact U)
def lH(es:List gu):Nat:=(es.filter λe=>e.gone).length
theorem Ax(es:List gu)(e:gu):lH (es++[e])=lH es+(if e.gone then 1 else 0):=by
 unfold lH;cases h:e.gone<;>simp[h]
theorem G3(es:List gu):lH es<=es.length:=List.length_filter_le ..
theorem Kw{es:List gu}(h:es.Perm fs):lH es=lH fs:=(h.filter _).length_eq
theorem lL{U O es:List gu}{e:gu}(h:(U++rst).Perm es)(Y:rst.Perm (e::O)):((U++[e])++O).Perm es:=by
 refine List.Perm.trans ?_ h;rw[aV];exact(bE U).append Y.symm
theorem CF(B:Nat)(es:List gu)(w:World)(hs:iu w B es)(hl:es.length<1099511627776) :
  bm prog 70 #[.map (some B)] w λen w'=>en=.returned (.int .i64 (lH es))/\Below w.heap.size w w':=by
 have HS:b0 (iu w B es):=hs;have ak:=gT.lt hs;clear hs;go_enter func70,ntmps70;go_wp2_with (first|(at_range; refine mR _ rfl _ rfl rfl HS.out ?_; intro w0 hrg0 hg0 al));go_frame;go_loopw [3] (λg wr=>∃(O rst:List gu),(O++rst).Perm es/\g=.int .i64 (lH O)/\ow wr B w.heap.size es rst/\Below w.heap.size w wr) (λ_ wr=>wr.rangeLeft B w.heap.size)
 case atStart=>exact⟨[],es,bE _,rfl,hrg0,(b3 _ w).grown hg0 (bu _) (λk hk=>by cases hk)⟩
 case round=>
  obtain⟨O,rst,iC,rfl,hr,hb⟩:=hrel;have HP:b0 ((O++rst).Perm es):=iC;have HR:b0 (ow wr B w.heap.size es rst):=hr;have HB:b0 (Below w.heap.size w wr):=hb
  have am:lH O<=es.length:=by
   have h1:=G3 O;have h2:=iC.length_eq;rw[aQ]at h2;omega
  clear iC hr hb;go_wp2_with (first|(at_next; refine nN _ rfl _ rfl w.heap.size rst rfl HR.out ?_ ?_))
  .intro h0
   have HE:b0 (lH O=lH es):=by
    show _=_;refine Kw ?_;have:=HP.out;rw[h0,aO]at this;exact this
   clear h0;go_wp2;go_ret;exact⟨iP (by rw[HE.out]),HB.out⟩
  .intro e U w1 ab Y aa ac ad an;have ae:=iq.lt Y;have af:=gT.lt (iq.owns Y);have ag:b0 (Below w.heap.size w w1):=ox HB.out ac (bu _);have ah:b0 (ow w1 B w.heap.size es U):=Y;have ai:b0 (w1.rangeLeft B w.heap.size<wr.rangeLeft B w.heap.size):=aa;have aj:b0 (rst.Perm (e::U)):=ab;clear ab Y aa ac;obtain⟨nm,gn,tx,wt,tg⟩:=e
   cases gn with
   |false=>
    go_wp2;go_roundw
    case rel=>
     refine⟨O++[⟨nm,false,tx,wt,tg⟩],U,lL HP.out aj.out,?_,ah.out.alloc _,ag.out.alloc (bv HB.out.size (by rw[ad]; exact bu _)) _⟩;rw[Ax];simp
    case measure=>
     rw[lE af ae];exact ai.out
   |true=>
    go_wp2;go_roundw
    case rel=>
     refine⟨O++[⟨nm,true,tx,wt,tg⟩],U,lL HP.out aj.out,?_,ah.out.alloc _,ag.out.alloc (bv HB.out.size (by rw[ad]; exact bu _)) _⟩;rw[Ax];go_num
    case measure=>
     rw[lE af ae];exact ai.out
end
section
open Go.RowKit Go.Maps
variable {e:gu} {l:List gu}
theorem Gv(h:e.name ∉ l.map gu.name):gQ l [e]=l++[e]:=by
 unfold gQ;rw[bf.2];intro x O;rw[kH];simp only[names,bc,bk,bg];intro U;exact h (aR.2 ⟨x,O,U⟩)
theorem G5{O rst U es:List gu}(hn:(es.map gu.name).Nodup)(h:(O++rst).Perm es)(hp:rst.Perm (e::U)):e.name ∉ O.map gu.name:=by
 have h1:=lL h hp;have Y:=(h1.map _).nodup_iff.2 hn;rw[aU,aU,bh]at Y;have h3:=Y.1;rw[bh]at h3;intro hm;exact h3.2.2 _ hm _ (by simp) rfl
theorem yC(l:List gu)(e:gu):gD (l++[e])=gD l++(if e.gone then []else [e]):=by
 unfold gD;cases h:e.gone<;>simp[h]
theorem Fe{x:Wd}(h:x ∉ l.map gu.name):x ∉ (gD l).map gu.name:=by
 intro hm;obtain⟨e,O,rfl⟩:=aR.1 hm;exact h (aR.2 ⟨e,(ba.1 O).1,rfl⟩)
theorem tI(B:Nat)(es:List gu)(w:World)(hs:iu w B es)(hl:es.length<1099511627776)(ak:∀e∈es,e.name.length<=bl) :
  bm prog 60 #[.map (some B)] w λen w'=>∃C,en=.returned (.map (some C))/\w.heap.size<=C/\iu w' C (gD es)/\Below w.heap.size w w':=by
 have a7:=@b2 prog;have al:=hs.nodup;obtain⟨w0,ag⟩:∃w0,w.alloc (.map #[] 0)=w0:=⟨_,rfl⟩;have aw:w0.heap.size=w.heap.size+1:=by rw[<-ag]; simp
 have hb0:Below w.heap.size w w0:=by rw[<-ag]; exact(b3 _ _).alloc (bu _) _
 have hM0:iu w0 w.heap.size []:=by rw[<-ag]; exact gT.made w
 have HS:b0 (iu w0 B es):=gT.below hs hb0;have ax:b0 ((es.map gu.name).Nodup):=al;have ay:b0 (∀e∈es,e.name.length<=bl):=ak;have a8:=gT.lt hs;clear hs al ak;go_enter func60,ntmps60;go_wp2_with (first|(at_range; refine mR _ rfl _ rfl rfl HS.out ?_; intro w1 hrg0 hg0 az));rw[aw]at hrg0 az⊢;go_frame;go_loopw [4] (λ_ wr=>∃(O rst:List gu),(O++rst).Perm es/\ow wr B (w.heap.size+1) es rst/\iu wr w.heap.size (gD O)/\Below w.heap.size w wr) (λ_ wr=>wr.rangeLeft B (w.heap.size+1))
 case atStart=>exact⟨[],es,bE _,hrg0,gT.kept hM0 hg0 (by simp),hb0.grown hg0 hb0.size (λk hk=>by cases hk)⟩
 case round=>
  obtain⟨O,rst,iC,hr,hm,hb⟩:=hrel;have HP:b0 ((O++rst).Perm es):=iC;have HR:b0 (ow wr B (w.heap.size+1) es rst):=hr;have HM:b0 (iu wr w.heap.size (gD O)):=hm;have HB:b0 (Below w.heap.size w wr):=hb
  have a9:(gD O).length<=es.length:=by
   have h1:=rl O;have h2:=iC.length_eq;rw[aQ]at h2;omega
  clear iC hr hb hm;go_wp2_with (first|(at_next; refine nN _ rfl _ rfl (w.heap.size+1) rst rfl HR.out ?_ ?_))
  .intro h0
   have HE:b0 (O.Perm es):=by
    show List.Perm _ _;have:=HP.out;rw[h0,aO]at this;exact this
   clear h0;go_wp2;go_ret;exact⟨_,rfl,bu _,HM.out.perm (yw HE.out),HB.out⟩
  .intro e U w2 aa ab ae ah a0 a';have am:=iq.lt ab;have an:=gT.lt (iq.owns ab);have ai:b0 (Below w.heap.size w w2):=ox HB.out ah (by omega);have ao:b0 (ow w2 B (w.heap.size+1) es U):=ab;have ap:b0 (w2.rangeLeft B (w.heap.size+1)<wr.rangeLeft B (w.heap.size+1)):=ae;have aq:b0 (rst.Perm (e::U)):=aa;have ar:b0 (iu w2 w.heap.size (gD O)):=gT.kept HM.out ah (by simp);have a3:e.name.length<=bl:=ay.out e (HP.out.mem_iff.1 (be _ (aa.mem_iff.2 (aT ..))));have af:=G5 ax.out HP.out aa;have Y:=we (gD O) e (.agg #[.bool e.gone,.string ⟨(wP e).toArray⟩,.string ⟨e.text.toArray⟩,.int .i64 e.gw,.int .i64 e.gK]) rfl;rw[Gv (Fe af)]at Y;have ac:=yC O e;clear aa ab ae ah af;obtain⟨nm,gn,tx,wt,tg⟩:=e
   cases gn with
   |true=>
    have aj:b0 (gD (O++[⟨nm,true,tx,wt,tg⟩])=gD O):=by show _=_; rw[ac]; simp
    clear ac Y;go_wp2;go_roundw
    case rel=>
     exact⟨O++[⟨nm,true,tx,wt,tg⟩],U,lL HP.out aq.out,ao.out.alloc _,by rw[aj.out]; exact gT.kept ar.out (bC _ _ none) (by simp),ai.out.alloc (bv HB.out.size (by rw[a0]; exact bu _)) _⟩
    case measure=>
     rw[lE an am];exact ap.out
   |false=>
    have aj:b0 (gD (O++[⟨nm,false,tx,wt,tg⟩])=gD O++[⟨nm,false,tx,wt,tg⟩]):=by show _=_; rw[ac]; simp
    have au:b0 (tA ((gD O).map lR) nm (.agg #[.bool false,.string ⟨(wP (⟨nm,false,tx,wt,tg⟩:gu)).toArray⟩,.string ⟨tx.toArray⟩,.int .i64 wt,.int .i64 tg])=(gD O++[(⟨nm,false,tx,wt,tg⟩:gu)]).map lR):=Y;clear ac Y;have av:=λo:Obj=>gT.kept ar.out (bC w2 o none) (by simp);have a4:b0 (∀o:Obj,gT prog 9 (w2.alloc o) w.heap.size ((gD O).map lR)):=av;clear av;go_wp2_with (first|(at_mapUpdate; refine mg _ rfl _ _ _ 85 rfl 111 b7 b8 rfl (a4.out _) (by rw[aP]; unfold bl; omega) nm a3 rfl (.agg #[.bool false,.string ⟨(wP (⟨nm,false,tx,wt,tg⟩:gu)).toArray⟩,.string ⟨tx.toArray⟩,.int .i64 wt,.int .i64 tg]) rfl ?_; intro w3 a5 ad aA));have a6:w.heap.size<=w2.heap.size:=ai.out.size;refine⟨⟨O++[⟨nm,false,tx,wt,tg⟩],U,lL HP.out aq.out,iq.kept (ao.out.alloc _) ad (by simp; omega) (by simp),?_,(ai.out.alloc a6 _).grown ad (by simp; omega) (λk hk=>by cases hk; exact bu _)⟩,?_⟩
    .rw[aj.out];unfold iu;rw[<-au.out];exact a5
    .rw[iq.mB (ad.block B (by simp; omega) (by simp; omega)) (ad.block (w.heap.size+1) (by simp; omega) (by simp)),lE an am];exact ap.out
theorem QI(B C:Nat)(ds es:List gu)(w:World)(hd:iu w B ds)(hs:iu w C es)(az:B≠C)(hl:es.length<549755813888)(a0:ds.length<549755813888)(ah:∀e∈es,e.name.length<=bl) :
  bm prog 89 #[.map (some B),.map (some C)] w λen w'=>en=.returned (.tuple #[])/\iu w' B (gQ ds es)/\gz (· = B) w w':=by
 have ai:=hs.nodup;have HS:b0 (iu w C es):=hs;have HD:b0 (iu w B ds):=hd;have al:b0 ((es.map gu.name).Nodup):=ai;have am:b0 (∀e∈es,e.name.length<=bl):=ah;have a3:=gT.lt hd;have a4:=gT.lt hs;clear hs hd ai ah;go_enter func89,ntmps89;go_wp2_with (first|(at_range; refine mR _ rfl _ rfl rfl HS.out ?_; intro w1 hrg0 U a5));go_frame;go_loopw [4] (λ_ wr=>∃(O rst:List gu),(O++rst).Perm es/\ow wr C w.heap.size es rst/\iu wr B (gQ ds O)/\gz (· = B) w wr) (λ_ wr=>wr.rangeLeft C w.heap.size)
 case atStart=>exact⟨[],es,bE _,hrg0,by rw[rH]; exact gT.kept HD.out U (by simp),⟨U.os,U.tape,U.output,U.size,λk hk _=>U.block k hk (by simp)⟩⟩
 case round=>
  obtain⟨O,rst,iC,hr,hm,hb⟩:=hrel;have HP:b0 ((O++rst).Perm es):=iC;have HR:b0 (ow wr C w.heap.size es rst):=hr;have HM:b0 (iu wr B (gQ ds O)):=hm;have HB:b0 (gz (· = B) w wr):=hb
  have a6:(gQ ds O).length<=1099511627775:=by
   have h1:=CU ds O;have h2:=iC.length_eq;rw[aQ]at h2;omega
  clear iC hr hb hm;go_wp2_with (first|(at_next; refine nN _ rfl _ rfl w.heap.size rst rfl HR.out ?_ ?_))
  .intro h0
   have HE:b0 (O.Perm es):=by
    show List.Perm _ _;have:=HP.out;rw[h0,aO]at this;exact this
   clear h0;go_wp2;go_end0;exact⟨rfl,HM.out.perm (MU (bE _) HE.out),HB.out⟩
  .intro e Y w2 ab ac ae ag a7 a8;have an:=iq.lt ac;have ao:=gT.lt (iq.owns ac);have a9:=HB.out.size;have ap:b0 (gz (· = B) w w2):=HB.out.trans (gz.rk ag) (λi hi hg=>by omega);have aq:b0 (ow w2 C w.heap.size es Y):=ac;have ar:b0 (w2.rangeLeft C w.heap.size<wr.rangeLeft C w.heap.size):=ae;have au:b0 (rst.Perm (e::Y)):=ab;have aj:b0 (iu w2 B (gQ ds O)):=gT.kept HM.out ag (by simp; omega);have av:e.name.length<=bl:=am.out e (HP.out.mem_iff.1 (be _ (ab.mem_iff.2 (aT ..))));have af:=G5 al.out HP.out ab;have aa:=we (gQ ds O) e (.agg #[.bool e.gone,.string ⟨(wP e).toArray⟩,.string ⟨e.text.toArray⟩,.int .i64 e.gw,.int .i64 e.gK]) rfl;rw[rV,Gv af]at aa;have ak:b0 (tA ((gQ ds O).map lR) e.name (.agg #[.bool e.gone,.string ⟨(wP e).toArray⟩,.string ⟨e.text.toArray⟩,.int .i64 e.gw,.int .i64 e.gK])=(gQ ds (O++[e])).map lR):=aa;have aw:b0 (∀o:Obj,gT prog 9 (w2.alloc o) B ((gQ ds O).map lR)):=λo=>gT.kept aj.out (bC w2 o none) (by simp);clear ab ac ae ag af aa;go_wp2_with (first|(at_mapUpdate; refine mg _ rfl _ _ _ 85 rfl 111 b7 b8 rfl (aw.out _) (by rw[aP]; unfold bl; omega) e.name av rfl (.agg #[.bool e.gone,.string ⟨(wP e).toArray⟩,.string ⟨e.text.toArray⟩,.int .i64 e.gw,.int .i64 e.gK]) rfl ?_; intro w3 ax ad a'));have ay:=gT.lt aj.out;refine⟨⟨_,_,_,_,_,_,_,_,_,_,⟨O++[e],Y,lL HP.out au.out,iq.kept (aq.out.alloc _) ad (by simp; omega) (by simp; omega),?_,(ap.out.then (gz.jm ((b3 _ _).alloc (bu _) _))).then (gz.rk ad)⟩,rfl⟩,?_⟩
   .unfold iu;rw[<-ak.out];exact ax
   .rw[iq.mB (ad.block C (by simp; omega) (by simp; omega)) (ad.block _ (by simp; omega) (by simp; omega)),lE ao an];exact ar.out
end
section
open Go.RowKit Go.Maps
def Told(e:gu):Prop:=e.name.length<=255/\e.text.length<=255/\(e.gone=false->0<=e.gK/\e.gK<=255)
structure FB where
 fn:FuncId
 cp:Array Value
 own:Nat->Prop
 QP:Nat->Prop
 T:World->List (Nat×gu)->Prop
def FB.v(t:FB):Value:=.func (.func t.fn) #[] t.cp
structure FB.Ok(t:FB)(mx:Nat):Prop where
 jQ:∃jQ c,prog.funcs[t.fn]?=some jQ/\jQ.body=some c/\(jQ.name == "runtime.NumGoroutine")=false
 sub:∀k,t.own k->t.QP k
 lt:∀{w told k},t.T w told->t.QP k->k<w.heap.size
 stay:∀{w w' told},t.T w told->(∀k,t.QP k->w'.heap[k]?=w.heap[k]?)->t.T w' told
 tell:∀(w:World)(q:Nat)(told:List (Nat×gu))(e:gu),t.T w told->e.name ∉ (sn told).map gu.name->told.length<1099511627776->Told e->q<=mx->
  bm prog t.fn (#[.int .i64 (q:Int),.string ⟨e.name.toArray⟩,tk e]++t.cp) w λen w'=>en=.returned (.tuple #[])/\t.T w' (told++[(q,e)])/\gz t.own w w'
structure RG(w:World)(Rb Mk:Nat)(t:FB)(S:ByteArray)(rest:Wd)(told:List (Nat×gu)):Prop where
 rd:JC w Rb S rest Mk t.v
 kn:gT prog 9 w Mk ((sn told).map Rm)
 sd:t.T w told
 rz:told.length+rest.length<=S.size
 ne:∀k,t.QP k->k≠Rb/\k≠Mk
def uq(Rb Mk:Nat)(t:FB)(k:Nat):Prop:=k=Rb\/k=Mk\/t.own k
section
variable {w w':World} {Rb Mk mx:Nat} {t:FB} {S:ByteArray} {rest r:Wd} {told:List (Nat×gu)}
theorem RG.mr(h:RG w Rb Mk t S rest told):Mk≠Rb:=by
 obtain⟨p,O,_⟩:=h.rd;exact h.kn.pX O
theorem RG.turn(O:t.Ok mx)(h:RG w Rb Mk t S rest told)(U:gz (· = Rb) w w')(hr:JC w' Rb S r Mk t.v)(hl:r.length<=rest.length):RG w' Rb Mk t S r told:=
 ⟨hr,h.kn.stay (U.block _ h.kn.lt h.mr),O.stay h.sd λk Y=>U.block k (O.lt h.sd Y) (h.ne k Y).1,by have:=h.rz; omega,h.ne⟩
theorem RG.below(O:t.Ok mx)(h:RG w Rb Mk t S rest told)(hb:Below w.heap.size w w'):RG w' Rb Mk t S rest told:=by
 obtain⟨p,U,Y⟩:=h.rd;exact⟨⟨p,by unfold Cv at *; rw[hb.block Rb (iQ U)]; exact U,Y⟩,h.kn.below hb,O.stay h.sd λk hk=>hb.block k (O.lt h.sd hk),h.rz,h.ne⟩
theorem RG.pos(h:RG w Rb Mk t S rest told):w.cell? ⟨Rb,1,none⟩=some (.int .i64 ((S.size-rest.length:Nat):Int)):=by
 obtain⟨p,O,U,rfl⟩:=h.rd;rw[gq O];have e:S.size-(S.data.toList.drop p).length=p:=by simp; omega
 rw[e];rfl
end
theorem sN{Rb Mk mx:Nat}{t:FB}{S:ByteArray}{rest:Wd}{told:List (Nat×gu)}{last nm r:Wd}{w:World}(hT:t.Ok mx)(h:RG w Rb Mk t S rest told)(hS:S.size<=1099511627775)(U:qd ((sn told).map gu.name) last rest=some (nm,r)) :
  bm prog 234 #[.pointer (some ⟨Rb,0,none⟩),.string ⟨last.toArray⟩] w λe w'=>e=.returned (.string ⟨nm.toArray⟩)/\RG w' Rb Mk t S r told/\gz (· = Rb) w w':=by
 have ht:=wL Rb S rest Mk t.v w h.rd (by omega);have HR:b0 _:=h;rw[Nu]at U;clear h
 cases hx:lX rest with
 |none=>rw[hx]at U; cases U
 |some x=>
  obtain⟨aj,r'⟩:=x;rw[hx]at ht U;simp only[b6]at U;split at U
  .rename_i hc;cases U;obtain⟨ab,aa,hk⟩:=hc;obtain⟨O,ai⟩:=kM hx;have ac:r.length<=rest.length:=by rw[O]; simp
   clear hx O;have ad:(⟨nm.toArray⟩:ByteArray).size<=bl:=by show nm.toArray.size<=bl; unfold bl; simp; omega
   have ae:nm.length<=bl:=by unfold bl; omega
   have af:bG (⟨last.toArray⟩:ByteArray).toList (⟨nm.toArray⟩:ByteArray).toList=true:=by rw[ByteArray.toList_eq,ByteArray.toList_eq]; exact aa
   have HT:b0 _:=hT;clear hT;go_enter func234,ntmps234;go_wp2_with fail;refine ht.mono ?_;rintro e w1 ⟨g1,rfl,g2,g3⟩;have Y:b0 (RG w1 Rb Mk t S r told):=HR.out.turn HT.out g1 g2 ac;have ag:b0 _:=g1;clear g1 g2 g3 ht;go_wp2_with fail;refine(tC _ _ ad).mono ?_;rintro e w' ⟨rfl,rfl⟩;rw[show jE (⟨nm.toArray⟩:ByteArray).data.toList=true from ab];clear af;go_wp2_with fail;rw[Uz,aa];refine(jJ _).mono ?_;rintro e w' ⟨rfl,rfl⟩
   have ak:w1.cell? ⟨Rb,2,none⟩=some (.map (some Mk)):=by
    obtain⟨p,h1,_⟩:=Y.out.rd;rw[gq h1]; rfl
   have ah:=(Y.out.kn.look b7 b9 (RI w1) nm ae).2;rw[MH,N4,decide_eq_false hk]at ah;go_wp2_with fail;refine(jJ _).mono ?_;rintro e w' ⟨rfl,rfl⟩;go_wp2;go_ret;have hb:=(b3 _ w1).alloc (bu _) (.cells #[] 263);exact⟨rfl,Y.out.below HT.out hb,ag.out.then (gz.jm hb)⟩
  .cases U
end
section
open Go.RowKit Go.Maps
variable {S:ByteArray} {told:List (Nat×gu)} {Mk Rb mx:Nat} {t:FB} {nm r3 rest:Wd} {w:World}
theorem RG.Wc{w':World}{b:Nat}{cs:Array Value}{ty:bp}{fz:Nat×Nat}(U:t.Ok mx)(h:RG w Rb Mk t S rest told)(hb:w.heap[b]?=some (.cells cs ty fz))(h1:b≠Rb)(h2:∀k,t.QP k->k≠b)(O:gz (· = b) w w'):RG w' Rb Mk t S rest told:=by
 obtain⟨p,g1,g2⟩:=h.rd;exact⟨⟨p,by unfold Cv at *; rw[O.block Rb (iQ g1) (λe=>h1 e.symm)]; exact g1,g2⟩,h.kn.stay (O.block _ h.kn.lt (h.kn.pX hb)),U.stay h.sd λk Y=>O.block k (U.lt h.sd Y) (h2 k Y),h.rz,h.ne⟩
theorem vH{e:gu}(h:mZ nm rest=some (e,r3)):∃tx wt tg r O,lX rest=some (tx,r)/\(il tx=true/\tx≠[])/\kO r=some (wt,O)/\wt<=1000000/\rdNum O=some (tg,r3)/\e=⟨nm,false,tx,wt,tg⟩:=by
 unfold mZ at h;simp only[b5]at h;obtain⟨⟨tx,r⟩,U,h⟩:=h;split at h
 .rename_i Y;simp only[b5]at h;obtain⟨⟨wt,O⟩,h2,h⟩:=h;split at h
  .rename_i hw;simp only[b5]at h;obtain⟨⟨tg,r4⟩,h3,h⟩:=h;cases h;exact⟨tx,wt,tg,r,O,U,Y,h2,hw,h3,rfl⟩
  .cases h
 .cases h
theorem JO{en:gu}(hT:t.Ok mx)(h:RG w Rb Mk t S rest told)(hS:S.size<=1099511627775)(hX:mZ nm rest=some (en,r3)) :
  bm prog 266 #[.pointer (some ⟨Rb,0,none⟩),.string ⟨nm.toArray⟩] w λe w'=>e=.returned (Bp en)/\RG w' Rb Mk t S r3 told/\gz (· = Rb) w w':=by
 obtain⟨tx,wt,tg,r,r2,aa,hq,ab,a0,ac,rfl⟩:=vH hX;clear hX;obtain⟨w0,ad⟩:∃w0,w.alloc (.cells #[.string ⟨#[]⟩,.string ⟨#[]⟩,.int .i64 0,.int .i64 0] 96)=w0:=⟨_,rfl⟩;have ae:Below w.heap.size w w0:=by rw[<-ad]; exact(b3 _ _).alloc (bu _) _
 have af:b0 (w0.heap[w.heap.size]?=some (.cells #[.string ⟨#[]⟩,.string ⟨#[]⟩,.int .i64 0,.int .i64 0] 96 (0,0))):=by show _=_; rw[<-ad]; exact bn w _
 have ag:b0 _:=h.below hT ae;have al:b0 (gz (· = Rb) w w0):=gz.jm ae
 have a3:Rb<w.heap.size:=by
  obtain⟨p,h1,_⟩:=h.rd;exact iQ h1
 have HD:b0 (∀k,t.QP k->k≠w.heap.size):=λk hk e=>by have:=hT.lt h.sd hk; omega
 have ht:=wL Rb S rest Mk t.v w0 ag.out.rd (by omega);rw[aa]at ht;obtain⟨U,az⟩:=kM aa;obtain⟨am,_⟩:=mL ab;obtain⟨an,_⟩:=kz ac;have av:r.length<=rest.length:=by rw[U]; simp
 have ao:r2.length<=r.length:=by rw[am]; simp
 have ap:r3.length<=r2.length:=by rw[an]; simp
 have HT:b0 _:=hT;have HW:b0 _:=And.intro ab ac;clear h ae aa U am an ab ac hT;have aw:(⟨tx.toArray⟩:ByteArray).size<=bl:=by show tx.toArray.size<=bl; unfold bl; simp; omega
 go_enter func266,ntmps266;go_wp2_with fail;clear ad;refine ht.mono ?_;rintro e w1 ⟨g1,rfl,Y,g3⟩;have ah:b0 _:=ag.out.turn HT.out g1 Y av;have aq:b0 (gz (· = Rb) w w1):=al.out.then g1;have ai:b0 (w1.heap[w.heap.size]?=some (.cells #[.string ⟨#[]⟩,.string ⟨#[]⟩,.int .i64 0,.int .i64 0] 96 (0,0))):=by show _=_; rw[g1.block _ (iQ af.out) (by show w.heap.size≠Rb; omega)]; exact af.out
 clear g1 Y g3 ht ag al af;go_wp2_with fail;refine(sD _ _ aw).mono ?_;rintro e w' ⟨rfl,rfl⟩;rw[show decide (il (⟨tx.toArray⟩:ByteArray).data.toList=true/\(⟨tx.toArray⟩:ByteArray).data.toList≠[])=true from decide_eq_true hq];clear hq;go_wp2_with fail;refine(jJ _).mono ?_;rintro e w' ⟨rfl,rfl⟩;have hw:=Ag Rb S r Mk t.v w1 ah.out.rd (by omega);rw[HW.out.1]at hw;go_wp2_with fail;refine hw.mono ?_;rintro e w2 ⟨g1,rfl,Y,g3⟩;have aj:b0 _:=ah.out.turn HT.out g1 Y ao;have ar:b0 (gz (· = Rb) w w2):=aq.out.then g1;have ak:b0 (w2.heap[w.heap.size]?=some (.cells #[.string ⟨#[]⟩,.string ⟨#[]⟩,.int .i64 0,.int .i64 0] 96 (0,0))):=by show _=_; rw[g1.block _ (iQ ai.out) (by show w.heap.size≠Rb; omega)]; exact ai.out
 clear g1 Y g3 hw ah aq ai;have a4:(wt:Int)<=1000000:=by omega
 go_wp2_with fail;refine(jJ _).mono ?_;rintro e w' ⟨rfl,rfl⟩;have hn:=pZ Rb S r2 Mk t.v w2 aj.out.rd (by omega);rw[HW.out.2]at hn;go_wp2_with fail;refine hn.mono ?_;rintro e w3 ⟨g1,rfl,Y,g3⟩;have ax:b0 _:=aj.out.turn HT.out g1 Y ap;have ay:b0 (gz (· = Rb) w w3):=ar.out.then g1;have O:b0 (w3.heap[w.heap.size]?=some (.cells #[.string ⟨#[]⟩,.string ⟨#[]⟩,.int .i64 0,.int .i64 0] 96 (0,0))):=by show _=_; rw[g1.block _ (iQ ak.out) (by show w.heap.size≠Rb; omega)]; exact ak.out
 clear g1 Y g3 hn aj ar ak HW;have e0:w3.cell? ⟨w.heap.size,0,none⟩=some (.string ⟨#[]⟩):=by rw[gq O.out]; rfl
 have e1:w3.cell? ⟨w.heap.size,1,none⟩=some (.string ⟨#[]⟩):=by rw[gq O.out]; rfl
 have e2:w3.cell? ⟨w.heap.size,2,none⟩=some (.int .i64 0):=by rw[gq O.out]; rfl
 have e3:w3.cell? ⟨w.heap.size,3,none⟩=some (.int .i64 0):=by rw[gq O.out]; rfl
 have z0:w3.frozen? ⟨w.heap.size,0,none⟩=false:=gP O.out 0;have z1:w3.frozen? ⟨w.heap.size,1,none⟩=false:=gP O.out 1;have z2:w3.frozen? ⟨w.heap.size,2,none⟩=false:=gP O.out 2;have z3:w3.frozen? ⟨w.heap.size,3,none⟩=false:=gP O.out 3;go_wp2
 have au:gz (· = w.heap.size) w3 ((((w3.setCell ⟨w.heap.size,0,none⟩ (.string ⟨nm.toArray⟩)).setCell ⟨w.heap.size,1,none⟩ (.string ⟨tx.toArray⟩)).setCell ⟨w.heap.size,2,none⟩ (.int .i64 wt)).setCell ⟨w.heap.size,3,none⟩ (.int .i64 tg)):=
  (((nt (F:=(· = w.heap.size)) rfl).then (nt rfl)).then (nt rfl)).then (nt rfl)
 refine bodyPost_ret (v:=Bp ⟨nm,false,tx,wt,tg⟩) (by simp[bt,results266,go_sem,e0,e1,e2,e3,Bp]) rfl ⟨rfl,ax.out.Wc HT.out O.out (by omega) HD.out au,ay.out.trans au (λi hi hg=>by omega)⟩
end
section
open Go.RowKit Go.Maps
theorem E5{P:Program}{f:FuncId}{jQ:Func}{c:Code}(O:P.funcs[f]?=some jQ)(hb:jQ.body=some c)(U:(jQ.name == "runtime.NumGoroutine")=false) (args:Array Value) (w:World):(callFunc f args).run P w=.ok (.enter f args) w:=by
 show((match P.funcs[f]? with|none=>_|some fn=>_:Sem _)).run P w=_;rw[O];simp only[U,hb,Bool.false_eq_true,if_false,Option.isNone_some];rfl
theorem Gm{Rb Mk q mx:Nat}{t:FB}{S:ByteArray}{rest:Wd}{told:List (Nat×gu)}{e:gu}{w:World}(hT:t.Ok mx)(h:RG w Rb Mk t S rest told)(hS:S.size<=1099511627775)(hm:S.size<=mx)(hn:e.name ∉ (sn told).map gu.name)(ho:Told e)(a8:told.length+1+rest.length<=S.size)(hq:q<=S.size) :
  bm prog 235 #[.pointer (some ⟨Rb,0,none⟩),.int .i64 (q:Int),.string ⟨e.name.toArray⟩,tk e] w λen w'=>en=.returned (.tuple #[])/\RG w' Rb Mk t S rest (told++[(q,e)])/\gz (uq Rb Mk t) w w':=by
 obtain⟨w0,am⟩:∃w0,w.alloc (.cells #[.bool e.gone,.string ⟨(wP e).toArray⟩,.string ⟨e.text.toArray⟩,.int .i64 e.gw,.int .i64 e.gK] 111)=w0:=⟨_,rfl⟩;have ag:Below w.heap.size w w0:=by rw[<-am]; exact(b3 _ _).alloc (bu _) _
 have ah:w0.heap[w.heap.size]?=some (.cells #[.bool e.gone,.string ⟨(wP e).toArray⟩,.string ⟨e.text.toArray⟩,.int .i64 e.gw,.int .i64 e.gK] 111 (0,0)):=by rw[<-am]; exact bn w _
 have aa:=h.below hT ag;have n1:=aa.mr;have ad:=aa.ne;have ar:∀k,t.QP k->k≠w.heap.size:=λk Y e=>by have:=hT.lt h.sd Y; omega
 obtain⟨p,hp1,an⟩:=id aa.rd;unfold Cv at hp1;have c2:w0.cell? ⟨Rb,2,none⟩=some (.map (some Mk)):=by rw[gq hp1]; rfl
 have au:Mk≠w.heap.size:=aa.kn.pX ah;have af:=LD (sn told) e Rm (λ_=>rfl) hn;have av:e.name.length<=bl:=by have:=ho.1; unfold bl; omega
 obtain⟨jQ,cc,aw,ax,ay⟩:=hT.jQ;have ai:b0 _:=aa;have aj:b0 _:=And.intro hp1 an;have ao:b0 _:=ah;have az:b0 _:=ag;have HP:b0 _:=af;have HN:b0 (e.name ∉ (sn told).map gu.name/\Told e/\told.length<1099511627776/\q<=mx):=⟨hn,ho,by omega,by omega⟩;have HT:b0 _:=hT;clear h ag ah aa hp1 an af hn hT ho;unfold tk;go_enter func235,ntmps235;go_wp2_with (first|(at_mapUpdate; refine mg _ rfl _ _ _ 214 rfl 263 b7 b9 rfl ai.out.kn (by rw[aP,aP]; unfold bl; omega) e.name av rfl (.agg #[]) rfl ?_; intro w1 ap a0 a9));have ae:=gz.rk a0;have ak:w1.heap[Rb]?=some (.cells #[.string S,.int .i64 p,.map (some Mk),t.v] 216 (0,0)):=by rw[ae.block Rb (iQ aj.out.1) (λe=>n1 e.symm)]; exact aj.out.1
 have O:w1.heap[w.heap.size]?=some (.cells #[.bool e.gone,.string ⟨(wP e).toArray⟩,.string ⟨e.text.toArray⟩,.int .i64 e.gw,.int .i64 e.gK] 111 (0,0)):=by rw[ae.block _ (iQ ao.out) (λe=>au e.symm)]; exact ao.out
 have a5:t.T w1 told:=HT.out.stay ai.out.sd λk Y=>ae.block k (HT.out.lt ai.out.sd Y) (ad k Y).2;have c3:w1.cell? ⟨Rb,3,none⟩=some (.func (.func t.fn) #[] t.cp):=by rw[gq ak]; rfl
 have d0:w1.cell? ⟨w.heap.size,0,none⟩=some (.bool e.gone):=by rw[gq O]; rfl
 have d1:w1.cell? ⟨w.heap.size,1,none⟩=some (.string ⟨(wP e).toArray⟩):=by rw[gq O]; rfl
 have d2:w1.cell? ⟨w.heap.size,2,none⟩=some (.string ⟨e.text.toArray⟩):=by rw[gq O]; rfl
 have d3:w1.cell? ⟨w.heap.size,3,none⟩=some (.int .i64 e.gw):=by rw[gq O]; rfl
 have d4:w1.cell? ⟨w.heap.size,4,none⟩=some (.int .i64 e.gK):=by rw[gq O]; rfl
 have a6:b0 (∀w2:World,w2.heap=w1.heap->w2.os=w1.os->w2.tape=w1.tape->w2.output=w1.output->bm prog t.fn (#[.int .i64 (q:Int),.string ⟨e.name.toArray⟩,tk e]++t.cp) w2 λen w'=>en=.returned (.tuple #[])/\t.T w' (told++[(q,e)])/\gz t.own w1 w'):=by
  intro w2 k1 k2 k3 k4;obtain⟨a1,a2,a3,a4⟩:=HN.out;refine(HT.out.tell w2 q told e (HT.out.stay a5 λk _=>by rw[k1]) a1 a3 a2 a4).mono ?_;rintro en w' ⟨q1,q2,q3⟩;exact⟨q1,q2,⟨q3.os.trans k2,q3.tape.trans k3,q3.output.trans k4,by have:=q3.size; rw[k1]at this; exact this,λk Y hn=>by rw[q3.block k (by rw[k1]; exact Y) hn,k1]⟩⟩
 have U:w1.drew.cell? ⟨Rb,3,none⟩=some (.func (.func t.fn) #[] t.cp)/\w1.drew.cell? ⟨w.heap.size,0,none⟩=some (.bool e.gone)/\w1.drew.cell? ⟨w.heap.size,1,none⟩=some (.string ⟨(wP e).toArray⟩)/\w1.drew.cell? ⟨w.heap.size,2,none⟩=some (.string ⟨e.text.toArray⟩)/\w1.drew.cell? ⟨w.heap.size,3,none⟩=some (.int .i64 e.gw)/\w1.drew.cell? ⟨w.heap.size,4,none⟩=some (.int .i64 e.gK):=⟨c3,d0,d1,d2,d3,d4⟩;clear c3 d0 d1 d2 d3 d4;refine br (S:=λw'=>w'.cell? ⟨Rb,3,none⟩=some (.func (.func t.fn) #[] t.cp)/\w'.cell? ⟨w.heap.size,0,none⟩=some (.bool e.gone)/\w'.cell? ⟨w.heap.size,1,none⟩=some (.string ⟨(wP e).toArray⟩)/\w'.cell? ⟨w.heap.size,2,none⟩=some (.string ⟨e.text.toArray⟩)/\w'.cell? ⟨w.heap.size,3,none⟩=some (.int .i64 e.gw)/\w'.cell? ⟨w.heap.size,4,none⟩=some (.int .i64 e.gK)) (by kernel_rfl) ?_;refine j7 0 ?_ U ?_<|j7 1 ?_ U ?_<|j7 2 ?_ U ?_<|j7 3 ?_ U ?_<|j7 4 ?_ U ?_<|j7 5 ?_ U ?_<|j7 6 ?_ U ?_ ?_
 any_goals(rintro w' ⟨k0,k1,k2,k3,k4,k5⟩; go_simp; first|done|with_reducible rfl)
 refine nY 7 λK' a7=>?_;have al:=a6.out w1.drew rfl rfl rfl rfl;unfold Oper.wp;go_simp;change Oper.upon _ _ _ _ _ (Sem.run _ (callFunc t.fn _) _);rw[E5 aw ax ay];refine al.mono ?_;rintro en w2 ⟨rfl,q2,q3⟩;have ab:∀k,t.own k->k≠Rb/\k≠Mk/\k≠w.heap.size:=λk Y=>⟨(ad k (HT.out.sub k Y)).1,(ad k (HT.out.sub k Y)).2,ar k (HT.out.sub k Y)⟩;have aq:w2.heap[Rb]?=some (.cells #[.string S,.int .i64 p,.map (some Mk),t.v] 216 (0,0)):=by rw[q3.block Rb (iQ ak) (λe=>(ab _ e).1 rfl)]; exact ak
 have ac:w2.heap[w.heap.size]?=some (.cells #[.bool e.gone,.string ⟨(wP e).toArray⟩,.string ⟨e.text.toArray⟩,.int .i64 e.gw,.int .i64 e.gK] 111 (0,0)):=by rw[q3.block _ (iQ O) (λe=>(ab _ e).2.2 rfl)]; exact O
 refine a7 _ _ ⟨⟨by rw[gq aq]; rfl,by rw[gq ac]; rfl,by rw[gq ac]; rfl,by rw[gq ac]; rfl,by rw[gq ac]; rfl,by rw[gq ac]; rfl⟩,wpAnyH_done (by kernel_rfl) ?_ _⟩;go_wp2;go_end0;refine⟨rfl,⟨⟨p,aq,aj.out.2⟩,?_,q2,by simp; omega,ad⟩,?_⟩
 .rw[show sn (told++[(q,e)])=sn told++[e] by simp[sn],<-HP.out];exact gT.stay ap (q3.block _ (gT.lt ap) λe=>(ab _ e).2.1 rfl)
 .exact((gz.jm az.out).then (ae.mono (λ_ Y=>Or.inr (Or.inl Y)))).then (q3.mono (λ_ Y=>Or.inr (Or.inr Y)))
end
section
open Go.RowKit Go.Maps
variable {S:ByteArray} {told:List (Nat×gu)} {Mk Rb mx n:Nat} {t:FB} {r0 rest rf:Wd} {w:World}
theorem gz.Fh{w':World}(h:gz (· = Rb) w w'):gz (uq Rb Mk t) w w':=h.mono (λ_ O=>Or.inl O)
theorem RG.here(h:RG w Rb Mk t S rest told):∃p:Nat,w.cell? ⟨Rb,1,none⟩=some (.int .i64 (p:Int))/\p=S.size-rest.length:=⟨_,h.pos,rfl⟩
theorem LX{gs:List (Nat×gu)}(hT:t.Ok mx)(h:RG w Rb Mk t S rest [])(hS:S.size<=1099511627775)(hm:S.size<=mx)(hx:rdNum rest=some (n,r0))(hX:mX S.size n [] [] r0=some (gs,rf)) :
  bm prog 211 #[.pointer (some ⟨Rb,0,none⟩)] w λe w'=>e=.returned (.int .i64 n)/\gz (uq Rb Mk t) w w'/\RG w' Rb Mk t S rf gs:=by
 have ht:=pZ Rb S rest Mk t.v w h.rd (by omega);have HR:b0 _:=h;have HT:b0 _:=hT;clear h hT;rw[hx]at ht;obtain⟨ad,ak⟩:=kz hx;have al:r0.length<=rest.length:=by rw[ad]; simp
 clear hx ad;go_enter func211,ntmps211;go_wp2_with fail;refine ht.mono ?_;rintro e w1 ⟨g1,rfl,g2,g3⟩;have HR1:b0 _:=HR.out.turn HT.out g1 g2 al;have HF1:b0 (gz (uq Rb Mk t) w w1):=g1.Fh;have HX0:b0 _:=hX;clear g1 g2 g3 ht hX;go_wp2;go_loopw [4,9] (λl i wr=>∃(k:Nat)(done gs':List (Nat×gu))(ls r:Wd),k<=n/\i=.int .i64 k/\l=.string ⟨ls.toArray⟩/\RG wr Rb Mk t S r done/\gz (uq Rb Mk t) w wr/\mX S.size (n-k) ((sn done).map gu.name) ls r=some (gs',rf)/\gs=done++gs') (λ_ i _=>n-(intOf i).toNat)
 case atStart=>exact⟨0,[],gs,[],r0,bw _,rfl,rfl,HR1.out,HF1.out,HX0.out,rfl⟩
 case round=>
  obtain⟨k,done,gs',ls,r,hk,rfl,rfl,hr,hf,hg,O⟩:=hrel;have ae:b0 _:=hf;have HG:b0 _:=And.intro hg O;by_cases ap:k<n
  .obtain⟨p,hp,af⟩:=hr.here;have U:b0 _:=hr;have ag:b0 _:=af;have e1:n-k=(n-(k+1))+1:=by omega
   rw[e1]at hg;obtain⟨nm,r1,gs2,hx,ah,rfl⟩:=vY hg;have ai:=sN HT.out U.out hS hx;obtain⟨aj,aa,_,ab⟩:=qG hx;have Y:b0 _:=And.intro ah (And.intro O (And.intro ab (jV aa).2));have an:r1.length+1<=r.length:=by rw[aj]; simp[gS]
   clear hr hf hg O af hx aj aa ab ah e1 HG;go_wp2_with fail;refine ai.mono ?_;rintro e w2 ⟨rfl,g2,g1⟩;have ao:=U.out.rz;have ac:=Gm (q:=p) (e:=⟨nm,true,[],0,0⟩) HT.out g2 hS hm Y.out.2.2.1 ⟨by show nm.length<=255; have:=Y.out.2.2.2; omega,by simp,λh=>by cases h⟩ (by omega) (by have:=ag.out; omega);have am:b0 (gz (uq Rb Mk t) w w2):=ae.out.then g1.Fh;clear ai g1 g2 hp;go_wp2_with fail;refine ac.mono ?_;rintro e w3 ⟨rfl,q1,q2⟩;have HR3:b0 _:=q1;have HF3:b0 (gz (uq Rb Mk t) w w3):=am.out.then q2;clear ac q1 q2;go_wp2;go_roundw
   case rel=>exact⟨k+1,_,gs2,nm,r1,by omega,by go_num,rfl,HR3.out,HF3.out,by rw[show(sn (done++[(p,(⟨nm,true,[],0,0⟩:gu))])).map gu.name=(sn done).map gu.name++[nm] by simp[sn]]; exact Y.out.1,by rw[Y.out.2.1,ag.out]; simp⟩
   case measure=>simp[intOf]; omega
  .have U:b0 _:=hr;clear hr hf hg O;go_wp2;go_ret;have hg:=HG.out.1;rw[show n-k=0 by omega,mX]at hg;cases hg;exact⟨rfl,ae.out,by rw[HG.out.2,aO]; exact U.out⟩
theorem Ey{path:Wd}{es:List (Nat×gu)}(hT:t.Ok mx)(h:RG w Rb Mk t S rest told)(hS:S.size<=1099511627775)(hm:S.size<=mx)(hx:rdNum rest=some (n,r0))(hX:nR S.size n path ((sn told).map gu.name) [] r0=some (es,rf)) :
  bm prog 238 #[.pointer (some ⟨Rb,0,none⟩),.string ⟨path.toArray⟩] w λe w'=>e=.returned (.tuple #[.int .i64 n,.int .i64 (jZ (sn es))])/\gz (uq Rb Mk t) w w'/\RG w' Rb Mk t S rf (told++es):=by
 have ht:=pZ Rb S rest Mk t.v w h.rd (by omega);have HR:b0 _:=h;have HT:b0 _:=hT;clear h hT;rw[hx]at ht;obtain⟨ap,a7⟩:=kz hx;have a8:r0.length<=rest.length:=by rw[ap]; simp
 clear hx ap;go_enter func238,ntmps238;go_wp2_with fail;refine ht.mono ?_;rintro e w1 ⟨g1,rfl,g2,g3⟩;have a9:b0 _:=HR.out.turn HT.out g1 g2 a8;have a':b0 (gz (uq Rb Mk t) w w1):=g1.Fh;have aA:b0 _:=hX;clear g1 g2 g3 ht hX;go_wp2;go_loopw [5,6,12] (λg l i wr=>∃(k:Nat)(done ak:List (Nat×gu))(ls r:Wd),k<=n/\i=.int .i64 k/\l=.string ⟨ls.toArray⟩/\g=.int .i64 (jZ (sn done))/\RG wr Rb Mk t S r (told++done)/\gz (uq Rb Mk t) w wr/\nR S.size (n-k) path ((sn (told++done)).map gu.name) ls r=some (ak,rf)/\es=done++ak) (λ_ _ i _=>n-(intOf i).toNat)
 case atStart=>exact⟨0,[],es,[],r0,bw _,rfl,rfl,rfl,by rw[aO]; exact a9.out,a'.out,by rw[aO]; exact aA.out,rfl⟩
 case round=>
  obtain⟨k,done,ak,ls,r,hk,rfl,rfl,rfl,hr,hf,hg,ad⟩:=hrel;have aq:b0 _:=hf;have HG:b0 _:=And.intro hg ad;by_cases aJ:k<n
  .obtain⟨p,hp,ar⟩:=hr.here;have ae:b0 _:=hr;have au:b0 _:=ar;have e1:n-k=(n-(k+1))+1:=by omega
   rw[e1]at hg;obtain⟨nm,r1,en,r2,aB,hx,hy,jX,av,rfl⟩:=Fp hg;have aw:=sN HT.out ae.out hS hx;obtain⟨ax,ag,_,ah⟩:=qG hx;obtain⟨tx,wt,tg,aK,Y,aL,aG⟩:=Eu hy;cases Y;obtain⟨_,_,aM,_,_,_,_,_,_,ay,Y⟩:=vH hy
   have ai:tg<=255:=by
    simp only[gu.mk.injEq]at Y;have:=(kz ay).2;omega
   have aj:0<=tg:=by
    simp only[gu.mk.injEq]at Y;omega
   have O:b0 _:=And.intro av (And.intro ad (And.intro ah (And.intro (jV ag).2 (And.intro aj (And.intro ai hy)))));have aH:r1.length+1<=r.length:=by rw[ax]; simp[gS]
   have aN:(ir tx==path)=true:=beq_iff_eq.2 jX;clear hr hf hg ad ar hx ax ag ah av e1 HG hy jX ay Y ai aj;go_wp2_with fail;refine aw.mono ?_;rintro e w2 ⟨rfl,g2,g1⟩;have aI:=ae.out.rz;have hent:=JO HT.out g2 hS O.out.2.2.2.2.2.2;have az:b0 (gz (uq Rb Mk t) w w2):=aq.out.then g1.Fh;clear aw g1 g2 hp;unfold Bp at hent;go_wp2_with fail;refine hent.mono ?_;rintro e w3 ⟨rfl,g2,g1⟩;have aa:b0 _:=g2;have a0:b0 (gz (uq Rb Mk t) w w3):=az.out.then g1.Fh;clear hent g1 g2 az;have aC:(⟨tx.toArray⟩:ByteArray).size<=1099511627776:=by show tx.toArray.size<=_; simp; omega
   obtain⟨w4,al⟩:∃w4,w3.alloc (.cells #[.string ⟨nm.toArray⟩,.string ⟨tx.toArray⟩,.int .i64 wt,.int .i64 tg] 96)=w4:=⟨_,rfl⟩;have am:Below w3.heap.size w3 w4:=by rw[<-al]; exact(b3 _ _).alloc (bu _) _
   have af:w4.heap[w3.heap.size]?=some (.cells #[.string ⟨nm.toArray⟩,.string ⟨tx.toArray⟩,.int .i64 wt,.int .i64 tg] 96 (0,0)):=by rw[<-al]; exact bn w3 _
   have e1:w4.cell? ⟨w3.heap.size,1,none⟩=some (.string ⟨tx.toArray⟩):=by rw[gq af]; rfl
   go_wp2_with fail;refine(rb _ _ aC).mono ?_;rintro e w5 ⟨rfl,an⟩;clear al e1;have aD:=am.size;have U:w5.heap[w3.heap.size]?=some (.cells #[.string ⟨nm.toArray⟩,.string ⟨tx.toArray⟩,.int .i64 wt,.int .i64 tg] 96 (0,0)):=by rw[an.block _ (iQ af)]; exact af
   have ab:Below w3.heap.size w3 w5:=am.trans (an.mono aD)
   have HD:b0 (∀k,uq Rb Mk t k->k≠w3.heap.size):=by
    rintro k (h1|h1|h1) e
    .obtain⟨p1,g1,_⟩:=aa.out.rd;have:=iQ g1;omega
    .have:=aa.out.kn.lt;omega
    .have:=HT.out.lt aa.out.sd (HT.out.sub k h1);omega
   have a3:b0 _:=aa.out.below HT.out ab;have a4:b0 (gz (uq Rb Mk t) w w5):=a0.out.then (gz.jm ab);have ao:b0 _:=U;have d0:w5.cell? ⟨w3.heap.size,0,none⟩=some (.string ⟨nm.toArray⟩):=by rw[gq U]; rfl
   have d1:w5.cell? ⟨w3.heap.size,1,none⟩=some (.string ⟨tx.toArray⟩):=by rw[gq U]; rfl
   have d2:w5.cell? ⟨w3.heap.size,2,none⟩=some (.int .i64 wt):=by rw[gq U]; rfl
   have d3:w5.cell? ⟨w3.heap.size,3,none⟩=some (.int .i64 tg):=by rw[gq U]; rfl
   clear am af an U ab aa a0;rw[show(ir (⟨tx.toArray⟩:ByteArray).data.toList)=ir tx from rfl];go_wp2_with fail;refine(jJ _).mono ?_;rintro e w' ⟨rfl,rfl⟩;have ac:=Gm (q:=p) (e:=⟨nm,false,tx,wt,tg⟩) HT.out a3.out hS hm O.out.2.2.1 ⟨by show nm.length<=255; have:=O.out.2.2.2.1; omega,by show tx.length<=255; omega,λ_=>⟨O.out.2.2.2.2.1,O.out.2.2.2.2.2.1⟩⟩ (by omega) (by have:=au.out; omega);have a5:tk ⟨nm,false,tx,wt,tg⟩=.agg #[.bool false,.string ⟨nm.toArray⟩,.string ⟨tx.toArray⟩,.int .i64 wt,.int .i64 tg]:=rfl;rw[a5]at ac;clear a5;go_wp2_with fail;refine ac.mono ?_;rintro e w6 ⟨rfl,q1,q2⟩
   have a6:w6.heap[w3.heap.size]?=some (.cells #[.string ⟨nm.toArray⟩,.string ⟨tx.toArray⟩,.int .i64 wt,.int .i64 tg] 96 (0,0)):=by
    rw[q2.block _ (iQ ao.out) (λh=>HD.out _ h rfl)]; exact ao.out
   have d26:w6.cell? ⟨w3.heap.size,2,none⟩=some (.int .i64 wt):=by rw[gq a6]; rfl
   have aE:b0 _:=q1;have aF:b0 (gz (uq Rb Mk t) w w6):=a4.out.then q2;clear ac q1 q2 a6 d0 d1 d2 d3 a3 a4 ao;go_wp2;go_roundw
   case rel=>
    refine⟨k+1,done++[(p,⟨nm,false,tx,wt,tg⟩)],aB,nm,r2,by omega,by go_num,rfl,?_,by rw[<-aV]; exact aE.out,aF.out,?_,by rw[O.out.2.1,au.out]; simp⟩
    .rw[show sn (done++[(p,(⟨nm,false,tx,wt,tg⟩:gu))])=sn done++[⟨nm,false,tx,wt,tg⟩] by simp[sn],qK,nu,show jZ []=0 from rfl];have:=pY (sn done);show Value.int .i64 (max (jZ (sn done)) wt)=Value.int .i64 (max (jZ (sn done)) (max (max 0 wt) 0));congr 1;omega
    .rw[show((sn (told++(done++[(p,(⟨nm,false,tx,wt,tg⟩:gu))]))).map gu.name)=(sn (told++done)).map gu.name++[nm] by simp[sn]];exact O.out.1
   case measure=>simp[intOf]; omega
  .have ae:b0 _:=hr;clear hr hf hg ad;go_wp2;go_ret2;have hg:=HG.out.1;rw[show n-k=0 by omega,nR]at hg;cases hg;have e:=HG.out.2;rw[aO]at e;refine⟨?_,aq.out,by rw[e]; exact ae.out⟩;rw[e];rfl
end
section
open Go.RowKit Go.Maps
def SQ(t:FB)(mx f:Nat):Prop:=∀(Rb Mk g:Nat)(S:ByteArray)(rest r:Wd)(told es:List (Nat×gu))(path:Wd)(w:World),RG w Rb Mk t S rest told->S.size<=1099511627775->S.size<=mx->path.length<=1099511627775->mY S.size f path ((sn told).map gu.name) rest=some (g,es,r)->
  bm prog 214 #[.pointer (some ⟨Rb,0,none⟩),.string ⟨path.toArray⟩] w λe w'=>e=.returned (.int .i64 g)/\gz (uq Rb Mk t) w w'/\RG w' Rb Mk t S r (told++es)
theorem Ca{Rb Mk mx n f g:Nat}{t:FB}{S:ByteArray}{rest r0 rf path:Wd}{told es:List (Nat×gu)}{w:World}(hN:SQ t mx f)(hT:t.Ok mx)(h:RG w Rb Mk t S rest told)(hS:S.size<=1099511627775)(hm:S.size<=mx)(hp:path.length<=24)(hx:rdNum rest=some (n,r0))(hX:oG (mY S.size f) n path ((sn told).map gu.name) (-1) r0=some (g,es,rf)) :
  bm prog 239 #[.pointer (some ⟨Rb,0,none⟩),.string ⟨path.toArray⟩] w λe w'=>e=.returned (.tuple #[.int .i64 n,.int .i64 g])/\gz (uq Rb Mk t) w w'/\RG w' Rb Mk t S rf (told++es):=by
 have ht:=pZ Rb S rest Mk t.v w h.rd (by omega);have HR:b0 _:=h;have HT:b0 _:=hT;have HN:b0 _:=hN;clear h hT hN;rw[hx]at ht;obtain⟨af,ak⟩:=kz hx;have al:r0.length<=rest.length:=by rw[af]; simp
 clear hx af;go_enter func239,ntmps239;go_wp2_with fail;refine ht.mono ?_;rintro e w1 ⟨g1,rfl,Y,g3⟩;have am:b0 _:=HR.out.turn HT.out g1 Y al;have an:b0 (gz (uq Rb Mk t) w w1):=g1.Fh;have ao:b0 _:=hX;clear g1 Y g3 ht hX;go_wp2;go_loopw [5,6,11] (λgv l i wr=>∃(k gg g':Nat)(done ab:List (Nat×gu))(la:Int)(r:Wd),k<=n/\i=.int .i64 k/\l=.int .i64 la/\gv=.int .i64 gg/\RG wr Rb Mk t S r (told++done)/\gz (uq Rb Mk t) w wr/\oG (mY S.size f) (n-k) path ((sn (told++done)).map gu.name) la r=some (g',ab,rf)/\(g=max gg g'/\es=done++ab)/\-1<=la/\la<=255) (λ_ _ i _=>n-(intOf i).toNat)
 case atStart=>exact⟨0,0,g,[],es,-1,r0,bw _,rfl,rfl,rfl,by rw[aO]; exact am.out,an.out,by rw[aO]; exact ao.out,⟨by omega,rfl⟩,by omega,by omega⟩
 case round=>
  obtain⟨k,gg,g',done,ab,la,r,hk,rfl,rfl,rfl,hr,hf,hg,O,aw,ax⟩:=hrel;have ag:b0 _:=hf;have HG:b0 _:=And.intro hg O;have ac:b0 _:=hr;by_cases az:k<n
  .rw[show n-k=(n-(k+1))+1 by omega]at hg;obtain⟨c,cs,r1,ga,ea,r2,gb,eb,hx,a0,hy,hz,rfl,rfl⟩:=ET hg;have ad:=wL Rb S r Mk t.v wr ac.out.rd (by omega);rw[hx]at ad;obtain⟨ah,aa⟩:=kM hx;have ai:r1.length<=r.length:=by rw[ah]; simp
   have U:b0 _:=And.intro hz (And.intro O hy);have hc:=c.toNat_lt;have aj:(⟨(c::cs).toArray⟩:ByteArray).size=cs.length+1:=by show(c::cs).toArray.size=_; simp
   have a3:(⟨(c::cs).toArray⟩:ByteArray)[0]'(by rw[aj]; omega)=c:=rfl;have ap:(⟨path.toArray⟩:ByteArray).size=path.length:=by show path.toArray.size=_; simp
   have ay:¬(9223372036854775807<(⟨path.toArray⟩:ByteArray).size+(⟨(c::cs).toArray⟩:ByteArray).size):=by rw[ap,aj]; simp only[aW]at aa; omega
   clear hr hf hg O hx ah hy hz HG;go_wp2_with fail;refine ad.mono ?_;rintro e w2 ⟨g1,rfl,Y,g3⟩;have aq:b0 _:=ac.out.turn HT.out g1 Y ai;have ar:b0 (gz (uq Rb Mk t) w w2):=ag.out.then g1.Fh;clear ad g1 Y g3;have ae:=HN.out Rb Mk ga S r1 r2 (told++done) ea (path++(c::cs)) w2 aq.out hS hm (by simp only[aQ,aW]at aa⊢; omega) U.out.2.2;rw[<-Uc path (c::cs)]at ae;go_wp2_with fail;refine(jJ _).mono ?_;rintro e w' ⟨rfl,rfl⟩;go_wp2_with fail;refine ae.mono ?_;rintro e w3 ⟨rfl,g1,Y⟩;have au:b0 _:=Y;have av:b0 (gz (uq Rb Mk t) w w3):=ar.out.then g1;clear ae g1 Y;go_wp2;go_roundw
   case rel=>
    refine⟨k+1,max gg ga,gb,done++ea,eb,(c.toNat:Int),r2,by omega,by go_num,rfl,?_,by rw[<-aV]; exact au.out,av.out,?_,⟨by rw[U.out.2.1.1,Nat.max_assoc],by rw[U.out.2.1.2,aV]⟩,by omega,by omega⟩
    .show Value.int .i64 (max (gg:Int) (ga:Int))=Value.int .i64 ((max gg ga:Nat):Int);congr 1;omega
    .rw[show((sn (told++(done++ea))).map gu.name)=(sn (told++done)).map gu.name++(sn ea).map gu.name by simp[sn]];exact U.out.1
   case measure=>simp[intOf]; omega
  .clear hr hf hg O;go_wp2;go_ret2;have hg:=HG.out.1;rw[show n-k=0 by omega]at hg;cases hg;have e1:=HG.out.2.1;have e2:=HG.out.2.2;rw[aO]at e2;refine⟨?_,ag.out,by rw[e2]; exact ac.out⟩;rw[e1,Nat.max_zero];rfl
theorem M7{t:FB}{mx:Nat}(hT:t.Ok mx):∀f,SQ t mx f:=by
 intro f
 induction f with
 |zero=>
  intro Rb Mk g S rest r told es path w h hS hm aa hX;cases hX
 |succ f ih=>
  intro Rb Mk g S rest r told es path w h hS hm aa hX;obtain⟨f',aj,hp,r0,nb,r1,own,r2,nc,r3,gb,below,h1,h2,h3,h4,h5,ab,ac,rfl⟩:=Fq hX;cases aj;clear hX aa;have an:(⟨path.toArray⟩:ByteArray).size=path.length:=by show path.toArray.size=_; simp
  have ao:(path.length:Int)<=24:=by omega
  have ht:=Ag Rb S rest Mk t.v w h.rd (by omega);rw[h1]at ht;have ak:r0.length<=rest.length:=by rw[(mL h1).1]; simp
  have HR:b0 _:=h;have HN:b0 _:=ih;have HT:b0 _:=hT;have HX:b0 _:=And.intro h2 (And.intro h3 (And.intro h4 h5));clear h ih hT h1 h2 h3 h4 h5;have HG:b0 _:=ab;have HP:b0 _:=ac;go_enter func214,ntmps214;go_wp2_with fail;refine(jJ _).mono ?_;rintro e w' ⟨rfl,rfl⟩;go_wp2_with fail;refine ht.mono ?_;rintro e w1 ⟨g1,rfl,O,g3⟩;have ad:b0 _:=HR.out.turn HT.out g1 O ak;have ae:b0 (gz (uq Rb Mk t) w w1):=g1.Fh;clear ht g1 O g3 ab ac;have af:=Ey HT.out ad.out hS hm HX.out.1 HX.out.2.1;go_wp2_with fail;refine af.mono ?_;rintro e w2 ⟨rfl,g1,O⟩;have ag:b0 _:=O;have ah:b0 (gz (uq Rb Mk t) w w2):=ae.out.then g1;clear af g1 O ad ae;have ai:=Ca HN.out HT.out ag.out hS hm hp HX.out.2.2.1 (by rw[show(sn (told++own)).map gu.name=(sn told).map gu.name++(sn own).map gu.name by simp[sn]]; exact HX.out.2.2.2);go_wp2_with fail;refine ai.mono ?_;rintro e w3 ⟨rfl,g1,O⟩;have U:b0 (RG w3 Rb Mk t S r (told++(own++below))):=by show RG _ _ _ _ _ _ _; rw[<-aV]; exact O
  have Y:b0 (gz (uq Rb Mk t) w w3):=ah.out.then g1;clear ai g1 O ag ah HX;have al:((g:Int)==max (jZ (sn own)) (gb:Int))=true:=beq_iff_eq.2 HG.out;go_wp2_with fail;refine(jJ _).mono ?_;rintro e w' ⟨rfl,rfl⟩;clear al
  cases path with
  |nil=>
   go_wp2_with fail;refine(jJ _).mono ?_;rintro e w' ⟨rfl,rfl⟩;go_wp2;go_ret;exact⟨rfl,Y.out,U.out⟩
  |cons c cs=>
   by_cases h1:0<nb
   .have am:(0:Int)<(nb:Int):=by omega
    go_wp2_with fail;refine(jJ _).mono ?_;rintro e w' ⟨rfl,rfl⟩;go_wp2;go_ret;exact⟨rfl,Y.out,U.out⟩
   .have am:decide ((0:Int)<(nb:Int))=false:=decide_eq_false (by omega)
    have ap:(1:Int)<nc:=by
     rcases HP.out with h|h|h
     .cases h
     .exact absurd h h1
     .omega
    go_wp2_with fail;refine(jJ _).mono ?_;rintro e w' ⟨rfl,rfl⟩;go_wp2;go_ret;exact⟨rfl,Y.out,U.out⟩
end
section
open Go.RowKit Go.Maps
variable {S:ByteArray} {es gs:List (Nat×gu)} {Mk Rb mx:Nat} {t:FB} {rest:Wd} {w:World}
theorem ER(hT:t.Ok mx)(h:RG w Rb Mk t S rest [])(hS:S.size<=1099511627775)(hm:S.size<=mx)(hX:lN S.size rest=some (gs,es)) :
  bm prog 159 #[.pointer (some ⟨Rb,0,none⟩)] w λe w'=>e=.returned (.tuple #[])/\gz (uq Rb Mk t) w w'/\RG w' Rb Mk t S [] (gs++es):=by
 obtain⟨ng,r,r0,r1,g,h1,h2,h3,h4,h5,aq,al⟩:=Ha hX;have am:gs.length=ng:=yG h2;have ad:=LX hT h hS hm h1 h2;have ae:r1.length<=r0.length:=by rw[(kM h3).1]; simp
 have HT:b0 _:=hT;have H3:b0 _:=h3;have H4:b0 _:=h4;clear h h1 h2 h3 h4 hX hT;go_enter func159,ntmps159;go_wp2_with fail;refine ad.mono ?_;rintro e w1 ⟨rfl,g1,g2⟩;have ab:b0 _:=g2;have af:b0 _:=g1;clear ad g1 g2;have ac:=wL Rb S r0 Mk t.v w1 ab.out.rd (by omega);rw[H3.out]at ac;go_wp2_with fail;refine ac.mono ?_;rintro e w2 ⟨g1,rfl,g2,g3⟩;have ag:b0 _:=ab.out.turn HT.out g1 g2 ae;have ah:b0 (gz (uq Rb Mk t) w w2):=af.out.then g1.Fh;clear ac g1 g2 g3 ab af;go_wp2_with fail;refine(jJ _).mono ?_;rintro e w' ⟨rfl,rfl⟩;have ai:=M7 HT.out 26 Rb Mk g S r1 [] gs es [] w2 ag.out hS hm (by simp) H4.out;go_wp2_with fail;refine ai.mono ?_;rintro e w3 ⟨rfl,g1,g2⟩;have U:b0 _:=g2;have O:b0 (gz (uq Rb Mk t) w w3):=ah.out.then g1;clear ai g1 g2 ag ah;obtain⟨p,Y,av,aj⟩:=U.out.rd;have c0:w3.cell? ⟨Rb,0,none⟩=some (.string S):=by rw[gq Y]; rfl
 have c1:w3.cell? ⟨Rb,1,none⟩=some (.int .i64 p):=by rw[gq Y]; rfl
 have c2:w3.cell? ⟨Rb,2,none⟩=some (.map (some Mk)):=by rw[gq Y]; rfl
 have aw:((p:Int)==(S.size:Int))=true:=beq_iff_eq.2 (by
  have:=List.drop_eq_nil_iff.1 aj;simp at this
  omega)
 clear Y aj;have aa:=λty:bp=>gT.len (gT.stay U.out.kn rfl:gT prog 9 w3.drew Mk ((sn (gs++es)).map Rm)) b9 ty;have ak:((sn (gs++es)).map Rm).length=gs.length+es.length:=by simp
 rw[ak]at aa;obtain⟨N,hN⟩:∃N:Nat,N=gs.length+es.length:=⟨_,rfl⟩;rw[<-hN]at aa;have ax:N<=S.size:=by have:=U.out.rz; rw[aQ]at this; omega
 have ay:0<N:=by omega
 have ar:(0:Int)<(N:Int):=by omega
 have al:N-ng<=30:=by omega
 have an:(ng:Int)<=100:=by omega
 have au:(N:Int)-(ng:Int)<=30:=by omega
 have ao:b0 (gz (uq Rb Mk t) w w3.drew):=⟨O.out.os,O.out.tape,O.out.output,O.out.size,O.out.block⟩
 have ap:b0 (RG w3.drew Rb Mk t S [] (gs++es)):=by
  have h:=U.out;exact⟨h.rd,gT.stay h.kn rfl,HT.out.stay h.sd λ_ _=>rfl,h.rz,h.ne⟩
 clear hN am ak h5;go_wp2_with fail;go_region_held3 (λw'=>w'.cell? ⟨Rb,0,none⟩=some (.string S)/\w'.cell? ⟨Rb,1,none⟩=some (.int .i64 p)) (go_keep) (first|(go_at_call 212; refine(jJ _).mono ?_; rintro e w' ⟨rfl,rfl⟩));go_wp2_with fail;refine(jJ _).mono ?_;rintro e w' ⟨rfl,rfl⟩;go_wp2_with fail;refine(jJ _).mono ?_;rintro e w' ⟨rfl,rfl⟩;go_wp2_with fail;refine(jJ _).mono ?_;rintro e w' ⟨rfl,rfl⟩;go_wp2;go_end0;exact⟨rfl,ao.out,ap.out⟩
theorem Js(hT:t.Ok mx)(h:RG w Rb Mk t S rest [])(hS:S.size<=1099511627775)(hm:S.size<=mx)(hX:lN S.size rest=some (gs,es)) :
  bm prog 158 #[.func (.func 159) #[.pointer (some ⟨Rb,0,none⟩)] #[]] w λe w'=>e=.returned (.bool true)/\gz (uq Rb Mk t) w w'/\t.T w' (gs++es):=by
 have am:∀(fn:Fn)(first cap:Array Value)(w:World),(Instr.makeFunc fn first cap).run prog w=.ok (.func fn first cap) w:=λ_ _ _ _=>rfl;obtain⟨w0,ab⟩:∃w0,w.alloc (.cells #[.bool false] 4)=w0:=⟨_,rfl⟩;have aa:Below w.heap.size w w0:=by rw[<-ab]; exact(b3 _ _).alloc (bu _) _
 have ac:w0.heap[w.heap.size]?=some (.cells #[.bool false] 4 (0,0)):=by rw[<-ab]; exact bn w _
 have ad:=h.below hT aa;have U:=ER hT ad hS hm hX;have HD:b0 (∀k,t.QP k->k<w.heap.size):=λk Y=>hT.lt h.sd Y
 have HZ:b0 (¬uq Rb Mk t w.heap.size):=by
  rintro(Y|Y|Y)
  .obtain⟨p,h1,_⟩:=h.rd;have:=iQ h1;omega
  .have:=h.kn.lt;omega
  .have:=HD.out _ (hT.sub _ Y);omega
 have ae:b0 (w0.heap[w.heap.size]?=some (.cells #[.bool false] 4 (0,0))):=ac;have ah:b0 (gz (uq Rb Mk t) w w0):=gz.jm aa;have HT:b0 _:=hT;clear h aa ac ad hX hT;go_enter_defers func158,ntmps158;go_wp2_with fail;refine U.mono ?_;rintro e w1 ⟨rfl,g1,g2⟩;have O:w1.heap[w.heap.size]?=some (.cells #[.bool false] 4 (0,0)):=by rw[g1.block _ (iQ ae.out) HZ.out]; exact ae.out
 have c1:w1.cell? ⟨w.heap.size,0,none⟩=some (.bool false):=by rw[gq O]; rfl
 have f1:w1.frozen? ⟨w.heap.size,0,none⟩=false:=gP O 0;have ai:b0 (w1.heap[w.heap.size]?=some (.cells #[.bool false] 4 (0,0))):=O;have af:b0 _:=g2.sd;have aj:b0 (gz (uq Rb Mk t) w w1):=ah.out.then g1;clear U g1 g2 O;go_wp2;refine leaves_cons (f:=210) (args:=#[.pointer (some ⟨w.heap.size,0,none⟩)]) (by simp) (by simp[go_sem]) ?_;refine(Ja _ _).mono ?_;rintro e u' w2 ⟨rfl,rfl,rfl⟩;have ag:gz (· = w.heap.size) w1 (w1.setCell ⟨w.heap.size,0,none⟩ (.bool true)):=nt rfl
 have ak:(w1.setCell ⟨w.heap.size,0,none⟩ (.bool true)).heap[w.heap.size]?=some (.cells #[.bool true] 4 (0,0)):=by
  rw[heap_set ai.out]; rfl
 have al:(w1.setCell ⟨w.heap.size,0,none⟩ (.bool true)).cell? ⟨w.heap.size,0,none⟩=some (.bool true):=by rw[gq ak]; rfl
 refine⟨.bool true,?_,rfl,aj.out.trans ag (λi hi hg=>by omega),HT.out.stay af.out λk Y=>ag.block k (HT.out.lt af.out Y) (Nat.ne_of_lt (HD.out k Y))⟩;simp[bt,results158,go_sem,al]
theorem D8(Y:t.Ok mx)(h:t.T w [])(hS:S.size<=1099511627775)(hm:S.size<=mx)(hX:lN S.size S.data.toList=some (gs,es)) :
  bm prog 117 #[.string S,t.v] w λe w'=>e=.returned (.bool true)/\gz t.own w w'/\t.T w' (gs++es):=by
 have ai:=@b2 prog;have aj:∀(fn:Fn)(first cap:Array Value)(w:World),(Instr.makeFunc fn first cap).run prog w=.ok (.func fn first cap) w:=λ_ _ _ _=>rfl;obtain⟨w0,O⟩:∃w0,w.alloc (.map #[] 0)=w0:=⟨_,rfl⟩;have ag:w0.heap.size=w.heap.size+1:=by rw[<-O]; simp
 obtain⟨w1,hw1⟩:∃w1,w0.alloc (.cells #[.string S,.int .i64 0,.map (some w.heap.size),t.v] 216)=w1:=⟨_,rfl⟩;have aa:Below w.heap.size w w0:=by rw[<-O]; exact(b3 _ _).alloc (bu _) _
 have U:Below w.heap.size w w1:=by rw[<-hw1]; exact aa.alloc (by omega) _
 have ab:gT prog 9 w0 w.heap.size []:=by rw[<-O]; exact gT.made w
 have ac:gT prog 9 w1 w.heap.size []:=ab.stay (by rw[<-hw1]; exact b4 _ _ _ (by omega));have ad:w1.heap[w.heap.size+1]?=some (.cells #[.string S,.int .i64 0,.map (some w.heap.size),t.v] 216 (0,0)):=by rw[<-hw1,<-ag]; exact bn w0 _
 have ae:RG w1 (w.heap.size+1) w.heap.size t S S.data.toList []:=
  ⟨⟨0,ad,bw _,rfl⟩,ac,Y.stay h λk hk=>U.block k (Y.lt h hk),by simp,λk hk=>by have:=Y.lt h hk; omega⟩
 have af:=Js Y ae hS hm hX
 have ah:b0 (∀w',gz (uq (w.heap.size+1) w.heap.size t) w1 w'->gz t.own w w'):=λw' g=>(gz.jm U).trans g (λi hi hg=>by
  rcases hg with h|h|h
  .omega
  .omega
  .exact h)
 clear h aa U ab ac ad ae Y hX;unfold FB.v at hw1⊢;have ak:∀(a:Addr)(w:World),(store a (.func (.func t.fn) #[] t.cp)).run prog w=stored prog w a (.func (.func t.fn) #[] t.cp) .plain:=λa w=>run_store prog w a _ .plain rfl;go_enter func117,ntmps117;go_wp2_with fail;refine af.mono ?_;rintro e w2 ⟨rfl,g1,g2⟩;have HS:b0 _:=g2;clear af g2;go_wp2;go_ret;exact⟨rfl,ah.out _ g1,HS.out⟩
end
section
open Go.RowKit Go.Maps
def V9(U O:Nat):FB where
 fn:=130
 cp:=#[.pointer (some ⟨U,0,none⟩)]
 own k:=k=O
 QP k:=k=O\/k=U
 T w told:=w.heap[U]?=some (.cells #[.map (some O)] 85 (0,0))/\iu w O (sn told)
theorem RF(Y Bs mx:Nat):(V9 Y Bs).Ok mx where
 jQ:=⟨_,_,func130,rfl,by kernel_rfl⟩
 sub _ h:=Or.inl h
 lt:=by
  rintro w told k ⟨O,U⟩ (rfl|rfl)
  .exact gT.lt U
  .exact iQ O
 stay:=by
  rintro w w' told ⟨O,U⟩ h;exact⟨by rw[h Y (Or.inr rfl)]; exact O,gT.stay U (h Bs (Or.inl rfl))⟩
 tell:=by
  rintro w q told e ⟨O,U⟩ hn hl he _;refine(PM Y Bs (sn told) e q w O U hn (by rw[aP]; exact hl) (by have:=he.1; unfold bl; omega)).mono ?_;rintro en w' ⟨rfl,g1,g2⟩;exact⟨rfl,⟨by rw[g2.block Y (iQ O) (λk=>gT.pX U O k.symm)]; exact O,by rw[show sn (told++[(q,e)])=sn told++[e] by simp[sn]]; exact g1⟩,g2⟩
theorem G9{S:ByteArray}{gs es:List (Nat×gu)}(w:World)(hS:S.size<=1099511627775)(hX:lN S.size S.data.toList=some (gs,es)) :
  bm prog 88 #[.string S] w λe w'=>Below w.heap.size w w'/\∃B,e=.returned (.tuple #[.map (some B),.bool true])/\w.heap.size<=B/\iu w' B (sn (gs++es)):=by
 have ai:=@b2 prog;have aj:∀(fn:Fn)(first cap:Array Value)(w:World),(Instr.makeFunc fn first cap).run prog w=.ok (.func fn first cap) w:=λ_ _ _ _=>rfl;obtain⟨w0,U⟩:∃w0,w.alloc (.map #[] 0)=w0:=⟨_,rfl⟩;have aa:w0.heap.size=w.heap.size+1:=by rw[<-U]; simp
 obtain⟨w1,Y⟩:∃w1,w0.alloc (.cells #[.map (some w.heap.size)] 85)=w1:=⟨_,rfl⟩;have ab:Below w.heap.size w w0:=by rw[<-U]; exact(b3 _ _).alloc (bu _) _
 have ac:Below w.heap.size w w1:=by rw[<-Y]; exact ab.alloc (by omega) _
 have ad:iu w0 w.heap.size []:=by rw[<-U]; exact gT.made w
 have ae:iu w1 w.heap.size []:=gT.stay ad (by rw[<-Y]; exact b4 _ _ _ (by omega));have af:w1.heap[w.heap.size+1]?=some (.cells #[.map (some w.heap.size)] 85 (0,0)):=by rw[<-Y,<-aa]; exact bn w0 _
 have ag:=D8 (RF (w.heap.size+1) w.heap.size S.size) ⟨af,ae⟩ hS (bu _) hX;have O:b0 _:=ac;go_enter func88,ntmps88;go_wp2_with fail;refine ag.mono ?_;rintro e w2 ⟨rfl,g1,g2,g3⟩
 have ah:b0 (Below w.heap.size w w2):=by
  refine⟨g1.os.trans O.out.os,g1.tape.trans O.out.tape,g1.output.trans O.out.output,bv O.out.size g1.size,λk hk=>?_⟩;rw[g1.block k (bz hk O.out.size) (by show k≠_; omega),O.out.block k hk]
 have c2:w2.cell? ⟨w.heap.size+1,0,none⟩=some (.map (some w.heap.size)):=by rw[gq g2]; rfl
 have HS:b0 _:=g3;go_wp2;go_ret2;exact⟨ah.out,_,rfl,bu _,HS.out⟩
end
section
open Go.RowKit Go.Maps
variable {e:gu} {l:List gu}
def zQ(c:Nat):Value:=.map (some c)
structure Lk(w:World)(v:Value)(Cs:List Nat)(ls:List (List gu)):Prop where
 rd:Rd w v (Cs.map zQ)
 len:Cs.length=ls.length
 each:∀i(h:i<ls.length)(h':i<Cs.length),iu w Cs[i] ls[i]
theorem zb(O:List (List gu))(k:Nat)(h:k<O.length):j6 (O.take (k+1))=gQ (j6 (O.take k)) O[k]:=by
 rw[List.take_succ_eq_append_getElem h,jb]
theorem O7(O:List (List gu))(k:Nat)(h:k<O.length):O[k].length<=kU O:=by
 have U:=Bj O k h;have Y:=FQ O (k+1);omega
theorem wT(O:List (List gu))(k:Nat)(U:k<=O.length):(j6 (O.take k)).length<=kU O:=by
 have Y:=ID O k U;have h2:=FQ O k;rw[BF]at Y;omega
theorem Bf(v:Value)(Cs:List Nat)(O:List (List gu))(w:World)(h:Lk w v Cs O)(ak:kU O<=536870912)(ad:∀l∈O,∀e∈l,e.name.length<=bl) :
  bm prog 58 #[v] w λen w'=>∃B,en=.returned (.map (some B))/\w.heap.size<=B/\iu w' B (j6 O)/\Below w.heap.size w w':=by
 have al:=@b2 prog;obtain⟨a,cap,rfl,ah,hcm,ae⟩:=id h.rd;have af:(Cs.map zQ).length=O.length:=by rw[aP,h.len]
 rw[af]at ah⊢;have am:=MA O;unfold bl at hcm;obtain⟨w0,ab⟩:∃w0,w.alloc (.map #[] 0)=w0:=⟨_,rfl⟩;have an:w0.heap.size=w.heap.size+1:=by rw[<-ab]; simp
 have hb0:Below w.heap.size w w0:=by rw[<-ab]; exact(b3 _ _).alloc (bu _) _
 have hM0:iu w0 w.heap.size []:=by rw[<-ab]; exact gT.made w
 have HL:b0 (Lk w (.slice a (Cs.map zQ).length cap) Cs O):=h;have ai:b0 (∀j u,(Cs.map zQ)[j]?=some u->∃b off,a=some ⟨b,off,none⟩/\w.cell? ⟨b,off+j,none⟩=some u):=ae;have aj:b0 (∀l∈O,∀e∈l,e.name.length<=bl):=ad;clear h ae af ad;go_enter func58,ntmps58;go_wp2;go_loopw [9] (λi wr=>∃k:Nat,k<=O.length/\i=.int .i64 k/\iu wr w.heap.size (j6 (O.take k))/\Below w.heap.size w wr) (λi _=>O.length-(intOf i).toNat)
 case atStart=>exact⟨0,bw _,rfl,hM0,hb0⟩
 case round=>
  obtain⟨k,hk,rfl,hm,hb⟩:=hrel;have HM:b0 (iu wr w.heap.size (j6 (O.take k))):=hm;have HB:b0 (Below w.heap.size w wr):=hb;clear hm hb;by_cases U:k<O.length
  .have ag:k<Cs.length:=by rw[HL.out.len]; exact U
   obtain⟨bb,off,rfl,Y⟩:=ai.out k (zQ Cs[k]) (by simp[ag]);have hc:=bo HB.out Y;unfold zQ at hc;have ac:=HL.out.each k U ag;have ao:=gT.lt ac;have aa:=QI w.heap.size Cs[k] (j6 (O.take k)) O[k] wr HM.out (gT.below ac HB.out) (by omega) (by have:=O7 O k U; omega) (by have:=wT O k hk; omega) (aj.out _ (bj U));rw[<-zb O k U]at aa;clear Y ac;go_wp2_with fail;refine aa.mono ?_;rintro e w1 ⟨rfl,q1,q2⟩;have HM1:b0 (iu w1 w.heap.size (j6 (O.take (k+1)))):=q1
   have HB1:b0 (Below w.heap.size w w1):=by
    refine⟨q2.os.trans HB.out.os,q2.tape.trans HB.out.tape,q2.output.trans HB.out.output,bv HB.out.size q2.size,λi hi=>?_⟩;rw[q2.block i (bz hi HB.out.size) (by omega),HB.out.block i hi]
   go_wp2;go_roundw
   case rel=>exact⟨k+1,by omega,by go_num,HM1.out,HB1.out⟩
   case measure=>simp[intOf]; omega
  .have HE:b0 (O.take k=O):=bd (by omega);go_wp2;go_ret;refine⟨_,rfl,bu _,?_,HB.out⟩;have:=HM.out;rw[HE.out]at this;exact this
theorem Re(h:QO e):LM e:=by
 rcases h with h|h
 .have O:=jV h.2.1;have Y:=mD h.2.2.1;have h3:=h.2.2.2.2;exact⟨by omega,by omega,⟨by omega,by omega⟩,by omega,by omega⟩
 .have O:=jV h.2;have U:e.text=[]:=by rw[h.1]
  have e2:e.gw=0:=by rw[h.1]
  have e3:e.gK=0:=by rw[h.1]
  exact⟨by omega,by rw[U]; simp,⟨by omega,by omega⟩,by omega,by omega⟩
theorem tS(h:QO e):jE e.name=true:=by
 rcases h with h|h
 .exact h.2.1
 .exact h.2
theorem Jp(l:List gu)(h:∀e∈l,e.name.length<=8):(l.flatMap λe=>gS e.name).length<=l.length*9:=by
 induction l with
 |nil=>simp
 |cons e l O=>
  rw[List.flatMap_cons,aQ];have U:=O (λx Y=>h x (aZ _ Y));have h2:=h e (aT ..);simp only[gS,aW]at U⊢;omega
theorem ub(h:qp l):(gZ l).length<=3000000000:=by
 unfold gZ
 have Y:((jd l).filter λe=>e.gone).length<=100:=by
  rw[((jA l).filter _).length_eq];exact h.gone
 have ht:((jd l).filter λe=>!e.gone).length<=30:=by
  rw[((jA l).filter _).length_eq];exact h.there
 have h1:=Jp ((jd l).filter λe=>e.gone) (λe O=>(jV (tS (h.each e (pL.1 (ba.1 O).1)))).2);have h2:=PY 26 [] ((jd l).filter λe=>!e.gone) (λe O=>Re (h.each e (pL.1 (ba.1 O).1)));have U:(gS []).length=1:=rfl;simp only[aW,aQ,U];omega
theorem tu(h:qp l):∀e∈l,e.name.length<=bl:=λe O=>by
 have:=(jV (tS (h.each e O))).2;unfold bl;omega
theorem pJ(h:qp l):l.length<=130:=by
 have O:=mq l;have U:=h.gone;have Y:(gD l).length<=30:=h.there;omega
theorem qU(s:List gu)(w:World)(h:qp s) :
  bm prog 73 #[.string ⟨(gZ s).toArray⟩] w λU w'=>∃B,U=.returned (.map (some B))/\w.heap.size<=B/\iu w' B s/\Below w.heap.size w w':=by
 have hl:=ub h;obtain⟨gs,es,Y,hp⟩:=B8 h;obtain⟨ps,qs,O,e1,e2,_⟩:=DH Y;have hu:=G9 (S:=⟨(gZ s).toArray⟩) w (by show(gZ s).toArray.size<=_; simp; omega) O;have HP:b0 ((sn (ps++qs)).Perm s):=by rw[show sn _=sn ps++sn qs from aU,e1,e2]; exact hp
 go_enter func73,ntmps73;go_wp2_with fail;refine hu.mono ?_;rintro e w1 ⟨hb,B,rfl,hB,hs⟩;have HS:b0 _:=iu.perm hs HP.out;have HB:b0 _:=hb;go_wp2;go_ret;exact⟨B,rfl,hB,HS.out,HB.out⟩
end
section
open Go.RowKit Go.Maps
variable {ss:List (List gu)} {buf:List gu}
theorem S4:(prog.info? 85).map (λi=>(i.zero,i.size,i.bytes))=some (some (.map none),1,8):=by kernel_rfl
structure BU(w:World)(F:Nat->Prop)(b:Nat)(buf:List gu)(ss:List (List gu))(Bb:Nat)(vS vM vK:Value):Prop where
 blk:w.heap[b]?=some (.cells #[.map (some Bb),vS,vM,vK] 90 (0,0))
 fb:F b
 fB:F Bb
 say:iu w Bb buf
 row:w.ownsRow 0 9 1 vS ss.length (gr (ss.map gZ))
 nT:∀k,vS.ownBlock=some k->F k
 inv:Inv buf ss
theorem sG{w:World}{base e n:Nat}{v:Value}{xs:List Value}(U:w.ownsRow base e 1 v n xs){P:Program}{k:bp}{B:Nat}{l:List (Wd×Value)}(hm:gT P k w B l):some B≠v.ownBlock:=by
 rcases U.2 with⟨rfl,_⟩|⟨g,cap,Y,rfl,_,hg,_⟩
 .simp[Value.ownBlock]
 .intro O;simp only[Value.ownBlock,Option.some.injEq]at O;exact hm.pX hg O
theorem ud(h:Inv buf ss):buf.length<=130:=by
 have U:=mq buf;have Y:=h.gone;have O:=h.all;rw[jr,jb]at O;have h4:=nE (j6 ss) buf;omega
theorem NQ(ss:List (List gu))(h:∀s∈ss,qp s):kU ss<=ss.length*131:=by
 induction ss with
 |nil=>simp[kU]
 |cons s ss O=>
  have U:=O (λx Y=>h x (aZ _ Y));have h2:=pJ (h s (aT ..));simp only[kU,bc,List.sum_cons,aW]at U⊢;omega
theorem GX(a b:List (List gu)):kU (a++b)=kU a+kU b:=by simp[kU]
theorem OO(h:Inv buf ss):kU (ss++[buf])<=1000:=by
 have O:=NQ ss h.lg;have U:=h.rz;have Y:=ud h;rw[GX];have:kU [buf]=buf.length+1:=by simp[kU]
 omega
theorem Dm(h:Inv buf ss):∀l∈ss++[buf],∀e∈l,e.name.length<=bl:=by
 intro l Y e U;rcases List.mem_append.1 Y with O|O
 .exact tu (h.lg l O) e U
 .simp only[bg]at O;subst O;have:=(jV (tS (h.each e U))).2;unfold bl;omega
theorem yF{O:List (List gu)}(h:∀l∈O,∀e∈l,e.name.length<=bl):∀e∈j6 O,e.name.length<=bl:=by
 have:∀(O:List _)(a:List gu),(∀e∈a,e.name.length<=bl)->(∀l∈O,∀e∈l,e.name.length<=bl)->∀e∈O.foldl gQ a,e.name.length<=bl:=by
  intro O
  induction O with
  |nil=>intro a U _ e Y; exact U e Y
  |cons l O ih=>
   intro a U hl e Y;refine ih _ (λx hx=>?_) (λm hm=>hl m (aZ _ hm)) e Y;rcases nJ.1 hx with h1|h1
   .exact U x h1.1
   .exact hl l (aT ..) x h1
 exact this O [] (nofun) h
theorem AP(F:Nat->Prop)(b:Nat)(buf:List gu)(ss:List (List gu))(Bb:Nat)(vS vM vK:Value)(w:World)(h:BU w F b buf ss Bb vS vM vK) :
  bm prog 59 #[.pointer (some ⟨b,0,none⟩)] w λen w'=>∃C,en=.returned (.map (some C))/\w.heap.size<=C/\iu w' C (ix ss buf)/\Below w.heap.size w w':=by
 obtain⟨i0,hi,ai,aj,ak⟩:=info_parts S4;obtain⟨aS,cS,rfl,aF⟩:=gU h.row;have al:=Rd.lT h.row;have a0:w.cell? ⟨b,0,none⟩=some (.map (some Bb)):=by rw[gq h.blk]; rfl
 have aG:w.cell? ⟨b,1,none⟩=some (.slice aS ss.length cS):=by rw[gq h.blk]; rfl
 have h6:=h.inv.rz
 have HR:b0 (∀j(hj:j<ss.length),∃bb off,aS=some ⟨bb,off,none⟩/\w.cell? ⟨bb,off+j,none⟩=some (.string ⟨(gZ ss[j]).toArray⟩)):=by
  intro j hj;obtain⟨a',c',he,_,_,hr⟩:=al;simp only[Value.slice.injEq]at he;obtain⟨rfl,_,rfl⟩:=he;exact hr j _ (by simp[gr,hj])
 have HP:b0 _:=h;clear h al;go_enter func59,ntmps59;go_wp2;go_loopw [3,11] (λv i wr=>∃(k:Nat)(Cs:List Nat),k<=ss.length/\i=.int .i64 k/\Cs.length=k/\wr.ownsRow w.heap.size 85 1 v k (Cs.map zQ)/\(∀i(h:i<k)(h':i<Cs.length)(h2:i<ss.length),iu wr Cs[i] ss[i]/\w.heap.size<=Cs[i])/\Below w.heap.size w wr) (λ_ i _=>ss.length-(intOf i).toNat)
 case atStart=>exact⟨0,[],bw _,rfl,rfl,World.ownsRow_nil _ _ _ _,λi h=>by omega,b3 _ _⟩
 case round=>
  obtain⟨k,Cs,hk,rfl,hCl,U,ab,hb⟩:=hrel;have HB:b0 _:=hb;have hz:=hb.size;have HE:b0 _:=ab;clear ab hb;by_cases am:k<ss.length
  .obtain⟨bb,off,rfl,ac⟩:=HR.out k am;have hc:=bo HB.out ac;have an:=qU ss[k] wr (HP.out.inv.lg _ (bj am));clear ac;go_wp2_with fail;refine an.mono ?_;rintro e w1 ⟨C,rfl,hC,hs,ad⟩;have aD:=ad.size;have aa:w1.ownsRow w.heap.size 85 1 _ k (Cs.map zQ):=iz U (λj hj=>ad.block j (U.lt j hj).2);have ao:b0 (iu w1 C ss[k]/\wr.heap.size<=C):=⟨hs,hC⟩;have a3:b0 (Below w.heap.size w w1):=HB.out.trans (ad.mono hz);have a4:b0 _:=ad;clear an hs ad
   go_wp2_with (first
    |(at_builtin; refine jc _ rfl _ _ 136 rfl w.heap.size 85 i0 (.map none) 8 b' hi ai aj ak rfl _ _ _ rfl (aa.alloc _) ⟨w1.heap.size,0,none⟩ _ rfl lr rfl ?c1 ?c2 ?c3 ?_))
   case c1=>omega
   case c2=>unfold bl; omega
   case c3=>first|omega|(simp; omega)
   intro v' w2 Y O _
   have HW2:b0 (w2.ownsRow w.heap.size 85 1 v' (k+1) ((Cs++[C]).map zQ)):=by
    show w2.ownsRow _ _ _ _ _ _;rw[aU];exact Y
   have HB2:b0 (Below w.heap.size w w2):=(a3.out.alloc (by omega) _).grown O (by simp; omega) (λb hb=>(U.lt b hb).1)
   have HE2:b0 (∀i(h:i<k+1)(h':i<(Cs++[C]).length)(h2:i<ss.length),iu w2 (Cs++[C])[i] ss[i]/\w.heap.size<=(Cs++[C])[i]):=by
    intro i h h' h2
    have key:∀(D:Nat)(l:List gu),iu w1 D l->iu w2 D l:=λD l hm=>by
     have ae:iu (w1.alloc (.cells #[.map (some C)] 85)) D l:=gT.kept hm (bC _ _ none) (by simp);exact gT.kept ae O (sG (aa.alloc _) ae)
    by_cases af:i<k
    .rw[aY (by omega)];have hh:=HE.out i af (by omega) h2;exact⟨key _ _ (gT.below hh.1 a4.out),hh.2⟩
    .have ap:i=k:=by omega
     subst ap;rw[aX (by omega)];simp only[hCl,Nat.sub_self,List.getElem_cons_zero];exact⟨key _ _ ao.out.1,bv hz ao.out.2⟩
   obtain⟨a',c',rfl,aH⟩:=gU HW2.out;clear Y O U aa;go_wp2;go_roundw
   case rel=>exact⟨k+1,Cs++[C],by omega,by go_num,by simp[hCl],HW2.out,HE2.out,HB2.out⟩
   case measure=>simp[intOf]; omega
  .have a5:k=ss.length:=by omega
   subst a5;have aE:=bo HB.out a0
   go_wp2_with (first
    |(at_builtin; refine jc _ rfl _ _ 136 rfl w.heap.size 85 i0 (.map none) 8 b' hi ai aj ak rfl _ _ _ rfl (U.alloc _) ⟨wr.heap.size,0,none⟩ _ rfl lr rfl ?c1 ?c2 ?c3 ?_))
   case c1=>omega
   case c2=>unfold bl; omega
   case c3=>first|omega|(simp; omega)
   intro v' w2 Y O _;have aq:Below w.heap.size w w2:=(HB.out.alloc hz _).grown O (by simp; omega) (λb hb=>(U.lt b hb).1)
   have ar:Lk w2 v' (Cs++[Bb]) (ss++[buf]):=by
    refine⟨?_,by simp[hCl],λi h h'=>?_⟩
    .rw[aU];exact Rd.lT Y
    .have key:∀(D:Nat)(l:List gu),iu wr D l->iu w2 D l:=λD l hm=>by
      have ae:iu (wr.alloc (.cells #[.map (some Bb)] 85)) D l:=gT.kept hm (bC _ _ none) (by simp);exact gT.kept ae O (sG (U.alloc _) ae)
     by_cases af:i<ss.length
     .have e1:(Cs++[Bb])[i]=Cs[i]'(by omega):=aY (by omega);have e2:(ss++[buf])[i]=ss[i]:=aY af;rw[e1,e2];exact key _ _ (HE.out i af (by omega) af).1
     .have a6:i=ss.length:=by simp at h; omega
      subst a6;have h9:=h';have e1:(Cs++[Bb])[ss.length]'h9=Bb:=by rw[aX (by omega)]; simp[hCl]
      have e2:(ss++[buf])[ss.length]'h=buf:=by rw[aX (by omega)]; simp
      rw[e1,e2];exact key _ _ (gT.below HP.out.say HB.out)
   have a7:=OO HP.out.inv;have ag:=Dm HP.out.inv;have au:=Bf v' (Cs++[Bb]) (ss++[buf]) w2 ar (by omega) ag;have HB2:b0 _:=aq;have a8:b0 _:=ag
   have a9:b0 ((j6 (ss++[buf])).length<=1000):=by
    show _<=_;have:=wT (ss++[buf]) (ss++[buf]).length (bu _);rw[List.take_length]at this;omega
   clear Y O U ar aq ag a7;go_wp2_with fail;refine au.mono ?_;rintro e w3 ⟨B3,rfl,aI,av,aw⟩;have ax:=tI B3 (j6 (ss++[buf])) w3 av (by have:=a9.out; omega) (yF a8.out);have ah:b0 (Below w.heap.size w w3):=HB2.out.trans (aw.mono HB2.out.size);clear au av aw;go_wp2_with fail;refine ax.mono ?_;rintro e w4 ⟨C,rfl,hC,ay,az⟩;have aA:b0 (iu w4 C (ix ss buf)):=by show iu _ _ _; rw[jr]; exact ay
   have aB:b0 (Below w.heap.size w w4):=ah.out.trans (az.mono ah.out.size);have aC:w.heap.size<=C:=bv ah.out.size hC;clear ax ay az;go_wp2;go_ret;exact⟨C,rfl,aC,aA.out,aB.out⟩
end
end Go.Proofs.YtocbogeoffeolaaGreatDoor
