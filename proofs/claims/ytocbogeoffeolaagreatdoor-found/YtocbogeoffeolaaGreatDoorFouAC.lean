import Derived.Test.YtocbogeoffeolaaGreatDoorFouAB
import Derived.OrdersHeld
import Derived.RegionTactic
import Derived.Deep.RegionHeld3
import Derived.Recover
import Derived.Laws.EntriesVeiled
set_option linter.all false
set_option maxHeartbeats 8000000
set_option maxRecDepth 1000000
open List renaming getD_eq_getElem?_getD->aU,append_nil->aV,length_append->aW,length_map->aX,mem_map->aY,mem_cons_self->aZ,map_append->ba,getElem_mem->bc,getElem?_eq_getElem->bd,append_assoc->be,length_cons->bf,getElem_append_right->bg,getElem_append_left->bh,mem_cons_of_mem->bi,mem_filter->bj,replicate->bk,getElem?_append_left->bl,map_cons->bm,take_of_length_le->bn,mem_append_right->bo,replicate_succ->bp,filter_eq_self->bq,mem_singleton->br,nodup_append->bs,perm_middle->bu,map_nil->bv
open Nat renaming le_refl->bw,zero_le->bx,le_trans->bz,zero_add->b2,shiftLeft_add_eq_or_of_lt->b3,lt_of_lt_of_le->b4,lt_or_ge->b5
open Go renaming maxLen->b6,Calls->b7,heap_alloc_new->b8,cell_later->b9,wp_region_held->b',TypeId->bA,wpList->bB,wpAnyH->bC,results->bD,wpAnyH_done->bE,info_parts->bF
open Go.RowKit renaming Hid->bG,wrap64->bH,run_makeMap->bI
open Go.RowKit.Below renaming refl->bJ,heap_alloc->bK,setCell->bL
open Go.Proofs.Tryz renaming underlying9->bM,underlying85->bN,underlying214->bO,ntmps215->bP,func215->bR,underlying136->bS,ntmps69->bT,func69->bU
open Option renaming bind_eq_some_iff->bV,bind_some->bW
open Go.World renaming grownBy_alloc->bX,ownsRow->bY,setCell->bZ
open Option.some renaming injEq->ca
open Go.Addr.mk renaming injEq->cb
open List.Perm renaming refl->cd
open Go.IntKind renaming wrap_i64->ce
open Go.Op renaming bytesLess->cf
namespace Go.Proofs.YtocbogeoffeolaaGreatDoor
open Go.Proofs.Tryz
section
variable {a:Act} {listed:Array Bool} {fuel:Nat} {w:World}
section
variable {P:Program} {md:Region.Mode} {ops:Array Oper} {Q:Exit->Act->World->Prop} {S:World->Prop}
theorem fU(i:Nat)(v:Value){y:Oper}(O:S w)
  (U:∀w,S w->(execOp a.eval y).run P w=.ok (.value v) w) (h:bC P md ops Q S fuel (listed.setIfInBounds i true) (a.put y.dst v) w)
  (hi:ops[i]?=some y:=by rfl) (W:Region.noSelect ops=true:=by kernel_rfl) (Y:Region.free md ops listed i=true:=by kernel_rfl)
  (hr:(Region.ready md ops listed).contains i=true:=by kernel_rfl) (hQ:∀c a w,Q (.panic c) (a.put y.dst v) w->Q (.panic c) a w:=by exact λ_ _ _ h=>h)
  (hw:Region.wanted y (yielded ops a.tmps)=true:=by rfl):bC P md ops Q S (fuel+1) listed a w:=
 wpAnyH_take hi W Y hr hQ (.inl ⟨hw,U⟩) O h
theorem l5(i:Nat){o:Oper}(h:∀K':Act->World->Prop,(∀y w',S w'/\bC P md ops Q S fuel (listed.setIfInBounds i true) y w'->K' y w')->Oper.wp P o a w K' Q)
  (O:Region.ready md ops listed=[i]:=by kernel_rfl) (U:ops[i]?=some o:=by rfl) (W:Region.wanted o (yielded ops a.tmps)=true:=by rfl):bC P md ops Q S (fuel+1) listed a w:=
 wpAnyH_all O (by simp) λj Y=>by
  obtain rfl:j=i:=by simpa using Y
  exact wpOp_step U λK' hK=>by rw[if_pos W];exact h K' hK
end
open Go.RowKit
def Pu:PanicEntry:={v:=.iface 264 (.agg #[]),recovered:=false}
theorem gq(w:World):b7 prog 212 #[.bool true] w λe w'=>e=.returned (.tuple #[])/\w=w':=by
 go_wp2;go_end0;exact⟨rfl,rfl⟩
theorem QS(w:World):b7 prog 212 #[.bool false] w λe w'=>e=.panicked [Pu]/\w=w':=by
 go_wp2;exact⟨rfl,rfl,rfl⟩
def Az(w:World)(Rb:Nat)(S:ByteArray)(p:Nat)(Mk:Nat)(y:Value):Prop:=w.heap[Rb]?=some (.cells #[.string S,.int .i64 p,.map (some Mk),y] 216 (0,0))
theorem Kq(s:ByteArray)(p n:Nat):s.extract p (p+n)=⟨((s.data.toList.drop p).take n).toArray⟩:=by
 apply ByteArray.ext;apply Array.ext';simp[List.take_drop]
theorem k8{w:World}{b o:Nat}{v:Value}{F:Nat->Prop}(hF:F b):du F w (w.setCell ⟨b,o,none⟩ v):=
 ⟨rfl,rfl,rfl,by simp[bZ],λk O y=>Below.heap_setCell _ _ _ _ (by intro e;subst e;exact y hF)⟩
theorem OA(Rb:Nat)(S:ByteArray)(p Mk:Nat)(O:Value)(n:Nat)(w:World)(h:Az w Rb S p Mk O)(hp:p+n<=S.size)(hS:S.size<=1099511627776) :
  b7 prog 236 #[.pointer (some ⟨Rb,0,none⟩),.int .i64 n] w λe w'=>e=.returned (.string (S.extract p (p+n)))/\Az w' Rb S (p+n) Mk O/\du (· = Rb) w w'/\w'.heap.size=w.heap.size:=by
 unfold Az at h;have c0:w.cell? ⟨Rb,0,none⟩=some (.string S):=by rw[dh h];rfl
 have c1:w.cell? ⟨Rb,1,none⟩=some (.int .i64 p):=by rw[dh h];rfl
 have f1:w.frozen? ⟨Rb,1,none⟩=false:=dI h 1;have HH:bG _:=h;have aa:IntKind.i64.wrap ((S.size:Int)-(p:Int))=(S.size:Int)-(p:Int):=by simp only[ce];omega
 have ab:(n:Int)<=(S.size:Int)-(p:Int):=by omega
 have U:IntKind.i64.wrap ((p:Int)+(n:Int))=((p+n:Nat):Int):=by simp only[ce];omega
 have W:(p:Int)<=((p+n:Nat):Int):=by omega
 have Y:((p+n:Nat):Int)<=(S.size:Int):=by omega
 clear h;go_enter func236,ntmps236;go_wp2_with fail;go_region_held3 (λw'=>w'.cell? ⟨Rb,0,none⟩=some (.string S)/\w'.cell? ⟨Rb,1,none⟩=some (.int .i64 p)) (go_keep) (first|(go_at_call 212;refine(gq _).mono ?_;rintro e w' ⟨rfl,rfl⟩));go_wp2_with fail;go_quiet (fail);go_wp2;go_ret
 have h1:((w.drewN (1+nq)).setCell ⟨Rb,1,none⟩ (.int .i64 ((p:Int)+(n:Int)))).heap[Rb]?=some (.cells #[.string S,.int .i64 ((p+n:Nat):Int),.map (some Mk),O] 216 (0,0)):=by
  rw[heap_set (w:=w.drewN (1+nq)) HH.out];simp
 refine⟨rfl,h1,?_,by simp[bZ,World.drewN]⟩;have y:=k8 (w:=w.drewN (1+nq)) (b:=Rb) (o:=1) (v:=.int .i64 ((p:Int)+(n:Int))) (F:=(· = Rb)) rfl;exact⟨y.os,y.tape,y.output,y.size,y.block⟩
theorem PD(R:Ending->World->Prop)(Rb:Nat)(S:ByteArray)(p Mk:Nat)(U:Value)(n:Nat)(w:World)(h:Az w Rb S p Mk U)(hp:S.size<p+n)(W:p<=S.size)(hS:S.size<=1099511627776)(y:R (.panicked [Pu]) w.drew) :
  b7 prog 236 #[.pointer (some ⟨Rb,0,none⟩),.int .i64 n] w R:=by
 unfold Az at h;have c0:w.cell? ⟨Rb,0,none⟩=some (.string S):=by rw[dh h];rfl
 have c1:w.cell? ⟨Rb,1,none⟩=some (.int .i64 p):=by rw[dh h];rfl
 have Y:IntKind.i64.wrap ((S.size:Int)-(p:Int))=(S.size:Int)-(p:Int):=by simp only[ce];omega
 have aa:decide ((n:Int)<=(S.size:Int)-(p:Int))=false:=decide_eq_false (by omega);have O:∀tm:Array Value,bodyPost prog f236 R (.panic [Pu]) {tmps:=tm,defers:=[]} w.drew:=λ_=>⟨rfl,y⟩;clear h;go_enter func236,ntmps236;go_wp2_with fail;refine b' (S:=λw'=>w'=w.drew) (by kernel_rfl) ?_;refine fU 0 ?_ rfl ?_<|fU 1 ?_ rfl ?_<|fU 2 ?_ rfl ?_<|fU 3 ?_ rfl ?_<|fU 4 ?_ rfl ?_<|fU 5 ?_ rfl ?_<|fU 6 ?_ rfl ?_<|fU 7 ?_ rfl ?_<|fU 8 ?_ rfl ?_<|fU 9 ?_ rfl ?_<|fU 10 ?_ rfl ?_<|fU 11 ?_ rfl ?_ ?_
 any_goals(rintro _ rfl;go_simp;first|done|with_reducible rfl)
 refine l5 12 λK' _=>?_;unfold Oper.wp;go_simp;refine(QS _).mono ?_;rintro e w' ⟨rfl,rfl⟩;exact⟨rfl,y⟩
theorem R6(Rb:Nat)(S:ByteArray)(p Mk:Nat)(O:Value)(n:Nat)(w:World)(h:Az w Rb S p Mk O)(U:S.size<p+n)(y:p<=S.size)(W:S.size<=1099511627776) :
  b7 prog 236 #[.pointer (some ⟨Rb,0,none⟩),.int .i64 n] w λe w'=>e=.panicked [Pu]/\du (· = Rb) w w'/\w'.heap.size=w.heap.size:=
 PD _ Rb S p Mk O n w h U y W ⟨rfl,⟨rfl,rfl,rfl,bw _,λ_ _ _=>rfl⟩,rfl⟩
def Hf(w:World)(Rb:Nat)(S:ByteArray)(rest:Wd)(Mk:Nat)(y:Value):Prop:=∃p:Nat,Az w Rb S p Mk y/\p<=S.size/\S.data.toList.drop p=rest
def Ends{y:Type}(F:Nat->Prop)(w:World)(X:Option y)(ok:y->Ending->World->Prop)(e:Ending)(w':World):Prop:=du F w w'/\match X with
 |some x=>ok x e w'|none=>e=.panicked [Pu]
theorem y7(Rb:Nat)(S:ByteArray)(rest:Wd)(Mk:Nat)(y:Value)(n:Nat)(w:World)(h:Hf w Rb S rest Mk y)(U:S.size<=1099511627776) :
  b7 prog 236 #[.pointer (some ⟨Rb,0,none⟩),.int .i64 n] w (Ends (· = Rb) w (pC n rest) λx e w'=>e=.returned (.string ⟨x.1.toArray⟩)/\Hf w' Rb S x.2 Mk y/\w'.heap.size=w.heap.size):=by
 obtain⟨p,W,h2,rfl⟩:=h;have hl:(S.data.toList.drop p).length=S.size-p:=by simp
 unfold pC;by_cases Y:n<=(S.data.toList.drop p).length;rw[if_pos Y];refine(OA Rb S p Mk y n w W (by omega) U).mono ?_;rintro e w' ⟨rfl,g1,O,g3⟩;refine⟨O,?_,⟨p+n,g1,by omega,by simp⟩,g3⟩;rw[Kq];rw[if_neg Y];refine(R6 Rb S p Mk y n w W (by omega) h2 U).mono ?_;rintro e w' ⟨rfl,O,g3⟩;exact⟨O,rfl⟩
theorem nL(Rb:Nat)(S:ByteArray)(rest:Wd)(Mk:Nat)(y:Value)(w:World)(h:Hf w Rb S rest Mk y)(Y:S.size<=1099511627776) :
  b7 prog 233 #[.pointer (some ⟨Rb,0,none⟩)] w (Ends (· = Rb) w (rdNum rest) λx e w'=>e=.returned (.int .i64 x.1)/\Hf w' Rb S x.2 Mk y/\w'.heap.size=w.heap.size):=by
 have W:=y7 Rb S rest Mk y 1 w h Y
 cases rest with
 |nil=>
  go_enter func233,ntmps233;go_wp2_with fail;refine W.mono ?_;rintro e w' ⟨g1,O⟩;subst O;exact⟨rfl,g1,rfl⟩
 |cons b r=>
  go_enter func233,ntmps233;go_wp2_with fail;refine W.mono ?_;rintro e w' ⟨g1,O⟩;obtain⟨rfl,g3,g4⟩:=O;have U:bG (du _ w w'/\Hf w' Rb S r Mk y/\w'.heap.size=w.heap.size):=⟨g1,g3,g4⟩;go_wp2;go_ret;refine⟨U.out.1,?_,U.out.2.1,U.out.2.2⟩;have hb:=b.toNat_lt;show Ending.returned (.int _ (bH b.toNat))=.returned _;refine eR ?_;unfold bH;omega
theorem du.then{F:Nat->Prop}{a b c:World}(h:du F a b)(k:du F b c):du F a c:=h.trans k (λ_ _ h=>h)
theorem uy(Rb:Nat)(S:ByteArray)(rest:Wd)(Mk:Nat)(W:Value)(w:World)(h:Hf w Rb S rest Mk W)(hS:S.size<=1099511627776) :
  b7 prog 213 #[.pointer (some ⟨Rb,0,none⟩)] w (Ends (· = Rb) w (j8 rest) λx e w'=>e=.returned (.string ⟨x.1.toArray⟩)/\Hf w' Rb S x.2 Mk W/\w'.heap.size=w.heap.size):=by
 have Y:=nL Rb S rest Mk W w h hS;unfold j8;clear h
 cases U:rdNum rest with
 |none=>
  rw[U]at Y;clear U;go_enter func213,ntmps213;go_wp2_with fail;refine Y.mono ?_;rintro e w' ⟨g1,rfl⟩;exact⟨rfl,g1,rfl⟩
 |some x=>
  obtain⟨n,r⟩:=x;rw[U]at Y;go_enter func213,ntmps213;go_wp2_with fail;refine Y.mono ?_;rintro e w1 ⟨g1,rfl,g2,g3⟩;have O:=y7 Rb S r Mk W n w1 g2 hS
  cases U:pC n r with
  |none=>
   rw[U]at O;go_wp2_with fail;refine O.mono ?_;rintro e w2 ⟨g4,rfl⟩;exact⟨rfl,g1.then g4,by simp only[bW,U]⟩
  |some y=>
   rw[U]at O;have HN:bG _:=U;go_wp2_with fail;refine O.mono ?_;rintro e w2 ⟨g4,rfl,g5,g6⟩;have HF:bG (du _ w w2/\Hf w2 Rb S _ Mk W/\w2.heap.size=w.heap.size):=⟨g1.then g4,g5,by omega⟩;go_wp2;go_ret;refine⟨HF.out.1,?_⟩;simp only[bW,HN.out];exact⟨rfl,HF.out.2⟩
theorem Ba(n:Nat)(h:n<18446744073709551616):(BitVec.ofInt 64 (n:Int)).toNat=n:=by
 rw[BitVec.toNat_ofInt];omega
theorem PI(x y:Nat)(O:x<4294967296)(U:y<4294967296):bits .or .i64 (x:Int) (y:Int)=((x ||| y:Nat):Int):=by
 show IntKind.i64.wrap ((BitVec.ofInt 64 x ||| BitVec.ofInt 64 _).toNat)=_;rw[BitVec.toNat_or,Ba x (by omega),Ba y (by omega)];have h:x ||| y<2 ^ 32:=Nat.or_lt_two_pow (by omega) (by omega)
 rw[ce];omega
theorem IQ(a b c:UInt8):bits BinOp.or IntKind.i64 (bits BinOp.or IntKind.i64 (bH (bH (a.toNat:Int)*65536)) (bH (bH (b.toNat:Int)*256))) (bH (c.toNat:Int))=((a.toNat*65536+b.toNat*256+c.toNat:Nat):Int):=by
 have ha:=a.toNat_lt;have hb:=b.toNat_lt;have hc:=c.toNat_lt;have y:bH (bH a.toNat*65536)=((a.toNat <<< 16)):=by unfold bH;omega
 have O:bH (bH b.toNat*256)=((b.toNat <<< 8)):=by unfold bH;omega
 have U:bH c.toNat=c.toNat:=by unfold bH;omega
 have W:a.toNat <<< 16<4294967296:=by omega
 have Y:b.toNat <<< 8<2 ^ 16:=by omega
 have j1:a.toNat <<< 16 ||| b.toNat <<< 8=a.toNat <<< 16+b.toNat <<< 8:=(b3 Y _).symm
 have j2:(a.toNat <<< 16+b.toNat <<< 8) ||| c.toNat=a.toNat <<< 16+b.toNat <<< 8+c.toNat:=by
  have:a.toNat <<< 16+b.toNat <<< 8=(a.toNat*256+b.toNat) <<< 8:=by omega
  rw[this];exact(b3 (by omega) _).symm
 rw[y,O,U,PI _ _ W (by omega),j1,PI _ _ (by omega) (by omega),j2];simp only[Nat.shiftLeft_eq]
theorem zv(Rb:Nat)(S:ByteArray)(rest:Wd)(Mk:Nat)(W:Value)(w:World)(h:Hf w Rb S rest Mk W)(Y:S.size<=1099511627776) :
  b7 prog 237 #[.pointer (some ⟨Rb,0,none⟩)] w (Ends (· = Rb) w (iu rest) λx e w'=>e=.returned (.int .i64 x.1)/\Hf w' Rb S x.2 Mk W/\w'.heap.size=w.heap.size):=by
 have y:=y7 Rb S rest Mk W 3 w h Y;clear h Y
 have O:∀rest:Wd,rest.length<3->b7 prog 236 #[.pointer (some ⟨Rb,0,none⟩),.int .i64 3] w (Ends (· = Rb) w (pC 3 rest) λx e w'=>e=.returned (.string ⟨x.1.toArray⟩)/\Hf w' Rb S x.2 Mk W/\w'.heap.size=w.heap.size)->iu rest=none->
   b7 prog 237 #[.pointer (some ⟨Rb,0,none⟩)] w (Ends (· = Rb) w (iu rest) λx e w'=>e=.returned (.int .i64 x.1)/\Hf w' Rb S x.2 Mk W/\w'.heap.size=w.heap.size):=by
  intro rest hl y hw;have hn:pC 3 rest=none:=by unfold pC;rw[if_neg (by omega)]
  rw[hn]at y;rw[hw];go_enter func237,ntmps237;go_wp2_with fail;refine y.mono ?_;rintro e w' ⟨g1,rfl⟩;exact⟨rfl,g1,rfl⟩
 match rest,y with
 |[],y=>exact O _ (by simp) y rfl|[_],y=>exact O _ (by simp) y rfl|[_,_],y=>exact O _ (by simp) y rfl|a::b::c::r,y=>
  go_enter func237,ntmps237;go_wp2_with fail;refine y.mono ?_;rintro e w1 ⟨g1,rfl,g2,g3⟩;have U:bG (du _ w w1/\Hf w1 Rb S r Mk W/\w1.heap.size=w.heap.size):=⟨g1,g2,g3⟩;go_wp2_with fail;go_quiet (fail);go_wp2;go_ret;refine⟨⟨U.out.1.os,U.out.1.tape,U.out.1.output,U.out.1.size,U.out.1.block⟩,?_,U.out.2.1,U.out.2.2⟩;exact eR (IQ a b c)
open Go.Maps
variable {l:List (Wd×Value)} {B:Nat} {P:Program} {k:bA}
theorem qM(s:ByteArray)(w:World)(hs:s.size<=b6) :
  b7 prog 69 #[.string s] w λe w'=>e=.returned (.bool (iU s.data.toList))/\w=w':=by
 unfold b6 at hs;by_cases h0:0<s.size
 .by_cases h8:s.size<=8
  .go_enter bU,bT;go_wp2;go_loop [14] (λi=>∃k:Nat,k<=s.size/\i=.int .i64 k/\(s.data.toList.take k).all eB=true) (λi=>s.size-(intOf i).toNat)
   case atStart=>exact⟨0,bx _,rfl,rfl⟩
   case round=>
    obtain⟨k,hk,rfl,fy⟩:=hrel;have HA:bG _:=fy;clear fy;by_cases y:k<s.size
    .have HS:bG (s.data.toList.take (k+1)=s.data.toList.take k++[s[k]]):=uP s k y;go_wp2_with fail;refine(mH _ _).mono ?_;rintro e w' ⟨rfl,rfl⟩
     cases U:eB s[k]with
     |true=>
      have W:bG _:=U;clear U;go_wp2;go_round
      case rel=>exact⟨k+1,by omega,by go_num,by rw[HS.out,List.all_append,HA.out];simp[W.out]⟩
      case measure=>simp[intOf];omega
     |false=>
      have W:bG _:=U;clear U;go_wp2;go_ret;refine⟨dM ?_,rfl⟩;symm;rw[Bool.eq_false_iff];intro Y;simp only[iU,Bool.and_eq_true]at Y;have:=List.all_eq_true.1 Y.1.1 _ (Di s k y);rw[W.out]at this;simp at this
    go_wp2;go_ret;refine⟨dM ?_,rfl⟩;have e:s.data.toList.take k=s.data.toList:=bn (by simp;omega);have O:=HA.out;rw[e]at O;unfold iU;rw[O];simp;omega
  go_enter bU,bT;go_wp2;go_ret;refine⟨dM ?_,rfl⟩;simp[iU];omega
 go_enter bU,bT;go_wp2;go_ret;refine⟨dM ?_,rfl⟩;simp[iU];omega
def uz(e:dq):Wd:=if e.gone then []else e.name
def qO(e:dq):Value:=.agg #[.bool e.gone,.string ⟨(uz e).toArray⟩,.string ⟨e.text.toArray⟩,.int .i64 e.dp,.int .i64 e.dA]
def jl(e:dq):Wd×Value:=(e.name,qO e)
def QV(e:dq):Wd×Value:=(e.name,.agg #[])
def e9(w:World)(B:Nat)(es:List dq):Prop:=dL prog 9 w B (es.map jl)
theorem dL.map(h:dL P k w B l):∃es clock,w.heap[B]?=some (.map es clock):=by
 obtain⟨D,⟨es,clock,y,_⟩,_⟩:=h;exact⟨es,clock,y⟩
theorem dL.nH{b:Nat}(h:dL P k w B l){cs:Array Value}{t:bA}{fz:Nat×Nat}(hb:w.heap[b]?=some (.cells cs t fz)):B≠b:=by
 obtain⟨es,clock,y⟩:=h.map;intro e;rw[e,hb]at y;cases y
theorem eS{k:Nat}{o:Obj}(h:w.heap[k]?=some o):k<w.heap.size:=(Array.getElem?_eq_some_iff.1 h).1
theorem KV(told:List dq)(x:Wd):((told.map QV).any λp=>p.1==x)=decide (x∈told.map dq.name):=by
 rw[Bool.eq_iff_iff,decide_eq_true_eq,List.any_eq_true,aY];constructor;rintro⟨p,O,h⟩;obtain⟨e,y,rfl⟩:=aY.1 O;exact⟨e,y,by simpa[QV]using h⟩;rintro⟨e,y,rfl⟩;exact⟨QV e,aY.2 ⟨e,y,rfl⟩,by simp[QV]⟩
theorem Lr(told:List dq)(x:Wd):mF (told.map QV) x (.agg #[])=.agg #[]:=by
 unfold mF;split;rename_i p y;obtain⟨e,_,rfl⟩:=aY.1 (List.mem_of_find?_eq_some y);rfl;rfl
theorem KL(y:List Wd)(last O:Wd):nC y last O=(j8 O).bind λx=>if iU x.1=true/\cf last x.1=true/\x.1 ∉ y then some x else none:=rfl
theorem Ua(x y:Wd):(!cf x y && !x==y)=cf y x:=by
 rcases iC x y with h|h|h
 rw[h,pF h];rfl;subst h;rw[im];simp;rw[h,pF h];have:(x==y)=false:=by rw[beq_eq_false_iff_ne];exact λe=>BR h e.symm
 rw[this];rfl
theorem QK(w:World):(zeroValue 263).run prog w=.ok (.agg #[]) w:=by kernel_rfl
def xW(e:dq):Value:=.agg #[.string ⟨e.name.toArray⟩,.string ⟨e.text.toArray⟩,.int .i64 e.dp,.int .i64 e.dA]
theorem JW(told:List dq)(e:dq)(f:dq->Wd×Value)(y:∀e,(f e).1=e.name)(h:e.name ∉ told.map dq.name):rp (told.map f) e.name (f e).2=(told++[e]).map f:=by
 unfold rp;rw[bq.2,ba,bm,bv];have:(e.name,(f e).2)=f e:=by rw[<-y e]
 rw[this];intro p O;obtain⟨x,U,rfl⟩:=aY.1 O;simp only[bne_iff_ne,ne_eq,y];intro W;exact h (aY.2 ⟨x,U,W⟩)
theorem du.oH{w':World}(h:w.grownBy w' (some B)):du (· = B) w w':=⟨h.os,h.tape,h.output,h.size,λk y O=>h.block k y (λe=>O (by simpa using e))⟩
theorem PT(Bx W:Nat)(told:List dq)(e:dq)(at_:Int)(w:World)(hx:w.heap[Bx]?=some (.cells #[.map (some W)] 85 (0,0)))(hs:e9 w W told)(hn:e.name ∉ told.map dq.name)(hl:told.length<1099511627776)(ab:e.name.length<=b6) :
  b7 prog 130 #[.int .i64 at_,.string ⟨e.name.toArray⟩,qO e,.pointer (some ⟨Bx,0,none⟩)] w λen w'=>en=.returned (.tuple #[])/\e9 w' W (told++[e])/\du (· = W) w w':=by
 have ag:=eS hx;have hc:w.cell? ⟨Bx,0,none⟩=some (.map (some W)):=by rw[dh hx];rfl
 have U:=JW told e jl (λ_=>rfl) hn;obtain⟨w0,Y⟩:∃w0,w.alloc (.cells #[.bool e.gone,.string ⟨(uz e).toArray⟩,.string ⟨e.text.toArray⟩,.int .i64 e.dp,.int .i64 e.dA] 111)=w0:=⟨_,rfl⟩;have O:Below w.heap.size w w0:=by rw[<-Y];exact(bJ _ _).alloc (bw _) _
 have aa:e9 w0 W told:=dL.below hs O;have y:w0.heap[w.heap.size]?=some (.cells #[.bool e.gone,.string ⟨(uz e).toArray⟩,.string ⟨e.text.toArray⟩,.int .i64 e.dp,.int .i64 e.dA] 111 (0,0)):=by rw[<-Y];exact b8 w _
 have d0:w0.cell? ⟨w.heap.size,0,none⟩=some (.bool e.gone):=by rw[dh y];rfl
 have d1:w0.cell? ⟨w.heap.size,1,none⟩=some (.string ⟨(uz e).toArray⟩):=by rw[dh y];rfl
 have d2:w0.cell? ⟨w.heap.size,2,none⟩=some (.string ⟨e.text.toArray⟩):=by rw[dh y];rfl
 have d3:w0.cell? ⟨w.heap.size,3,none⟩=some (.int .i64 e.dp):=by rw[dh y];rfl
 have d4:w0.cell? ⟨w.heap.size,4,none⟩=some (.int .i64 e.dA):=by rw[dh y];rfl
 have ah:=b9 O hc;have ac:bG _:=O;have ad:bG _:=aa;have HP:bG _:=U;clear hx hs hn y hc O aa U;unfold qO;go_enter func130,ntmps130;go_wp2_with (first|(at_mapUpdate;refine jC _ rfl _ _ _ 85 rfl 111 bM bN rfl ad.out (by rw[aX];unfold b6;omega) e.name ab rfl (qO e) rfl ?_;intro w1 ae af ai));go_end0;refine⟨rfl,?_,?_⟩;unfold e9;rw[<-HP.out];exact ae;exact(du.fE ac.out).then (du.oH af)
theorem CA{nm r:Wd}{y:dq×Wd}(h:ki nm r=some y):∃tx wt tg O,y=(⟨nm,false,tx,wt,tg⟩,O)/\tx.length<256/\O.length<=r.length:=by
 have h0:=h;unfold ki at h;obtain⟨x,U,h⟩:=bV.1 h;split at h;obtain⟨z,W,h⟩:=bV.1 h;split at h;obtain⟨u,Y,h⟩:=bV.1 h;simp only[ca]at h;subst h;obtain⟨g1,g2⟩:=iy U;refine⟨_,_,_,_,rfl,g2,?_⟩;have g3:=(jQ W).1;have g4:=(ij Y).1;rw[g1,g3,g4];simp;omega;simp at h;simp at h
theorem Te(a b:Wd):(⟨a.toArray⟩:ByteArray)++⟨b.toArray⟩=⟨(a++b).toArray⟩:=by
 apply ByteArray.ext;simp
theorem GU(p:Addr)(w:World) :
  CallsD prog 210 #[.pointer (some p)] .returning w λe O w'=>e=.returned (.tuple #[])/\O=.returning/\w'=w:=by
 refine callsD_of_wpS func210 rfl λy cs U=>?_;apply wpS_seq;apply wpS_region;simp[wpOpsS,go_sem,recoverD,U,ntmps210,Exit.thenS];refine wpS_of_wp ?_;change Code.wp _ _ _ {tmps:=#[.pointer (some p),.nilIface,undef,undef,.nilIface,undef,undef,undef,undef,undef,undef,undef,undef,undef,undef],defers:=[]} _;go_wp2;cases y;simp_all [bodyPostS,bD,results210]
variable {fs rst:List dq} {r:Nat}
theorem ua(es:List dq)(e:dq)(v:Value)(y:v=qO e):rp (es.map jl) e.name v=(dH es [e]).map jl:=by
 subst y;unfold rp dH;rw[ba,List.filter_map]
 have:(es.filter ((λp=>p.1 != e.name) ∘ jl))=es.filter (jq [e]):=by
  refine List.filter_congr λx _=>?_;rw[Bool.eq_iff_iff,iq];simp[names,jl]
 rw[this];rfl
theorem e9.perm{w:World}{es:List dq}(h:e9 w B es)(y:es.Perm fs):e9 w B fs:=dL.perm h (y.map jl)
theorem e9.nodup{w:World}{es:List dq}(h:e9 w B es):(es.map dq.name).Nodup:=by
 have:=dL.nodup h;rw[List.map_map]at this;exact this
theorem Rn(B:Nat)(es:List dq)(e:dq)(w:World)(hs:e9 w B es)(hg:e.gone=false)(hl:es.length<1099511627776)(Y:e.name.length<=b6) :
  b7 prog 72 #[.map (some B),xW e] w λen w'=>en=.returned (.tuple #[])/\e9 w' B (dH es [e])/\du (· = B) w w':=by
 obtain⟨nm,gn,tx,wt,tg⟩:=e;simp only at hg;subst hg;have O:=ua es ⟨nm,false,tx,wt,tg⟩ (.agg #[.bool false,.string ⟨nm.toArray⟩,.string ⟨tx.toArray⟩,.int .i64 wt,.int .i64 tg]) rfl;obtain⟨w0,W⟩:∃w0,w.alloc (.cells #[.string ⟨nm.toArray⟩,.string ⟨tx.toArray⟩,.int .i64 wt,.int .i64 tg] 96)=w0:=⟨_,rfl⟩;have U:Below w.heap.size w w0:=by rw[<-W];exact(bJ _ _).alloc (bw _) _
 have y:w0.heap[w.heap.size]?=some (.cells #[.string ⟨nm.toArray⟩,.string ⟨tx.toArray⟩,.int .i64 wt,.int .i64 tg] 96 (0,0)):=by rw[<-W];exact b8 w _
 have d0:w0.cell? ⟨w.heap.size,0,none⟩=some (.string ⟨nm.toArray⟩):=by rw[dh y];rfl
 have d1:w0.cell? ⟨w.heap.size,1,none⟩=some (.string ⟨tx.toArray⟩):=by rw[dh y];rfl
 have d2:w0.cell? ⟨w.heap.size,2,none⟩=some (.int .i64 wt):=by rw[dh y];rfl
 have d3:w0.cell? ⟨w.heap.size,3,none⟩=some (.int .i64 tg):=by rw[dh y];rfl
 have aa:bG _:=U;have ab:bG (e9 w0 B es):=dL.below hs U;have HP:bG _:=O;clear hs y U O;unfold xW;go_enter func72,ntmps72;go_wp2_with (first|(at_mapUpdate;refine jC _ rfl _ _ _ 85 rfl 111 bM bN rfl ab.out (by rw[aX];unfold b6;omega) nm Y rfl _ rfl ?_;intro w1 ac ad ae));go_end0;refine⟨rfl,?_,(du.fE aa.out).then (du.oH ad)⟩;unfold e9;rw[<-HP.out];exact ac
theorem Df(B:Nat)(es:List dq)(nm:Wd)(w:World)(hs:e9 w B es)(hl:es.length<1099511627776)(O:nm.length<=b6) :
  b7 prog 71 #[.map (some B),.string ⟨nm.toArray⟩] w λen w'=>en=.returned (.tuple #[])/\e9 w' B (dH es [⟨nm,true,[],0,0⟩])/\du (· = B) w w':=by
 have y:=ua es ⟨nm,true,[],0,0⟩ (.agg #[.bool true,.string ⟨#[]⟩,.string ⟨#[]⟩,.int .i64 0,.int _ 0]) rfl;have U:bG _:=hs;have HP:bG _:=y;go_enter func71,ntmps71;go_wp2_with (first|(refine jC _ rfl _ _ _ 85 rfl _ bM bN rfl U.out (by rw[aX];unfold b6;omega) nm O rfl _ rfl ?_;intro w1 W Y aa));go_end0;refine⟨rfl,?_,du.oH Y⟩;unfold e9;rw[<-HP.out];exact W
def lR(w:World)(B r:Nat)(es rst:List dq):Prop:=ew prog 9 w B r (es.map jl) (rst.map jl)
theorem ew.perm{P:Program}{k:bA}{w:World}{l a b:List (Wd×Value)}(h:ew P k w B r l a)(y:a.Perm b):ew P k w B r l b:=by
 obtain⟨O,U,D,left,cnt,W,Y,h5⟩:=h;exact⟨(y.map _).nodup_iff.1 O,λp hm=>U p (y.mem_iff.2 hm),D,left,cnt,W,Y,λx=>by rw[h5 x,Gg y]⟩
theorem QW{p:Wd×Value}{left:List (Wd×Value)}(h:(rst.map jl).Perm (p::left)):∃e y,p=jl e/\left.Perm (y.map jl)/\rst.Perm (e::y):=by
 have hm:=h.mem_iff.2 (aZ ..);obtain⟨e,O,rfl⟩:=aY.1 hm;obtain⟨a,b,rfl⟩:=List.append_of_mem O;refine⟨e,a++b,rfl,?_,bu⟩
 have U:((a++e::b).map jl).Perm (jl e::(a++b).map jl):=by
  exact bu.map _
 exact(h.symm.trans U).cons_inv
section
variable {B:Nat} {es:List dq} (w:World) {ops:Array Oper} {rest:List Oper} {o:Oper} {a:Act} {Q:Exit->Act->World->Prop}
theorem jU(O:o.guard=none)(m:Operand)(y:o.op=Op.range 85 m)(hm:a.eval m=.map (some B))(h:e9 w B es)
  (U:∀w',lR w' B w.heap.size es es->w.grownBy w' none->w'.heap.size=w.heap.size+1->bB prog ops Q rest (a.put o.dst (.pointer (some ⟨w.heap.size,0,none⟩))) w') :
  bB prog ops Q (o::rest) a w:=
 A6 w O m 85 y _ bM bN hm h U
theorem kY(hg:o.guard=none)(it:Operand)(U:o.op=Op.next it false)(r:Nat)(rst:List dq)
  (W:a.eval it=.pointer (some ⟨r,0,none⟩)) (h:lR w B r es rst)
  (O:rst=[]->bB prog ops Q rest (a.put o.dst (.tuple #[.bool false])) w)
  (hMore:∀(e:dq)(y:List dq)(w':World),rst.Perm (e::y)->lR w' B r es y->w'.rangeLeft B r<w.rangeLeft B r->w.grownBy w' (some r)->w'.heap.size=w.heap.size->
    (Instr.entry (.pointer (some ⟨r,0,none⟩))).run prog w'=.ok (.tuple #[.string ⟨e.name.toArray⟩,.agg #[.bool e.gone,.string ⟨(uz e).toArray⟩,.string ⟨e.text.toArray⟩,.int .i64 e.dp,.int .i64 e.dA]]) w'->
    bB prog ops Q rest (a.put o.dst (.tuple #[.bool true,.string ⟨e.name.toArray⟩,.agg #[.bool e.gone,.string ⟨(uz e).toArray⟩,.string ⟨e.text.toArray⟩,.int .i64 e.dp,.int .i64 e.dA]])) w') :
  bB prog ops Q (o::rest) a w:=by
 refine Cl w hg it U bM r _ W h (λh0=>O (by simpa using h0)) ?_;intro p Y w' hp hr aa ab ac ad;obtain⟨e,y,rfl,h1,h2⟩:=QW hp;exact hMore e y w' h2 (hr.perm h1) aa ab ac ad
end
theorem lR.alloc{w:World}{es:List dq}(h:lR w B r es rst)(o:Obj):lR (w.alloc o) B r es rst:=ew.kept h (bX w o none) (by simp) (by simp)
theorem iY{w:World}{o:Obj}(y:B<w.heap.size)(O:r<w.heap.size):(w.alloc o).rangeLeft B r=w.rangeLeft B r:=
 ew.jJ (bK _ _ _ y) (bK _ _ _ O)
theorem lM{w0 w w':World}(h:Below w0.heap.size w0 w)(y:w.grownBy w' (some r))(O:w0.heap.size<=r):Below w0.heap.size w0 w':=h.grown y h.size (λk U=>by cases U;exact O)
def je(es:List dq):Nat:=(es.filter λe=>e.gone).length
theorem yb(es:List dq)(e:dq):je (es++[e])=je es+(if e.gone then 1 else 0):=by
 unfold je;cases h:e.gone<;>simp[h]
theorem Fu(es:List dq):je es<=es.length:=List.length_filter_le ..
theorem Iq{es:List dq}(h:es.Perm fs):je es=je fs:=(h.filter _).length_eq
theorem ji{O y es:List dq}{e:dq}(h:(O++rst).Perm es)(U:rst.Perm (e::y)):((O++[e])++y).Perm es:=by
 refine List.Perm.trans ?_ h;rw[be];exact(cd O).append U.symm
theorem B7(B:Nat)(es:List dq)(w:World)(hs:e9 w B es)(hl:es.length<1099511627776) :
  b7 prog 70 #[.map (some B)] w λen w'=>en=.returned (.int .i64 (je es))/\Below w.heap.size w w':=by
 have HS:bG (e9 w B es):=hs;have ai:=dL.lt hs;clear hs;go_enter func70,ntmps70;go_wp2_with (first|(at_range;refine jU _ rfl _ rfl rfl HS.out ?_;intro w0 hrg0 hg0 aj));go_frame;go_loopw [3] (λg wr=>∃(y rst:List dq),(y++rst).Perm es/\g=.int .i64 (je y)/\lR wr B w.heap.size es rst/\Below w.heap.size w wr) (λ_ wr=>wr.rangeLeft B w.heap.size)
 case atStart=>exact⟨[],es,cd _,rfl,hrg0,(bJ _ w).grown hg0 (bw _) (λk hk=>by cases hk)⟩
 case round=>
  obtain⟨y,rst,eF,rfl,hr,hb⟩:=hrel;have HP:bG ((y++rst).Perm es):=eF;have HR:bG (lR wr B w.heap.size es rst):=hr;have HB:bG (Below w.heap.size w wr):=hb
  have ak:je y<=es.length:=by
   have h1:=Fu y;have h2:=eF.length_eq;rw[aW]at h2;omega
  clear eF hr hb;go_wp2_with (first|(at_next;refine kY _ rfl _ rfl w.heap.size rst rfl HR.out ?_ ?_))
  .intro h0
   have HE:bG (je y=je es):=by
    show _=_;refine Iq ?_;have:=HP.out;rw[h0,aV]at this;exact this
   clear h0;go_wp2;go_ret;exact⟨eR (by rw[HE.out]),HB.out⟩
  intro e O w1 Y U W aa ab al;have ac:=ew.lt U;have ad:=dL.lt (ew.owns U);have ae:bG (Below w.heap.size w w1):=lM HB.out aa (bw _);have af:bG (lR w1 B w.heap.size es O):=U;have ag:bG (w1.rangeLeft B w.heap.size<wr.rangeLeft B w.heap.size):=W;have ah:bG (rst.Perm (e::O)):=Y;clear Y U W aa;obtain⟨nm,gn,tx,wt,tg⟩:=e
  cases gn with
  |false=>
   go_wp2;go_roundw
   case rel=>
    refine⟨y++[⟨nm,false,tx,wt,tg⟩],O,ji HP.out ah.out,?_,af.out.alloc _,ae.out.alloc (bz HB.out.size (by rw[ab];exact bw _)) _⟩;rw[yb];simp
   case measure=>
    rw[iY ad ac];exact ag.out
  |true=>
   go_wp2;go_roundw
   case rel=>
    refine⟨y++[⟨nm,true,tx,wt,tg⟩],O,ji HP.out ah.out,?_,af.out.alloc _,ae.out.alloc (bz HB.out.size (by rw[ab];exact bw _)) _⟩;rw[yb];go_num
   case measure=>
    rw[iY ad ac];exact ag.out
variable {e:dq} {l:List dq}
theorem DZ(h:e.name ∉ l.map dq.name):dH l [e]=l++[e]:=by
 unfold dH;rw[bq.2];intro x y;rw[iq];simp only[names,bm,bv,br];intro O;exact h (aY.2 ⟨x,y,O⟩)
theorem EM{y O es:List dq}(Y:(es.map dq.name).Nodup)(h:(y++rst).Perm es)(hp:rst.Perm (e::O)):e.name ∉ y.map dq.name:=by
 have h1:=ji h hp;have U:=(h1.map _).nodup_iff.2 Y;rw[ba,ba,bs]at U;have W:=U.1;rw[bs]at W;intro hm;exact W.2.2 _ hm _ (by simp) rfl
theorem vG(l:List dq)(e:dq):dw (l++[e])=dw l++(if e.gone then []else [e]):=by
 unfold dw;cases h:e.gone<;>simp[h]
theorem Cm{x:Wd}(h:x ∉ l.map dq.name):x ∉ (dw l).map dq.name:=by
 intro hm;obtain⟨e,y,rfl⟩:=aY.1 hm;exact h (aY.2 ⟨e,(bj.1 y).1,rfl⟩)
theorem qL(B:Nat)(es:List dq)(w:World)(hs:e9 w B es)(hl:es.length<1099511627776)(ai:∀e∈es,e.name.length<=b6) :
  b7 prog 60 #[.map (some B)] w λen w'=>∃C,en=.returned (.map (some C))/\w.heap.size<=C/\e9 w' C (dw es)/\Below w.heap.size w w':=by
 have a5:=@bI prog;have aj:=hs.nodup;obtain⟨w0,ae⟩:∃w0,w.alloc (.map #[] 0)=w0:=⟨_,rfl⟩;have au:w0.heap.size=w.heap.size+1:=by rw[<-ae];simp
 have hb0:Below w.heap.size w w0:=by rw[<-ae];exact(bJ _ _).alloc (bw _) _
 have hM0:e9 w0 w.heap.size []:=by rw[<-ae];exact dL.made w
 have HS:bG (e9 w0 B es):=dL.below hs hb0;have av:bG ((es.map dq.name).Nodup):=aj;have aw:bG (∀e∈es,e.name.length<=b6):=ai;have a6:=dL.lt hs;clear hs aj ai;go_enter func60,ntmps60;go_wp2_with (first|(at_range;refine jU _ rfl _ rfl rfl HS.out ?_;intro w1 hrg0 hg0 ax));rw[au]at hrg0 ax⊢;go_frame;go_loopw [4] (λ_ wr=>∃(y rst:List dq),(y++rst).Perm es/\lR wr B (w.heap.size+1) es rst/\e9 wr w.heap.size (dw y)/\Below w.heap.size w wr) (λ_ wr=>wr.rangeLeft B (w.heap.size+1))
 case atStart=>exact⟨[],es,cd _,hrg0,dL.kept hM0 hg0 (by simp),hb0.grown hg0 hb0.size (λk hk=>by cases hk)⟩
 case round=>
  obtain⟨y,rst,eF,hr,hm,hb⟩:=hrel;have HP:bG ((y++rst).Perm es):=eF;have HR:bG (lR wr B (w.heap.size+1) es rst):=hr;have HM:bG (e9 wr w.heap.size (dw y)):=hm;have HB:bG (Below w.heap.size w wr):=hb
  have a7:(dw y).length<=es.length:=by
   have h1:=oT y;have h2:=eF.length_eq;rw[aW]at h2;omega
  clear eF hr hb hm;go_wp2_with (first|(at_next;refine kY _ rfl _ rfl (w.heap.size+1) rst rfl HR.out ?_ ?_))
  .intro h0
   have HE:bG (y.Perm es):=by
    show List.Perm _ _;have:=HP.out;rw[h0,aV]at this;exact this
   clear h0;go_wp2;go_ret;exact⟨_,rfl,bw _,HM.out.perm (vF HE.out),HB.out⟩
  intro e O w2 W Y ac af ay a8;have ak:=ew.lt Y;have al:=dL.lt (ew.owns Y);have ag:bG (Below w.heap.size w w2):=lM HB.out af (by omega);have am:bG (lR w2 B (w.heap.size+1) es O):=Y;have an:bG (w2.rangeLeft B (w.heap.size+1)<wr.rangeLeft B (w.heap.size+1)):=ac;have ao:bG (rst.Perm (e::O)):=W;have ap:bG (e9 w2 w.heap.size (dw y)):=dL.kept HM.out af (by simp);have az:e.name.length<=b6:=aw.out e (HP.out.mem_iff.1 (bo _ (W.mem_iff.2 (aZ ..))));have ad:=EM av.out HP.out W;have U:=ua (dw y) e (.agg #[.bool e.gone,.string ⟨(uz e).toArray⟩,.string ⟨e.text.toArray⟩,.int .i64 e.dp,.int .i64 e.dA]) rfl;rw[DZ (Cm ad)]at U;have aa:=vG y e;clear W Y ac af ad;obtain⟨nm,gn,tx,wt,tg⟩:=e
  cases gn with
  |true=>
   have ah:bG (dw (y++[⟨nm,true,tx,wt,tg⟩])=dw y):=by show _=_;rw[aa];simp
   clear aa U;go_wp2;go_roundw
   case rel=>
    exact⟨y++[⟨nm,true,tx,wt,tg⟩],O,ji HP.out ao.out,am.out.alloc _,by rw[ah.out];exact dL.kept ap.out (bX _ _ none) (by simp),ag.out.alloc (bz HB.out.size (by rw[ay];exact bw _)) _⟩
   case measure=>
    rw[iY al ak];exact an.out
  |false=>
   have ah:bG (dw (y++[⟨nm,false,tx,wt,tg⟩])=dw y++[⟨nm,false,tx,wt,tg⟩]):=by show _=_;rw[aa];simp
   have aq:bG (rp ((dw y).map jl) nm (.agg #[.bool false,.string ⟨(uz (⟨nm,false,tx,wt,tg⟩:dq)).toArray⟩,.string ⟨tx.toArray⟩,.int .i64 wt,.int .i64 tg])=(dw y++[(⟨nm,false,tx,wt,tg⟩:dq)]).map jl):=U;clear aa U;have ar:=λo:Obj=>dL.kept ap.out (bX w2 o none) (by simp);have a0:bG (∀o:Obj,dL prog 9 (w2.alloc o) w.heap.size ((dw y).map jl)):=ar;clear ar;go_wp2_with (first|(at_mapUpdate;refine jC _ rfl _ _ _ 85 rfl 111 bM bN rfl (a0.out _) (by rw[aX];unfold b6;omega) nm az rfl (.agg #[.bool false,.string ⟨(uz (⟨nm,false,tx,wt,tg⟩:dq)).toArray⟩,.string ⟨tx.toArray⟩,.int .i64 wt,.int .i64 tg]) rfl ?_;intro w3 a3 ab a9));have a4:w.heap.size<=w2.heap.size:=ag.out.size;refine⟨⟨y++[⟨nm,false,tx,wt,tg⟩],O,ji HP.out ao.out,ew.kept (am.out.alloc _) ab (by simp;omega) (by simp),?_,(ag.out.alloc a4 _).grown ab (by simp;omega) (λk hk=>by cases hk;exact bw _)⟩,?_⟩;rw[ah.out];unfold e9;rw[<-aq.out];exact a3;rw[ew.jJ (ab.block B (by simp;omega) (by simp;omega)) (ab.block (w.heap.size+1) (by simp;omega) (by simp)),iY al ak];exact an.out
theorem Nj(B C:Nat)(ds es:List dq)(w:World)(hd:e9 w B ds)(hs:e9 w C es)(ax:B≠C)(hl:es.length<549755813888)(ay:ds.length<549755813888)(af:∀e∈es,e.name.length<=b6) :
  b7 prog 89 #[.map (some B),.map (some C)] w λen w'=>en=.returned (.tuple #[])/\e9 w' B (dH ds es)/\du (· = B) w w':=by
 have ag:=hs.nodup;have HS:bG (e9 w C es):=hs;have HD:bG (e9 w B ds):=hd;have aj:bG ((es.map dq.name).Nodup):=ag;have ak:bG (∀e∈es,e.name.length<=b6):=af;have az:=dL.lt hd;have a0:=dL.lt hs;clear hs hd ag af;go_enter func89,ntmps89;go_wp2_with (first|(at_range;refine jU _ rfl _ rfl rfl HS.out ?_;intro w1 hrg0 O a3));go_frame;go_loopw [4] (λ_ wr=>∃(y rst:List dq),(y++rst).Perm es/\lR wr C w.heap.size es rst/\e9 wr B (dH ds y)/\du (· = B) w wr) (λ_ wr=>wr.rangeLeft C w.heap.size)
 case atStart=>exact⟨[],es,cd _,hrg0,by rw[oW];exact dL.kept HD.out O (by simp),⟨O.os,O.tape,O.output,O.size,λk hk _=>O.block k hk (by simp)⟩⟩
 case round=>
  obtain⟨y,rst,eF,hr,hm,hb⟩:=hrel;have HP:bG ((y++rst).Perm es):=eF;have HR:bG (lR wr C w.heap.size es rst):=hr;have HM:bG (e9 wr B (dH ds y)):=hm;have HB:bG (du (· = B) w wr):=hb
  have a4:(dH ds y).length<=1099511627775:=by
   have h1:=Bz ds y;have h2:=eF.length_eq;rw[aW]at h2;omega
  clear eF hr hb hm;go_wp2_with (first|(at_next;refine kY _ rfl _ rfl w.heap.size rst rfl HR.out ?_ ?_))
  .intro h0
   have HE:bG (y.Perm es):=by
    show List.Perm _ _;have:=HP.out;rw[h0,aV]at this;exact this
   clear h0;go_wp2;go_end0;exact⟨rfl,HM.out.perm (MD (cd _) HE.out),HB.out⟩
  intro e U w2 Y aa ac ae a5 a6;have al:=ew.lt aa;have am:=dL.lt (ew.owns aa);have a7:=HB.out.size;have an:bG (du (· = B) w w2):=HB.out.trans (du.oH ae) (λi hi hg=>by omega);have ao:bG (lR w2 C w.heap.size es U):=aa;have ap:bG (w2.rangeLeft C w.heap.size<wr.rangeLeft C w.heap.size):=ac;have aq:bG (rst.Perm (e::U)):=Y;have ah:bG (e9 w2 B (dH ds y)):=dL.kept HM.out ae (by simp;omega);have ar:e.name.length<=b6:=ak.out e (HP.out.mem_iff.1 (bo _ (Y.mem_iff.2 (aZ ..))));have ad:=EM aj.out HP.out Y;have W:=ua (dH ds y) e (.agg #[.bool e.gone,.string ⟨(uz e).toArray⟩,.string ⟨e.text.toArray⟩,.int .i64 e.dp,.int .i64 e.dA]) rfl;rw[qf,DZ ad]at W;have ai:bG (rp ((dH ds y).map jl) e.name (.agg #[.bool e.gone,.string ⟨(uz e).toArray⟩,.string ⟨e.text.toArray⟩,.int .i64 e.dp,.int .i64 e.dA])=(dH ds (y++[e])).map jl):=W;have au:bG (∀o:Obj,dL prog 9 (w2.alloc o) B ((dH ds y).map jl)):=λo=>dL.kept ah.out (bX w2 o none) (by simp);clear Y aa ac ae ad W;go_wp2_with (first|(at_mapUpdate;refine jC _ rfl _ _ _ 85 rfl 111 bM bN rfl (au.out _) (by rw[aX];unfold b6;omega) e.name ar rfl (.agg #[.bool e.gone,.string ⟨(uz e).toArray⟩,.string ⟨e.text.toArray⟩,.int .i64 e.dp,.int .i64 e.dA]) rfl ?_;intro w3 av ab a8));have aw:=dL.lt ah.out;refine⟨⟨_,_,_,_,_,_,_,_,_,_,⟨y++[e],U,ji HP.out aq.out,ew.kept (ao.out.alloc _) ab (by simp;omega) (by simp;omega),?_,(an.out.then (du.fE ((bJ _ _).alloc (bw _) _))).then (du.oH ab)⟩,rfl⟩,?_⟩;unfold e9;rw[<-ai.out];exact av;rw[ew.jJ (ab.block C (by simp;omega) (by simp;omega)) (ab.block _ (by simp;omega) (by simp;omega)),iY am al];exact ap.out
end
section
open Go.RowKit Go.Maps
def Told(e:dq):Prop:=e.name.length<=255/\e.text.length<=255/\(e.gone=false->0<=e.dA/\e.dA<=255)
structure GI where
 fn:FuncId
 cp:Array Value
 own:Nat->Prop
 Qd:Nat->Prop
 T:World->List (Nat×dq)->Prop
def GI.v(t:GI):Value:=.func (.func t.fn) #[] t.cp
structure GI.Ok(t:GI)(mx:Nat):Prop where
 gO:∃gO c,prog.funcs[t.fn]?=some gO/\gO.body=some c/\(gO.name == "runtime.NumGoroutine")=false
 sub:∀k,t.own k->t.Qd k
 lt:∀{w told k},t.T w told->t.Qd k->k<w.heap.size
 stay:∀{w w' told},t.T w told->(∀k,t.Qd k->w'.heap[k]?=w.heap[k]?)->t.T w' told
 tell:∀(w:World)(q:Nat)(told:List (Nat×dq))(e:dq),t.T w told->e.name ∉ (sn told).map dq.name->told.length<1099511627776->Told e->q<=mx->
  b7 prog t.fn (#[.int .i64 (q:Int),.string ⟨e.name.toArray⟩,qO e]++t.cp) w λen w'=>en=.returned (.tuple #[])/\t.T w' (told++[(q,e)])/\du t.own w w'
structure RG(w:World)(Rb Mk:Nat)(t:GI)(S:ByteArray)(rest:Wd)(told:List (Nat×dq)):Prop where
 rd:Hf w Rb S rest Mk t.v
 kn:dL prog 9 w Mk ((sn told).map QV)
 sd:t.T w told
 ql:told.length+rest.length<=S.size
 ne:∀k,t.Qd k->k≠Rb/\k≠Mk
def rW(Rb Mk:Nat)(t:GI)(k:Nat):Prop:=k=Rb\/k=Mk\/t.own k
section
variable {w w':World} {Rb Mk mx:Nat} {t:GI} {S:ByteArray} {rest r:Wd} {told:List (Nat×dq)}
theorem RG.mr(h:RG w Rb Mk t S rest told):Mk≠Rb:=by
 obtain⟨p,y,_⟩:=h.rd;exact h.kn.nH y
theorem RG.turn(y:t.Ok mx)(h:RG w Rb Mk t S rest told)(O:du (· = Rb) w w')(W:Hf w' Rb S r Mk t.v)(Y:r.length<=rest.length):RG w' Rb Mk t S r told:=
 ⟨W,h.kn.stay (O.block _ h.kn.lt h.mr),y.stay h.sd λk U=>O.block k (y.lt h.sd U) (h.ne k U).1,by have:=h.ql;omega,h.ne⟩
theorem RG.below(y:t.Ok mx)(h:RG w Rb Mk t S rest told)(hb:Below w.heap.size w w'):RG w' Rb Mk t S rest told:=by
 obtain⟨p,O,U⟩:=h.rd;exact⟨⟨p,by unfold Az at *;rw[hb.block Rb (eS O)];exact O,U⟩,h.kn.below hb,y.stay h.sd λk W=>hb.block k (y.lt h.sd W),h.ql,h.ne⟩
theorem RG.pos(h:RG w Rb Mk t S rest told):w.cell? ⟨Rb,1,none⟩=some (.int .i64 ((S.size-rest.length:Nat):Int)):=by
 obtain⟨p,y,O,rfl⟩:=h.rd;rw[dh y];have e:S.size-(S.data.toList.drop p).length=p:=by simp;omega
 rw[e];rfl
end
theorem qm{Rb Mk mx:Nat}{t:GI}{S:ByteArray}{rest:Wd}{told:List (Nat×dq)}{last nm r:Wd}{w:World}(hT:t.Ok mx)(h:RG w Rb Mk t S rest told)(hS:S.size<=1099511627775)(O:nC ((sn told).map dq.name) last rest=some (nm,r)) :
  b7 prog 234 #[.pointer (some ⟨Rb,0,none⟩),.string ⟨last.toArray⟩] w λe w'=>e=.returned (.string ⟨nm.toArray⟩)/\RG w' Rb Mk t S r told/\du (· = Rb) w w':=by
 have ht:=uy Rb S rest Mk t.v w h.rd (by omega);have HR:bG _:=h;rw[KL]at O;clear h
 cases Y:j8 rest with
 |none=>rw[Y]at O;cases O
 |some x=>
  obtain⟨ai,r'⟩:=x;rw[Y]at ht O;simp only[bW]at O;split at O
  .rename_i hc;cases O;obtain⟨aa,W,hk⟩:=hc;obtain⟨y,ah⟩:=iy Y;have ab:r.length<=rest.length:=by rw[y];simp
   clear Y y;have ac:(⟨nm.toArray⟩:ByteArray).size<=b6:=by show nm.toArray.size<=b6;unfold b6;simp;omega
   have ad:nm.length<=b6:=by unfold b6;omega
   have ae:cf (⟨last.toArray⟩:ByteArray).toList (⟨nm.toArray⟩:ByteArray).toList=true:=by rw[ByteArray.toList_eq,ByteArray.toList_eq];exact W
   have HT:bG _:=hT;clear hT;go_enter func234,ntmps234;go_wp2_with fail;refine ht.mono ?_;rintro e w1 ⟨g1,rfl,g2,g3⟩;have U:bG (RG w1 Rb Mk t S r told):=HR.out.turn HT.out g1 g2 ab;have af:bG _:=g1;clear g1 g2 g3 ht;go_wp2_with fail;refine(qM _ _ ac).mono ?_;rintro e w' ⟨rfl,rfl⟩;rw[show iU (⟨nm.toArray⟩:ByteArray).data.toList=true from aa];clear ae;go_wp2_with fail;rw[Ua,W];refine(gq _).mono ?_;rintro e w' ⟨rfl,rfl⟩
   have aj:w1.cell? ⟨Rb,2,none⟩=some (.map (some Mk)):=by
    obtain⟨p,h1,_⟩:=U.out.rd;rw[dh h1];rfl
   have ag:=(U.out.kn.look bM bO (QK w1) nm ad).2;rw[Lr,KV,decide_eq_false hk]at ag;go_wp2_with fail;refine(gq _).mono ?_;rintro e w' ⟨rfl,rfl⟩;go_wp2;go_ret;have hb:=(bJ _ w1).alloc (bw _) (.cells #[] 263);exact⟨rfl,U.out.below HT.out hb,af.out.then (du.fE hb)⟩
  cases O
variable {S:ByteArray} {told:List (Nat×dq)} {Mk Rb mx:Nat} {t:GI} {nm r3 rest:Wd} {w:World}
theorem RG.Ve{w':World}{b:Nat}{cs:Array Value}{W:bA}{fz:Nat×Nat}(O:t.Ok mx)(h:RG w Rb Mk t S rest told)(hb:w.heap[b]?=some (.cells cs W fz))(Y:b≠Rb)(h2:∀k,t.Qd k->k≠b)(y:du (· = b) w w'):RG w' Rb Mk t S rest told:=by
 obtain⟨p,g1,g2⟩:=h.rd;exact⟨⟨p,by unfold Az at *;rw[y.block Rb (eS g1) (λe=>Y e.symm)];exact g1,g2⟩,h.kn.stay (y.block _ h.kn.lt (h.kn.nH hb)),O.stay h.sd λk U=>y.block k (O.lt h.sd U) (h2 k U),h.ql,h.ne⟩
theorem tT{e:dq}(h:ki nm rest=some (e,r3)):∃tx wt tg r y,j8 rest=some (tx,r)/\(eu tx=true/\tx≠[])/\iu r=some (wt,y)/\wt<=1000000/\rdNum y=some (tg,r3)/\e=⟨nm,false,tx,wt,tg⟩:=by
 unfold ki at h;simp only[bV]at h;obtain⟨⟨tx,r⟩,O,h⟩:=h;split at h;rename_i U;simp only[bV]at h;obtain⟨⟨wt,y⟩,W,h⟩:=h;split at h;rename_i Y;simp only[bV]at h;obtain⟨⟨tg,r4⟩,h3,h⟩:=h;cases h;exact⟨tx,wt,tg,r,y,O,U,W,Y,h3,rfl⟩
 cases h
 cases h
theorem IM{en:dq}(hT:t.Ok mx)(h:RG w Rb Mk t S rest told)(hS:S.size<=1099511627775)(hX:ki nm rest=some (en,r3)) :
  b7 prog 266 #[.pointer (some ⟨Rb,0,none⟩),.string ⟨nm.toArray⟩] w λe w'=>e=.returned (xW en)/\RG w' Rb Mk t S r3 told/\du (· = Rb) w w':=by
 obtain⟨tx,wt,tg,r,r2,W,hq,Y,ay,aa,rfl⟩:=tT hX;clear hX;obtain⟨w0,ab⟩:∃w0,w.alloc (.cells #[.string ⟨#[]⟩,.string ⟨#[]⟩,.int .i64 0,.int .i64 0] 96)=w0:=⟨_,rfl⟩;have ac:Below w.heap.size w w0:=by rw[<-ab];exact(bJ _ _).alloc (bw _) _
 have ad:bG (w0.heap[w.heap.size]?=some (.cells #[.string ⟨#[]⟩,.string ⟨#[]⟩,.int .i64 0,.int .i64 0] 96 (0,0))):=by show _=_;rw[<-ab];exact b8 w _
 have ae:bG _:=h.below hT ac;have aj:bG (du (· = Rb) w w0):=du.fE ac
 have az:Rb<w.heap.size:=by
  obtain⟨p,h1,_⟩:=h.rd;exact eS h1
 have HD:bG (∀k,t.Qd k->k≠w.heap.size):=λk hk e=>by have:=hT.lt h.sd hk;omega
 have ht:=uy Rb S rest Mk t.v w0 ae.out.rd (by omega);rw[W]at ht;obtain⟨O,ax⟩:=iy W;obtain⟨ak,_⟩:=jQ Y;obtain⟨al,_⟩:=ij aa;have ar:r.length<=rest.length:=by rw[O];simp
 have am:r2.length<=r.length:=by rw[ak];simp
 have an:r3.length<=r2.length:=by rw[al];simp
 have HT:bG _:=hT;have HW:bG _:=And.intro Y aa;clear h ac W O ak al Y aa hT;have au:(⟨tx.toArray⟩:ByteArray).size<=b6:=by show tx.toArray.size<=b6;unfold b6;simp;omega
 go_enter func266,ntmps266;go_wp2_with fail;clear ab;refine ht.mono ?_;rintro e w1 ⟨g1,rfl,U,g3⟩;have af:bG _:=ae.out.turn HT.out g1 U ar;have ao:bG (du (· = Rb) w w1):=aj.out.then g1;have ag:bG (w1.heap[w.heap.size]?=some (.cells #[.string ⟨#[]⟩,.string ⟨#[]⟩,.int .i64 0,.int .i64 0] 96 (0,0))):=by show _=_;rw[g1.block _ (eS ad.out) (by show w.heap.size≠Rb;omega)];exact ad.out
 clear g1 U g3 ht ae aj ad;go_wp2_with fail;refine(pD _ _ au).mono ?_;rintro e w' ⟨rfl,rfl⟩;rw[show decide (eu (⟨tx.toArray⟩:ByteArray).data.toList=true/\(⟨tx.toArray⟩:ByteArray).data.toList≠[])=true from decide_eq_true hq];clear hq;go_wp2_with fail;refine(gq _).mono ?_;rintro e w' ⟨rfl,rfl⟩;have hw:=zv Rb S r Mk t.v w1 af.out.rd (by omega);rw[HW.out.1]at hw;go_wp2_with fail;refine hw.mono ?_;rintro e w2 ⟨g1,rfl,U,g3⟩;have ah:bG _:=af.out.turn HT.out g1 U am;have ap:bG (du (· = Rb) w w2):=ao.out.then g1;have ai:bG (w2.heap[w.heap.size]?=some (.cells #[.string ⟨#[]⟩,.string ⟨#[]⟩,.int .i64 0,.int .i64 0] 96 (0,0))):=by show _=_;rw[g1.block _ (eS ag.out) (by show w.heap.size≠Rb;omega)];exact ag.out
 clear g1 U g3 hw af ao ag;have a0:(wt:Int)<=1000000:=by omega
 go_wp2_with fail;refine(gq _).mono ?_;rintro e w' ⟨rfl,rfl⟩;have hn:=nL Rb S r2 Mk t.v w2 ah.out.rd (by omega);rw[HW.out.2]at hn;go_wp2_with fail;refine hn.mono ?_;rintro e w3 ⟨g1,rfl,U,g3⟩;have av:bG _:=ah.out.turn HT.out g1 U an;have aw:bG (du (· = Rb) w w3):=ap.out.then g1;have y:bG (w3.heap[w.heap.size]?=some (.cells #[.string ⟨#[]⟩,.string ⟨#[]⟩,.int .i64 0,.int .i64 0] 96 (0,0))):=by show _=_;rw[g1.block _ (eS ai.out) (by show w.heap.size≠Rb;omega)];exact ai.out
 clear g1 U g3 hn ah ap ai HW;have e0:w3.cell? ⟨w.heap.size,0,none⟩=some (.string ⟨#[]⟩):=by rw[dh y.out];rfl
 have e1:w3.cell? ⟨w.heap.size,1,none⟩=some (.string ⟨#[]⟩):=by rw[dh y.out];rfl
 have e2:w3.cell? ⟨w.heap.size,2,none⟩=some (.int .i64 0):=by rw[dh y.out];rfl
 have e3:w3.cell? ⟨w.heap.size,3,none⟩=some (.int .i64 0):=by rw[dh y.out];rfl
 have z0:w3.frozen? ⟨w.heap.size,0,none⟩=false:=dI y.out 0;have z1:w3.frozen? ⟨w.heap.size,1,none⟩=false:=dI y.out 1;have z2:w3.frozen? ⟨w.heap.size,2,none⟩=false:=dI y.out 2;have z3:w3.frozen? ⟨w.heap.size,3,none⟩=false:=dI y.out 3;go_wp2
 have aq:du (· = w.heap.size) w3 ((((w3.setCell ⟨w.heap.size,0,none⟩ (.string ⟨nm.toArray⟩)).setCell ⟨w.heap.size,1,none⟩ (.string ⟨tx.toArray⟩)).setCell ⟨w.heap.size,2,none⟩ (.int .i64 wt)).setCell ⟨w.heap.size,3,none⟩ (.int .i64 tg)):=
  (((k8 (F:=(· = w.heap.size)) rfl).then (k8 rfl)).then (k8 rfl)).then (k8 rfl)
 refine bodyPost_ret (v:=xW ⟨nm,false,tx,wt,tg⟩) (by simp[bD,results266,go_sem,e0,e1,e2,e3,xW]) rfl ⟨rfl,av.out.Ve HT.out y.out (by omega) HD.out aq,aw.out.trans aq (λi hi hg=>by omega)⟩
theorem D3{P:Program}{f:FuncId}{gO:Func}{c:Code}(y:P.funcs[f]?=some gO)(hb:gO.body=some c)(O:(gO.name == "runtime.NumGoroutine")=false) (args:Array Value) (w:World):(callFunc f args).run P w=.ok (.enter f args) w:=by
 show((match P.funcs[f]? with|none=>_|some fn=>_:Sem _)).run P w=_;rw[y];simp only[O,hb,Bool.false_eq_true,if_false,Option.isNone_some];rfl
theorem EI{q mx:Nat}{t:GI}{S:ByteArray}{rest:Wd}{e:dq}{w:World}(hT:t.Ok mx)(h:RG w Rb Mk t S rest told)(hS:S.size<=1099511627775)(hm:S.size<=mx)(hn:e.name ∉ (sn told).map dq.name)(ho:Told e)(a6:told.length+1+rest.length<=S.size)(hq:q<=S.size) :
  b7 prog 235 #[.pointer (some ⟨Rb,0,none⟩),.int .i64 (q:Int),.string ⟨e.name.toArray⟩,qO e] w λen w'=>en=.returned (.tuple #[])/\RG w' Rb Mk t S rest (told++[(q,e)])/\du (rW Rb Mk t) w w':=by
 obtain⟨w0,ak⟩:∃w0,w.alloc (.cells #[.bool e.gone,.string ⟨(uz e).toArray⟩,.string ⟨e.text.toArray⟩,.int .i64 e.dp,.int .i64 e.dA] 111)=w0:=⟨_,rfl⟩;have ae:Below w.heap.size w w0:=by rw[<-ak];exact(bJ _ _).alloc (bw _) _
 have af:w0.heap[w.heap.size]?=some (.cells #[.bool e.gone,.string ⟨(uz e).toArray⟩,.string ⟨e.text.toArray⟩,.int .i64 e.dp,.int .i64 e.dA] 111 (0,0)):=by rw[<-ak];exact b8 w _
 have W:=h.below hT ae;have n1:=W.mr;have ab:=W.ne;have ap:∀k,t.Qd k->k≠w.heap.size:=λk U e=>by have:=hT.lt h.sd U;omega
 obtain⟨p,hp1,al⟩:=id W.rd;unfold Az at hp1;have c2:w0.cell? ⟨Rb,2,none⟩=some (.map (some Mk)):=by rw[dh hp1];rfl
 have aq:Mk≠w.heap.size:=W.kn.nH af;have ad:=JW (sn told) e QV (λ_=>rfl) hn;have ar:e.name.length<=b6:=by have:=ho.1;unfold b6;omega
 obtain⟨gO,cc,au,av,aw⟩:=hT.gO;have ag:bG _:=W;have ah:bG _:=And.intro hp1 al;have am:bG _:=af;have ax:bG _:=ae;have HP:bG _:=ad;have HN:bG (e.name ∉ (sn told).map dq.name/\Told e/\told.length<1099511627776/\q<=mx):=⟨hn,ho,by omega,by omega⟩;have HT:bG _:=hT;clear h ae af W hp1 al ad hn hT ho;unfold qO;go_enter func235,ntmps235;go_wp2_with (first|(at_mapUpdate;refine jC _ rfl _ _ _ 214 rfl 263 bM bO rfl ag.out.kn (by rw[aX,aX];unfold b6;omega) e.name ar rfl (.agg #[]) rfl ?_;intro w1 an ay a7));have ac:=du.oH ay;have ai:w1.heap[Rb]?=some (.cells #[.string S,.int .i64 p,.map (some Mk),t.v] 216 (0,0)):=by rw[ac.block Rb (eS ah.out.1) (λe=>n1 e.symm)];exact ah.out.1
 have y:w1.heap[w.heap.size]?=some (.cells #[.bool e.gone,.string ⟨(uz e).toArray⟩,.string ⟨e.text.toArray⟩,.int .i64 e.dp,.int .i64 e.dA] 111 (0,0)):=by rw[ac.block _ (eS am.out) (λe=>aq e.symm)];exact am.out
 have az:t.T w1 told:=HT.out.stay ag.out.sd λk U=>ac.block k (HT.out.lt ag.out.sd U) (ab k U).2;have c3:w1.cell? ⟨Rb,3,none⟩=some (.func (.func t.fn) #[] t.cp):=by rw[dh ai];rfl
 have d0:w1.cell? ⟨w.heap.size,0,none⟩=some (.bool e.gone):=by rw[dh y];rfl
 have d1:w1.cell? ⟨w.heap.size,1,none⟩=some (.string ⟨(uz e).toArray⟩):=by rw[dh y];rfl
 have d2:w1.cell? ⟨w.heap.size,2,none⟩=some (.string ⟨e.text.toArray⟩):=by rw[dh y];rfl
 have d3:w1.cell? ⟨w.heap.size,3,none⟩=some (.int .i64 e.dp):=by rw[dh y];rfl
 have d4:w1.cell? ⟨w.heap.size,4,none⟩=some (.int .i64 e.dA):=by rw[dh y];rfl
 have a0:bG (∀w2:World,w2.heap=w1.heap->w2.os=w1.os->w2.tape=w1.tape->w2.output=w1.output->b7 prog t.fn (#[.int .i64 (q:Int),.string ⟨e.name.toArray⟩,qO e]++t.cp) w2 λen w'=>en=.returned (.tuple #[])/\t.T w' (told++[(q,e)])/\du t.own w1 w'):=by
  intro w2 k1 k2 k3 k4;obtain⟨a1,a2,a3,a4⟩:=HN.out;refine(HT.out.tell w2 q told e (HT.out.stay az λk _=>by rw[k1]) a1 a3 a2 a4).mono ?_;rintro en w' ⟨q1,q2,q3⟩;exact⟨q1,q2,⟨q3.os.trans k2,q3.tape.trans k3,q3.output.trans k4,by have:=q3.size;rw[k1]at this;exact this,λk U hn=>by rw[q3.block k (by rw[k1];exact U) hn,k1]⟩⟩
 have O:w1.drew.cell? ⟨Rb,3,none⟩=some (.func (.func t.fn) #[] t.cp)/\w1.drew.cell? ⟨w.heap.size,0,none⟩=some (.bool e.gone)/\w1.drew.cell? ⟨w.heap.size,1,none⟩=some (.string ⟨(uz e).toArray⟩)/\w1.drew.cell? ⟨w.heap.size,2,none⟩=some (.string ⟨e.text.toArray⟩)/\w1.drew.cell? ⟨w.heap.size,3,none⟩=some (.int .i64 e.dp)/\w1.drew.cell? ⟨w.heap.size,4,none⟩=some (.int .i64 e.dA):=⟨c3,d0,d1,d2,d3,d4⟩;clear c3 d0 d1 d2 d3 d4;refine b' (S:=λw'=>w'.cell? ⟨Rb,3,none⟩=some (.func (.func t.fn) #[] t.cp)/\w'.cell? ⟨w.heap.size,0,none⟩=some (.bool e.gone)/\w'.cell? ⟨w.heap.size,1,none⟩=some (.string ⟨(uz e).toArray⟩)/\w'.cell? ⟨w.heap.size,2,none⟩=some (.string ⟨e.text.toArray⟩)/\w'.cell? ⟨w.heap.size,3,none⟩=some (.int .i64 e.dp)/\w'.cell? ⟨w.heap.size,4,none⟩=some (.int .i64 e.dA)) (by kernel_rfl) ?_;refine fU 0 ?_ O ?_<|fU 1 ?_ O ?_<|fU 2 ?_ O ?_<|fU 3 ?_ O ?_<|fU 4 ?_ O ?_<|fU 5 ?_ O ?_<|fU 6 ?_ O ?_ ?_
 any_goals(rintro w' ⟨k0,k1,k2,k3,k4,k5⟩;go_simp;first|done|with_reducible rfl)
 refine l5 7 λK' a5=>?_;have aj:=a0.out w1.drew rfl rfl rfl rfl;unfold Oper.wp;go_simp;change Oper.upon _ _ _ _ _ (Sem.run _ (callFunc t.fn _) _);rw[D3 au av aw];refine aj.mono ?_;rintro en w2 ⟨rfl,q2,q3⟩;have Y:∀k,t.own k->k≠Rb/\k≠Mk/\k≠w.heap.size:=λk U=>⟨(ab k (HT.out.sub k U)).1,(ab k (HT.out.sub k U)).2,ap k (HT.out.sub k U)⟩;have ao:w2.heap[Rb]?=some (.cells #[.string S,.int .i64 p,.map (some Mk),t.v] 216 (0,0)):=by rw[q3.block Rb (eS ai) (λe=>(Y _ e).1 rfl)];exact ai
 have aa:w2.heap[w.heap.size]?=some (.cells #[.bool e.gone,.string ⟨(uz e).toArray⟩,.string ⟨e.text.toArray⟩,.int .i64 e.dp,.int .i64 e.dA] 111 (0,0)):=by rw[q3.block _ (eS y) (λe=>(Y _ e).2.2 rfl)];exact y
 refine a5 _ _ ⟨⟨by rw[dh ao];rfl,by rw[dh aa];rfl,by rw[dh aa];rfl,by rw[dh aa];rfl,by rw[dh aa];rfl,by rw[dh aa];rfl⟩,bE (by kernel_rfl) ?_ _⟩;go_wp2;go_end0;refine⟨rfl,⟨⟨p,ao,ah.out.2⟩,?_,q2,by simp;omega,ab⟩,?_⟩;rw[show sn (told++[(q,e)])=sn told++[e] by simp[sn],<-HP.out];exact dL.stay an (q3.block _ (dL.lt an) λe=>(Y _ e).2.1 rfl);exact((du.fE ax.out).then (ac.mono (λ_ U=>Or.inr (Or.inl U)))).then (q3.mono (λ_ U=>Or.inr (Or.inr U)))
variable {n:Nat} {r0 rf:Wd}
theorem du.Dz{w':World}(h:du (· = Rb) w w'):du (rW Rb Mk t) w w':=h.mono (λ_ y=>Or.inl y)
theorem RG.here(h:RG w Rb Mk t S rest told):∃p:Nat,w.cell? ⟨Rb,1,none⟩=some (.int .i64 (p:Int))/\p=S.size-rest.length:=⟨_,h.pos,rfl⟩
theorem K9{gs:List (Nat×dq)}(hT:t.Ok mx)(h:RG w Rb Mk t S rest [])(hS:S.size<=1099511627775)(hm:S.size<=mx)(hx:rdNum rest=some (n,r0))(hX:jZ S.size n [] [] r0=some (gs,rf)) :
  b7 prog 211 #[.pointer (some ⟨Rb,0,none⟩)] w λe w'=>e=.returned (.int .i64 n)/\du (rW Rb Mk t) w w'/\RG w' Rb Mk t S rf gs:=by
 have ht:=nL Rb S rest Mk t.v w h.rd (by omega);have HR:bG _:=h;have HT:bG _:=hT;clear h hT;rw[hx]at ht;obtain⟨ac,aj⟩:=ij hx;have ak:r0.length<=rest.length:=by rw[ac];simp
 clear hx ac;go_enter func211,ntmps211;go_wp2_with fail;refine ht.mono ?_;rintro e w1 ⟨g1,rfl,g2,g3⟩;have HR1:bG _:=HR.out.turn HT.out g1 g2 ak;have HF1:bG (du (rW Rb Mk t) w w1):=g1.Dz;have HX0:bG _:=hX;clear g1 g2 g3 ht hX;go_wp2;go_loopw [4,9] (λl i wr=>∃(k:Nat)(done gs':List (Nat×dq))(ls r:Wd),k<=n/\i=.int .i64 k/\l=.string ⟨ls.toArray⟩/\RG wr Rb Mk t S r done/\du (rW Rb Mk t) w wr/\jZ S.size (n-k) ((sn done).map dq.name) ls r=some (gs',rf)/\gs=done++gs') (λ_ i _=>n-(intOf i).toNat)
 case atStart=>exact⟨0,[],gs,[],r0,bx _,rfl,rfl,HR1.out,HF1.out,HX0.out,rfl⟩
 case round=>
  obtain⟨k,done,gs',ls,r,hk,rfl,rfl,hr,hf,W,y⟩:=hrel;have ad:bG _:=hf;have HG:bG _:=And.intro W y;by_cases ao:k<n
  .obtain⟨p,hp,ae⟩:=hr.here;have O:bG _:=hr;have af:bG _:=ae;have e1:n-k=(n-(k+1))+1:=by omega
   rw[e1]at W;obtain⟨nm,r1,gs2,hx,ag,rfl⟩:=uw W;have ah:=qm HT.out O.out hS hx;obtain⟨ai,Y,_,aa⟩:=oe hx;have U:bG _:=And.intro ag (And.intro y (And.intro aa (gN Y).2));have am:r1.length+1<=r.length:=by rw[ai];simp[dJ]
   clear hr hf W y ae hx ai Y aa ag e1 HG;go_wp2_with fail;refine ah.mono ?_;rintro e w2 ⟨rfl,g2,g1⟩;have an:=O.out.ql;have ab:=EI (q:=p) (e:=⟨nm,true,[],0,0⟩) HT.out g2 hS hm U.out.2.2.1 ⟨by show nm.length<=255;have:=U.out.2.2.2;omega,by simp,λh=>by cases h⟩ (by omega) (by have:=af.out;omega);have al:bG (du (rW Rb Mk t) w w2):=ad.out.then g1.Dz;clear ah g1 g2 hp;go_wp2_with fail;refine ab.mono ?_;rintro e w3 ⟨rfl,q1,q2⟩;have HR3:bG _:=q1;have HF3:bG (du (rW Rb Mk t) w w3):=al.out.then q2;clear ab q1 q2;go_wp2;go_roundw
   case rel=>exact⟨k+1,_,gs2,nm,r1,by omega,by go_num,rfl,HR3.out,HF3.out,by rw[show(sn (done++[(p,(⟨nm,true,[],0,0⟩:dq))])).map dq.name=(sn done).map dq.name++[nm] by simp[sn]];exact U.out.1,by rw[U.out.2.1,af.out];simp⟩
   case measure=>simp[intOf];omega
  have O:bG _:=hr;clear hr hf W y;go_wp2;go_ret;have W:=HG.out.1;rw[show n-k=0 by omega,jZ]at W;cases W;exact⟨rfl,ad.out,by rw[HG.out.2,aV];exact O.out⟩
theorem CS{path:Wd}{es:List (Nat×dq)}(hT:t.Ok mx)(h:RG w Rb Mk t S rest told)(hS:S.size<=1099511627775)(hm:S.size<=mx)(hx:rdNum rest=some (n,r0))(hX:kK S.size n path ((sn told).map dq.name) [] r0=some (es,rf)) :
  b7 prog 238 #[.pointer (some ⟨Rb,0,none⟩),.string ⟨path.toArray⟩] w λe w'=>e=.returned (.tuple #[.int .i64 n,.int .i64 (gP (sn es))])/\du (rW Rb Mk t) w w'/\RG w' Rb Mk t S rf (told++es):=by
 have ht:=nL Rb S rest Mk t.v w h.rd (by omega);have HR:bG _:=h;have HT:bG _:=hT;clear h hT;rw[hx]at ht;obtain⟨an,a5⟩:=ij hx;have a6:r0.length<=rest.length:=by rw[an];simp
 clear hx an;go_enter func238,ntmps238;go_wp2_with fail;refine ht.mono ?_;rintro e w1 ⟨g1,rfl,g2,g3⟩;have a7:bG _:=HR.out.turn HT.out g1 g2 a6;have a8:bG (du (rW Rb Mk t) w w1):=g1.Dz;have a9:bG _:=hX;clear g1 g2 g3 ht hX;go_wp2;go_loopw [5,6,12] (λg l i wr=>∃(k:Nat)(done ai:List (Nat×dq))(ls r:Wd),k<=n/\i=.int .i64 k/\l=.string ⟨ls.toArray⟩/\g=.int .i64 (gP (sn done))/\RG wr Rb Mk t S r (told++done)/\du (rW Rb Mk t) w wr/\kK S.size (n-k) path ((sn (told++done)).map dq.name) ls r=some (ai,rf)/\es=done++ai) (λ_ _ i _=>n-(intOf i).toNat)
 case atStart=>exact⟨0,[],es,[],r0,bx _,rfl,rfl,rfl,by rw[aV];exact a7.out,a8.out,by rw[aV];exact a9.out,rfl⟩
 case round=>
  obtain⟨k,done,ai,ls,r,hk,rfl,rfl,rfl,hr,hf,hg,ab⟩:=hrel;have ao:bG _:=hf;have HG:bG _:=And.intro hg ab;by_cases aH:k<n
  .obtain⟨p,hp,ap⟩:=hr.here;have ac:bG _:=hr;have aq:bG _:=ap;have e1:n-k=(n-(k+1))+1:=by omega
   rw[e1]at hg;obtain⟨nm,r1,en,r2,a',hx,hy,gK,ar,rfl⟩:=CB hg;have au:=qm HT.out ac.out hS hx;obtain⟨av,ae,_,af⟩:=oe hx;obtain⟨tx,wt,tg,aI,U,aJ,aE⟩:=CA hy;cases U;obtain⟨_,_,aK,_,_,_,_,_,_,aw,U⟩:=tT hy
   have ag:tg<=255:=by
    simp only[dq.mk.injEq]at U;have:=(ij aw).2;omega
   have ah:0<=tg:=by
    simp only[dq.mk.injEq]at U;omega
   have y:bG _:=And.intro ar (And.intro ab (And.intro af (And.intro (gN ae).2 (And.intro ah (And.intro ag hy)))));have aF:r1.length+1<=r.length:=by rw[av];simp[dJ]
   have aL:(dO tx==path)=true:=beq_iff_eq.2 gK;clear hr hf hg ab ap hx av ae af ar e1 HG hy gK aw U ag ah;go_wp2_with fail;refine au.mono ?_;rintro e w2 ⟨rfl,g2,g1⟩;have aG:=ac.out.ql;have hent:=IM HT.out g2 hS y.out.2.2.2.2.2.2;have ax:bG (du (rW Rb Mk t) w w2):=ao.out.then g1.Dz;clear au g1 g2 hp;unfold xW at hent;go_wp2_with fail;refine hent.mono ?_;rintro e w3 ⟨rfl,g2,g1⟩;have W:bG _:=g2;have ay:bG (du (rW Rb Mk t) w w3):=ax.out.then g1.Dz;clear hent g1 g2 ax;have aA:(⟨tx.toArray⟩:ByteArray).size<=1099511627776:=by show tx.toArray.size<=_;simp;omega
   obtain⟨w4,aj⟩:∃w4,w3.alloc (.cells #[.string ⟨nm.toArray⟩,.string ⟨tx.toArray⟩,.int .i64 wt,.int .i64 tg] 96)=w4:=⟨_,rfl⟩;have ak:Below w3.heap.size w3 w4:=by rw[<-aj];exact(bJ _ _).alloc (bw _) _
   have ad:w4.heap[w3.heap.size]?=some (.cells #[.string ⟨nm.toArray⟩,.string ⟨tx.toArray⟩,.int .i64 wt,.int .i64 tg] 96 (0,0)):=by rw[<-aj];exact b8 w3 _
   have e1:w4.cell? ⟨w3.heap.size,1,none⟩=some (.string ⟨tx.toArray⟩):=by rw[dh ad];rfl
   go_wp2_with fail;refine(oL _ _ aA).mono ?_;rintro e w5 ⟨rfl,al⟩;clear aj e1;have aB:=ak.size;have O:w5.heap[w3.heap.size]?=some (.cells #[.string ⟨nm.toArray⟩,.string ⟨tx.toArray⟩,.int .i64 wt,.int .i64 tg] 96 (0,0)):=by rw[al.block _ (eS ad)];exact ad
   have Y:Below w3.heap.size w3 w5:=ak.trans (al.mono aB)
   have HD:bG (∀k,rW Rb Mk t k->k≠w3.heap.size):=by
    rintro k (h1|h1|h1) e;obtain⟨p1,g1,_⟩:=W.out.rd;have:=eS g1;omega;have:=W.out.kn.lt;omega;have:=HT.out.lt W.out.sd (HT.out.sub k h1);omega
   have az:bG _:=W.out.below HT.out Y;have a0:bG (du (rW Rb Mk t) w w5):=ay.out.then (du.fE Y);have am:bG _:=O;have d0:w5.cell? ⟨w3.heap.size,0,none⟩=some (.string ⟨nm.toArray⟩):=by rw[dh O];rfl
   have d1:w5.cell? ⟨w3.heap.size,1,none⟩=some (.string ⟨tx.toArray⟩):=by rw[dh O];rfl
   have d2:w5.cell? ⟨w3.heap.size,2,none⟩=some (.int .i64 wt):=by rw[dh O];rfl
   have d3:w5.cell? ⟨w3.heap.size,3,none⟩=some (.int .i64 tg):=by rw[dh O];rfl
   clear ak ad al O Y W ay;rw[show(dO (⟨tx.toArray⟩:ByteArray).data.toList)=dO tx from rfl];go_wp2_with fail;refine(gq _).mono ?_;rintro e w' ⟨rfl,rfl⟩;have aa:=EI (q:=p) (e:=⟨nm,false,tx,wt,tg⟩) HT.out az.out hS hm y.out.2.2.1 ⟨by show nm.length<=255;have:=y.out.2.2.2.1;omega,by show tx.length<=255;omega,λ_=>⟨y.out.2.2.2.2.1,y.out.2.2.2.2.2.1⟩⟩ (by omega) (by have:=aq.out;omega);have a3:qO ⟨nm,false,tx,wt,tg⟩=.agg #[.bool false,.string ⟨nm.toArray⟩,.string ⟨tx.toArray⟩,.int .i64 wt,.int .i64 tg]:=rfl;rw[a3]at aa;clear a3;go_wp2_with fail;refine aa.mono ?_;rintro e w6 ⟨rfl,q1,q2⟩
   have a4:w6.heap[w3.heap.size]?=some (.cells #[.string ⟨nm.toArray⟩,.string ⟨tx.toArray⟩,.int .i64 wt,.int .i64 tg] 96 (0,0)):=by
    rw[q2.block _ (eS am.out) (λh=>HD.out _ h rfl)];exact am.out
   have d26:w6.cell? ⟨w3.heap.size,2,none⟩=some (.int .i64 wt):=by rw[dh a4];rfl
   have aC:bG _:=q1;have aD:bG (du (rW Rb Mk t) w w6):=a0.out.then q2;clear aa q1 q2 a4 d0 d1 d2 d3 az a0 am;go_wp2;go_roundw
   case rel=>
    refine⟨k+1,done++[(p,⟨nm,false,tx,wt,tg⟩)],a',nm,r2,by omega,by go_num,rfl,?_,by rw[<-be];exact aC.out,aD.out,?_,by rw[y.out.2.1,aq.out];simp⟩
    .rw[show sn (done++[(p,(⟨nm,false,tx,wt,tg⟩:dq))])=sn done++[⟨nm,false,tx,wt,tg⟩] by simp[sn],ol,kF,show gP []=0 from rfl];have:=nM (sn done);show Value.int .i64 (max (gP (sn done)) wt)=Value.int .i64 (max (gP (sn done)) (max (max 0 wt) 0));congr 1;omega
    rw[show((sn (told++(done++[(p,(⟨nm,false,tx,wt,tg⟩:dq))]))).map dq.name)=(sn (told++done)).map dq.name++[nm] by simp[sn]];exact y.out.1
   case measure=>simp[intOf];omega
  have ac:bG _:=hr;clear hr hf hg ab;go_wp2;go_ret2;have hg:=HG.out.1;rw[show n-k=0 by omega,kK]at hg;cases hg;have e:=HG.out.2;rw[aV]at e;refine⟨?_,ao.out,by rw[e];exact ac.out⟩;rw[e];rfl
def Sa(t:GI)(mx f:Nat):Prop:=∀(Rb Mk g:Nat)(S:ByteArray)(rest r:Wd)(told es:List (Nat×dq))(path:Wd)(w:World),RG w Rb Mk t S rest told->S.size<=1099511627775->S.size<=mx->path.length<=1099511627775->km S.size f path ((sn told).map dq.name) rest=some (g,es,r)->
  b7 prog 214 #[.pointer (some ⟨Rb,0,none⟩),.string ⟨path.toArray⟩] w λe w'=>e=.returned (.int .i64 g)/\du (rW Rb Mk t) w w'/\RG w' Rb Mk t S r (told++es)
theorem A7{mx n f g:Nat}{t:GI}{S:ByteArray}{rest path:Wd}{es:List (Nat×dq)}{w:World}(hN:Sa t mx f)(hT:t.Ok mx)(h:RG w Rb Mk t S rest told)(hS:S.size<=1099511627775)(hm:S.size<=mx)(hp:path.length<=24)(hx:rdNum rest=some (n,r0))(hX:lT (km S.size f) n path ((sn told).map dq.name) (-1) r0=some (g,es,rf)) :
  b7 prog 239 #[.pointer (some ⟨Rb,0,none⟩),.string ⟨path.toArray⟩] w λe w'=>e=.returned (.tuple #[.int .i64 n,.int .i64 g])/\du (rW Rb Mk t) w w'/\RG w' Rb Mk t S rf (told++es):=by
 have ht:=nL Rb S rest Mk t.v w h.rd (by omega);have HR:bG _:=h;have HT:bG _:=hT;have HN:bG _:=hN;clear h hT hN;rw[hx]at ht;obtain⟨ae,aj⟩:=ij hx;have ak:r0.length<=rest.length:=by rw[ae];simp
 clear hx ae;go_enter func239,ntmps239;go_wp2_with fail;refine ht.mono ?_;rintro e w1 ⟨g1,rfl,U,g3⟩;have al:bG _:=HR.out.turn HT.out g1 U ak;have am:bG (du (rW Rb Mk t) w w1):=g1.Dz;have an:bG _:=hX;clear g1 U g3 ht hX;go_wp2;go_loopw [5,6,11] (λgv l i wr=>∃(k gg g':Nat)(done aa:List (Nat×dq))(la:Int)(r:Wd),k<=n/\i=.int .i64 k/\l=.int .i64 la/\gv=.int .i64 gg/\RG wr Rb Mk t S r (told++done)/\du (rW Rb Mk t) w wr/\lT (km S.size f) (n-k) path ((sn (told++done)).map dq.name) la r=some (g',aa,rf)/\(g=max gg g'/\es=done++aa)/\-1<=la/\la<=255) (λ_ _ i _=>n-(intOf i).toNat)
 case atStart=>exact⟨0,0,g,[],es,-1,r0,bx _,rfl,rfl,rfl,by rw[aV];exact al.out,am.out,by rw[aV];exact an.out,⟨by omega,rfl⟩,by omega,by omega⟩
 case round=>
  obtain⟨k,gg,g',done,aa,la,r,hk,rfl,rfl,rfl,hr,hf,W,y,av,aw⟩:=hrel;have af:bG _:=hf;have HG:bG _:=And.intro W y;have ab:bG _:=hr;by_cases ay:k<n
  .rw[show n-k=(n-(k+1))+1 by omega]at W;obtain⟨c,cs,r1,ga,ea,r2,gb,eb,hx,az,hy,hz,rfl,rfl⟩:=D7 W;have ac:=uy Rb S r Mk t.v wr ab.out.rd (by omega);rw[hx]at ac;obtain⟨ag,Y⟩:=iy hx;have ah:r1.length<=r.length:=by rw[ag];simp
   have O:bG _:=And.intro hz (And.intro y hy);have hc:=c.toNat_lt;have ai:(⟨(c::cs).toArray⟩:ByteArray).size=cs.length+1:=by show(c::cs).toArray.size=_;simp
   have a0:(⟨(c::cs).toArray⟩:ByteArray)[0]'(by rw[ai];omega)=c:=rfl;have ao:(⟨path.toArray⟩:ByteArray).size=path.length:=by show path.toArray.size=_;simp
   have ax:¬(9223372036854775807<(⟨path.toArray⟩:ByteArray).size+(⟨(c::cs).toArray⟩:ByteArray).size):=by rw[ao,ai];simp only[bf]at Y;omega
   clear hr hf W y hx ag hy hz HG;go_wp2_with fail;refine ac.mono ?_;rintro e w2 ⟨g1,rfl,U,g3⟩;have ap:bG _:=ab.out.turn HT.out g1 U ah;have aq:bG (du (rW Rb Mk t) w w2):=af.out.then g1.Dz;clear ac g1 U g3;have ad:=HN.out Rb Mk ga S r1 r2 (told++done) ea (path++(c::cs)) w2 ap.out hS hm (by simp only[aW,bf]at Y⊢;omega) O.out.2.2;rw[<-Te path (c::cs)]at ad;go_wp2_with fail;refine(gq _).mono ?_;rintro e w' ⟨rfl,rfl⟩;go_wp2_with fail;refine ad.mono ?_;rintro e w3 ⟨rfl,g1,U⟩;have ar:bG _:=U;have au:bG (du (rW Rb Mk t) w w3):=aq.out.then g1;clear ad g1 U;go_wp2;go_roundw
   case rel=>
    refine⟨k+1,max gg ga,gb,done++ea,eb,(c.toNat:Int),r2,by omega,by go_num,rfl,?_,by rw[<-be];exact ar.out,au.out,?_,⟨by rw[O.out.2.1.1,Nat.max_assoc],by rw[O.out.2.1.2,be]⟩,by omega,by omega⟩;show Value.int .i64 (max (gg:Int) (ga:Int))=Value.int .i64 ((max gg ga:Nat):Int);congr 1;omega;rw[show((sn (told++(done++ea))).map dq.name)=(sn (told++done)).map dq.name++(sn ea).map dq.name by simp[sn]];exact O.out.1
   case measure=>simp[intOf];omega
  clear hr hf W y;go_wp2;go_ret2;have W:=HG.out.1;rw[show n-k=0 by omega]at W;cases W;have e1:=HG.out.2.1;have e2:=HG.out.2.2;rw[aV]at e2;refine⟨?_,af.out,by rw[e2];exact ab.out⟩;rw[e1,Nat.max_zero];rfl
theorem Mc{t:GI}{mx:Nat}(hT:t.Ok mx):∀f,Sa t mx f:=by
 intro f;induction f with
 |zero=>
  intro Rb Mk g S rest r told es path w h hS hm W hX;cases hX
 |succ f ih=>
  intro Rb Mk g S rest r told es path w h hS hm W hX;obtain⟨f',ai,hp,r0,nb,r1,own,r2,nc,r3,gb,below,Y,h2,h3,h4,h5,aa,ab,rfl⟩:=D2 hX;cases ai;clear hX W;have am:(⟨path.toArray⟩:ByteArray).size=path.length:=by show path.toArray.size=_;simp
  have an:(path.length:Int)<=24:=by omega
  have ht:=zv Rb S rest Mk t.v w h.rd (by omega);rw[Y]at ht;have aj:r0.length<=rest.length:=by rw[(jQ Y).1];simp
  have HR:bG _:=h;have HN:bG _:=ih;have HT:bG _:=hT;have HX:bG _:=And.intro h2 (And.intro h3 (And.intro h4 h5));clear h ih hT Y h2 h3 h4 h5;have HG:bG _:=aa;have HP:bG _:=ab;go_enter func214,ntmps214;go_wp2_with fail;refine(gq _).mono ?_;rintro e w' ⟨rfl,rfl⟩;go_wp2_with fail;refine ht.mono ?_;rintro e w1 ⟨g1,rfl,y,g3⟩;have ac:bG _:=HR.out.turn HT.out g1 y aj;have ad:bG (du (rW Rb Mk t) w w1):=g1.Dz;clear ht g1 y g3 aa ab;have ae:=CS HT.out ac.out hS hm HX.out.1 HX.out.2.1;go_wp2_with fail;refine ae.mono ?_;rintro e w2 ⟨rfl,g1,y⟩;have af:bG _:=y;have ag:bG (du (rW Rb Mk t) w w2):=ad.out.then g1;clear ae g1 y ac ad;have ah:=A7 HN.out HT.out af.out hS hm hp HX.out.2.2.1 (by rw[show(sn (told++own)).map dq.name=(sn told).map dq.name++(sn own).map dq.name by simp[sn]];exact HX.out.2.2.2);go_wp2_with fail;refine ah.mono ?_;rintro e w3 ⟨rfl,g1,y⟩;have O:bG (RG w3 Rb Mk t S r (told++(own++below))):=by show RG _ _ _ _ _ _ _;rw[<-be];exact y
  have U:bG (du (rW Rb Mk t) w w3):=ag.out.then g1;clear ah g1 y af ag HX;have ak:((g:Int)==max (gP (sn own)) (gb:Int))=true:=beq_iff_eq.2 HG.out;go_wp2_with fail;refine(gq _).mono ?_;rintro e w' ⟨rfl,rfl⟩;clear ak
  cases path with
  |nil=>
   go_wp2_with fail;refine(gq _).mono ?_;rintro e w' ⟨rfl,rfl⟩;go_wp2;go_ret;exact⟨rfl,U.out,O.out⟩
  |cons c cs=>
   by_cases Y:0<nb
   .have al:(0:Int)<(nb:Int):=by omega
    go_wp2_with fail;refine(gq _).mono ?_;rintro e w' ⟨rfl,rfl⟩;go_wp2;go_ret;exact⟨rfl,U.out,O.out⟩
   have al:decide ((0:Int)<(nb:Int))=false:=decide_eq_false (by omega)
   have ao:(1:Int)<nc:=by
    rcases HP.out with h|h|h
    cases h;exact absurd h Y;omega
   go_wp2_with fail;refine(gq _).mono ?_;rintro e w' ⟨rfl,rfl⟩;go_wp2;go_ret;exact⟨rfl,U.out,O.out⟩
variable {es gs:List (Nat×dq)}
theorem Dx(hT:t.Ok mx)(h:RG w Rb Mk t S rest [])(hS:S.size<=1099511627775)(hm:S.size<=mx)(hX:jo S.size rest=some (gs,es)) :
  b7 prog 159 #[.pointer (some ⟨Rb,0,none⟩)] w λe w'=>e=.returned (.tuple #[])/\du (rW Rb Mk t) w w'/\RG w' Rb Mk t S [] (gs++es):=by
 obtain⟨ng,r,r0,r1,g,h1,h2,h3,h4,h5,ap,ak⟩:=DQ hX;have al:gs.length=ng:=vU h2;have ac:=K9 hT h hS hm h1 h2;have ad:r1.length<=r0.length:=by rw[(iy h3).1];simp
 have HT:bG _:=hT;have H3:bG _:=h3;have H4:bG _:=h4;clear h h1 h2 h3 h4 hX hT;go_enter func159,ntmps159;go_wp2_with fail;refine ac.mono ?_;rintro e w1 ⟨rfl,g1,W⟩;have aa:bG _:=W;have ae:bG _:=g1;clear ac g1 W;have ab:=uy Rb S r0 Mk t.v w1 aa.out.rd (by omega);rw[H3.out]at ab;go_wp2_with fail;refine ab.mono ?_;rintro e w2 ⟨g1,rfl,W,g3⟩;have af:bG _:=aa.out.turn HT.out g1 W ad;have ag:bG (du (rW Rb Mk t) w w2):=ae.out.then g1.Dz;clear ab g1 W g3 aa ae;go_wp2_with fail;refine(gq _).mono ?_;rintro e w' ⟨rfl,rfl⟩;have ah:=Mc HT.out 26 Rb Mk g S r1 [] gs es [] w2 af.out hS hm (by simp) H4.out;go_wp2_with fail;refine ah.mono ?_;rintro e w3 ⟨rfl,g1,W⟩;have O:bG _:=W;have y:bG (du (rW Rb Mk t) w w3):=ag.out.then g1;clear ah g1 W af ag;obtain⟨p,U,au,ai⟩:=O.out.rd;have c0:w3.cell? ⟨Rb,0,none⟩=some (.string S):=by rw[dh U];rfl
 have c1:w3.cell? ⟨Rb,1,none⟩=some (.int .i64 p):=by rw[dh U];rfl
 have c2:w3.cell? ⟨Rb,2,none⟩=some (.map (some Mk)):=by rw[dh U];rfl
 have av:((p:Int)==(S.size:Int))=true:=beq_iff_eq.2 (by
  have:=List.drop_eq_nil_iff.1 ai;simp at this
  omega)
 clear U ai;have Y:=λty:bA=>dL.len (dL.stay O.out.kn rfl:dL prog 9 w3.drew Mk ((sn (gs++es)).map QV)) bO ty;have aj:((sn (gs++es)).map QV).length=gs.length+es.length:=by simp
 rw[aj]at Y;obtain⟨N,hN⟩:∃N:Nat,N=gs.length+es.length:=⟨_,rfl⟩;rw[<-hN]at Y;have aw:N<=S.size:=by have:=O.out.ql;rw[aW]at this;omega
 have ax:0<N:=by omega
 have aq:(0:Int)<(N:Int):=by omega
 have ak:N-ng<=30:=by omega
 have am:(ng:Int)<=100:=by omega
 have ar:(N:Int)-(ng:Int)<=30:=by omega
 have an:bG (du (rW Rb Mk t) w w3.drew):=⟨y.out.os,y.out.tape,y.out.output,y.out.size,y.out.block⟩
 have ao:bG (RG w3.drew Rb Mk t S [] (gs++es)):=by
  have h:=O.out;exact⟨h.rd,dL.stay h.kn rfl,HT.out.stay h.sd λ_ _=>rfl,h.ql,h.ne⟩
 clear hN al aj h5;go_wp2_with fail;go_region_held3 (λw'=>w'.cell? ⟨Rb,0,none⟩=some (.string S)/\w'.cell? ⟨Rb,1,none⟩=some (.int .i64 p)) (go_keep) (first|(go_at_call 212;refine(gq _).mono ?_;rintro e w' ⟨rfl,rfl⟩));go_wp2_with fail;refine(gq _).mono ?_;rintro e w' ⟨rfl,rfl⟩;go_wp2_with fail;refine(gq _).mono ?_;rintro e w' ⟨rfl,rfl⟩;go_wp2_with fail;refine(gq _).mono ?_;rintro e w' ⟨rfl,rfl⟩;go_wp2;go_end0;exact⟨rfl,an.out,ao.out⟩
theorem Jp(Y:t.Ok mx)(h:RG w Rb Mk t S rest [])(hS:S.size<=1099511627775)(hm:S.size<=mx)(hX:jo S.size rest=some (gs,es)) :
  b7 prog 158 #[.func (.func 159) #[.pointer (some ⟨Rb,0,none⟩)] #[]] w λe w'=>e=.returned (.bool true)/\du (rW Rb Mk t) w w'/\t.T w' (gs++es):=by
 have al:∀(fn:Fn)(first cap:Array Value)(w:World),(Instr.makeFunc fn first cap).run prog w=.ok (.func fn first cap) w:=λ_ _ _ _=>rfl;obtain⟨w0,aa⟩:∃w0,w.alloc (.cells #[.bool false] 4)=w0:=⟨_,rfl⟩;have W:Below w.heap.size w w0:=by rw[<-aa];exact(bJ _ _).alloc (bw _) _
 have ab:w0.heap[w.heap.size]?=some (.cells #[.bool false] 4 (0,0)):=by rw[<-aa];exact b8 w _
 have ac:=h.below Y W;have O:=Dx Y ac hS hm hX;have HD:bG (∀k,t.Qd k->k<w.heap.size):=λk U=>Y.lt h.sd U
 have HZ:bG (¬rW Rb Mk t w.heap.size):=by
  rintro(U|U|U);obtain⟨p,h1,_⟩:=h.rd;have:=eS h1;omega;have:=h.kn.lt;omega;have:=HD.out _ (Y.sub _ U);omega
 have ad:bG (w0.heap[w.heap.size]?=some (.cells #[.bool false] 4 (0,0))):=ab;have ag:bG (du (rW Rb Mk t) w w0):=du.fE W;have HT:bG _:=Y;clear h W ab ac hX Y;go_enter_defers func158,ntmps158;go_wp2_with fail;refine O.mono ?_;rintro e w1 ⟨rfl,g1,g2⟩;have y:w1.heap[w.heap.size]?=some (.cells #[.bool false] 4 (0,0)):=by rw[g1.block _ (eS ad.out) HZ.out];exact ad.out
 have c1:w1.cell? ⟨w.heap.size,0,none⟩=some (.bool false):=by rw[dh y];rfl
 have f1:w1.frozen? ⟨w.heap.size,0,none⟩=false:=dI y 0;have ah:bG (w1.heap[w.heap.size]?=some (.cells #[.bool false] 4 (0,0))):=y;have ae:bG _:=g2.sd;have ai:bG (du (rW Rb Mk t) w w1):=ag.out.then g1;clear O g1 g2 y;go_wp2;refine leaves_cons (f:=210) (args:=#[.pointer (some ⟨w.heap.size,0,none⟩)]) (by simp) (by simp[go_sem]) ?_;refine(GU _ _).mono ?_;rintro e u' w2 ⟨rfl,rfl,rfl⟩;have af:du (· = w.heap.size) w1 (w1.setCell ⟨w.heap.size,0,none⟩ (.bool true)):=k8 rfl
 have aj:(w1.setCell ⟨w.heap.size,0,none⟩ (.bool true)).heap[w.heap.size]?=some (.cells #[.bool true] 4 (0,0)):=by
  rw[heap_set ah.out];rfl
 have ak:(w1.setCell ⟨w.heap.size,0,none⟩ (.bool true)).cell? ⟨w.heap.size,0,none⟩=some (.bool true):=by rw[dh aj];rfl
 refine⟨.bool true,?_,rfl,ai.out.trans af (λi hi hg=>by omega),HT.out.stay ae.out λk U=>af.block k (HT.out.lt ae.out U) (Nat.ne_of_lt (HD.out k U))⟩;simp[bD,results158,go_sem,ak]
theorem BI(U:t.Ok mx)(h:t.T w [])(hS:S.size<=1099511627775)(hm:S.size<=mx)(hX:jo S.size S.data.toList=some (gs,es)) :
  b7 prog 117 #[.string S,t.v] w λe w'=>e=.returned (.bool true)/\du t.own w w'/\t.T w' (gs++es):=by
 have ag:=@bI prog;have ah:∀(fn:Fn)(first cap:Array Value)(w:World),(Instr.makeFunc fn first cap).run prog w=.ok (.func fn first cap) w:=λ_ _ _ _=>rfl;obtain⟨w0,y⟩:∃w0,w.alloc (.map #[] 0)=w0:=⟨_,rfl⟩;have ae:w0.heap.size=w.heap.size+1:=by rw[<-y];simp
 obtain⟨w1,hw1⟩:∃w1,w0.alloc (.cells #[.string S,.int .i64 0,.map (some w.heap.size),t.v] 216)=w1:=⟨_,rfl⟩;have W:Below w.heap.size w w0:=by rw[<-y];exact(bJ _ _).alloc (bw _) _
 have O:Below w.heap.size w w1:=by rw[<-hw1];exact W.alloc (by omega) _
 have Y:dL prog 9 w0 w.heap.size []:=by rw[<-y];exact dL.made w
 have aa:dL prog 9 w1 w.heap.size []:=Y.stay (by rw[<-hw1];exact bK _ _ _ (by omega));have ab:w1.heap[w.heap.size+1]?=some (.cells #[.string S,.int .i64 0,.map (some w.heap.size),t.v] 216 (0,0)):=by rw[<-hw1,<-ae];exact b8 w0 _
 have ac:RG w1 (w.heap.size+1) w.heap.size t S S.data.toList []:=
  ⟨⟨0,ab,bx _,rfl⟩,aa,U.stay h λk hk=>O.block k (U.lt h hk),by simp,λk hk=>by have:=U.lt h hk;omega⟩
 have ad:=Jp U ac hS hm hX
 have af:bG (∀w',du (rW (w.heap.size+1) w.heap.size t) w1 w'->du t.own w w'):=λw' g=>(du.fE O).trans g (λi hi hg=>by
  rcases hg with h|h|h
  omega;omega
  exact h)
 clear h W O Y aa ab ac U hX;unfold GI.v at hw1⊢;have ai:∀(a:Addr)(w:World),(store a (.func (.func t.fn) #[] t.cp)).run prog w=stored prog w a (.func (.func t.fn) #[] t.cp) .plain:=λa w=>run_store prog w a _ .plain rfl;go_enter func117,ntmps117;go_wp2_with fail;refine ad.mono ?_;rintro e w2 ⟨rfl,g1,g2⟩;have HS:bG _:=g2;clear ad g2;go_wp2;go_ret;exact⟨rfl,af.out _ g1,HS.out⟩
def UI(O y:Nat):GI where
 fn:=130
 cp:=#[.pointer (some ⟨O,0,none⟩)]
 own k:=k=y
 Qd k:=k=y\/k=O
 T w told:=w.heap[O]?=some (.cells #[.map (some y)] 85 (0,0))/\e9 w y (sn told)
theorem QY(U W mx:Nat):(UI U W).Ok mx where
 gO:=⟨_,_,func130,rfl,by kernel_rfl⟩
 sub _ h:=Or.inl h
 lt:=by
  rintro w told k ⟨y,O⟩ (rfl|rfl);exact dL.lt O;exact eS y
 stay:=by
  rintro w w' told ⟨y,O⟩ h;exact⟨by rw[h U (Or.inr rfl)];exact y,dL.stay O (h W (Or.inl rfl))⟩
 tell:=by
  rintro w q told e ⟨y,O⟩ hn hl he _;refine(PT U W (sn told) e q w y O hn (by rw[aX];exact hl) (by have:=he.1;unfold b6;omega)).mono ?_;rintro en w' ⟨rfl,g1,Y⟩;exact⟨rfl,⟨by rw[Y.block U (eS y) (λk=>dL.nH O y k.symm)];exact y,by rw[show sn (told++[(q,e)])=sn told++[e] by simp[sn]];exact g1⟩,Y⟩
theorem EV{S:ByteArray}{gs es:List (Nat×dq)}(w:World)(hS:S.size<=1099511627775)(hX:jo S.size S.data.toList=some (gs,es)) :
  b7 prog 88 #[.string S] w λe w'=>Below w.heap.size w w'/\∃B,e=.returned (.tuple #[.map (some B),.bool true])/\w.heap.size<=B/\e9 w' B (sn (gs++es)):=by
 have ag:=@bI prog;have ah:∀(fn:Fn)(first cap:Array Value)(w:World),(Instr.makeFunc fn first cap).run prog w=.ok (.func fn first cap) w:=λ_ _ _ _=>rfl;obtain⟨w0,O⟩:∃w0,w.alloc (.map #[] 0)=w0:=⟨_,rfl⟩;have W:w0.heap.size=w.heap.size+1:=by rw[<-O];simp
 obtain⟨w1,U⟩:∃w1,w0.alloc (.cells #[.map (some w.heap.size)] 85)=w1:=⟨_,rfl⟩;have Y:Below w.heap.size w w0:=by rw[<-O];exact(bJ _ _).alloc (bw _) _
 have aa:Below w.heap.size w w1:=by rw[<-U];exact Y.alloc (by omega) _
 have ab:e9 w0 w.heap.size []:=by rw[<-O];exact dL.made w
 have ac:e9 w1 w.heap.size []:=dL.stay ab (by rw[<-U];exact bK _ _ _ (by omega));have ad:w1.heap[w.heap.size+1]?=some (.cells #[.map (some w.heap.size)] 85 (0,0)):=by rw[<-U,<-W];exact b8 w0 _
 have ae:=BI (QY (w.heap.size+1) w.heap.size S.size) ⟨ad,ac⟩ hS (bw _) hX;have y:bG _:=aa;go_enter func88,ntmps88;go_wp2_with fail;refine ae.mono ?_;rintro e w2 ⟨rfl,g1,g2,g3⟩
 have af:bG (Below w.heap.size w w2):=by
  refine⟨g1.os.trans y.out.os,g1.tape.trans y.out.tape,g1.output.trans y.out.output,bz y.out.size g1.size,λk hk=>?_⟩;rw[g1.block k (b4 hk y.out.size) (by show k≠_;omega),y.out.block k hk]
 have c2:w2.cell? ⟨w.heap.size+1,0,none⟩=some (.map (some w.heap.size)):=by rw[dh g2];rfl
 have HS:bG _:=g3;go_wp2;go_ret2;exact⟨af.out,_,rfl,bw _,HS.out⟩
variable {e:dq} {l:List dq}
def xZ(c:Nat):Value:=.map (some c)
structure J0(w:World)(v:Value)(Cs:List Nat)(ls:List (List dq)):Prop where
 rd:Rd w v (Cs.map xZ)
 len:Cs.length=ls.length
 each:∀i(h:i<ls.length)(h':i<Cs.length),e9 w Cs[i] ls[i]
theorem wM(y:List (List dq))(k:Nat)(h:k<y.length):gf (y.take (k+1))=dH (gf (y.take k)) y[k]:=by
 rw[List.take_succ_eq_append_getElem h,fi]
theorem NJ(y:List (List dq))(k:Nat)(h:k<y.length):y[k].length<=iE y:=by
 have O:=zA y k h;have U:=G0 y (k+1);omega
theorem uQ(y:List (List dq))(k:Nat)(O:k<=y.length):(gf (y.take k)).length<=iE y:=by
 have U:=EF y k O;have W:=G0 y k;rw[yA]at U;omega
theorem zE(v:Value)(Y:List Nat)(y:List (List dq))(w:World)(h:J0 w v Y y)(ak:iE y<=536870912)(ad:∀l∈y,∀e∈l,e.name.length<=b6) :
  b7 prog 58 #[v] w λen w'=>∃B,en=.returned (.map (some B))/\w.heap.size<=B/\e9 w' B (gf y)/\Below w.heap.size w w':=by
 have al:=@bI prog;obtain⟨a,cap,rfl,ah,hcm,ae⟩:=id h.rd;have af:(Y.map xZ).length=y.length:=by rw[aX,h.len]
 rw[af]at ah⊢;have am:=ME y;unfold b6 at hcm;obtain⟨w0,ab⟩:∃w0,w.alloc (.map #[] 0)=w0:=⟨_,rfl⟩;have an:w0.heap.size=w.heap.size+1:=by rw[<-ab];simp
 have hb0:Below w.heap.size w w0:=by rw[<-ab];exact(bJ _ _).alloc (bw _) _
 have hM0:e9 w0 w.heap.size []:=by rw[<-ab];exact dL.made w
 have HL:bG (J0 w (.slice a (Y.map xZ).length cap) Y y):=h;have ai:bG (∀j u,(Y.map xZ)[j]?=some u->∃b off,a=some ⟨b,off,none⟩/\w.cell? ⟨b,off+j,none⟩=some u):=ae;have aj:bG (∀l∈y,∀e∈l,e.name.length<=b6):=ad;clear h ae af ad;go_enter func58,ntmps58;go_wp2;go_loopw [9] (λi wr=>∃k:Nat,k<=y.length/\i=.int .i64 k/\e9 wr w.heap.size (gf (y.take k))/\Below w.heap.size w wr) (λi _=>y.length-(intOf i).toNat)
 case atStart=>exact⟨0,bx _,rfl,hM0,hb0⟩
 case round=>
  obtain⟨k,hk,rfl,hm,hb⟩:=hrel;have HM:bG (e9 wr w.heap.size (gf (y.take k))):=hm;have W:bG (Below w.heap.size w wr):=hb;clear hm hb;by_cases O:k<y.length
  .have ag:k<Y.length:=by rw[HL.out.len];exact O
   obtain⟨bb,off,rfl,U⟩:=ai.out k (xZ Y[k]) (by simp[ag]);have hc:=b9 W.out U;unfold xZ at hc;have ac:=HL.out.each k O ag;have ao:=dL.lt ac;have aa:=Nj w.heap.size Y[k] (gf (y.take k)) y[k] wr HM.out (dL.below ac W.out) (by omega) (by have:=NJ y k O;omega) (by have:=uQ y k hk;omega) (aj.out _ (bc O));rw[<-wM y k O]at aa;clear U ac;go_wp2_with fail;refine aa.mono ?_;rintro e w1 ⟨rfl,q1,q2⟩;have HM1:bG (e9 w1 w.heap.size (gf (y.take (k+1)))):=q1
   have HB1:bG (Below w.heap.size w w1):=by
    refine⟨q2.os.trans W.out.os,q2.tape.trans W.out.tape,q2.output.trans W.out.output,bz W.out.size q2.size,λi hi=>?_⟩;rw[q2.block i (b4 hi W.out.size) (by omega),W.out.block i hi]
   go_wp2;go_roundw
   case rel=>exact⟨k+1,by omega,by go_num,HM1.out,HB1.out⟩
   case measure=>simp[intOf];omega
  have HE:bG (y.take k=y):=bn (by omega);go_wp2;go_ret;refine⟨_,rfl,bw _,?_,W.out⟩;have:=HM.out;rw[HE.out]at this;exact this
theorem Q8(h:Qa e):JG e:=by
 rcases h with h|h
 have y:=gN h.2.1;have U:=jI h.2.2.1;have W:=h.2.2.2.2;exact⟨by omega,by omega,⟨by omega,by omega⟩,by omega,by omega⟩;have y:=gN h.2;have O:e.text=[]:=by rw[h.1]
 have Y:e.dp=0:=by rw[h.1]
 have e3:e.dA=0:=by rw[h.1]
 exact⟨by omega,by rw[O];simp,⟨by omega,by omega⟩,by omega,by omega⟩
theorem qR(h:Qa e):iU e.name=true:=by
 rcases h with h|h
 exact h.2.1;exact h.2
theorem I3(l:List dq)(h:∀e∈l,e.name.length<=8):(l.flatMap λe=>dJ e.name).length<=l.length*9:=by
 induction l with
 |nil=>simp|cons e l y=>
  rw[List.flatMap_cons,aW];have O:=y (λx U=>h x (bi _ U));have W:=h e (aZ ..);simp only[dJ,bf]at O⊢;omega
theorem rB(h:n5 l):(dW l).length<=3000000000:=by
 unfold dW
 have U:((fo l).filter λe=>e.gone).length<=100:=by
  rw[((fW l).filter _).length_eq];exact h.gone
 have W:((fo l).filter λe=>!e.gone).length<=30:=by
  rw[((fW l).filter _).length_eq];exact h.there
 have Y:=I3 ((fo l).filter λe=>e.gone) (λe y=>(gN (qR (h.each e (mS.1 (bj.1 y).1)))).2);have h2:=OH 26 [] ((fo l).filter λe=>!e.gone) (λe y=>Q8 (h.each e (mS.1 (bj.1 y).1)));have O:(dJ []).length=1:=rfl;simp only[bf,aW,O];omega
theorem qY(h:n5 l):∀e∈l,e.name.length<=b6:=λe y=>by
 have:=(gN (qR (h.each e y))).2;unfold b6;omega
theorem mV(h:n5 l):l.length<=130:=by
 have y:=jB l;have O:=h.gone;have U:(dw l).length<=30:=h.there;omega
theorem oE(s:List dq)(w:World)(h:n5 s) :
  b7 prog 73 #[.string ⟨(dW s).toArray⟩] w λO w'=>∃B,O=.returned (.map (some B))/\w.heap.size<=B/\e9 w' B s/\Below w.heap.size w w':=by
 have hl:=rB h;obtain⟨gs,es,U,W⟩:=yz h;obtain⟨ps,qs,y,Y,e2,_⟩:=BZ U;have hu:=EV (S:=⟨(dW s).toArray⟩) w (by show(dW s).toArray.size<=_;simp;omega) y;have HP:bG ((sn (ps++qs)).Perm s):=by rw[show sn _=sn ps++sn qs from ba,Y,e2];exact W
 go_enter func73,ntmps73;go_wp2_with fail;refine hu.mono ?_;rintro e w1 ⟨hb,B,rfl,hB,hs⟩;have HS:bG _:=e9.perm hs HP.out;have HB:bG _:=hb;go_wp2;go_ret;exact⟨B,rfl,hB,HS.out,HB.out⟩
variable {ss:List (List dq)} {buf:List dq}
theorem Q5:(prog.info? 85).map (λi=>(i.zero,i.size,i.bytes))=some (some (.map none),1,8):=by kernel_rfl
structure Ak(w:World)(F:Nat->Prop)(b:Nat)(buf:List dq)(ss:List (List dq))(Bb:Nat)(vS vM vK:Value):Prop where
 blk:w.heap[b]?=some (.cells #[.map (some Bb),vS,vM,vK] 90 (0,0))
 fb:F b
 fB:F Bb
 say:e9 w Bb buf
 row:w.ownsRow 0 9 1 vS ss.length (dn (ss.map dW))
 lq:∀k,vS.ownBlock=some k->F k
 inv:Inv buf ss
theorem pR{w:World}{base e n:Nat}{v:Value}{xs:List Value}(O:w.ownsRow base e 1 v n xs){P:Program}{k:bA}{B:Nat}{l:List (Wd×Value)}(hm:dL P k w B l):some B≠v.ownBlock:=by
 rcases O.2 with⟨rfl,_⟩|⟨g,cap,U,rfl,_,W,_⟩
 simp[Value.ownBlock];intro y;simp only[Value.ownBlock,ca]at y;exact hm.nH W y
theorem rF(h:Inv buf ss):buf.length<=130:=by
 have O:=jB buf;have U:=h.gone;have y:=h.all;rw[fQ,fi]at y;have W:=kU (gf ss) buf;omega
theorem Lp(ss:List (List dq))(h:∀s∈ss,n5 s):iE ss<=ss.length*131:=by
 induction ss with
 |nil=>simp[iE]|cons s ss y=>
  have O:=y (λx U=>h x (bi _ U));have W:=mV (h s (aZ ..));simp only[iE,bm,List.sum_cons,bf]at O⊢;omega
theorem GD(a b:List (List dq)):iE (a++b)=iE a+iE b:=by simp[iE]
theorem PC(h:Inv buf ss):iE (ss++[buf])<=1000:=by
 have y:=Lp ss h.jp;have O:=h.ql;have U:=rF h;rw[GD];have:iE [buf]=buf.length+1:=by simp[iE]
 omega
theorem BF(h:Inv buf ss):∀l∈ss++[buf],∀e∈l,e.name.length<=b6:=by
 intro l U e O;rcases List.mem_append.1 U with y|y
 exact qY (h.jp l y) e O;simp only[br]at y;subst y;have:=(gN (qR (h.each e O))).2;unfold b6;omega
theorem vA{y:List (List dq)}(h:∀l∈y,∀e∈l,e.name.length<=b6):∀e∈gf y,e.name.length<=b6:=by
 have:∀(y:List _)(a:List dq),(∀e∈a,e.name.length<=b6)->(∀l∈y,∀e∈l,e.name.length<=b6)->∀e∈y.foldl dH a,e.name.length<=b6:=by
  intro y;induction y with
  |nil=>intro a O _ e U;exact O e U|cons l y ih=>
   intro a O Y e U;refine ih _ (λx hx=>?_) (λm hm=>Y m (bi _ hm)) e U;rcases kL.1 hx with W|W
   exact O x W.1;exact Y l (aZ ..) x W
 exact this y [] (nofun) h
theorem xJ(F:Nat->Prop)(b:Nat)(buf:List dq)(ss:List (List dq))(Bb:Nat)(vS vM vK:Value)(w:World)(h:Ak w F b buf ss Bb vS vM vK) :
  b7 prog 59 #[.pointer (some ⟨b,0,none⟩)] w λen w'=>∃C,en=.returned (.map (some C))/\w.heap.size<=C/\e9 w' C (eO ss buf)/\Below w.heap.size w w':=by
 obtain⟨i0,hi,ag,ah,ai⟩:=bF Q5;obtain⟨aS,cS,rfl,aD⟩:=dK h.row;have aj:=Rd.jb h.row;have ay:w.cell? ⟨b,0,none⟩=some (.map (some Bb)):=by rw[dh h.blk];rfl
 have aE:w.cell? ⟨b,1,none⟩=some (.slice aS ss.length cS):=by rw[dh h.blk];rfl
 have h6:=h.inv.ql
 have HR:bG (∀j(hj:j<ss.length),∃bb off,aS=some ⟨bb,off,none⟩/\w.cell? ⟨bb,off+j,none⟩=some (.string ⟨(dW ss[j]).toArray⟩)):=by
  intro j hj;obtain⟨a',c',he,_,_,hr⟩:=aj;simp only[Value.slice.injEq]at he;obtain⟨rfl,_,rfl⟩:=he;exact hr j _ (by simp[dn,hj])
 have HP:bG _:=h;clear h aj;go_enter func59,ntmps59;go_wp2;go_loopw [3,11] (λv i wr=>∃(k:Nat)(Cs:List Nat),k<=ss.length/\i=.int .i64 k/\Cs.length=k/\wr.ownsRow w.heap.size 85 1 v k (Cs.map xZ)/\(∀i(h:i<k)(h':i<Cs.length)(h2:i<ss.length),e9 wr Cs[i] ss[i]/\w.heap.size<=Cs[i])/\Below w.heap.size w wr) (λ_ i _=>ss.length-(intOf i).toNat)
 case atStart=>exact⟨0,[],bx _,rfl,rfl,World.ownsRow_nil _ _ _ _,λi h=>by omega,bJ _ _⟩
 case round=>
  obtain⟨k,Cs,hk,rfl,hCl,O,Y,hb⟩:=hrel;have HB:bG _:=hb;have hz:=hb.size;have HE:bG _:=Y;clear Y hb;by_cases ak:k<ss.length
  .obtain⟨bb,off,rfl,aa⟩:=HR.out k ak;have hc:=b9 HB.out aa;have al:=oE ss[k] wr (HP.out.inv.jp _ (bc ak));clear aa;go_wp2_with fail;refine al.mono ?_;rintro e w1 ⟨C,rfl,hC,hs,ab⟩;have aB:=ab.size;have W:w1.ownsRow w.heap.size 85 1 _ k (Cs.map xZ):=eh O (λj hj=>ab.block j (O.lt j hj).2);have am:bG (e9 w1 C ss[k]/\wr.heap.size<=C):=⟨hs,hC⟩;have az:bG (Below w.heap.size w w1):=HB.out.trans (ab.mono hz);have a0:bG _:=ab;clear al hs ab
   go_wp2_with (first
    |(at_builtin;refine fp _ rfl _ _ 136 rfl w.heap.size 85 i0 (.map none) 8 bS hi ag ah ai rfl _ _ _ rfl (W.alloc _) ⟨w1.heap.size,0,none⟩ _ rfl iz rfl ?c1 ?c2 ?c3 ?_))
   case c1=>omega
   case c2=>unfold b6;omega
   case c3=>first|omega|(simp;omega)
   intro v' w2 U y _
   have HW2:bG (w2.ownsRow w.heap.size 85 1 v' (k+1) ((Cs++[C]).map xZ)):=by
    show w2.ownsRow _ _ _ _ _ _;rw[ba];exact U
   have HB2:bG (Below w.heap.size w w2):=(az.out.alloc (by omega) _).grown y (by simp;omega) (λb hb=>(O.lt b hb).1)
   have HE2:bG (∀i(h:i<k+1)(h':i<(Cs++[C]).length)(h2:i<ss.length),e9 w2 (Cs++[C])[i] ss[i]/\w.heap.size<=(Cs++[C])[i]):=by
    intro i h h' h2
    have key:∀(D:Nat)(l:List dq),e9 w1 D l->e9 w2 D l:=λD l hm=>by
     have ac:e9 (w1.alloc (.cells #[.map (some C)] 85)) D l:=dL.kept hm (bX _ _ none) (by simp);exact dL.kept ac y (pR (W.alloc _) ac)
    by_cases ad:i<k;rw[bh (by omega)];have hh:=HE.out i ad (by omega) h2;exact⟨key _ _ (dL.below hh.1 a0.out),hh.2⟩;have an:i=k:=by omega
    subst an;rw[bg (by omega)];simp only[hCl,Nat.sub_self,List.getElem_cons_zero];exact⟨key _ _ am.out.1,bz hz am.out.2⟩
   obtain⟨a',c',rfl,aF⟩:=dK HW2.out;clear U y O W;go_wp2;go_roundw
   case rel=>exact⟨k+1,Cs++[C],by omega,by go_num,by simp[hCl],HW2.out,HE2.out,HB2.out⟩
   case measure=>simp[intOf];omega
  have a3:k=ss.length:=by omega
  subst a3;have aC:=b9 HB.out ay
  go_wp2_with (first
   |(at_builtin;refine fp _ rfl _ _ 136 rfl w.heap.size 85 i0 (.map none) 8 bS hi ag ah ai rfl _ _ _ rfl (O.alloc _) ⟨wr.heap.size,0,none⟩ _ rfl iz rfl ?c1 ?c2 ?c3 ?_))
  case c1=>omega
  case c2=>unfold b6;omega
  case c3=>first|omega|(simp;omega)
  intro v' w2 U y _;have ao:Below w.heap.size w w2:=(HB.out.alloc hz _).grown y (by simp;omega) (λb hb=>(O.lt b hb).1)
  have ap:J0 w2 v' (Cs++[Bb]) (ss++[buf]):=by
   refine⟨?_,by simp[hCl],λi h h'=>?_⟩;rw[ba];exact Rd.jb U
   have key:∀(D:Nat)(l:List dq),e9 wr D l->e9 w2 D l:=λD l hm=>by
    have ac:e9 (wr.alloc (.cells #[.map (some Bb)] 85)) D l:=dL.kept hm (bX _ _ none) (by simp);exact dL.kept ac y (pR (O.alloc _) ac)
   by_cases ad:i<ss.length;have e1:(Cs++[Bb])[i]=Cs[i]'(by omega):=bh (by omega);have e2:(ss++[buf])[i]=ss[i]:=bh ad;rw[e1,e2];exact key _ _ (HE.out i ad (by omega) ad).1;have a4:i=ss.length:=by simp at h;omega
   subst a4;have h9:=h';have e1:(Cs++[Bb])[ss.length]'h9=Bb:=by rw[bg (by omega)];simp[hCl]
   have e2:(ss++[buf])[ss.length]'h=buf:=by rw[bg (by omega)];simp
   rw[e1,e2];exact key _ _ (dL.below HP.out.say HB.out)
  have a5:=PC HP.out.inv;have ae:=BF HP.out.inv;have aq:=zE v' (Cs++[Bb]) (ss++[buf]) w2 ap (by omega) ae;have HB2:bG _:=ao;have a6:bG _:=ae
  have a7:bG ((gf (ss++[buf])).length<=1000):=by
   show _<=_;have:=uQ (ss++[buf]) (ss++[buf]).length (bw _);rw[List.take_length]at this;omega
  clear U y O ap ao ae a5;go_wp2_with fail;refine aq.mono ?_;rintro e w3 ⟨B3,rfl,aG,ar,au⟩;have av:=qL B3 (gf (ss++[buf])) w3 ar (by have:=a7.out;omega) (vA a6.out);have af:bG (Below w.heap.size w w3):=HB2.out.trans (au.mono HB2.out.size);clear aq ar au;go_wp2_with fail;refine av.mono ?_;rintro e w4 ⟨C,rfl,hC,aw,ax⟩;have a8:bG (e9 w4 C (eO ss buf)):=by show e9 _ _ _;rw[fQ];exact aw
  have a9:bG (Below w.heap.size w w4):=af.out.trans (ax.mono af.out.size);have aA:w.heap.size<=C:=bz af.out.size hC;clear av aw ax;go_wp2;go_ret;exact⟨C,rfl,aA,a8.out,a9.out⟩
end
section
open Go.RowKit
variable {row:List Nat} {i n z:Nat} {c:UInt8} {q:Wd}
def jX(q:Wd)(c:UInt8)(row:List Nat)(z n i:Nat):List Nat:=gG q c row z i++bk (n-i) 0
theorem BC(h:i<=n):(jX q c row z n i).length=n+1:=by
 unfold jX;rw[aW,iV,List.length_replicate];omega
theorem MA:(jX q c row z n i).getD i 0=(gG q c row z i).getD i 0:=by
 unfold jX;rw[aU,aU,bl (by rw[iV];omega)]
theorem zG{m:Nat}(h:i<n)(hm:m=min (min (row.getD i 0+(if q.getD i 0=c then 0 else 1)) (row.getD (i+1) 0+1)) ((gG q c row z i).getD i 0+1)) :
  (dX (jX q c row z n i)).set (i+1) (.int .i64 (m:Int))=dX (jX q c row z n (i+1)):=by
 have e:n-i=(n-(i+1))+1:=by omega
 have y:jX q c row z n (i+1)=(jX q c row z n i).set (i+1) m:=by
  unfold jX;rw[List.set_append_right _ _ (by rw[iV];omega),iV,e,bp,gG,<-hm];simp
 rw[y];unfold dX;rw[List.map_set]
theorem Lg(q:Wd)(c:UInt8)(row:List Nat)(z n:Nat):jX q c row z n n=gG q c row z n:=by simp[jX]
theorem GV(q:Wd)(c:UInt8)(row:List Nat)(z n:Nat):(dX (bk (n+1) 0)).set 0 (.int .i64 (z:Int))=dX (jX q c row z n 0):=by
 simp[jX,gG,dX,bp]
theorem IV(row:List Nat)(qb:ByteArray)(c:UInt8)(v:Value)(w:World)(hq:qb.size<=1048576)(hv:Rd w v (dX row))(hl:row.length=qb.size+1)(ap:∀x∈row,x<=2097152) :
  b7 prog 270 #[v,.string qb,.int .u8 c.toNat] w λe w'=>∃g,e=.returned (.slice (some ⟨g,0,none⟩) (qb.size+1) (qb.size+1))/\w'.ownsRow w.heap.size 3 1 (.slice (some ⟨g,0,none⟩) (qb.size+1) (qb.size+1)) (qb.size+1) (dX (gG qb.data.toList c row (row.getD 0 0+1) qb.size))/\Below w.heap.size w w':=by
 obtain⟨i3,a6,a7,a8,hy2⟩:=bF Sb;have ab:bG (row.length=qb.size+1):=hl;have ad:bG (∀x∈row,x<=2097152):=ap;obtain⟨aQ,cQ,rfl,_,_,aq⟩:=hv;have ai:bG (∀j u,(dX row)[j]?=some u->∃b off,aQ=some ⟨b,off,none⟩/\w.cell? ⟨b,off+j,none⟩=some u):=aq;have ar:(dX row).length=qb.size+1:=by rw[yL,hl]
 rw[ar];clear aq hl ap ar;obtain⟨bQ,oQ,rfl,qz⟩:=ai.out 0 _ (iR row 0 (by rw[ab.out];omega));rw[Nat.add_zero]at qz;obtain⟨Y,aj⟩:∃Y,Y=row.getD 0 0:=⟨_,rfl⟩;have aE:Y<=2097152:=by rw[aj,aU,bd (by rw[ab.out];omega)];exact ad.out _ (bc _)
 rw[<-aj]at qz⊢;clear aj;have aM:(0:Int)<(qb.size:Int)+1:=by omega
 have aN:bQ<w.heap.size:=World.block_lt_of_cell? w _ qz;go_enter func270,ntmps270;go_wp2_with (at_make;go_must (refine wpList_make_full _ rfl _ _ 26 rfl w.heap.size 3 i3 (.int .i64 0) 1 underlying26 a6 a7 a8 .i64 .i64 _ _ (qb.size+1) rfl rfl rfl rfl ?m1 ?m2 ?m3 ?_))
 case m1=>rw[hy2];omega
 case m2=>unfold b6;omega
 case m3=>exact bw _
 intro w5 ac au;have ak:bG (Below w.heap.size w w5):=(bJ _ _).grown au (bw _) (by simp);have e:(madeCells #[Value.int .i64 0] (qb.size+1)).toList=dX (bk (qb.size+1) 0):=B5 _;rw[e]at ac;have a9:=b9 ak.out qz;obtain⟨bt,ot,aa,ah⟩:=jh ac 0 _ (iR _ 0 (by simp));simp only[ca,cb]at aa;obtain⟨rfl,rfl,_⟩:=aa;rw[b2]at ah;have av:=rl ac 0
 have HT6:bG ((w5.setCell ⟨w.heap.size,0,none⟩ (.int .i64 ((Y:Int)+1))).ownsRow w.heap.size 3 1 (.slice (some ⟨w.heap.size,0,none⟩) (qb.size+1) (qb.size+1)) (qb.size+1) (dX (jX qb.data.toList c row (Y+1) qb.size 0))):=by
  show bY _ _ _ _ _ _ _;rw[<-GV];have h:=zI ac 0 (.int .i64 ((Y+1:Nat):Int)) (by omega);simpa using h
 have HB6:bG (Below w.heap.size w (w5.setCell ⟨w.heap.size,0,none⟩ (.int .i64 ((Y:Int)+1)))):=by exact bL ak.out (bw _) _
 clear ac au e;go_wp2;go_loopw [22] (λiv wr=>∃i:Nat,i<=qb.size/\iv=.int .i64 i/\wr.ownsRow w.heap.size 3 1 (.slice (some ⟨w.heap.size,0,none⟩) (qb.size+1) (qb.size+1)) (qb.size+1) (dX (jX qb.data.toList c row (Y+1) qb.size i))/\Below w.heap.size w wr) (λi _=>qb.size-(intOf i).toNat)
 case atStart=>exact⟨0,bx _,rfl,HT6.out,HB6.out⟩
 case round=>
  obtain⟨i,hi,rfl,O,U⟩:=hrel;by_cases al:i<qb.size
  .have aF:(i:Int)<(qb.size:Int):=by omega
   have aG:(i:Int)<(qb.size:Int)+1:=by omega
   have aH:(i:Int)+1<(qb.size:Int)+1:=by omega
   have aO:(0:Int)<=(i:Int)+1:=by omega
   obtain⟨r0,ae⟩:∃r0,r0=row.getD i 0:=⟨_,rfl⟩;obtain⟨W,af⟩:∃W,W=row.getD (i+1) 0:=⟨_,rfl⟩;obtain⟨x,hx⟩:∃x,x=(gG qb.data.toList c row (Y+1) i).getD i 0:=⟨_,rfl⟩;have aI:r0<=2097152:=by rw[ae,aU,bd (by rw[ab.out];omega)];exact ad.out _ (bc _)
   have aJ:W<=2097152:=by rw[af,aU,bd (by rw[ab.out];omega)];exact ad.out _ (bc _)
   have aP:x<=4194304:=by
    rw[hx,aU,bd (by rw[iV];omega)];exact tH _ _ row (Y+1) 4194304 (by omega) (λy hy=>by have:=ad.out y hy;omega) i (by rw[ab.out];omega) _ (bc _)
   obtain⟨b0,o0,aw,q0⟩:=ai.out i _ (iR row i (by rw[ab.out];omega));simp only[ca,cb]at aw;obtain⟨rfl,rfl,_⟩:=aw;obtain⟨b1,o1,ax,q1⟩:=ai.out (i+1) _ (iR row (i+1) (by rw[ab.out];omega));simp only[ca,cb]at ax;obtain⟨rfl,rfl,_⟩:=ax;have p0:=b9 U q0;have p1:=b9 U q1;rw[<-ae]at p0;rw[<-af]at p1;obtain⟨bt,ot,aa,am⟩:=jh O i _ (iR _ i (by rw[BC hi];omega));simp only[ca,cb]at aa;obtain⟨rfl,rfl,_⟩:=aa;rw[b2,MA,<-hx]at am;obtain⟨bt,ot,aa,an⟩:=jh O (i+1) _ (iR _ (i+1) (by rw[BC hi];omega));simp only[ca,cb]at aa;obtain⟨rfl,rfl,_⟩:=aa;rw[b2]at an;obtain⟨ov,aR⟩:∃ov:Int,wr.cell? ⟨w.heap.size,i+1,none⟩=some (.int .i64 ov):=⟨_,an⟩;have aS:=rl O (i+1);have ay:bG (row.getD i 0=r0):=ae.symm;have az:bG (row.getD (i+1) 0=W):=af.symm;have a0:bG ((gG qb.data.toList c row (Y+1) i).getD i 0=x):=hx.symm;have aT:IntKind.i64.wrap ((i:Int)+1)=(i:Int)+1:=Kl _ _ rfl (by omega) (by omega);have aK:IntKind.i64.wrap ((W:Int)+1)=(W:Int)+1:=Kl _ _ rfl (by omega) (by omega);have aL:IntKind.i64.wrap ((x:Int)+1)=(x:Int)+1:=Kl _ _ rfl (by omega) (by omega);have a3:bG (qb.data.toList.getD i 0=qb[i]):=j6 qb i al;have a4:bG (wr.ownsRow w.heap.size 3 1 (.slice (some ⟨w.heap.size,0,none⟩) (qb.size+1) (qb.size+1)) (qb.size+1) (dX (jX qb.data.toList c row (Y+1) qb.size i))):=O;have a':bG (Below _ _ _):=U;clear q0 q1 ae af hx O U an HT6 HB6 ak ah av a9;by_cases hc:qb[i]=c
   case' pos=>
    have aA:((qb[i].toNat:Int)==(c.toNat:Int))=true:=by rw[rq,hc];simp
    have ao:bG ((if qb.data.toList.getD i 0=c then 0 else 1)=0):=by show _=_;rw[a3.out,if_pos hc]
    have HM:bG (∀m:Nat,m=min (min (r0) (W+1)) (x+1)->(dX (jX qb.data.toList c row (Y+1) qb.size i)).set (i+1) (.int .i64 (m:Int))=dX (jX qb.data.toList c row (Y+1) qb.size (i+1))):=λm hm=>zG al (by rw[ay.out,az.out,a0.out,ao.out];omega);clear hc;go_wp2
   case' neg=>
    have aA:((qb[i].toNat:Int)==(c.toNat:Int))=false:=by rw[rq];simpa using hc
    have ao:bG ((if qb.data.toList.getD i 0=c then 0 else 1)=1):=by show _=_;rw[a3.out,if_neg hc]
    have HM:bG (∀m:Nat,m=min (min (r0+1) (W+1)) (x+1)->(dX (jX qb.data.toList c row (Y+1) qb.size i)).set (i+1) (.int .i64 (m:Int))=dX (jX qb.data.toList c row (Y+1) qb.size (i+1))):=λm hm=>zG al (by rw[ay.out,az.out,a0.out,ao.out];omega);clear hc;go_wp2
   all_goals
    have s0:(wr.drew).cell? ⟨bQ,oQ+(i+1),none⟩=some (.int .i64 W):=p1;have s1:(wr.drew).cell? ⟨w.heap.size,i,none⟩=some (.int .i64 x):=am;refine b' (S:=λw'=>w'.cell? ⟨bQ,oQ+(i+1),none⟩=some (.int .i64 W)/\w'.cell? ⟨w.heap.size,i,none⟩=some (.int .i64 x)) (by kernel_rfl) ?_;refine fU 0 ?_ ⟨s0,s1⟩ ?_<|fU 1 ?_ ⟨s0,s1⟩ ?_<|fU 2 ?_ ⟨s0,s1⟩ ?_<|fU 3 ?_ ⟨s0,s1⟩ ?_<|fU 4 ?_ ⟨s0,s1⟩ ?_<|fU 5 ?_ ⟨s0,s1⟩ ?_<|fU 6 ?_ ⟨s0,s1⟩ ?_<|fU 7 ?_ ⟨s0,s1⟩ ?_<|fU 8 ?_ ⟨s0,s1⟩ ?_<|fU 9 ?_ ⟨s0,s1⟩ ?_<|fU 10 ?_ ⟨s0,s1⟩ ?_<|fU 11 ?_ ⟨s0,s1⟩ ?_<|fU 12 ?_ ⟨s0,s1⟩ ?_<|fU 13 ?_ ⟨s0,s1⟩ ?_<|fU 14 ?_ ⟨s0,s1⟩ ?_<|fU 15 ?_ ⟨s0,s1⟩ ?_<|fU 16 ?_ ⟨s0,s1⟩ ?_ ?_
    any_goals(rintro w' ⟨t0,t1⟩;go_simp;first|done|with_reducible rfl)
    refine l5 17 λK' a5=>?_;unfold Oper.wp;go_simp
   case' pos=>
    obtain⟨m,hm⟩:∃m:Nat,m=min (min (r0) (W+1)) (x+1):=⟨_,rfl⟩
    have ag:(if(x:Int)+1<(if(W:Int)+1<(r0:Int)then(W:Int)+1 else(r0:Int))then(x:Int)+1 else(if(W:Int)+1<(r0:Int)then(W:Int)+1 else(r0:Int)))=(m:Int):=by
     rw[hm];split<;>split at * <;> omega
    rw[ag]
   case' neg=>
    obtain⟨m,hm⟩:∃m:Nat,m=min (min (r0+1) (W+1)) (x+1):=⟨_,rfl⟩
    have ag:(if(x:Int)+1<(if W<r0 then(W:Int)+1 else((r0:Int)+1))then(x:Int)+1 else(if W<r0 then(W:Int)+1 else((r0:Int)+1)))=(m:Int):=by
     rw[hm];split<;>split at * <;> omega
    rw[ag]
   all_goals
    have HO8:bG ((wr.setCell ⟨w.heap.size,i+1,none⟩ (.int .i64 m)).drew.ownsRow w.heap.size 3 1 (.slice (some ⟨w.heap.size,0,none⟩) (qb.size+1) (qb.size+1)) (qb.size+1) (dX (jX qb.data.toList c row (Y+1) qb.size (i+1)))):=by
     show bY _ _ _ _ _ _ _;rw[<-HM.out m hm];exact zI a4.out (i+1) (.int .i64 m) (by omega)
    have HB8:bG (Below w.heap.size w (wr.setCell ⟨w.heap.size,i+1,none⟩ (.int .i64 m)).drew):=(bL a'.out (bw _) _).drew;refine a5 _ _ ⟨⟨?_,?_⟩,bE (by kernel_rfl) ?_ _⟩;show(wr.setCell ⟨w.heap.size,i+1,none⟩ (.int .i64 m)).cell? _=_;rw[World.cell?_setCell_far _ _ _ _ (by show w.heap.size≠bQ;omega)];exact p1
    .show(wr.setCell ⟨w.heap.size,i+1,none⟩ (.int .i64 m)).cell? _=_;rw[World.cell?_setCell_other _ _ _ _ (by intro e;simp at e)];exact am
    clear a5 ag hm;go_wp2;go_roundw
    case rel=>exact⟨i+1,by omega,by go_num,HO8.out,HB8.out⟩
    case measure=>simp[intOf];omega
  have aB:i=qb.size:=by omega
  subst aB
  have aC:bG (wr.ownsRow w.heap.size 3 1 (.slice (some ⟨w.heap.size,0,none⟩) (qb.size+1) (qb.size+1)) (qb.size+1) (dX (gG qb.data.toList c row (Y+1) qb.size))):=by
   show bY _ _ _ _ _ _ _;rw[<-Lg];exact O
  have aD:bG (Below _ _ _):=U;clear O U;go_wp2;go_ret;exact⟨w.heap.size,rfl,aC.out,aD.out⟩
theorem Fa(a:Wd)(c:UInt8)(row:List Nat)(z:Nat):∀i,(gG a c row z i).getD 0 0=z:=by
 intro i;induction i with
 |zero=>rfl|succ i y=>
  rw[gG,aU,bl (by rw[iV];omega)];exact y
theorem Iv(a s:Wd)(k:Nat):(iG a s k).getD 0 0=k:=by
 cases k with
 |zero=>simp[iG]|succ k=>rw[iG,Fa]
theorem qp(qb y:ByteArray)(most:Nat)(w:World)(ar:1<=most)(au:most<=2)(hq:qb.size<=1048576)(hs:y.size<=1048576) :
  b7 prog 242 #[.string qb,.string y,.int .i64 most] w λe w'=>e=.returned (.bool (gD (most+1) qb.data.toList y.data.toList))/\Below w.heap.size w w':=by
 have ad:qb.data.toList.length=qb.size:=by simp
 have U:bG (qb.data.toList.length=qb.size):=ad
 have HF:bG (gD (most+1) qb.data.toList y.data.toList=(List.range (y.size+1)).any λk=>decide (oP qb.data.toList y.data.toList k<most+1)):=by
  show _=_;unfold gD;rw[if_neg (by omega),if_neg (by omega)];simp
 clear ad;go_enter func242,ntmps242;go_wp2_with fail;refine(xi qb w hq).mono ?_;rintro e w1 ⟨g1,rfl,ae,af⟩
 have HO1:bG (w1.ownsRow w.heap.size 3 1 (.slice (some ⟨g1,0,none⟩) (qb.size+1) (qb.size+1)) (qb.size+1) (dX (iG qb.data.toList y.data.toList 0))):=by
  show bY _ _ _ _ _ _ _;rw[iG,U.out];exact ae
 have HB1:bG (Below _ _ _):=af;clear ae af;go_wp2;go_loopw [7,13] (λv iv wr=>∃(k g:Nat),k<=y.size/\iv=.int .i64 k/\v=.slice (some ⟨g,0,none⟩) (qb.size+1) (qb.size+1)/\wr.ownsRow w.heap.size 3 1 (.slice (some ⟨g,0,none⟩) (qb.size+1) (qb.size+1)) (qb.size+1) (dX (iG qb.data.toList y.data.toList k))/\(∀j,j<k->¬oP qb.data.toList y.data.toList j<most+1)/\Below w.heap.size w wr) (λ_ i _=>y.size-(intOf i).toNat)
 case atStart=>exact⟨0,g1,bx _,rfl,rfl,HO1.out,λj hj=>by omega,HB1.out⟩
 case round=>
  obtain⟨k,g,hk,rfl,rfl,O,ag,W⟩:=hrel;have ah:bG (∀j,j<k->¬oP qb.data.toList y.data.toList j<most+1):=ag;have ab:bG (Below _ _ _):=W;have HS:=W.size;have av:(qb.size:Int)<(qb.size:Int)+1:=by omega
  obtain⟨dd,ac⟩:∃dd,dd=oP qb.data.toList y.data.toList k:=⟨_,rfl⟩;obtain⟨bt,ot,ai,al⟩:=jh O qb.size _ (iR _ qb.size (by rw[ve,U.out];omega));simp only[ca,cb]at ai;obtain⟨rfl,rfl,_⟩:=ai;have e1:(iG qb.data.toList y.data.toList k).getD qb.size 0=dd:=by rw[ac];unfold oP;rw[U.out]
  rw[b2,e1]at al;have Y:bG (dd=oP qb.data.toList y.data.toList k):=ac;clear ag W ac e1;by_cases am:k<y.size
  .have aq:(k:Int)<(y.size:Int):=by omega
   by_cases hd:dd<=most
   .have an:(dd:Int)<=(most:Int):=by omega
    have HY:bG (gD (most+1) qb.data.toList y.data.toList=true):=by
     show _=_;rw[HF.out];exact any_some k (by omega) (by rw[<-Y.out];simp;omega)
    clear O;go_wp2;go_ret;exact⟨dM HY.out.symm,ab.out⟩
   have an:¬((dd:Int)<=(most:Int)):=by omega
   have aa:=IV (iG qb.data.toList y.data.toList k) qb y[k] (.slice (some ⟨g,0,none⟩) (qb.size+1) (qb.size+1)) wr hq (Rd.jb O) (by rw[ve,U.out]) (λx hx=>by have:=EK _ _ _ x hx;rw[U.out]at this;omega);rw[Iv]at aa
   have e2:gG qb.data.toList y[k] (iG qb.data.toList y.data.toList k) (k+1) qb.size=iG qb.data.toList y.data.toList (k+1):=by
    rw[iG,U.out,j6 y k am]
   rw[e2]at aa;clear O e2;go_wp2_with fail;refine aa.mono ?_;rintro e w3 ⟨g3,rfl,aj,ak⟩;have HO3:bG (w3.ownsRow w.heap.size 3 1 (.slice (some ⟨g3,0,none⟩) (qb.size+1) (qb.size+1)) (qb.size+1) (dX (iG qb.data.toList y.data.toList (k+1)))):=jH aj HS;have ao:bG (Below w.heap.size w w3):=ab.out.trans (ak.mono HS);clear aa aj ak;go_wp2;go_roundw
   case rel=>exact⟨k+1,g3,by omega,by go_num,rfl,HO3.out,λj hj=>by
    rcases b5 j k with h|h
    exact ah.out j h;have e:j=k:=by omega
    subst e;rw[<-Y.out];omega,ao.out⟩
   case measure=>simp[intOf];omega
  have ap:k=y.size:=by omega
  subst ap
  have HY:bG (gD (most+1) qb.data.toList y.data.toList=decide (dd<=most)):=by
   show _=_;rw[HF.out];by_cases hd:dd<=most;rw[any_some y.size (by omega) (by rw[<-Y.out];simp;omega)];simp;omega;rw[any_none (λi hi=>?_)];simp;omega;rcases b5 i y.size with h|h
   have:=ah.out i h;simpa using this;have e:i=y.size:=by omega
   subst e;rw[<-Y.out];simp;omega
  go_wp2;go_ret;exact⟨dM HY.out.symm,ab.out⟩
theorem LY(m:Nat)(qb y:ByteArray)(w:World)(hm:m<=3)(U:qb.size<=1048576)(O:y.size<=1048576) :
  b7 prog 215 #[.int .i64 m,.string qb,.string y] w λe w'=>e=.returned (.bool (gD m qb.data.toList y.data.toList))/\Below w.heap.size w w':=by
 have W:m=0\/m=1\/m=2\/m=3:=by omega
 rcases W with rfl|rfl|rfl|rfl
 .have Y:bG (gD 0 qb.data.toList y.data.toList=nF y.data.toList qb.data.toList):=rfl;go_enter bR,bP;go_wp2_with fail;refine(zx y qb w).mono ?_;rintro e w' ⟨rfl,rfl⟩;go_wp2;go_ret;exact⟨dM Y.out.symm,bJ _ _⟩
 .go_enter bR,bP;go_wp2_with fail;refine(Dy qb y w O).mono ?_;rintro e w' ⟨rfl,rfl⟩;go_wp2;go_ret;exact⟨rfl,bJ _ _⟩
 .go_enter bR,bP;go_wp2_with fail;refine(qp qb y 1 w (by omega) (by omega) U O).mono ?_;rintro e w' ⟨rfl,hb⟩;go_wp2;go_ret;exact⟨rfl,hb⟩
 go_enter bR,bP;go_wp2_with fail;refine(qp qb y 2 w (by omega) (by omega) U O).mono ?_;rintro e w' ⟨rfl,hb⟩;go_wp2;go_ret;exact⟨rfl,hb⟩
end
end Go.Proofs.YtocbogeoffeolaaGreatDoor
