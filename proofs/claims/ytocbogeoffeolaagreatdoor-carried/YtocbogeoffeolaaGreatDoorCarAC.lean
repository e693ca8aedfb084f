import Derived.Test.YtocbogeoffeolaaGreatDoorCarAB
import Derived.OrdersHeld
import Derived.RegionTactic
import Derived.Deep.RegionHeld3
import Derived.Recover
import Derived.Laws.EntriesVeiled
set_option linter.all false
set_option maxHeartbeats 8000000
set_option maxRecDepth 1000000
open List renaming getD_eq_getElem?_getD->a0,length_append->aX,length_map->aY,mem_map->aZ,mem_cons_self->ba,map_append->bc,append_nil->bd,length_cons->be,getElem_mem->bf,getElem?_eq_getElem->bg,getElem_append_right->bh,append_assoc->bi,getElem_append_left->bj,mem_cons_of_mem->bk,mem_filter->bl,replicate->bm,getElem?_append_left->bn,map_cons->bo,take_of_length_le->bp,mem_append_right->bq,replicate_succ->br,filter_eq_self->bs,mem_singleton->bu,nodup_append->bv,perm_middle->bw,map_nil->bx
open Go renaming maxLen->bz,Calls->b2,heap_alloc_new->b3,cell_later->b4,wp_region_held->b5,results->b6,wpList->b7,TypeId->b8,wpAnyH->b9,callsD_of_wpS->b',wpAnyH_done->bA,leaves_cons->bB,wpS_region->bC,info_parts->bD
open Nat renaming le_refl->bE,zero_le->bF,le_trans->bG,zero_add->bH,shiftLeft_add_eq_or_of_lt->bI,lt_of_lt_of_le->bJ,lt_or_ge->bK
open Option renaming bind_some->bL,bind_eq_some_iff->bM,bind_assoc->bN
open Go.RowKit renaming Hid->bO,wrap64->bP,run_makeMap->bR
open Go.RowKit.Below renaming refl->bS,heap_alloc->bT,setCell->bU
open Go.Proofs.Tryz renaming underlying9->bV,underlying85->bW,underlying214->bX,ntmps215->bY,func215->bZ,underlying136->ca,ntmps69->cb,results210->cd,results158->ce,func69->cf
open Go.World renaming grownBy_alloc->cg,ownsRow->ch,setCell->ci
open Option.some renaming injEq->cj
open Go.Addr.mk renaming injEq->ck
open List.Perm renaming refl->cl
open Go.IntKind renaming wrap_i64->cm
open Go.Op renaming bytesLess->cn
open Go renaming undef->cq
namespace Go.Proofs.YtocbogeoffeolaaGreatDoor
open Go.Proofs.Tryz
section
variable {a:Act} {listed:Array Bool} {fuel:Nat} {w:World}
section
variable {P:Program} {md:Region.Mode} {ops:Array Oper} {Q:Exit->Act->World->Prop} {S:World->Prop}
def fJ(i:Nat)(v:Value){y:Oper}(O:S w)
  (U:∀w,S w->(execOp a.eval y).run P w=.ok (.value v) w) (h:b9 P md ops Q S fuel (listed.setIfInBounds i true) (a.put y.dst v) w)
  (hi:ops[i]?=some y:=by rfl) (W:Region.noSelect ops=true:=by kernel_rfl) (Y:Region.free md ops listed i=true:=by kernel_rfl)
  (hr:(Region.ready md ops listed).contains i=true:=by kernel_rfl) (hQ:∀c a w,Q (.panic c) (a.put y.dst v) w->Q (.panic c) a w:=by exact λ_ _ _ h=>h)
  (hw:Region.wanted y (yielded ops a.tmps)=true:=by rfl):b9 P md ops Q S (fuel+1) listed a w:=
 wpAnyH_take hi W Y hr hQ (.inl ⟨hw,U⟩) O h
def j9(i:Nat){o:Oper}(h:∀K':Act->World->Prop,(∀y w',S w'/\b9 P md ops Q S fuel (listed.setIfInBounds i true) y w'->K' y w')->Oper.wp P o a w K' Q)
  (O:Region.ready md ops listed=[i]:=by kernel_rfl) (U:ops[i]?=some o:=by rfl) (W:Region.wanted o (yielded ops a.tmps)=true:=by rfl):b9 P md ops Q S (fuel+1) listed a w:=
 wpAnyH_all O (by simp) λj Y=>by
  obtain rfl:j=i:=by simpa using Y
  exact wpOp_step U λK' hK=>by rw[if_pos W];exact h K' hK
end
open Go.RowKit
def EJ:PanicEntry:={v:=.iface 264 (.agg #[]),recovered:=false}
def gF(w:World):b2 prog 212 #[.bool true] w λe w'=>e=.returned (.tuple #[])/\w=w':=by
 go_wp2;go_end0;exact⟨rfl,rfl⟩
def iE(w:World):b2 prog 212 #[.bool false] w λe w'=>e=.panicked [EJ]/\w=w':=by
 go_wp2;exact⟨rfl,rfl,rfl⟩
def B6(w:World)(Rb:Nat)(S:ByteArray)(p:Nat)(Mk:Nat)(y:Value):Prop:=w.heap[Rb]?=some (.cells #[.string S,.int .i64 p,.map (some Mk),y] 216 (0,0))
def Lj(s:ByteArray)(p n:Nat):s.extract p (p+n)=⟨((s.data.toList.drop p).take n).toArray⟩:=by
 apply ByteArray.ext;apply Array.ext';simp[List.take_drop]
def jV{w:World}{b o:Nat}{v:Value}{F:Nat->Prop}(hF:F b):dw F w (w.setCell ⟨b,o,none⟩ v):=
 ⟨rfl,rfl,rfl,by simp[ci],λk O y=>Below.heap_setCell _ _ _ _ (by intro e;subst e;exact y hF)⟩
def O2(Rb:Nat)(S:ByteArray)(p Mk:Nat)(O:Value)(n:Nat)(w:World)(h:B6 w Rb S p Mk O)(hp:p+n<=S.size)(hS:S.size<=1099511627776) :
  b2 prog 236 #[.pointer (some ⟨Rb,0,none⟩),.int .i64 n] w λe w'=>e=.returned (.string (S.extract p (p+n)))/\B6 w' Rb S (p+n) Mk O/\dw (· = Rb) w w'/\w'.heap.size=w.heap.size:=by
 unfold B6 at h;have c0:=dn h;have f1:=dO h 1;have HH:bO _:=h;have aa:IntKind.i64.wrap ((S.size:Int)-(p:Int))=(S.size:Int)-(p:Int):=by simp only[cm];omega
 have ab:(n:Int)<=(S.size:Int)-(p:Int):=by omega
 have U:IntKind.i64.wrap ((p:Int)+(n:Int))=((p+n:Nat):Int):=by simp only[cm];omega
 have W:(p:Int)<=((p+n:Nat):Int):=by omega
 have Y:((p+n:Nat):Int)<=(S.size:Int):=by omega
 clear h;go_enter func236,ntmps236;go_wp2_with fail;go_region_held3 (λw'=>w'.cell? ⟨Rb,0,none⟩=some (.string S)/\w'.cell? ⟨Rb,1,none⟩=some (.int .i64 p)) (go_keep) (first|(go_at_call 212;refine(gF _).mono ?_;rintro e w' ⟨rfl,rfl⟩));go_wp2_with fail;go_quiet (fail);go_wp2;go_ret
 have h1:((w.drewN (1+nq)).setCell ⟨Rb,1,none⟩ (.int .i64 ((p:Int)+(n:Int)))).heap[Rb]?=some (.cells #[.string S,.int .i64 ((p+n:Nat):Int),.map (some Mk),O] 216 (0,0)):=by
  rw[heap_set (w:=w.drewN (1+nq)) HH.out];simp
 refine⟨rfl,h1,?_,by simp[ci,World.drewN]⟩;have y:=jV (w:=w.drewN (1+nq)) (b:=Rb) (o:=1) (v:=.int .i64 ((p:Int)+(n:Int))) (F:=(· = Rb)) rfl;exact⟨y.os,y.tape,y.output,y.size,y.block⟩
def OY(R:Ending->World->Prop)(Rb:Nat)(S:ByteArray)(p Mk:Nat)(U:Value)(n:Nat)(w:World)(h:B6 w Rb S p Mk U)(hp:S.size<p+n)(W:p<=S.size)(hS:S.size<=1099511627776)(y:R (.panicked [EJ]) w.drew) :
  b2 prog 236 #[.pointer (some ⟨Rb,0,none⟩),.int .i64 n] w R:=by
 unfold B6 at h;have c0:=dn h;have Y:IntKind.i64.wrap ((S.size:Int)-(p:Int))=(S.size:Int)-(p:Int):=by simp only[cm];omega
 have aa:decide ((n:Int)<=(S.size:Int)-(p:Int))=false:=decide_eq_false (by omega);have O:∀tm:Array Value,bodyPost prog f236 R (.panic [EJ]) {tmps:=tm,defers:=[]} w.drew:=λ_=>⟨rfl,y⟩;clear h;go_enter func236,ntmps236;go_wp2_with fail;refine b5 (S:=λw'=>w'=w.drew) (by kernel_rfl) ?_;refine fJ 0 ?_ rfl ?_<|fJ 1 ?_ rfl ?_<|fJ 2 ?_ rfl ?_<|fJ 3 ?_ rfl ?_<|fJ 4 ?_ rfl ?_<|fJ 5 ?_ rfl ?_<|fJ 6 ?_ rfl ?_<|fJ 7 ?_ rfl ?_<|fJ 8 ?_ rfl ?_<|fJ 9 ?_ rfl ?_<|fJ 10 ?_ rfl ?_<|fJ 11 ?_ rfl ?_ ?_
 any_goals(rintro _ rfl;go_simp;first|done|with_reducible rfl)
 refine j9 12 λK' _=>?_;unfold Oper.wp;go_simp;refine(iE _).mono ?_;rintro e w' ⟨rfl,rfl⟩;exact⟨rfl,y⟩
def SC(Rb:Nat)(S:ByteArray)(p Mk:Nat)(O:Value)(n:Nat)(w:World)(h:B6 w Rb S p Mk O)(U:S.size<p+n)(y:p<=S.size)(W:S.size<=1099511627776) :
  b2 prog 236 #[.pointer (some ⟨Rb,0,none⟩),.int .i64 n] w λe w'=>e=.panicked [EJ]/\dw (· = Rb) w w'/\w'.heap.size=w.heap.size:=
 OY _ Rb S p Mk O n w h U y W ⟨rfl,⟨rfl,rfl,rfl,bE _,λ_ _ _=>rfl⟩,rfl⟩
def Kv(w:World)(Rb:Nat)(S:ByteArray)(rest:Wd)(Mk:Nat)(y:Value):Prop:=∃p:Nat,B6 w Rb S p Mk y/\p<=S.size/\S.data.toList.drop p=rest
def Ends{α:Type}(F:Nat->Prop)(w:World)(X:Option α)(ok:α->Ending->World->Prop)(e:Ending)(w':World):Prop:=dw F w w'/\match X with
 |some x=>ok x e w'|none=>e=.panicked [EJ]
def A6(Rb:Nat)(S:ByteArray)(rest:Wd)(Mk:Nat)(y:Value)(n:Nat)(w:World)(h:Kv w Rb S rest Mk y)(U:S.size<=1099511627776) :
  b2 prog 236 #[.pointer (some ⟨Rb,0,none⟩),.int .i64 n] w (Ends (· = Rb) w (qy n rest) λx e w'=>e=.returned (.string ⟨x.1.toArray⟩)/\Kv w' Rb S x.2 Mk y/\w'.heap.size=w.heap.size):=by
 obtain⟨p,W,h2,rfl⟩:=h;have hl:(S.data.toList.drop p).length=S.size-p:=by simp
 unfold qy;by_cases Y:n<=(S.data.toList.drop p).length;rw[if_pos Y];refine(O2 Rb S p Mk y n w W (by omega) U).mono ?_;rintro e w' ⟨rfl,g1,O,g3⟩;refine⟨O,?_,⟨p+n,g1,by omega,by simp⟩,g3⟩;rw[Lj];rw[if_neg Y];refine(SC Rb S p Mk y n w W (by omega) h2 U).mono ?_;rintro e w' ⟨rfl,O,g3⟩;exact⟨O,rfl⟩
def nY(Rb:Nat)(S:ByteArray)(rest:Wd)(Mk:Nat)(y:Value)(w:World)(h:Kv w Rb S rest Mk y)(Y:S.size<=1099511627776) :
  b2 prog 233 #[.pointer (some ⟨Rb,0,none⟩)] w (Ends (· = Rb) w (rdNum rest) λx e w'=>e=.returned (.int .i64 x.1)/\Kv w' Rb S x.2 Mk y/\w'.heap.size=w.heap.size):=by
 have W:=A6 Rb S rest Mk y 1 w h Y
 cases rest with
 |nil=>
  go_enter func233,ntmps233;go_wp2_with fail;refine W.mono ?_;rintro e w' ⟨g1,O⟩;subst O;exact⟨rfl,g1,rfl⟩
 |cons b r=>
  go_enter func233,ntmps233;go_wp2_with fail;refine W.mono ?_;rintro e w' ⟨g1,O⟩;obtain⟨rfl,g3,g4⟩:=O;have U:bO (dw _ w w'/\Kv w' Rb S r Mk y/\w'.heap.size=w.heap.size):=⟨g1,g3,g4⟩;go_wp2;go_ret;refine⟨U.out.1,?_,U.out.2.1,U.out.2.2⟩;have hb:=b.toNat_lt;show Ending.returned (.int _ (bP b.toNat))=.returned _;refine eI ?_;unfold bP;omega
def dw.then{F:Nat->Prop}{a b c:World}(h:dw F a b)(k:dw F b c):dw F a c:=h.trans k (λ_ _ h=>h)
def uz(Rb:Nat)(S:ByteArray)(rest:Wd)(Mk:Nat)(W:Value)(w:World)(h:Kv w Rb S rest Mk W)(hS:S.size<=1099511627776) :
  b2 prog 213 #[.pointer (some ⟨Rb,0,none⟩)] w (Ends (· = Rb) w (iI rest) λx e w'=>e=.returned (.string ⟨x.1.toArray⟩)/\Kv w' Rb S x.2 Mk W/\w'.heap.size=w.heap.size):=by
 have Y:=nY Rb S rest Mk W w h hS;unfold iI;clear h
 cases U:rdNum rest with
 |none=>
  rw[U]at Y;clear U;go_enter func213,ntmps213;go_wp2_with fail;refine Y.mono ?_;rintro e w' ⟨g1,rfl⟩;exact⟨rfl,g1,rfl⟩
 |some x=>
  obtain⟨n,r⟩:=x;rw[U]at Y;go_enter func213,ntmps213;go_wp2_with fail;refine Y.mono ?_;rintro e w1 ⟨g1,rfl,g2,g3⟩;have O:=A6 Rb S r Mk W n w1 g2 hS
  cases U:qy n r with
  |none=>
   rw[U]at O;go_wp2_with fail;refine O.mono ?_;rintro e w2 ⟨g4,rfl⟩;exact⟨rfl,g1.then g4,by simp only[bL,U]⟩
  |some y=>
   rw[U]at O;have HN:bO _:=U;go_wp2_with fail;refine O.mono ?_;rintro e w2 ⟨g4,rfl,g5,g6⟩;have HF:bO (dw _ w w2/\Kv w2 Rb S _ Mk W/\w2.heap.size=w.heap.size):=⟨g1.then g4,g5,by omega⟩;go_wp2;go_ret;refine⟨HF.out.1,?_⟩;simp only[bL,HN.out];exact⟨rfl,HF.out.2⟩
def C6(n:Nat)(h:n<18446744073709551616):(BitVec.ofInt 64 (n:Int)).toNat=n:=by
 rw[BitVec.toNat_ofInt];omega
def Q9(x y:Nat)(O:x<4294967296)(U:y<4294967296):bits .or .i64 (x:Int) (y:Int)=((x ||| y:Nat):Int):=by
 show IntKind.i64.wrap ((BitVec.ofInt 64 x ||| BitVec.ofInt 64 _).toNat)=_;rw[BitVec.toNat_or,C6 x (by omega),C6 y (by omega)];have h:x ||| y<2 ^ 32:=Nat.or_lt_two_pow (by omega) (by omega)
 rw[cm];omega
def Kt(a b c:UInt8):bits BinOp.or IntKind.i64 (bits BinOp.or IntKind.i64 (bP (bP (a.toNat:Int)*65536)) (bP (bP (b.toNat:Int)*256))) (bP (c.toNat:Int))=((a.toNat*65536+b.toNat*256+c.toNat:Nat):Int):=by
 have ha:=a.toNat_lt;have hb:=b.toNat_lt;have hc:=c.toNat_lt;have y:bP (bP a.toNat*65536)=((a.toNat <<< 16)):=by unfold bP;omega
 have O:bP (bP b.toNat*256)=((b.toNat <<< 8)):=by unfold bP;omega
 have U:bP c.toNat=c.toNat:=by unfold bP;omega
 have W:a.toNat <<< 16<4294967296:=by omega
 have Y:b.toNat <<< 8<2 ^ 16:=by omega
 have j1:a.toNat <<< 16 ||| b.toNat <<< 8=a.toNat <<< 16+b.toNat <<< 8:=(bI Y _).symm
 have j2:(a.toNat <<< 16+b.toNat <<< 8) ||| c.toNat=a.toNat <<< 16+b.toNat <<< 8+c.toNat:=by
  have:a.toNat <<< 16+b.toNat <<< 8=(a.toNat*256+b.toNat) <<< 8:=by omega
  rw[this];exact(bI (by omega) _).symm
 rw[y,O,U,Q9 _ _ W (by omega),j1,Q9 _ _ (by omega) (by omega),j2];simp only[Nat.shiftLeft_eq]
def yF(Rb:Nat)(S:ByteArray)(rest:Wd)(Mk:Nat)(W:Value)(w:World)(h:Kv w Rb S rest Mk W)(Y:S.size<=1099511627776) :
  b2 prog 237 #[.pointer (some ⟨Rb,0,none⟩)] w (Ends (· = Rb) w (gh rest) λx e w'=>e=.returned (.int .i64 x.1)/\Kv w' Rb S x.2 Mk W/\w'.heap.size=w.heap.size):=by
 have y:=A6 Rb S rest Mk W 3 w h Y;clear h Y
 have O:∀rest:Wd,rest.length<3->b2 prog 236 #[.pointer (some ⟨Rb,0,none⟩),.int .i64 3] w (Ends (· = Rb) w (qy 3 rest) λx e w'=>e=.returned (.string ⟨x.1.toArray⟩)/\Kv w' Rb S x.2 Mk W/\w'.heap.size=w.heap.size)->gh rest=none->
   b2 prog 237 #[.pointer (some ⟨Rb,0,none⟩)] w (Ends (· = Rb) w (gh rest) λx e w'=>e=.returned (.int .i64 x.1)/\Kv w' Rb S x.2 Mk W/\w'.heap.size=w.heap.size):=by
  intro rest hl y hw;have hn:qy 3 rest=none:=by unfold qy;rw[if_neg (by omega)]
  rw[hn]at y;rw[hw];go_enter func237,ntmps237;go_wp2_with fail;refine y.mono ?_;rintro e w' ⟨g1,rfl⟩;exact⟨rfl,g1,rfl⟩
 match rest,y with
 |[],y=>exact O _ (by simp) y rfl|[_],y=>exact O _ (by simp) y rfl|[_,_],y=>exact O _ (by simp) y rfl|a::b::c::r,y=>
  go_enter func237,ntmps237;go_wp2_with fail;refine y.mono ?_;rintro e w1 ⟨g1,rfl,g2,g3⟩;have U:bO (dw _ w w1/\Kv w1 Rb S r Mk W/\w1.heap.size=w.heap.size):=⟨g1,g2,g3⟩;go_wp2_with fail;go_quiet (fail);go_wp2;go_ret;refine⟨⟨U.out.1.os,U.out.1.tape,U.out.1.output,U.out.1.size,U.out.1.block⟩,?_,U.out.2.1,U.out.2.2⟩;exact eI (Kt a b c)
open Go.Maps
variable {l:List (Wd×Value)} {B:Nat} {P:Program} {k:b8}
def rS(s:ByteArray)(w:World)(hs:s.size<=bz) :
  b2 prog 69 #[.string s] w λe w'=>e=.returned (.bool (gq s.data.toList))/\w=w':=by
 unfold bz at hs;by_cases h0:0<s.size
 .by_cases h8:s.size<=8
  .go_enter cf,cb;go_wp2;go_loop [14] (λi=>∃k:Nat,k<=s.size/\i=.int .i64 k/\(s.data.toList.take k).all fu=true) (λi=>s.size-(intOf i).toNat)
   case atStart=>exact⟨0,bF _,rfl,rfl⟩
   case round=>
    obtain⟨k,hk,rfl,fG⟩:=hrel;have HA:bO _:=fG;clear fG;by_cases y:k<s.size
    .have HS:bO (s.data.toList.take (k+1)=s.data.toList.take k++[s[k]]):=vZ s k y;go_wp2_with fail;refine(na _ _).mono ?_;rintro e w' ⟨rfl,rfl⟩
     cases U:fu s[k]with
     |true=>
      have W:bO _:=U;clear U;go_wp2;go_round
      case rel=>exact⟨k+1,by omega,by go_num,by rw[HS.out,List.all_append,HA.out];simp[W.out]⟩
      case measure=>simp[intOf];omega
     |false=>
      have W:bO _:=U;clear U;go_wp2;go_ret;refine⟨eO ?_,rfl⟩;symm;rw[Bool.eq_false_iff];intro Y;simp only[gq,Bool.and_eq_true]at Y;have:=List.all_eq_true.1 Y.1.1 _ (D1 s k y);rw[W.out]at this;simp at this
    go_wp2;go_ret;refine⟨eO ?_,rfl⟩;have e:s.data.toList.take k=s.data.toList:=bp (by simp;omega);have O:=HA.out;rw[e]at O;unfold gq;rw[O];simp;omega
  go_enter cf,cb;go_wp2;go_ret;refine⟨eO ?_,rfl⟩;simp[gq];omega
 go_enter cf,cb;go_wp2;go_ret;refine⟨eO ?_,rfl⟩;simp[gq];omega
def xI(e:dp):Wd:=if e.gone then []else e.name
def rC(e:dp):Value:=.agg #[.bool e.gone,.string ⟨(xI e).toArray⟩,.string ⟨e.text.toArray⟩,.int .i64 e.du,.int .i64 e.dE]
def j6(e:dp):Wd×Value:=(e.name,rC e)
def SS(e:dp):Wd×Value:=(e.name,.agg #[])
def eE(w:World)(B:Nat)(es:List dp):Prop:=dM prog 9 w B (es.map j6)
def dM.map(h:dM P k w B l):∃es clock,w.heap[B]?=some (.map es clock):=by
 obtain⟨D,⟨es,clock,y,_⟩,_⟩:=h;exact⟨es,clock,y⟩
def dM.nP{b:Nat}(h:dM P k w B l){cs:Array Value}{t:b8}{fz:Nat×Nat}(hb:w.heap[b]?=some (.cells cs t fz)):B≠b:=by
 obtain⟨es,clock,y⟩:=h.map;intro e;rw[e,hb]at y;cases y
def eS{k:Nat}{o:Obj}(h:w.heap[k]?=some o):k<w.heap.size:=(Array.getElem?_eq_some_iff.1 h).1
def Mm(told:List dp)(x:Wd):((told.map SS).any λp=>p.1==x)=decide (x∈told.map dp.name):=by
 rw[Bool.eq_iff_iff,decide_eq_true_eq,List.any_eq_true,aZ];constructor;rintro⟨p,O,h⟩;obtain⟨e,y,rfl⟩:=aZ.1 O;exact⟨e,y,by simpa[SS]using h⟩;rintro⟨e,y,rfl⟩;exact⟨SS e,aZ.2 ⟨e,y,rfl⟩,by simp[SS]⟩
def Ng(told:List dp)(x:Wd):mS (told.map SS) x (.agg #[])=.agg #[]:=by
 unfold mS;split;rename_i p y;obtain⟨e,_,rfl⟩:=aZ.1 (List.mem_of_find?_eq_some y);rfl;rfl
def Md(y:List Wd)(last O:Wd):lL y last O=(iI O).bind λx=>if gq x.1=true/\cn last x.1=true/\x.1 ∉ y then some x else none:=rfl
def UN(x y:Wd):(!cn x y && !x==y)=cn y x:=by
 rcases iD x y with h|h|h
 rw[h,qq h];rfl;subst h;rw[ir];simp;rw[h,qq h];have:(x==y)=false:=by rw[beq_eq_false_iff_ne];exact λe=>BH h e.symm
 rw[this];rfl
def Rm(w:World):(zeroValue 263).run prog w=.ok (.agg #[]) w:=by kernel_rfl
def AN(e:dp):Value:=.agg #[.string ⟨e.name.toArray⟩,.string ⟨e.text.toArray⟩,.int .i64 e.du,.int .i64 e.dE]
def K4(told:List dp)(e:dp)(f:dp->Wd×Value)(y:∀e,(f e).1=e.name)(h:e.name ∉ told.map dp.name):rV (told.map f) e.name (f e).2=(told++[e]).map f:=by
 unfold rV;rw[bs.2,bc,bo,bx];have:(e.name,(f e).2)=f e:=by rw[<-y e]
 rw[this];intro p O;obtain⟨x,U,rfl⟩:=aZ.1 O;simp only[bne_iff_ne,ne_eq,y];intro W;exact h (aZ.2 ⟨x,U,W⟩)
def dw.qd{w':World}(h:w.grownBy w' (some B)):dw (· = B) w w':=⟨h.os,h.tape,h.output,h.size,λk y O=>h.block k y (λe=>O (by simpa using e))⟩
def NZ(Bx U:Nat)(told:List dp)(e:dp)(at_:Int)(w:World)(hx:w.heap[Bx]?=some (.cells #[.map (some U)] 85 (0,0)))(hs:eE w U told)(hn:e.name ∉ told.map dp.name)(hl:told.length<1099511627776)(ab:e.name.length<=bz) :
  b2 prog 130 #[.int .i64 at_,.string ⟨e.name.toArray⟩,rC e,.pointer (some ⟨Bx,0,none⟩)] w λen w'=>en=.returned (.tuple #[])/\eE w' U (told++[e])/\dw (· = U) w w':=by
 have ag:=eS hx;have hc:=dn hx 0;have O:=K4 told e j6 (λ_=>rfl) hn;obtain⟨w0,W⟩:∃w0,w.alloc (.cells #[.bool e.gone,.string ⟨(xI e).toArray⟩,.string ⟨e.text.toArray⟩,.int .i64 e.du,.int .i64 e.dE] 111)=w0:=⟨_,rfl⟩;have y:Below w.heap.size w w0:=by rw[<-W];exact(bS _ _).alloc (bE _) _
 have Y:eE w0 U told:=dM.below hs y;have aa:w0.heap[w.heap.size]?=some (.cells #[.bool e.gone,.string ⟨(xI e).toArray⟩,.string ⟨e.text.toArray⟩,.int .i64 e.du,.int .i64 e.dE] 111 (0,0)):=by rw[<-W];exact b3 w _
 have d0:=dn aa;have ah:=b4 y hc;have ac:bO _:=y;have ad:bO _:=Y;have HP:bO _:=O;clear hx hs hn aa hc y Y O;unfold rC;go_enter func130,ntmps130;go_wp2_with (first|(at_mapUpdate;refine jB _ rfl _ _ _ 85 rfl 111 bV bW rfl ad.out (by rw[aY];unfold bz;omega) e.name ab rfl (rC e) rfl ?_;intro w1 ae af ai));go_end0;refine⟨rfl,?_,?_⟩;unfold eE;rw[<-HP.out];exact ae;exact(dw.eQ ac.out).then (dw.qd af)
end
section
open Go.RowKit Go.Maps
variable {F:Nat->Prop} {α:Type}
def Told(e:dp):Prop:=e.name.length<=255/\e.text.length<=255/\(e.gone=false->0<=e.dE/\e.dE<=255)
structure Jf where
 fn:FuncId
 cp:Array Value
 own:Nat->Prop
 QN:Nat->Prop
 T:World->List (Nat×dp)->Prop
def Jf.v(t:Jf):Value:=.func (.func t.fn) #[] t.cp
structure Jf.Ok(t:Jf)(mx:Nat):Prop where
 gP:∃gP c,prog.funcs[t.fn]?=some gP/\gP.body=some c/\(gP.name == "runtime.NumGoroutine")=false
 sub:∀k,t.own k->t.QN k
 lt:∀{w told k},t.T w told->t.QN k->k<w.heap.size
 stay:∀{w w' told},t.T w told->(∀k,t.QN k->w'.heap[k]?=w.heap[k]?)->t.T w' told
 tell:∀(w:World)(q:Nat)(told:List (Nat×dp))(e:dp),t.T w told->e.name ∉ (sn told).map dp.name->told.length<1099511627776->Told e->q<=mx->
  b2 prog t.fn (#[.int .i64 (q:Int),.string ⟨e.name.toArray⟩,rC e]++t.cp) w λen w'=>en=.returned (.tuple #[])/\t.T w' (told++[(q,e)])/\dw t.own w w'
structure RG(w:World)(Rb Mk:Nat)(t:Jf)(S:ByteArray)(rest:Wd)(told:List (Nat×dp)):Prop where
 rd:Kv w Rb S rest Mk t.v
 kn:dM prog 9 w Mk ((sn told).map SS)
 sd:t.T w told
 qg:told.length+rest.length<=S.size
 ne:∀k,t.QN k->k≠Rb/\k≠Mk
def ud(Rb Mk:Nat)(t:Jf)(k:Nat):Prop:=k=Rb\/k=Mk\/t.own k
section
variable {w w':World} {Rb Mk mx:Nat} {t:Jf} {S:ByteArray} {rest r:Wd} {told:List (Nat×dp)}
def RG.mr(h:RG w Rb Mk t S rest told):Mk≠Rb:=by
 obtain⟨p,y,_⟩:=h.rd;exact h.kn.nP y
def RG.turn(y:t.Ok mx)(h:RG w Rb Mk t S rest told)(O:dw (· = Rb) w w')(W:Kv w' Rb S r Mk t.v)(Y:r.length<=rest.length):RG w' Rb Mk t S r told:=
 ⟨W,h.kn.stay (O.block _ h.kn.lt h.mr),y.stay h.sd λk U=>O.block k (y.lt h.sd U) (h.ne k U).1,by have:=h.qg;omega,h.ne⟩
def RG.below(y:t.Ok mx)(h:RG w Rb Mk t S rest told)(hb:Below w.heap.size w w'):RG w' Rb Mk t S rest told:=by
 obtain⟨p,O,U⟩:=h.rd;exact⟨⟨p,by unfold B6 at *;rw[hb.block Rb (eS O)];exact O,U⟩,h.kn.below hb,y.stay h.sd λk W=>hb.block k (y.lt h.sd W),h.qg,h.ne⟩
def RG.pos(h:RG w Rb Mk t S rest told):w.cell? ⟨Rb,1,none⟩=some (.int .i64 ((S.size-rest.length:Nat):Int)):=by
 obtain⟨p,y,O,rfl⟩:=h.rd;rw[dn y];have e:S.size-(S.data.toList.drop p).length=p:=by simp;omega
 rw[e];rfl
end
def Ends.no{w w':World}{X:Option α}{ok:α->Ending->World->Prop}(y:dw F w w')(O:X=none):Ends F w X ok (.panicked [EJ]) w':=⟨y,by rw[O]⟩
def Ends.S9{w w':World}{X:Option α}{ok:α->Ending->World->Prop}{x:α}{e:Ending}(y:dw F w w')(O:X=some x)(h:ok x e w'):Ends F w X ok e w':=⟨y,by rw[O];exact h⟩
def ue{Rb Mk mx:Nat}{t:Jf}{S:ByteArray}{rest:Wd}{told:List (Nat×dp)}{last:Wd}{w:World}(hT:t.Ok mx)(h:RG w Rb Mk t S rest told)(hS:S.size<=1099511627775) :
  b2 prog 234 #[.pointer (some ⟨Rb,0,none⟩),.string ⟨last.toArray⟩] w (Ends (· = Rb) w (lL ((sn told).map dp.name) last rest) λx e w'=>e=.returned (.string ⟨x.1.toArray⟩)/\RG w' Rb Mk t S x.2 told):=by
 have ht:=uz Rb S rest Mk t.v w h.rd (by omega);have HR:bO _:=h;have HT:bO _:=hT;obtain⟨X,hX⟩:∃X,lL ((sn told).map dp.name) last rest=X:=⟨_,rfl⟩;rw[hX];rw[Md]at hX;have HX:bO _:=hX;clear h hT hX;go_enter func234,ntmps234;go_wp2_with fail;refine ht.mono ?_;rintro e w1 ⟨g1,Y⟩;have U:bO _:=g1
 cases hx:iI rest with
 |none=>
  rw[hx]at Y;cases Y;exact⟨rfl,.no g1 (by rw[<-HX.out,hx];rfl)⟩
 |some x=>
  obtain⟨nm,r⟩:=x;rw[hx]at Y;obtain⟨rfl,Y,_⟩:=Y;obtain⟨y,ag⟩:=fW hx;have aa:bO _:=HR.out.turn HT.out g1 Y (by rw[y];simp);have W:bO (X=if gq nm=true/\cn last nm=true/\nm ∉ (sn told).map dp.name then some (nm,r)else none):=by show X=_;rw[<-HX.out,hx];rfl
  have ae:(⟨nm.toArray⟩:ByteArray).size<=bz:=by show nm.toArray.size<=bz;unfold bz;simp;omega
  have af:nm.length<=bz:=by unfold bz;omega
  clear g1 Y ht hx y HX HR;go_wp2_with fail;refine(rS _ _ ae).mono ?_;rintro e w' ⟨rfl,rfl⟩;rw[show gq (⟨nm.toArray⟩:ByteArray).data.toList=gq nm from rfl]
  cases ac:gq nm with
  |false=>
   have O:bO (X=none):=W.out.trans (if_neg (by rw[ac];simp));go_wp2_with fail;refine(iE _).mono ?_;rintro e w' ⟨rfl,rfl⟩;exact⟨rfl,.no U.out O.out⟩
  |true=>
   have HN:bO _:=ac;go_wp2_with fail;rw[UN]
   cases ad:cn last nm with
   |false=>
    refine(iE _).mono ?_;rintro e w' ⟨rfl,rfl⟩;exact⟨rfl,.no U.out (W.out.trans (if_neg (by rw[ad];simp)))⟩
   |true=>
    have HL:bO _:=ad;refine(gF _).mono ?_;rintro e w' ⟨rfl,rfl⟩
    have ah:w1.cell? ⟨Rb,2,none⟩=some (.map (some Mk)):=by
     obtain⟨p,h1,_⟩:=aa.out.rd;rw[dn h1];rfl
    have ab:=(aa.out.kn.look bV bX (Rm w1) nm af).2;have hb:=(bS _ w1).alloc (bE _) (.cells #[] 263);have HB:bO _:=hb;rw[Ng,Mm]at ab;by_cases hk:nm∈(sn told).map dp.name
    .rw[decide_eq_true hk]at ab;have O:bO _:=W.out.trans (if_neg λh=>h.2.2 hk);go_wp2_with fail;refine(iE _).mono ?_;rintro e w' ⟨rfl,rfl⟩;exact⟨rfl,.no (U.out.then (dw.eQ HB.out)) O.out⟩
    rw[decide_eq_false hk]at ab;have O:bO _:=W.out.trans (if_pos ⟨HN.out,HL.out,hk⟩);go_wp2_with fail;refine(gF _).mono ?_;rintro e w' ⟨rfl,rfl⟩;go_wp2;go_ret;exact .S9 (U.out.then (dw.eQ HB.out)) O.out ⟨rfl,aa.out.below HT.out HB.out⟩
variable {S:ByteArray} {told:List (Nat×dp)} {Mk Rb mx:Nat} {t:Jf} {nm rest:Wd} {w:World}
def RG.Vu{w':World}{b:Nat}{cs:Array Value}{W:b8}{fz:Nat×Nat}(O:t.Ok mx)(h:RG w Rb Mk t S rest told)(hb:w.heap[b]?=some (.cells cs W fz))(Y:b≠Rb)(h2:∀k,t.QN k->k≠b)(y:dw (· = b) w w'):RG w' Rb Mk t S rest told:=by
 obtain⟨p,g1,g2⟩:=h.rd;exact⟨⟨p,by unfold B6 at *;rw[y.block Rb (eS g1) (λe=>Y e.symm)];exact g1,g2⟩,h.kn.stay (y.block _ h.kn.lt (h.kn.nP hb)),O.stay h.sd λk U=>y.block k (O.lt h.sd U) (h2 k U),h.qg,h.ne⟩
def Ee{O:Wd}{e:dp}(h:ji nm rest=some (e,O)):∃tx wt tg r y,iI rest=some (tx,r)/\(eA tx=true/\tx≠[])/\gh r=some (wt,y)/\wt<=1000000/\rdNum y=some (tg,O)/\e=⟨nm,false,tx,wt,tg⟩:=by
 unfold ji at h;simp only[bM]at h;obtain⟨⟨tx,r⟩,U,h⟩:=h;split at h;rename_i W;simp only[bM]at h;obtain⟨⟨wt,y⟩,Y,h⟩:=h;split at h;rename_i hw;simp only[bM]at h;obtain⟨⟨tg,r4⟩,h3,h⟩:=h;cases h;exact⟨tx,wt,tg,r,y,U,W,Y,hw,h3,rfl⟩
 cases h
 cases h
def Si(hT:t.Ok mx)(h:RG w Rb Mk t S rest told)(hS:S.size<=1099511627775) :
  b2 prog 266 #[.pointer (some ⟨Rb,0,none⟩),.string ⟨nm.toArray⟩] w (Ends (· = Rb) w (ji nm rest) λx e w'=>e=.returned (AN x.1)/\RG w' Rb Mk t S x.2 told):=by
 obtain⟨w0,af⟩:∃w0,w.alloc (.cells #[.string ⟨#[]⟩,.string ⟨#[]⟩,.int .i64 0,.int .i64 0] 96)=w0:=⟨_,rfl⟩;have ag:Below w.heap.size w w0:=by rw[<-af];exact(bS _ _).alloc (bE _) _
 have W:bO (dw (· = Rb) w w0):=dw.eQ ag
 have aw:Rb<w.heap.size:=by
  obtain⟨p,h1,_⟩:=h.rd;exact eS h1
 have HH:bO (∀{w'},dw (· = Rb) w0 w'->w'.heap[w.heap.size]?=some (.cells #[.string ⟨#[]⟩,.string ⟨#[]⟩,.int .i64 0,.int .i64 0] 96 (0,0))):=λg=>by
  have e:=b3 w (.cells #[.string ⟨#[]⟩,.string ⟨#[]⟩,.int .i64 0,.int .i64 0] 96);rw[af]at e;rw[g.block _ (eS e) (by show w.heap.size≠Rb;omega)];exact e
 have HD:bO (∀k,t.QN k->k≠w.heap.size):=λk hk e=>by have:=hT.lt h.sd hk;omega
 have ah:bO _:=h.below hT ag;have ht:=uz Rb S rest Mk t.v w0 ah.out.rd (by omega);have HT:bO _:=hT;obtain⟨X,hX⟩:∃X,ji nm rest=X:=⟨_,rfl⟩;rw[hX];unfold ji at hX;have HX:bO _:=hX;clear h hT hX ag;go_enter func266,ntmps266;go_wp2_with fail;clear af;refine ht.mono ?_;rintro e w1 ⟨g1,O⟩;have aa:bO _:=g1;clear g1 ht
 cases U:iI rest with
 |none=>
  rw[U]at O;cases O;exact⟨rfl,.no (W.out.then aa.out) (by rw[<-HX.out,U];rfl)⟩
 |some x=>
 obtain⟨tx,r⟩:=x;rw[U]at O;obtain⟨rfl,O,_⟩:=O;obtain⟨ab,av⟩:=fW U;have ai:bO _:=ah.out.turn HT.out aa.out O (by rw[ab];simp);have aj:bO _:=U;have ap:(⟨tx.toArray⟩:ByteArray).size<=bz:=by show tx.toArray.size<=bz;unfold bz;simp;omega
 clear O U ab ah;go_wp2_with fail;refine(qH _ _ ap).mono ?_;rintro e w' ⟨rfl,rfl⟩;by_cases hq:eA tx=true/\tx≠[]
 case neg=>
  rw[show decide (eA (⟨tx.toArray⟩:ByteArray).data.toList=true/\(⟨tx.toArray⟩:ByteArray).data.toList≠[])=false from decide_eq_false hq];have Y:bO (X=none):=by show X=none;rw[<-HX.out,aj.out];exact if_neg hq
  clear hq;go_wp2_with fail;refine(iE _).mono ?_;rintro e w' ⟨rfl,rfl⟩;exact⟨rfl,.no (W.out.then aa.out) Y.out⟩
 rw[show decide (eA (⟨tx.toArray⟩:ByteArray).data.toList=true/\(⟨tx.toArray⟩:ByteArray).data.toList≠[])=true from decide_eq_true hq];have Y:bO (((gh r).bind λy=>if y.1<=1000000 then(rdNum y.2).bind λz=>some ((⟨nm,false,tx,y.1,z.1⟩:dp),z.2)else none)=X):=by show _=X;rw[<-HX.out,aj.out];exact(if_pos hq).symm
 clear hq HX aj;go_wp2_with fail;refine(gF _).mono ?_;rintro e w' ⟨rfl,rfl⟩;have hw:=yF Rb S r Mk t.v w1 ai.out.rd (by omega);go_wp2_with fail;refine hw.mono ?_;rintro e w2 ⟨g1,O⟩;have ad:bO _:=aa.out.then g1
 cases U:gh r with
 |none=>
  rw[U]at O;cases O;exact⟨rfl,.no (W.out.then ad.out) (by rw[<-Y.out,U];rfl)⟩
 |some x=>
 obtain⟨wt,r2⟩:=x;rw[U]at O;obtain⟨rfl,O,_⟩:=O;have ak:bO _:=ai.out.turn HT.out g1 O (by rw[(iJ U).1];simp);have al:bO _:=U;clear g1 O hw U ai aa;by_cases ae:wt<=1000000
 case neg=>
  have aq:decide ((wt:Int)<=1000000)=false:=decide_eq_false (by omega);have ac:bO (X=none):=by show X=none;rw[<-Y.out,al.out];exact if_neg ae
  clear ae;go_wp2_with fail;refine(iE _).mono ?_;rintro e w' ⟨rfl,rfl⟩;exact⟨rfl,.no (W.out.then ad.out) ac.out⟩
 have aq:(wt:Int)<=1000000:=by omega
 have ac:bO (((rdNum r2).bind λz=>some ((⟨nm,false,tx,wt,z.1⟩:dp),z.2))=X):=by show _=X;rw[<-Y.out,al.out];exact(if_pos ae).symm
 clear ae Y al;go_wp2_with fail;refine(gF _).mono ?_;rintro e w' ⟨rfl,rfl⟩;have hn:=nY Rb S r2 Mk t.v w2 ak.out.rd (by omega);go_wp2_with fail;refine hn.mono ?_;rintro e w3 ⟨g1,O⟩;have am:bO _:=ad.out.then g1
 cases U:rdNum r2 with
 |none=>
  rw[U]at O;cases O;exact⟨rfl,.no (W.out.then am.out) (by rw[<-ac.out,U];rfl)⟩
 |some x=>
 obtain⟨tg,r3⟩:=x;rw[U]at O;obtain⟨rfl,O,_⟩:=O;have ar:bO _:=ak.out.turn HT.out g1 O (by rw[(fA U).1];simp);have au:bO (X=some (⟨nm,false,tx,wt,tg⟩,r3)):=by show X=_;rw[<-ac.out,U];rfl
 have an:bO _:=HH.out am.out;clear g1 O hn U ak ad ac HH;have e0:=dn an.out;have z0:=dO an.out;go_wp2
 have ao:dw _ w3 ((((w3.setCell ⟨w.heap.size,0,none⟩ (.string ⟨nm.toArray⟩)).setCell ⟨w.heap.size,1,none⟩ (.string ⟨tx.toArray⟩)).setCell ⟨w.heap.size,2,none⟩ (.int .i64 wt)).setCell ⟨w.heap.size,3,none⟩ (.int .i64 tg)):=
  (((jV (F:=(· = w.heap.size)) rfl).then (jV rfl)).then (jV rfl)).then (jV rfl)
 exact bodyPost_ret (v:=AN _) (by simp[b6,results266,go_sem,e0,AN]) rfl (.S9 ((W.out.then am.out).trans ao λi hi hg=>by omega) au.out ⟨rfl,ar.out.Vu HT.out an.out (by omega) HD.out ao⟩)
def D9{P:Program}{f:FuncId}{gP:Func}{c:Code}(y:P.funcs[f]?=some gP)(hb:gP.body=some c)(O:(gP.name == "runtime.NumGoroutine")=false) (args:Array Value) (w:World):(callFunc f args).run P w=.ok (.enter f args) w:=by
 show((match P.funcs[f]? with|none=>_|some fn=>_:Sem _)).run P w=_;rw[y];simp only[O,hb,Bool.false_eq_true,if_false,Option.isNone_some];rfl
def GU{q mx:Nat}{t:Jf}{S:ByteArray}{rest:Wd}{e:dp}{w:World}(hT:t.Ok mx)(h:RG w Rb Mk t S rest told)(hS:S.size<=1099511627775)(hm:S.size<=mx)(hn:e.name ∉ (sn told).map dp.name)(ho:Told e)(a7:told.length+1+rest.length<=S.size)(hq:q<=S.size) :
  b2 prog 235 #[.pointer (some ⟨Rb,0,none⟩),.int .i64 (q:Int),.string ⟨e.name.toArray⟩,rC e] w λen w'=>en=.returned (.tuple #[])/\RG w' Rb Mk t S rest (told++[(q,e)])/\dw (ud Rb Mk t) w w':=by
 obtain⟨w0,ak⟩:∃w0,w.alloc (.cells #[.bool e.gone,.string ⟨(xI e).toArray⟩,.string ⟨e.text.toArray⟩,.int .i64 e.du,.int .i64 e.dE] 111)=w0:=⟨_,rfl⟩;have ad:Below w.heap.size w w0:=by rw[<-ak];exact(bS _ _).alloc (bE _) _
 have ae:w0.heap[w.heap.size]?=some (.cells #[.bool e.gone,.string ⟨(xI e).toArray⟩,.string ⟨e.text.toArray⟩,.int .i64 e.du,.int .i64 e.dE] 111 (0,0)):=by rw[<-ak];exact b3 w _
 have U:=h.below hT ad;have n1:=U.mr;have aa:=U.ne;have ap:∀k,t.QN k->k≠w.heap.size:=λk O e=>by have:=hT.lt h.sd O;omega
 obtain⟨p,hp1,al⟩:=id U.rd;unfold B6 at hp1;have c2:=dn hp1 2;have aq:Mk≠w.heap.size:=U.kn.nP ae;have ac:=K4 (sn told) e SS (λ_=>rfl) hn;have ar:e.name.length<=bz:=by have:=ho.1;unfold bz;omega
 obtain⟨gP,cc,au,av,aw⟩:=hT.gP;have af:bO _:=U;have ag:bO _:=And.intro hp1 al;have am:bO _:=ae;have ax:bO _:=ad;have HP:bO _:=ac;have HN:bO (e.name ∉ (sn told).map dp.name/\Told e/\told.length<1099511627776/\q<=mx):=⟨hn,ho,by omega,by omega⟩;have HT:bO _:=hT;clear h ad ae U hp1 al ac hn hT ho;unfold rC;go_enter func235,ntmps235;go_wp2_with (first|(at_mapUpdate;refine jB _ rfl _ _ _ 214 rfl 263 bV bX rfl af.out.kn (by rw[aY,aY];unfold bz;omega) e.name ar rfl (.agg #[]) rfl ?_;intro w1 an ay a8));have ab:=dw.qd ay;have ah:w1.heap[Rb]?=some (.cells #[.string S,.int .i64 p,.map (some Mk),t.v] 216 (0,0)):=by rw[ab.block Rb (eS ag.out.1) (λe=>n1 e.symm)];exact ag.out.1
 have ai:w1.heap[w.heap.size]?=some (.cells #[.bool e.gone,.string ⟨(xI e).toArray⟩,.string ⟨e.text.toArray⟩,.int .i64 e.du,.int .i64 e.dE] 111 (0,0)):=by rw[ab.block _ (eS am.out) (λe=>aq e.symm)];exact am.out
 have az:t.T w1 told:=HT.out.stay af.out.sd λk O=>ab.block k (HT.out.lt af.out.sd O) (aa k O).2;have c3:=dn ah 3;have d0:=dn ai
 have a5:bO (∀w2:World,w2.heap=w1.heap->w2.os=w1.os->w2.tape=w1.tape->w2.output=w1.output->b2 prog t.fn (#[.int .i64 (q:Int),.string ⟨e.name.toArray⟩,rC e]++t.cp) w2 λen w'=>en=.returned (.tuple #[])/\t.T w' (told++[(q,e)])/\dw t.own w1 w'):=by
  intro w2 k1 k2 k3 k4;obtain⟨a1,a2,a3,a4⟩:=HN.out;refine(HT.out.tell w2 q told e (HT.out.stay az λk _=>by rw[k1]) a1 a3 a2 a4).mono ?_;rintro en w' ⟨q1,q2,q3⟩;exact⟨q1,q2,⟨q3.os.trans k2,q3.tape.trans k3,q3.output.trans k4,by have:=q3.size;rw[k1]at this;exact this,λk O hn=>by rw[q3.block k (by rw[k1];exact O) hn,k1]⟩⟩
 have y:w1.drew.cell? ⟨Rb,3,none⟩=some (.func (.func t.fn) #[] t.cp)/\w1.drew.cell? ⟨w.heap.size,0,none⟩=some (.bool e.gone)/\w1.drew.cell? ⟨w.heap.size,1,none⟩=some (.string ⟨(xI e).toArray⟩)/\w1.drew.cell? ⟨w.heap.size,2,none⟩=some (.string ⟨e.text.toArray⟩)/\w1.drew.cell? ⟨w.heap.size,3,none⟩=some (.int .i64 e.du)/\w1.drew.cell? ⟨w.heap.size,4,none⟩=some (.int .i64 e.dE):=⟨c3,(d0 0),(d0 1),(d0 2),(d0 3),(d0 4)⟩;clear c3 d0;refine b5 (S:=λw'=>w'.cell? ⟨Rb,3,none⟩=some (.func (.func t.fn) #[] t.cp)/\w'.cell? ⟨w.heap.size,0,none⟩=some (.bool e.gone)/\w'.cell? ⟨w.heap.size,1,none⟩=some (.string ⟨(xI e).toArray⟩)/\w'.cell? ⟨w.heap.size,2,none⟩=some (.string ⟨e.text.toArray⟩)/\w'.cell? ⟨w.heap.size,3,none⟩=some (.int .i64 e.du)/\w'.cell? ⟨w.heap.size,4,none⟩=some (.int .i64 e.dE)) (by kernel_rfl) ?_;refine fJ 0 ?_ y ?_<|fJ 1 ?_ y ?_<|fJ 2 ?_ y ?_<|fJ 3 ?_ y ?_<|fJ 4 ?_ y ?_<|fJ 5 ?_ y ?_<|fJ 6 ?_ y ?_ ?_
 any_goals(rintro w' ⟨k0,k1,k2,k3,k4,k5⟩;go_simp;first|done|with_reducible rfl)
 refine j9 7 λK' a6=>?_;have aj:=a5.out w1.drew rfl rfl rfl rfl;unfold Oper.wp;go_simp;change Oper.upon _ _ _ _ _ (Sem.run _ (callFunc t.fn _) _);rw[D9 au av aw];refine aj.mono ?_;rintro en w2 ⟨rfl,q2,q3⟩;have W:∀k,t.own k->k≠Rb/\k≠Mk/\k≠w.heap.size:=λk O=>⟨(aa k (HT.out.sub k O)).1,(aa k (HT.out.sub k O)).2,ap k (HT.out.sub k O)⟩;have ao:w2.heap[Rb]?=some (.cells #[.string S,.int .i64 p,.map (some Mk),t.v] 216 (0,0)):=by rw[q3.block Rb (eS ah) (λe=>(W _ e).1 rfl)];exact ah
 have Y:w2.heap[w.heap.size]?=some (.cells #[.bool e.gone,.string ⟨(xI e).toArray⟩,.string ⟨e.text.toArray⟩,.int .i64 e.du,.int .i64 e.dE] 111 (0,0)):=by rw[q3.block _ (eS ai) (λe=>(W _ e).2.2 rfl)];exact ai
 refine a6 _ _ ⟨⟨by rw[dn ao];rfl,by rw[dn Y];rfl,by rw[dn Y];rfl,by rw[dn Y];rfl,by rw[dn Y];rfl,by rw[dn Y];rfl⟩,bA (by kernel_rfl) ?_ _⟩;go_wp2;go_end0;refine⟨rfl,⟨⟨p,ao,ag.out.2⟩,?_,q2,by simp;omega,aa⟩,?_⟩;rw[show sn (told++[(q,e)])=sn told++[e] by simp[sn],<-HP.out];exact dM.stay an (q3.block _ (dM.lt an) λe=>(W _ e).2.1 rfl);exact((dw.eQ ax.out).then (ab.mono (λ_ O=>Or.inr (Or.inl O)))).then (q3.mono (λ_ O=>Or.inr (Or.inr O)))
def dw.D4{w':World}(h:dw (· = Rb) w w'):dw (ud Rb Mk t) w w':=h.mono (λ_ y=>Or.inl y)
def RG.here{rest:Wd}(h:RG w Rb Mk t S rest told):∃p:Nat,w.cell? ⟨Rb,1,none⟩=some (.int .i64 (p:Int))/\p=S.size-rest.length:=⟨_,h.pos,rfl⟩
def D2{nm r:Wd}{y:dp×Wd}(h:ji nm r=some y):∃tx wt tg O,y=(⟨nm,false,tx,wt,tg⟩,O)/\tx.length<256/\O.length<=r.length:=by
 obtain⟨x,U,h⟩:=bM.1 h;split at h;obtain⟨z,W,h⟩:=bM.1 h;split at h;obtain⟨u,Y,h⟩:=bM.1 h;simp only[cj]at h;subst h;obtain⟨g1,g2⟩:=fW U;refine⟨_,_,_,_,rfl,g2,?_⟩;have g3:=(iJ W).1;have g4:=(fA Y).1;rw[g1,g3,g4];simp;omega;simp at h;simp at h
def Uf{rest:Wd}(hT:t.Ok mx)(h:RG w Rb Mk t S rest [])(hS:S.size<=1099511627775)(hm:S.size<=mx) :
  b2 prog 211 #[.pointer (some ⟨Rb,0,none⟩)] w (Ends (ud Rb Mk t) w ((rdNum rest).bind λa=>(ix S.size a.1 [] [] a.2).bind λb=>some (a.1,b.1,b.2)) λx e w'=>e=.returned (.int .i64 x.1)/\RG w' Rb Mk t S x.2.2 x.2.1):=by
 have ht:=nY Rb S rest Mk _ w h.rd (by omega);have HR:bO _:=h;have HT:bO _:=hT;obtain⟨X,hX⟩:∃X,((rdNum rest).bind λa=>(ix S.size a.1 [] [] a.2).bind λb=>some (a.1,b.1,b.2))=X:=⟨_,rfl⟩;rw[hX];have HX:bO _:=hX;go_enter func211,ntmps211;go_wp2_with fail;refine ht.mono ?_;rintro e w1 ⟨g1,y⟩;have HF1:bO (dw (ud Rb Mk t) w w1):=g1.D4
 cases O:rdNum rest with
 |none=>
  rw[O]at y;cases y;exact⟨rfl,.no HF1.out (by rw[<-HX.out,O];rfl)⟩
 |some x=>
 obtain⟨n,r0⟩:=x;rw[O]at y;obtain⟨rfl,y,_⟩:=y;obtain⟨ah,ai⟩:=fA O;have HR1:bO _:=HR.out.turn HT.out g1 y (by rw[ah];simp);have HX1:bO (X=(ix S.size n [] [] r0).bind λz=>some (n,z.1,z.2)):=by rw[<-HX.out,O];rfl
 go_wp2;go_loopw [4,9] (λl i wr=>∃(k:Nat)(done:List _)(W r:Wd),k<=n/\i=.int _ k/\l=.string ⟨W.toArray⟩/\RG wr Rb Mk t S r done/\dw _ w wr/\X=(ix _ (n-k) ((sn done).map _) W r).bind λz=>some (n,done++z.1,z.2)) (λ_ i _=>n-(intOf i).toNat)
 case atStart=>exact⟨0,[],[],r0,bF _,rfl,rfl,HR1.out,HF1.out,HX1.out⟩
 case round=>
  obtain⟨k,done,W,r,hk,rfl,rfl,hr,hf,Y⟩:=hrel;have aa:bO _:=hf;have U:bO _:=hr;by_cases an:k<n
  .obtain⟨p,hp,ab⟩:=hr.here;have ac:bO _:=ab;rw[show n-k=(n-(k+1))+1 by omega,ix]at Y;have HG:bO _:=Y;have aj:=ue (last:=W) HT.out U.out hS;clear hr hf Y ab;go_wp2_with fail;refine aj.mono ?_;rintro e w2 ⟨g1,y⟩;have ad:bO _:=aa.out.then g1.D4
   cases O:lL _ W r with
   |none=>
    rw[O]at y;cases y;exact⟨rfl,.no ad.out (by rw[HG.out,O];rfl)⟩
   |some x=>
   obtain⟨nm,r1⟩:=x;rw[O]at y;obtain⟨rfl,y⟩:=y;obtain⟨ak,ae,_,af⟩:=lh O;have al:=U.out.qg;have am:r1.length+1<=r.length:=by rw[ak];simp[dC]
   have ag:=GU (rest:=r1) (q:=p) (e:=⟨nm,true,[],0,0⟩) HT.out y hS hm af ⟨by show nm.length<=255;have:=(fZ ae).2;omega,by simp,nofun⟩ (by omega) (by have:=ac.out;omega)
   have HG1:bO (X=(ix S.size (n-(k+1)) ((sn (done++[(p,(⟨nm,true,[],0,0⟩))])).map dp.name) nm r1).bind λz=>some (n,done++[(p,⟨nm,true,[],0,0⟩)]++z.1,z.2)):=by
    show X=_;rw[HG.out,O,<-ac.out];simp[sn,bN]
   go_wp2_with fail;refine ag.mono ?_;rintro e w3 ⟨rfl,q1,q2⟩;have HR3:bO _:=q1;have HF3:bO _:=ad.out.then q2;go_wp2;go_roundw
   case rel=>exact⟨k+1,_,nm,r1,by omega,by go_num,rfl,HR3.out,HF3.out,HG1.out⟩
   case measure=>simp[intOf];omega
  rw[show n-k=0 by omega]at Y;have HG:bO _:=Y;go_wp2;go_ret;exact .S9 aa.out HG.out ⟨rfl,by simpa using U.out⟩
def MQ{rest path:Wd}(hT:t.Ok mx)(h:RG w Rb Mk t S rest told)(hS:S.size<=1099511627775)(hm:S.size<=mx) :
  b2 prog 238 #[.pointer (some ⟨Rb,0,none⟩),.string ⟨path.toArray⟩] w (Ends (ud Rb Mk t) w ((rdNum rest).bind λa=>(im S.size a.1 path ((sn told).map dp.name) [] a.2).bind λb=>some (a.1,b.1,b.2)) λx e w'=>e=.returned (.tuple #[.int .i64 x.1,.int .i64 (fP (sn x.2.1))])/\RG w' Rb Mk t S x.2.2 (told++x.2.1)):=by
 have ht:=nY Rb S rest Mk t.v w h.rd (by omega);have HR:bO _:=h;have HT:bO _:=hT;obtain⟨X,hX⟩:∃X,((rdNum rest).bind λa=>(im S.size a.1 path ((sn told).map dp.name) [] a.2).bind λb=>some (a.1,b.1,b.2))=X:=⟨_,rfl⟩;rw[hX];have HX:bO _:=hX;clear h hT hX;go_enter func238,ntmps238;go_wp2_with fail;refine ht.mono ?_;rintro e w1 ⟨g1,O⟩;have aq:bO (dw (ud Rb Mk t) w w1):=g1.D4
 cases U:rdNum rest with
 |none=>
  rw[U]at O;cases O;exact⟨rfl,.no aq.out (by rw[<-HX.out,U];rfl)⟩
 |some x=>
 obtain⟨n,r0⟩:=x;rw[U]at O;obtain⟨rfl,O,_⟩:=O;obtain⟨ar,a9⟩:=fA U;have a':bO _:=HR.out.turn HT.out g1 O (by rw[ar];simp);have aA:bO (X=(im S.size n path ((sn told).map dp.name) [] r0).bind λz=>some (n,z.1,z.2)):=by show X=_;rw[<-HX.out,U];rfl
 clear g1 O ht U ar HX HR;go_wp2;go_loopw [5,6,12] (λg l i wr=>∃(k:Nat)(done:List (Nat×dp))(ls r:Wd),k<=n/\i=.int .i64 k/\l=.string ⟨ls.toArray⟩/\g=.int .i64 (fP (sn done))/\RG wr Rb Mk t S r (told++done)/\dw (ud Rb Mk t) w wr/\X=(im S.size (n-k) path ((sn (told++done)).map dp.name) ls r).bind λz=>some (n,done++z.1,z.2)) (λ_ _ i _=>n-(intOf i).toNat)
 case atStart=>exact⟨0,[],[],r0,bF _,rfl,rfl,rfl,by rw[bd];exact a'.out,aq.out,by rw[bd];exact aA.out⟩
 case round=>
  obtain⟨k,done,ls,r,hk,rfl,rfl,rfl,hr,hf,hg⟩:=hrel;have au:bO _:=hf;have af:bO _:=hr;by_cases aK:k<n
  .obtain⟨p,hp,av⟩:=hr.here;have aw:bO _:=av;rw[show n-k=(n-(k+1))+1 by omega,im]at hg;have HG:bO _:=hg;have ax:=ue (last:=ls) HT.out af.out hS;clear hr hf hg av;go_wp2_with fail;refine ax.mono ?_;rintro e w2 ⟨g1,O⟩;have ag:bO (dw (ud Rb Mk t) w w2):=au.out.then g1.D4
   cases U:lL ((sn (told++done)).map dp.name) ls r with
   |none=>
    rw[U]at O;cases O;exact⟨rfl,.no ag.out (by rw[HG.out,U];rfl)⟩
   |some x=>
   obtain⟨nm,r1⟩:=x;rw[U]at O;obtain⟨rfl,O⟩:=O;obtain⟨ay,ac,_,ad⟩:=lh U;have aH:=af.out.qg;have aI:r1.length+1<=r.length:=by rw[ay];simp[dC]
   have ae:=Si (nm:=nm) HT.out O hS;have HN:bO _:=And.intro ad (And.intro (fZ ac).2 U);clear ax g1 O hp U ay ac ad;go_wp2_with fail;refine ae.mono ?_;rintro e w3 ⟨g1,O⟩;have ah:bO (dw (ud Rb Mk t) w w3):=ag.out.then g1.D4
   cases hy:ji nm r1 with
   |none=>
    rw[hy]at O;cases O;exact⟨rfl,.no ah.out (by rw[HG.out,HN.out.2.2,bL,hy];rfl)⟩
   |some y=>
   obtain⟨tx,wt,tg,r2,rfl,aL,aJ⟩:=D2 hy;rw[hy]at O;obtain⟨rfl,O⟩:=O;have W:bO _:=O;obtain⟨_,_,aM,_,_,_,_,_,_,az,a5⟩:=Ee hy
   have aB:bO (0<=tg/\tg<=255):=by
    simp only[dp.mk.injEq]at a5;have:=(fA az).2;exact⟨by omega,by omega⟩
   have ai:bO (X=(if dX tx=path then(im S.size (n-(k+1)) path ((sn (told++done)).map dp.name++[nm]) nm r2).bind λz=>some ((p,(⟨nm,false,tx,wt,tg⟩:dp))::z.1,z.2)else none).bind λz=>some (n,done++z.1,z.2)):=by
    show X=_;rw[HG.out,HN.out.2.2,bL,hy,<-aw.out];rfl
   clear ae g1 O hy az a5 ag HG;unfold AN;have aC:(⟨tx.toArray⟩:ByteArray).size<=1099511627776:=by show tx.toArray.size<=_;simp;omega
   obtain⟨w4,aj⟩:∃w4,w3.alloc (.cells #[.string ⟨nm.toArray⟩,.string ⟨tx.toArray⟩,.int .i64 wt,.int .i64 tg] 96)=w4:=⟨_,rfl⟩;have ak:Below w3.heap.size w3 w4:=by rw[<-aj];exact(bS _ _).alloc (bE _) _
   have ab:w4.heap[w3.heap.size]?=some (.cells #[.string ⟨nm.toArray⟩,.string ⟨tx.toArray⟩,.int .i64 wt,.int .i64 tg] 96 (0,0)):=by rw[<-aj];exact b3 w3 _
   have e1:=dn ab 1;go_wp2_with fail;refine(pW _ _ aC).mono ?_;rintro e w5 ⟨rfl,al⟩;clear aj e1;have aD:=ak.size;have am:w5.heap[w3.heap.size]?=some (.cells #[.string ⟨nm.toArray⟩,.string ⟨tx.toArray⟩,.int .i64 wt,.int .i64 tg] 96 (0,0)):=by rw[al.block _ (eS ab)];exact ab
   have Y:Below w3.heap.size w3 w5:=ak.trans (al.mono aD)
   have HD:bO (∀k,ud Rb Mk t k->k≠w3.heap.size):=by
    rintro k (h1|h1|h1) e;obtain⟨p1,g1,_⟩:=W.out.rd;have:=eS g1;omega;have:=W.out.kn.lt;omega;have:=HT.out.lt W.out.sd (HT.out.sub k h1);omega
   have a6:bO _:=W.out.below HT.out Y;have an:bO (dw (ud Rb Mk t) w w5):=ah.out.then (dw.eQ Y);have ao:bO _:=am;have d0:=dn am;clear ak ab al am Y W ah;rw[show(dX (⟨tx.toArray⟩:ByteArray).data.toList)=dX tx from rfl];by_cases gu:dX tx=path
   case neg=>
    have aE:(dX tx==path)=false:=beq_eq_false_iff_ne.2 gu;have ap:bO (X=none):=by show X=none;rw[ai.out,if_neg gu];rfl
    clear gu;go_wp2_with fail;refine(iE _).mono ?_;rintro e w' ⟨rfl,rfl⟩;exact⟨rfl,.no an.out ap.out⟩
   have aE:(dX tx==path)=true:=beq_iff_eq.2 gu
   have ap:bO (X=(im S.size (n-(k+1)) path ((sn (told++(done++[(p,(⟨nm,false,tx,wt,tg⟩:dp))]))).map dp.name) nm r2).bind λz=>some (n,done++[(p,⟨nm,false,tx,wt,tg⟩)]++z.1,z.2)):=by
    show X=_;rw[ai.out,if_pos gu];simp[sn,bN]
   clear gu ai;go_wp2_with fail;refine(gF _).mono ?_;rintro e w' ⟨rfl,rfl⟩;have aa:=GU (q:=p) (e:=⟨nm,false,tx,wt,tg⟩) HT.out a6.out hS hm HN.out.1 ⟨by show nm.length<=255;have:=HN.out.2.1;omega,by show tx.length<=255;omega,λ_=>aB.out⟩ (by omega) (by have:=aw.out;omega);have a7:rC ⟨nm,false,tx,wt,tg⟩=.agg #[.bool false,.string ⟨nm.toArray⟩,.string ⟨tx.toArray⟩,.int .i64 wt,.int .i64 tg]:=rfl;rw[a7]at aa;clear a7;go_wp2_with fail;refine aa.mono ?_;rintro e w6 ⟨rfl,q1,q2⟩
   have a8:w6.heap[w3.heap.size]?=some (.cells #[.string ⟨nm.toArray⟩,.string ⟨tx.toArray⟩,.int .i64 wt,.int .i64 tg] 96 (0,0)):=by
    rw[q2.block _ (eS ao.out) (λh=>HD.out _ h rfl)];exact ao.out
   have d26:=dn a8 2;have aF:bO _:=q1;have aG:bO (dw (ud Rb Mk t) w w6):=an.out.then q2;clear aa q1 q2 a8 d0 a6 an ao;go_wp2;go_roundw
   case rel=>
    refine⟨k+1,done++[(p,⟨nm,false,tx,wt,tg⟩)],nm,r2,by omega,by go_num,rfl,?_,by rw[<-bi];exact aF.out,aG.out,ap.out⟩;rw[show sn (done++[(p,(⟨nm,false,tx,wt,tg⟩:dp))])=sn done++[⟨nm,false,tx,wt,tg⟩] by simp[sn],jK,li,show fP []=0 from rfl];have:=nZ (sn done);show Value.int .i64 (max (fP (sn done)) wt)=Value.int .i64 (max (fP (sn done)) (max (max 0 wt) 0));congr 1;omega
   case measure=>simp[intOf];omega
  rw[show n-k=0 by omega,im]at hg;have HG:bO _:=hg;clear hr hf hg;go_wp2;go_ret2;exact .S9 au.out HG.out ⟨by simp,by simpa using af.out⟩
variable {f:Nat}
def TZ(a b:Wd):(⟨a.toArray⟩:ByteArray)++⟨b.toArray⟩=⟨(a++b).toArray⟩:=by
 apply ByteArray.ext;simp
def KR(t:Jf)(mx f:Nat):Prop:=∀(Rb Mk:Nat)(S:ByteArray)(rest:Wd)(told:List (Nat×dp))(path:Wd)(w:World),RG w Rb Mk t S rest told->S.size<=1099511627775->S.size<=mx->26<=f+path.length->path.length<=1099511627775->
  b2 prog 214 #[.pointer (some ⟨Rb,0,none⟩),.string ⟨path.toArray⟩] w (Ends (ud Rb Mk t) w (fj S.size f path ((sn told).map dp.name) rest) λx e w'=>e=.returned (.int .i64 x.1)/\RG w' Rb Mk t S x.2.2 (told++x.2.1))
def J5{S:ByteArray}{rest path:Wd}{w:World}(hN:KR t mx f)(hT:t.Ok mx)(h:RG w Rb Mk t S rest told)(hS:S.size<=1099511627775)(hm:S.size<=mx)(hp:path.length<=24)(hf:25<=f+path.length) :
  b2 prog 239 #[.pointer (some ⟨Rb,0,none⟩),.string ⟨path.toArray⟩] w (Ends (ud Rb Mk t) w ((rdNum rest).bind λa=>(iC (fj S.size f) a.1 path ((sn told).map dp.name) (-1) a.2).bind λb=>some (a.1,b.1,b.2.1,b.2.2)) λx e w'=>e=.returned (.tuple #[.int .i64 x.1,.int .i64 x.2.1])/\RG w' Rb Mk t S x.2.2.2 (told++x.2.2.1)):=by
 have ht:=nY Rb S rest Mk t.v w h.rd (by omega);have HR:bO _:=h;have HT:bO _:=hT;have HN:bO _:=hN;obtain⟨X,hX⟩:∃X,((rdNum rest).bind λa=>(iC (fj S.size f) a.1 path ((sn told).map dp.name) (-1) a.2).bind λb=>some (a.1,b.1,b.2.1,b.2.2))=X:=⟨_,rfl⟩;rw[hX];have HX:bO _:=hX;clear h hT hX hN;go_enter func239,ntmps239;go_wp2_with fail;refine ht.mono ?_;rintro e w1 ⟨g1,O⟩;have ah:bO (dw (ud Rb Mk t) w w1):=g1.D4
 cases U:rdNum rest with
 |none=>
  rw[U]at O;cases O;exact⟨rfl,.no ah.out (by rw[<-HX.out,U];rfl)⟩
 |some x=>
 obtain⟨n,r0⟩:=x;rw[U]at O;obtain⟨rfl,O,_⟩:=O;obtain⟨ai,ao⟩:=fA U;have ap:bO _:=HR.out.turn HT.out g1 O (by rw[ai];simp);have aq:bO (X=(iC (fj S.size f) n path ((sn told).map dp.name) (-1) r0).bind λz=>some (n,max 0 z.1,z.2.1,z.2.2)):=by show X=_;rw[<-HX.out,U];simp
 clear g1 O ht U ai HX HR;go_wp2;go_loopw [5,6,11] (λgv l i wr=>∃(k gg:Nat)(done:List (Nat×dp))(la:Int)(r:Wd),k<=n/\i=.int .i64 k/\l=.int .i64 la/\gv=.int .i64 gg/\RG wr Rb Mk t S r (told++done)/\dw (ud Rb Mk t) w wr/\(X=(iC (fj S.size f) (n-k) path ((sn (told++done)).map dp.name) la r).bind λz=>some (n,max gg z.1,done++z.2.1,z.2.2))/\-1<=la/\la<=255) (λ_ _ i _=>n-(intOf i).toNat)
 case atStart=>exact⟨0,0,[],-1,r0,bF _,rfl,rfl,rfl,by rw[bd];exact ap.out,ah.out,by rw[bd];exact aq.out,by omega,by omega⟩
 case round=>
  obtain⟨k,gg,done,la,r,hk,rfl,rfl,rfl,hr,ad,hg,ax,ay⟩:=hrel;have aj:bO _:=ad;have ae:bO _:=hr;by_cases a5:k<n
  .rw[show n-k=(n-(k+1))+1 by omega,iC]at hg;have HG:bO _:=hg;have ak:=uz Rb S r Mk t.v wr ae.out.rd (by omega);clear hr ad hg;go_wp2_with fail;refine ak.mono ?_;rintro e w2 ⟨g1,O⟩;have Y:bO (dw (ud Rb Mk t) w w2):=aj.out.then g1.D4
   cases U:iI r with
   |none=>
    rw[U]at O;cases O;exact⟨rfl,.no Y.out (by rw[HG.out,U];rfl)⟩
   |some x=>
   obtain⟨lb,r1⟩:=x;rw[U]at O;obtain⟨rfl,O,_⟩:=O;obtain⟨al,ac⟩:=fW U;have ar:bO _:=ae.out.turn HT.out g1 O (by rw[al];simp);have aa:bO _:=U;clear ak g1 O U al
   cases lb with
   |nil=>
    go_wp2_with fail;refine(iE _).mono ?_;rintro e w' ⟨rfl,rfl⟩;exact⟨rfl,.no Y.out (by rw[HG.out,aa.out];rfl)⟩
   |cons c cs=>
   have hc:=c.toNat_lt;have am:(⟨(c::cs).toArray⟩:ByteArray).size=cs.length+1:=by show(c::cs).toArray.size=_;simp
   have a6:(⟨(c::cs).toArray⟩:ByteArray)[0]'(by rw[am];omega)=c:=rfl;by_cases ab:la<(c.toNat:Int)
   case neg=>
    have a7:decide (la<(c.toNat:Int))=false:=decide_eq_false ab;have W:bO (X=none):=by show X=none;rw[HG.out,aa.out,bL,if_neg λh=>ab h.2];rfl
    clear ab;go_wp2_with fail;refine(iE _).mono ?_;rintro e w' ⟨rfl,rfl⟩;exact⟨rfl,.no Y.out W.out⟩
   have af:=HG.out;rw[aa.out,bL,if_pos ⟨by simp,ab⟩]at af;have W:bO _:=af;have au:(⟨path.toArray⟩:ByteArray).size=path.length:=by show path.toArray.size=_;simp
   have az:¬(9223372036854775807<(⟨path.toArray⟩:ByteArray).size+(⟨(c::cs).toArray⟩:ByteArray).size):=by rw[au,am];simp only[be]at ac;omega
   have ag:=HN.out Rb Mk S r1 (told++done) (path++(c::cs)) w2 ar.out hS hm (by simp only[aX,be];omega) (by simp only[aX,be]at ac⊢;omega);rw[<-TZ path (c::cs)]at ag;clear af HG aa;go_wp2_with fail;refine(gF _).mono ?_;rintro e w' ⟨rfl,rfl⟩;go_wp2_with fail;refine ag.mono ?_;rintro e w3 ⟨g1,O⟩;have an:bO (dw (ud Rb Mk t) w w3):=Y.out.then g1
   cases hy:fj S.size f (path++(c::cs)) ((sn (told++done)).map dp.name) r1 with
   |none=>
    rw[hy]at O;cases O;exact⟨rfl,.no an.out (by rw[W.out,hy];rfl)⟩
   |some y=>
   obtain⟨ga,ea,r2⟩:=y;rw[hy]at O;obtain⟨rfl,O⟩:=O;have av:bO _:=O
   have aw:bO (X=(iC (fj S.size f) (n-(k+1)) path ((sn (told++(done++ea))).map dp.name) (c.toNat:Int) r2).bind λz=>some (n,max (max gg ga) z.1,done++ea++z.2.1,z.2.2)):=by
    show X=_;rw[W.out,hy];simp[sn,bN,Nat.max_assoc]
   clear ag g1 O hy W;go_wp2;go_roundw
   case rel=>
    refine⟨k+1,max gg ga,done++ea,(c.toNat:Int),r2,by omega,by go_num,rfl,?_,by rw[<-bi];exact av.out,an.out,aw.out,by omega,by omega⟩;show Value.int .i64 (max (gg:Int) (ga:Int))=Value.int .i64 ((max gg ga:Nat):Int);congr 1;omega
   case measure=>simp[intOf];omega
  rw[show n-k=0 by omega,iC]at hg;have HG:bO _:=hg;clear hr ad hg;go_wp2;go_ret2;exact .S9 aj.out HG.out ⟨by simp,by simpa using ae.out⟩
def Ey(N f:Nat)(path:Wd)(O:List Wd)(U:Wd):fj N (f+1) path O U=if path.length<=24 then(gh U).bind λa=>((rdNum a.2).bind λb=>(im N b.1 path O [] b.2).bind λc=>some (b.1,c.1,c.2)).bind λx=>
  ((rdNum x.2.2).bind λd=>(iC (fj N f) d.1 path (O++(sn x.2.1).map dp.name) (-1) d.2).bind λe=>some (d.1,e.1,e.2.1,e.2.2)).bind λy=>if(a.1:Int)=max (fP (sn x.2.1)) y.2.1/\(path=[]\/0<x.1\/1<y.1)then some (a.1,x.2.1++y.2.2.1,y.2.2.2)else none else none:=by
 rw[fj];simp only[bN,bL]
def Ci(hT:t.Ok mx)(ih:∀f',f=f'+1->KR t mx f'):KR t mx f:=by
 intro Rb Mk S rest told path w h hS hm hf ap;have aq:(⟨path.toArray⟩:ByteArray).size=path.length:=by show path.toArray.size=_;simp
 by_cases hp:path.length<=24
 case neg=>
  have al:decide ((path.length:Int)<=24)=false:=decide_eq_false (by omega)
  have HX:bO (fj S.size f path ((sn told).map dp.name) rest=none):=by
   show _=_;cases f;rfl;rw[fj,if_neg hp]
  clear hT ih h;go_enter func214,ntmps214;go_wp2_with fail;refine(iE _).mono ?_;rintro e w' ⟨rfl,rfl⟩;exact⟨rfl,.no (dw.refl _ _) HX.out⟩
 obtain⟨f,rfl⟩:∃f',f=f'+1:=⟨f-1,by omega⟩;have al:(path.length:Int)<=24:=by omega
 have ht:=yF Rb S rest Mk t.v w h.rd (by omega);have HR:bO _:=h;have HN:bO _:=ih f rfl;have HT:bO _:=hT;obtain⟨X,Y⟩:∃X,fj S.size (f+1) path ((sn told).map dp.name) rest=X:=⟨_,rfl⟩;rw[Y];rw[Ey,if_pos hp]at Y;have HX:bO _:=Y;clear h ih hT Y;go_enter func214,ntmps214;go_wp2_with fail;refine(gF _).mono ?_;rintro e w' ⟨rfl,rfl⟩;go_wp2_with fail;refine ht.mono ?_;rintro e w1 ⟨g1,y⟩;have ab:bO (dw (ud Rb Mk t) w w1):=g1.D4
 cases O:gh rest with
 |none=>
  rw[O]at y;cases y;exact⟨rfl,.no ab.out (by rw[<-HX.out,O];rfl)⟩
 |some x=>
 obtain⟨wg,r0⟩:=x;rw[O]at y;obtain⟨rfl,y,_⟩:=y;have ag:bO _:=HR.out.turn HT.out g1 y (by rw[(iJ O).1];simp);have Y:=HX.out;rw[O,bL]at Y;have ac:bO _:=Y;clear ht g1 y O Y HX HR;have ah:=MQ (path:=path) HT.out ag.out hS hm;go_wp2_with fail;refine ah.mono ?_;rintro e w2 ⟨g1,y⟩;have ad:bO (dw (ud Rb Mk t) w w2):=ab.out.then g1
 cases O:(rdNum r0).bind λa=>(im S.size a.1 path ((sn told).map dp.name) [] a.2).bind λb=>some (a.1,b.1,b.2)with
 |none=>
  rw[O]at y;cases y;exact⟨rfl,.no ad.out (by rw[<-ac.out,O];rfl)⟩
 |some x=>
 obtain⟨nb,own,r1⟩:=x;rw[O]at y;obtain⟨rfl,y⟩:=y;have ai:bO _:=y;have Y:=ac.out;rw[O,bL,show(sn told).map dp.name++(sn own).map dp.name=(sn (told++own)).map dp.name by simp[sn]]at Y;have ae:bO _:=Y;clear ah g1 y O Y ag ab ac;have aj:=J5 HN.out HT.out ai.out hS hm hp (by omega);go_wp2_with fail;refine aj.mono ?_;rintro e w3 ⟨g1,y⟩;have U:bO (dw (ud Rb Mk t) w w3):=ad.out.then g1
 cases O:(rdNum r1).bind λa=>(iC (fj S.size f) a.1 path ((sn (told++own)).map dp.name) (-1) a.2).bind λb=>some (a.1,b.1,b.2.1,b.2.2)with
 |none=>
  rw[O]at y;cases y;exact⟨rfl,.no U.out (by rw[<-ae.out,O];rfl)⟩
 |some x=>
 obtain⟨nc,gb,below,r⟩:=x;rw[O]at y;obtain⟨rfl,y⟩:=y;have af:bO (RG w3 Rb Mk t S r (told++(own++below))):=by show RG _ _ _ _ _ _ _;rw[<-bi];exact y
 have aa:bO (X=if(wg:Int)=max (fP (sn own)) gb/\(path=[]\/0<nb\/1<nc)then some (wg,own++below,r)else none):=by show X=_;rw[<-ae.out,O];rfl
 clear aj g1 y O ai ad ae;by_cases W:(wg:Int)=max (fP (sn own)) gb
 case neg=>
  have ak:((wg:Int)==max (fP (sn own)) (gb:Int))=false:=beq_eq_false_iff_ne.2 W;have am:bO (X=none):=aa.out.trans (if_neg λh=>W h.1);clear W;go_wp2_with fail;refine(iE _).mono ?_;rintro e w' ⟨rfl,rfl⟩;exact⟨rfl,.no U.out am.out⟩
 have ak:((wg:Int)==max (fP (sn own)) (gb:Int))=true:=beq_iff_eq.2 W;have HG:bO _:=W;clear W;go_wp2_with fail;refine(gF _).mono ?_;rintro e w' ⟨rfl,rfl⟩;clear ak
 cases path with
 |nil=>
  go_wp2_with fail;refine(gF _).mono ?_;rintro e w' ⟨rfl,rfl⟩;go_wp2;go_ret;exact .S9 U.out (aa.out.trans (if_pos ⟨HG.out,.inl trivial⟩)) ⟨rfl,af.out⟩
 |cons c cs=>
  by_cases h1:0<nb
  .have an:(0:Int)<(nb:Int):=by omega
   go_wp2_with fail;refine(gF _).mono ?_;rintro e w' ⟨rfl,rfl⟩;go_wp2;go_ret;exact .S9 U.out (aa.out.trans (if_pos ⟨HG.out,.inr (.inl h1)⟩)) ⟨rfl,af.out⟩
  have an:decide ((0:Int)<(nb:Int))=false:=decide_eq_false (by omega);by_cases h2:1<nc
  .have ao:(1:Int)<(nc:Int):=by omega
   go_wp2_with fail;refine(gF _).mono ?_;rintro e w' ⟨rfl,rfl⟩;go_wp2;go_ret;exact .S9 U.out (aa.out.trans (if_pos ⟨HG.out,.inr (.inr h2)⟩)) ⟨rfl,af.out⟩
  have ao:decide ((1:Int)<(nc:Int))=false:=decide_eq_false (by omega);go_wp2_with fail;refine(iE _).mono ?_;rintro e w' ⟨rfl,rfl⟩;exact⟨rfl,.no U.out (aa.out.trans (if_neg λh=>by rcases h.2 with h|h|h<;>simp_all))⟩
def Qx(y:t.Ok mx):∀f,KR t mx f
 |0=>Ci y λ_ h=>by cases h
 |f+1=>Ci y λ_ h=>by cases h;exact Qx y f
def IF(w:World):(Instr.typeAssert (.iface 264 (.agg #[])) 20 264 true).run prog w=.ok (.tuple #[.agg #[],.bool true]) w:=by kernel_rfl
def Em(b:Nat)(w:World)(O:Bool)(hb:w.heap[b]?=some (.cells #[.bool O] 4 (0,0))) :
  CallsD prog 210 #[.pointer (some ⟨b,0,none⟩)] (.panicking [EJ]) w λe W w'=>
   e=.returned (.tuple #[])/\W=.panicking [{v:=.iface 264 (.agg #[]),recovered:=true}]/\w'=(w.alloc (.cells #[] 264)).setCell ⟨b,0,none⟩ (.bool false):=by
 have Y:=IF;have y:(w.alloc (.cells #[] 264)).heap[b]?=some (.cells #[.bool O] 4 (0,0)):=by rw[bT _ _ _ (eS hb)];exact hb
 have aa:=dn y 0;have ab:=dO y 0;refine b' func210 rfl λU cs hu=>?_;apply wpS_seq;apply bC;simp[wpOpsS,go_sem,recoverD,hu,ntmps210,Exit.thenS,EJ];refine wpS_of_wp ?_;change Code.wp _ _ _ {tmps:=#[.pointer _,.iface ..,cq,cq,.iface ..,cq,cq,cq,cq,cq,cq,cq,cq,cq,cq],defers:=[]} _;go_wp2;simp_all [bodyPostS,b6,cd]
def Jr(p:Addr)(w:World) :
  CallsD prog 210 #[.pointer (some p)] .returning w λe O w'=>e=.returned (.tuple #[])/\O=.returning/\w'=w:=by
 refine b' func210 rfl λy cs U=>?_;apply wpS_seq;apply bC;simp[wpOpsS,go_sem,recoverD,U,ntmps210,Exit.thenS];refine wpS_of_wp ?_;change Code.wp _ _ _ {tmps:=#[.pointer _,.nilIface,cq,cq,.nilIface,cq,cq,cq,cq,cq,cq,cq,cq,cq,cq],defers:=[]} _;go_wp2;cases y;simp_all [bodyPostS,b6,cd]
def Nd(N:Nat)(y:Wd):ij N y=((rdNum y).bind λa=>(ix N a.1 [] [] a.2).bind λb=>some (a.1,b.1,b.2)).bind λx=>(iI x.2.2).bind λc=>if c.1=[]then(fj N 26 [] ((sn x.2.1).map dp.name) c.2).bind λd=>
  if d.2.2=[]/\0<x.2.1.length+d.2.1.length/\x.1<=100/\d.2.1.length<=30 then some (x.2.1,d.2.1)else none else none:=by
 unfold ij;simp only[bN,bL]
def N9{S:ByteArray}(hT:t.Ok mx)(h:RG w Rb Mk t S rest [])(hS:S.size<=1099511627775)(hm:S.size<=mx) :
  b2 prog 159 #[.pointer (some ⟨Rb,0,none⟩)] w (Ends (ud Rb Mk t) w (ij S.size rest) λx e w'=>e=.returned (.tuple #[])/\t.T w' (x.1++x.2)):=by
 have an:=Uf hT h hS hm;have HT:bO _:=hT;obtain⟨X,Y⟩:∃X,ij S.size rest=X:=⟨_,rfl⟩;rw[Y];rw[Nd]at Y;have HX:bO _:=Y;clear h Y hT;go_enter func159,ntmps159;go_wp2_with fail;refine an.mono ?_;rintro e w1 ⟨g1,y⟩;have ah:bO _:=g1
 cases O:(rdNum rest).bind λa=>(ix S.size a.1 [] [] a.2).bind λb=>some (a.1,b.1,b.2)with
 |none=>
  rw[O]at y;cases y;exact⟨rfl,.no ah.out (by rw[<-HX.out,O];rfl)⟩
 |some x=>
 obtain⟨ng,gs,r0⟩:=x;rw[O]at y;obtain⟨rfl,y⟩:=y;have ai:bO _:=y;have Y:=HX.out;rw[O,bL]at Y;have aj:bO _:=Y
 have ao:bO (gs.length=ng/\ng<=255):=by
  simp only[bM]at O;obtain⟨a,h1,b,h2,h3⟩:=O;cases h3;have:=(fA h1).2;exact⟨Fq h2,by omega⟩
 clear an g1 y O Y HX;have ap:=uz Rb S r0 Mk t.v w1 ai.out.rd (by omega);go_wp2_with fail;refine ap.mono ?_;rintro e w2 ⟨g1,y⟩;have ac:bO (dw (ud Rb Mk t) w w2):=ah.out.then g1.D4
 cases O:iI r0 with
 |none=>
  rw[O]at y;cases y;exact⟨rfl,.no ac.out (by rw[<-aj.out,O];rfl)⟩
 |some x=>
 obtain⟨lb,r1⟩:=x;rw[O]at y;obtain⟨rfl,y,_⟩:=y;have aq:bO _:=ai.out.turn HT.out g1 y (by rw[(fW O).1];simp);have Y:=aj.out;rw[O,bL]at Y;have ak:bO _:=Y;clear ap g1 y O Y ai ah aj
 cases lb with
 |cons c cs=>
  have aa:bO (X=none):=by show X=none;rw[<-ak.out];rfl
  go_wp2_with fail;refine(iE _).mono ?_;rintro e w' ⟨rfl,rfl⟩;exact⟨rfl,.no ac.out aa.out⟩
 |nil=>
 have aa:bO (((fj S.size 26 [] ((sn gs).map dp.name) r1).bind λd=>if d.2.2=[]/\0<gs.length+d.2.1.length/\ng<=100/\d.2.1.length<=30 then some (gs,d.2.1)else none)=X):=ak.out;clear ak;go_wp2_with fail;refine(gF _).mono ?_;rintro e w' ⟨rfl,rfl⟩;have ar:=Qx HT.out 26 Rb Mk S r1 gs [] w2 aq.out hS hm (by simp) (by simp);go_wp2_with fail;refine ar.mono ?_;rintro e w3 ⟨g1,y⟩;have U:bO (dw (ud Rb Mk t) w w3):=ac.out.then g1
 cases O:fj S.size 26 [] ((sn gs).map dp.name) r1 with
 |none=>
  rw[O]at y;cases y;exact⟨rfl,.no U.out (by rw[<-aa.out,O];rfl)⟩
 |some x=>
 obtain⟨wg,es,r2⟩:=x;rw[O]at y;obtain⟨rfl,y⟩:=y;have ad:bO (RG w3 Rb Mk t S r2 (gs++es)):=y;have al:bO (X=if r2=[]/\0<gs.length+es.length/\ng<=100/\es.length<=30 then some (gs,es)else none):=by show X=_;rw[<-aa.out,O];rfl
 clear ar g1 y O aq ac aa;obtain⟨p,au,a7,av⟩:=ad.out.rd;have c0:=dn au
 have ae:r2=[]↔p=S.size:=by
  rw[<-av,List.drop_eq_nil_iff];simp;omega
 have ab:bO (dw (ud Rb Mk t) w w3.drew):=⟨U.out.os,U.out.tape,U.out.output,U.out.size,U.out.block⟩;have a5:bO (t.T w3.drew (gs++es)):=HT.out.stay ad.out.sd λ_ _=>rfl;clear au av;by_cases hr:r2=[]
 case neg=>
  have a6:((p:Int)==(S.size:Int))=false:=beq_eq_false_iff_ne.2 (λe=>hr (ae.2 (by omega)));have W:bO (X=none):=al.out.trans (if_neg λh=>hr h.1);clear hr ae;go_wp2_with fail;refine b5 (S:=λw'=>w'=w3.drew) (by kernel_rfl) ?_;refine fJ 0 ?_ rfl ?_<|fJ 1 ?_ rfl ?_<|fJ 2 ?_ rfl ?_<|fJ 3 ?_ rfl ?_<|fJ 4 ?_ rfl ?_<|fJ 5 ?_ rfl ?_<|fJ 6 ?_ rfl ?_<|fJ 7 ?_ rfl ?_<|fJ 8 ?_ rfl ?_<|fJ 9 ?_ rfl ?_ ?_
  any_goals(rintro _ rfl;go_simp;first|done|with_reducible rfl)
  refine j9 10 λK' _=>?_;unfold Oper.wp;go_simp;refine(iE _).mono ?_;rintro e w' ⟨rfl,rfl⟩;exact⟨rfl,.no ab.out W.out⟩
 have a6:((p:Int)==S.size)=true:=beq_iff_eq.2 (by rw[ae.1 hr]);have af:=λty=>dM.len (dM.stay ad.out.kn rfl:dM _ 9 w3.drew Mk _) bX ty;have aw:((sn (gs++es)).map SS).length=gs.length+es.length:=by simp
 rw[aw]at af;obtain⟨N,hN⟩:∃N:Nat,N=gs.length+es.length:=⟨_,rfl⟩;rw[<-hN]at af;have a8:N<=S.size:=by have:=ad.out.qg;rw[aX]at this;omega
 have W:bO (X=if 0<N/\ng<=100/\N-ng<=30 then some (gs,es)else none):=by
  show X=_;rw[al.out,hN,<-ao.out.1];simp[hr]
 clear hN aw hr ae al ao;go_wp2_with fail;go_region_held3 (λw'=>w'.cell? ⟨Rb,0,none⟩=some (.string S)/\w'.cell? ⟨Rb,1,none⟩=some (.int .i64 p)) (go_keep) (first|(refine(gF _).mono ?_;rintro e w' ⟨rfl,rfl⟩));by_cases ax:0<N
 case neg=>
  go_wp2_with fail;refine(iE _).mono ?_;rintro e w' ⟨rfl,rfl⟩;exact⟨rfl,.no ab.out (W.out.trans (if_neg λh=>ax h.1))⟩
 go_wp2_with fail;refine(gF _).mono ?_;rintro e w' ⟨rfl,rfl⟩;by_cases ag:ng<=100
 case neg=>
  have am:decide ((ng:Int)<=100)=false:=decide_eq_false (by omega);go_wp2_with fail;refine(iE _).mono ?_;rintro e w' ⟨rfl,rfl⟩;exact⟨rfl,.no ab.out (W.out.trans (if_neg λh=>ag h.2.1))⟩
 have am:(ng:Int)<=100:=by omega
 go_wp2_with fail;refine(gF _).mono ?_;rintro e w' ⟨rfl,rfl⟩;by_cases ay:N-ng<=30
 case neg=>
  have az:decide ((N:Int)-ng<=30)=false:=decide_eq_false (by omega);go_wp2_with fail;refine(iE _).mono ?_;rintro e w' ⟨rfl,rfl⟩;exact⟨rfl,.no ab.out (W.out.trans (if_neg λh=>ay h.2.2))⟩
 have az:(N:Int)-ng<=30:=by omega
 go_wp2_with fail;refine(gF _).mono ?_;rintro e w' ⟨rfl,rfl⟩;go_wp2;go_end0;exact .S9 ab.out (W.out.trans (if_pos ⟨ax,ag,ay⟩)) ⟨rfl,a5.out⟩
def SP(t:Jf)(X:Option (List (Nat×dp)×List (Nat×dp)))(e:Ending)(w':World):Prop:=match X with
 |some x=>e=.returned (.bool true)/\t.T w' (x.1++x.2)|none=>e=.returned (.bool false)
def Sn{S:ByteArray}(hT:t.Ok mx)(h:RG w Rb Mk t S rest [])(hS:S.size<=1099511627775)(hm:S.size<=mx) :
  b2 prog 158 #[.func (.func 159) #[.pointer (some ⟨Rb,0,none⟩)] #[]] w λe w'=>dw (ud Rb Mk t) w w'/\SP t (ij S.size rest) e w':=by
 have aj:∀(fn:Fn)(first cap:Array Value)(w:World),(Instr.makeFunc fn first cap).run prog w=.ok (.func fn first cap) w:=λ_ _ _ _=>rfl;obtain⟨w0,ab⟩:∃w0,w.alloc (.cells #[.bool false] 4)=w0:=⟨_,rfl⟩;have W:Below w.heap.size w w0:=by rw[<-ab];exact(bS _ _).alloc (bE _) _
 have ac:w0.heap[w.heap.size]?=some (.cells #[.bool false] 4 (0,0)):=by rw[<-ab];exact b3 w _
 have O:=N9 hT (h.below hT W) hS hm;have HD:bO (∀k,t.QN k->k<w.heap.size):=λk U=>hT.lt h.sd U
 have HZ:bO (¬ud Rb Mk t w.heap.size):=by
  rintro(U|U|U);obtain⟨p,h1,_⟩:=h.rd;have:=eS h1;omega;have:=h.kn.lt;omega;have:=HD.out _ (hT.sub _ U);omega
 have ad:bO _:=ac;have ah:bO (dw (ud Rb Mk t) w w0):=dw.eQ W;have HT:bO _:=hT;obtain⟨X,hX⟩:∃X,ij S.size rest=X:=⟨_,rfl⟩;rw[hX]at O⊢;clear h W ac hT hX;go_enter_defers func158,ntmps158;go_wp2_with fail;refine O.mono ?_;rintro e w1 ⟨g1,g2⟩;have y:w1.heap[w.heap.size]?=some (.cells #[.bool false] 4 (0,0)):=by rw[g1.block _ (eS ad.out) HZ.out];exact ad.out
 have ae:bO (dw (ud Rb Mk t) w w1):=ah.out.then g1;have ai:bO _:=y
 cases X with
 |none=>
  cases g2;refine bB (f:=210) (args:=#[.pointer (some ⟨w.heap.size,0,none⟩)]) (by simp) (by simp[go_sem]) ?_;refine(Em w.heap.size w1 false y).mono ?_;rintro e u' w2 ⟨rfl,rfl,rfl⟩
  have Y:((w1.alloc (.cells #[] 264)).setCell ⟨w.heap.size,0,none⟩ (.bool false)).heap[w.heap.size]?=some (.cells #[.bool false] 4 (0,0)):=by
   rw[heap_set (by rw[bT _ _ _ (eS y)];exact y)];rfl
  have aa:((w1.alloc (.cells #[] 264)).setCell ⟨w.heap.size,0,none⟩ (.bool false)).cell? ⟨w.heap.size,0,none⟩=some (.bool false):=by rw[dn Y];rfl
  refine⟨.bool false,?_,(ae.out.then (dw.eQ ((bS _ _).alloc (bE _) _))).trans (jV (F:=(· = w.heap.size)) rfl) (λi hi hg=>by omega),rfl⟩;simp[b6,ce,go_sem,aa]
 |some x=>
  obtain⟨rfl,g2⟩:=g2;have c1:=dn y 0;have f1:=dO y 0;have af:bO _:=g2;clear O g1 g2 y;go_wp2;refine bB (f:=210) (args:=#[.pointer (some ⟨w.heap.size,0,none⟩)]) (by simp) (by simp[go_sem]) ?_;refine(Jr _ _).mono ?_;rintro e u' w2 ⟨rfl,rfl,rfl⟩;have ag:dw (· = w.heap.size) w1 (w1.setCell ⟨w.heap.size,0,none⟩ (.bool true)):=jV rfl
  have Y:(w1.setCell ⟨w.heap.size,0,none⟩ (.bool true)).heap[w.heap.size]?=some (.cells #[.bool true] 4 (0,0)):=by
   rw[heap_set ai.out];rfl
  have aa:(w1.setCell ⟨w.heap.size,0,none⟩ (.bool true)).cell? ⟨w.heap.size,0,none⟩=some (.bool true):=by rw[dn Y];rfl
  refine⟨.bool true,?_,ae.out.trans ag (λi hi hg=>by omega),rfl,HT.out.stay af.out λk U=>ag.block k (HT.out.lt af.out U) (Nat.ne_of_lt (HD.out k U))⟩;simp[b6,ce,go_sem,aa]
def OH{S:ByteArray}(W:t.Ok mx)(h:t.T w [])(hS:S.size<=1099511627775)(hm:S.size<=mx) :
  b2 prog 117 #[.string S,t.v] w λe w'=>dw t.own w w'/\SP t (ij S.size S.data.toList) e w':=by
 have ag:=@bR prog;have ah:∀(fn:Fn)(first cap:Array Value)(w:World),(Instr.makeFunc fn first cap).run prog w=.ok (.func fn first cap) w:=λ_ _ _ _=>rfl;obtain⟨w0,y⟩:∃w0,w.alloc (.map #[] 0)=w0:=⟨_,rfl⟩;have af:w0.heap.size=w.heap.size+1:=by rw[<-y];simp
 obtain⟨w1,hw1⟩:∃w1,w0.alloc (.cells #[.string S,.int .i64 0,.map (some w.heap.size),t.v] 216)=w1:=⟨_,rfl⟩;have Y:Below w.heap.size w w0:=by rw[<-y];exact(bS _ _).alloc (bE _) _
 have O:Below w.heap.size w w1:=by rw[<-hw1];exact Y.alloc (by omega) _
 have aa:dM prog 9 w0 w.heap.size []:=by rw[<-y];exact dM.made w
 have ab:dM prog 9 w1 w.heap.size []:=aa.stay (by rw[<-hw1];exact bT _ _ _ (by omega));have ac:w1.heap[w.heap.size+1]?=some (.cells #[.string S,.int .i64 0,.map (some w.heap.size),t.v] 216 (0,0)):=by rw[<-hw1,<-af];exact b3 w0 _
 have ad:RG w1 (w.heap.size+1) w.heap.size t S S.data.toList []:=
  ⟨⟨0,ac,bF _,rfl⟩,ab,W.stay h λk hk=>O.block k (W.lt h hk),by simp,λk hk=>by have:=W.lt h hk;omega⟩
 have U:=Sn W ad hS hm;obtain⟨X,hX⟩:∃X,ij S.size S.data.toList=X:=⟨_,rfl⟩;rw[hX]at U⊢
 have ae:bO (∀w',dw (ud (w.heap.size+1) w.heap.size t) w1 w'->dw t.own w w'):=λw' g=>(dw.eQ O).trans g (λi hi hg=>by
  rcases hg with h|h|h
  omega;omega
  exact h)
 clear h Y O aa ab ac ad W hX;unfold Jf.v at hw1⊢;have ai:∀(a:Addr)(w:World),(store a (.func (.func t.fn) #[] t.cp)).run prog w=stored prog w a (.func (.func t.fn) #[] t.cp) .plain:=λa w=>run_store prog w a _ .plain rfl;go_enter func117,ntmps117;go_wp2_with fail;refine U.mono ?_;rintro e w2 ⟨g1,g2⟩;clear U
 cases X with
 |none=>
  cases g2;go_wp2;go_ret;exact⟨ae.out _ g1,rfl⟩
 |some x=>
  obtain⟨rfl,g2⟩:=g2;have HS:bO _:=g2;clear g2;go_wp2;go_ret;exact⟨ae.out _ g1,rfl,HS.out⟩
def VJ(O y:Nat):Jf where
 fn:=130
 cp:=#[.pointer (some ⟨O,0,none⟩)]
 own k:=k=y
 QN k:=k=y\/k=O
 T w told:=w.heap[O]?=some (.cells #[.map (some y)] 85 (0,0))/\eE w y (sn told)
def R5(U W mx:Nat):(VJ U W).Ok mx where
 gP:=⟨_,_,func130,rfl,by kernel_rfl⟩
 sub _ h:=Or.inl h
 lt:=by
  rintro w told k ⟨y,O⟩ (rfl|rfl);exact dM.lt O;exact eS y
 stay:=by
  rintro w w' told ⟨y,O⟩ h;exact⟨by rw[h U (Or.inr rfl)];exact y,dM.stay O (h W (Or.inl rfl))⟩
 tell:=by
  rintro w q told e ⟨y,O⟩ hn hl he _;refine(NZ U W (sn told) e q w y O hn (by rw[aY];exact hl) (by have:=he.1;unfold bz;omega)).mono ?_;rintro en w' ⟨rfl,g1,Y⟩;exact⟨rfl,⟨by rw[Y.block U (eS y) (λk=>dM.nP O y k.symm)];exact y,by rw[show sn (told++[(q,e)])=sn told++[e] by simp[sn]];exact g1⟩,Y⟩
def UZ(w:World)(X:Option (List dp×List dp))(e:Ending)(w':World):Prop:=match X with
 |some x=>∃B,e=.returned (.tuple #[.map (some B),.bool true])/\w.heap.size<=B/\eE w' B (x.1++x.2)|none=>e=.returned (.tuple #[.map none,.bool false])
def zH(S:ByteArray)(w:World)(hS:S.size<=1099511627775) :
  b2 prog 88 #[.string S] w λe w'=>Below w.heap.size w w'/\UZ w (pH S.data.toList) e w':=by
 have ah:=@bR prog;have ai:∀(fn:Fn)(first cap:Array Value)(w:World),(Instr.makeFunc fn first cap).run prog w=.ok (.func fn first cap) w:=λ_ _ _ _=>rfl;obtain⟨w0,O⟩:∃w0,w.alloc (.map #[] 0)=w0:=⟨_,rfl⟩;have ac:w0.heap.size=w.heap.size+1:=by rw[<-O];simp
 obtain⟨w1,U⟩:∃w1,w0.alloc (.cells #[.map (some w.heap.size)] 85)=w1:=⟨_,rfl⟩;have ad:Below w.heap.size w w0:=by rw[<-O];exact(bS ..).alloc (bE _) _
 have ae:Below w.heap.size w w1:=by rw[<-U];exact ad.alloc (by omega) _
 have af:eE w0 w.heap.size []:=by rw[<-O];exact dM.made w
 have ag:eE w1 _ []:=dM.stay af (by rw[<-U];exact bT _ _ _ (by omega));have W:w1.heap[w.heap.size+1]?=some (.cells #[.map (some w.heap.size)] 85 (0,0)):=by rw[<-U,<-ac];exact b3 w0 _
 have Y:=OH (R5 _ _ _) ⟨W,ag⟩ hS (bE _);rw[Od _];obtain⟨X,hX⟩:∃X,ij S.size S.data.toList=X:=⟨_,rfl⟩;rw[hX]at Y⊢;have aa:bO _:=W;have y:bO _:=ae;go_enter func88,ntmps88;go_wp2_with fail;refine Y.mono ?_;rintro e w2 ⟨g1,g2⟩
 have ab:bO (Below w.heap.size w w2):=by
  refine⟨g1.os.trans y.out.os,g1.tape.trans y.out.tape,g1.output.trans y.out.output,bG y.out.size g1.size,λk hk=>?_⟩;rw[g1.block k (bJ hk y.out.size) (by show k≠_;omega),y.out.block k hk]
 have c2:w2.cell? ⟨w.heap.size+1,0,none⟩=some (.map (some w.heap.size)):=by
  rw[dn (by rw[g1.block _ (eS aa.out) (by show w.heap.size+1≠_;omega)];exact aa.out)];rfl
 cases X with
 |none=>
  cases g2;go_wp2;go_ret2;exact⟨ab.out,rfl⟩
 |some x=>
  obtain⟨rfl,g2⟩:=g2;have HS:bO (eE w2 w.heap.size (sn x.1++sn x.2)):=by rw[<-show sn _=sn _++sn _ from bc];exact g2.2
  go_wp2;go_ret2;exact⟨ab.out,_,rfl,bE _,HS.out⟩
variable {fs rst:List dp} {r:Nat}
def vd(es:List dp)(e:dp)(v:Value)(y:v=rC e):rV (es.map j6) e.name v=(dL es [e]).map j6:=by
 subst y;unfold rV dL;rw[bc,List.filter_map]
 have:(es.filter ((λp=>p.1 != e.name) ∘ j6))=es.filter (j5 [e]):=by
  refine List.filter_congr λx _=>?_;rw[Bool.eq_iff_iff,iw];simp[names,j6]
 rw[this];rfl
def eE.perm{w:World}{B:Nat}{es:List dp}(h:eE w B es)(y:es.Perm fs):eE w B fs:=dM.perm h (y.map j6)
def eE.nodup{w:World}{B:Nat}{es:List dp}(h:eE w B es):(es.map dp.name).Nodup:=by
 have:=dM.nodup h;rw[List.map_map]at this;exact this
def Ro(B:Nat)(es:List dp)(e:dp)(w:World)(hs:eE w B es)(hg:e.gone=false)(hl:es.length<1099511627776)(Y:e.name.length<=bz) :
  b2 prog 72 #[.map (some B),AN e] w λen w'=>en=.returned (.tuple #[])/\eE w' B (dL es [e])/\dw (· = B) w w':=by
 obtain⟨nm,gn,tx,wt,tg⟩:=e;simp only at hg;subst hg;have y:=vd es ⟨nm,false,tx,wt,tg⟩ (.agg #[.bool false,.string ⟨nm.toArray⟩,.string ⟨tx.toArray⟩,.int .i64 wt,.int .i64 tg]) rfl;obtain⟨w0,U⟩:∃w0,w.alloc (.cells #[.string ⟨nm.toArray⟩,.string ⟨tx.toArray⟩,.int .i64 wt,.int .i64 tg] 96)=w0:=⟨_,rfl⟩;have O:Below w.heap.size w w0:=by rw[<-U];exact(bS _ _).alloc (bE _) _
 have W:w0.heap[w.heap.size]?=some (.cells #[.string ⟨nm.toArray⟩,.string ⟨tx.toArray⟩,.int .i64 wt,.int .i64 tg] 96 (0,0)):=by rw[<-U];exact b3 w _
 have d0:=dn W;have aa:bO _:=O;have ab:bO (eE w0 B es):=dM.below hs O;have HP:bO _:=y;clear hs W O y;unfold AN;go_enter func72,ntmps72;go_wp2_with (first|(at_mapUpdate;refine jB _ rfl _ _ _ 85 rfl 111 bV bW rfl ab.out (by rw[aY];unfold bz;omega) nm Y rfl (.agg #[.bool false,.string ⟨nm.toArray⟩,.string ⟨tx.toArray⟩,.int .i64 wt,.int .i64 tg]) rfl ?_;intro w1 ac ad ae));go_end0;refine⟨rfl,?_,(dw.eQ aa.out).then (dw.qd ad)⟩;unfold eE;rw[<-HP.out];exact ac
def E7(B:Nat)(es:List dp)(nm:Wd)(w:World)(hs:eE w B es)(hl:es.length<1099511627776)(O:nm.length<=bz) :
  b2 prog 71 #[.map (some B),.string ⟨nm.toArray⟩] w λen w'=>en=.returned (.tuple #[])/\eE w' B (dL es [⟨nm,true,[],0,0⟩])/\dw (· = B) w w':=by
 have y:=vd es ⟨nm,true,[],0,0⟩ (.agg #[.bool true,.string ⟨#[]⟩,.string ⟨#[]⟩,.int .i64 0,.int _ 0]) rfl;have U:bO _:=hs;have HP:bO _:=y;go_enter func71,ntmps71;go_wp2_with (first|(refine jB _ rfl _ _ _ 85 rfl _ bV bW rfl U.out (by rw[aY];unfold bz;omega) nm O rfl _ rfl ?_;intro w1 W Y aa));go_end0;refine⟨rfl,?_,dw.qd Y⟩;unfold eE;rw[<-HP.out];exact W
def my(w:World)(B r:Nat)(es rst:List dp):Prop:=eF prog 9 w B r (es.map j6) (rst.map j6)
def eF.perm{P:Program}{k:b8}{w:World}{B:Nat}{l a b:List (Wd×Value)}(h:eF P k w B r l a)(y:a.Perm b):eF P k w B r l b:=by
 obtain⟨O,U,D,left,cnt,W,Y,h5⟩:=h;exact⟨(y.map _).nodup_iff.1 O,λp hm=>U p (y.mem_iff.2 hm),D,left,cnt,W,Y,λx=>by rw[h5 x,ER y]⟩
def SB{p:Wd×Value}{left:List (Wd×Value)}(h:(rst.map j6).Perm (p::left)):∃e y,p=j6 e/\left.Perm (y.map j6)/\rst.Perm (e::y):=by
 have hm:=h.mem_iff.2 (ba ..);obtain⟨e,O,rfl⟩:=aZ.1 hm;obtain⟨a,b,rfl⟩:=List.append_of_mem O;refine⟨e,a++b,rfl,?_,bw⟩
 have U:((a++e::b).map j6).Perm (j6 e::(a++b).map j6):=by
  exact bw.map _
 exact(h.symm.trans U).cons_inv
section
variable {B:Nat} {es:List dp} (w:World) {ops:Array Oper} {rest:List Oper} {o:Oper} {a:Act} {Q:Exit->Act->World->Prop}
def kH(O:o.guard=none)(m:Operand)(y:o.op=Op.range 85 m)(hm:a.eval m=.map (some B))(h:eE w B es)
  (U:∀w',my w' B w.heap.size es es->w.grownBy w' none->w'.heap.size=w.heap.size+1->b7 prog ops Q rest (a.put o.dst (.pointer (some ⟨w.heap.size,0,none⟩))) w') :
  b7 prog ops Q (o::rest) a w:=
 Bh w O m 85 y _ bV bW hm h U
def lM(hg:o.guard=none)(it:Operand)(U:o.op=Op.next it false)(r:Nat)(rst:List dp)
  (W:a.eval it=.pointer (some ⟨r,0,none⟩)) (h:my w B r es rst)
  (O:rst=[]->b7 prog ops Q rest (a.put o.dst (.tuple #[.bool false])) w)
  (hMore:∀(e:dp)(y:List dp)(w':World),rst.Perm (e::y)->my w' B r es y->w'.rangeLeft B r<w.rangeLeft B r->w.grownBy w' (some r)->w'.heap.size=w.heap.size->
    (Instr.entry (.pointer (some ⟨r,0,none⟩))).run prog w'=.ok (.tuple #[.string ⟨e.name.toArray⟩,.agg #[.bool e.gone,.string ⟨(xI e).toArray⟩,.string ⟨e.text.toArray⟩,.int .i64 e.du,.int .i64 e.dE]]) w'->
    b7 prog ops Q rest (a.put o.dst (.tuple #[.bool true,.string ⟨e.name.toArray⟩,.agg #[.bool e.gone,.string ⟨(xI e).toArray⟩,.string ⟨e.text.toArray⟩,.int .i64 e.du,.int .i64 e.dE]])) w') :
  b7 prog ops Q (o::rest) a w:=by
 refine D3 w hg it U bV r _ W h (λh0=>O (by simpa using h0)) ?_;intro p Y w' hp hr aa ab ac ad;obtain⟨e,y,rfl,h1,h2⟩:=SB hp;exact hMore e y w' h2 (hr.perm h1) aa ab ac ad
end
def my.alloc{w:World}{B:Nat}{es:List dp}(h:my w B r es rst)(o:Obj):my (w.alloc o) B r es rst:=eF.kept h (cg w o none) (by simp) (by simp)
def jf{w:World}{B:Nat}{o:Obj}(y:B<w.heap.size)(O:r<w.heap.size):(w.alloc o).rangeLeft B r=w.rangeLeft B r:=
 eF.jT (bT _ _ _ y) (bT _ _ _ O)
def mz{w0 w w':World}(h:Below w0.heap.size w0 w)(y:w.grownBy w' (some r))(O:w0.heap.size<=r):Below w0.heap.size w0 w':=h.grown y h.size (λk U=>by cases U;exact O)
def jp(es:List dp):Nat:=(es.filter λe=>e.gone).length
def yQ(es:List dp)(e:dp):jp (es++[e])=jp es+(if e.gone then 1 else 0):=by
 unfold jp;cases h:e.gone<;>simp[h]
def GF(es:List dp):jp es<=es.length:=List.length_filter_le ..
def J9{es:List dp}(h:es.Perm fs):jp es=jp fs:=(h.filter _).length_eq
def ju{O y es:List dp}{e:dp}(h:(O++rst).Perm es)(U:rst.Perm (e::y)):((O++[e])++y).Perm es:=by
 refine List.Perm.trans ?_ h;rw[bi];exact(cl O).append U.symm
def CS(B:Nat)(es:List dp)(w:World)(hs:eE w B es)(hl:es.length<1099511627776) :
  b2 prog 70 #[.map (some B)] w λen w'=>en=.returned (.int .i64 (jp es))/\Below w.heap.size w w':=by
 have HS:bO (eE w B es):=hs;have ai:=dM.lt hs;clear hs;go_enter func70,ntmps70;go_wp2_with (first|(at_range;refine kH _ rfl _ rfl rfl HS.out ?_;intro w0 hrg0 hg0 aj));go_frame;go_loopw [3] (λg wr=>∃(y rst:List dp),(y++rst).Perm es/\g=.int .i64 (jp y)/\my wr B w.heap.size es rst/\Below w.heap.size w wr) (λ_ wr=>wr.rangeLeft B w.heap.size)
 case atStart=>exact⟨[],es,cl _,rfl,hrg0,(bS _ w).grown hg0 (bE _) (λk hk=>by cases hk)⟩
 case round=>
  obtain⟨y,rst,eL,rfl,hr,hb⟩:=hrel;have HP:bO ((y++rst).Perm es):=eL;have HR:bO (my wr B w.heap.size es rst):=hr;have HB:bO (Below w.heap.size w wr):=hb
  have ak:jp y<=es.length:=by
   have h1:=GF y;have h2:=eL.length_eq;rw[aX]at h2;omega
  clear eL hr hb;go_wp2_with (first|(at_next;refine lM _ rfl _ rfl w.heap.size rst rfl HR.out ?_ ?_))
  .intro h0
   have HE:bO (jp y=jp es):=by
    show _=_;refine J9 ?_;have:=HP.out;rw[h0,bd]at this;exact this
   clear h0;go_wp2;go_ret;exact⟨eI (by rw[HE.out]),HB.out⟩
  intro e O w1 Y U W aa ab al;have ac:=eF.lt U;have ad:=dM.lt (eF.owns U);have ae:bO (Below w.heap.size w w1):=mz HB.out aa (bE _);have af:bO (my w1 B w.heap.size es O):=U;have ag:bO (w1.rangeLeft B w.heap.size<wr.rangeLeft B w.heap.size):=W;have ah:bO (rst.Perm (e::O)):=Y;clear Y U W aa;obtain⟨nm,gn,tx,wt,tg⟩:=e
  cases gn with
  |false=>
   go_wp2;go_roundw
   case rel=>
    refine⟨y++[⟨nm,false,tx,wt,tg⟩],O,ju HP.out ah.out,?_,af.out.alloc _,ae.out.alloc (bG HB.out.size (by rw[ab];exact bE _)) _⟩;rw[yQ];simp
   case measure=>
    rw[jf ad ac];exact ag.out
  |true=>
   go_wp2;go_roundw
   case rel=>
    refine⟨y++[⟨nm,true,tx,wt,tg⟩],O,ju HP.out ah.out,?_,af.out.alloc _,ae.out.alloc (bG HB.out.size (by rw[ab];exact bE _)) _⟩;rw[yQ];go_num
   case measure=>
    rw[jf ad ac];exact ag.out
variable {e:dp} {l:List dp}
def FJ(h:e.name ∉ l.map dp.name):dL l [e]=l++[e]:=by
 unfold dL;rw[bs.2];intro x y;rw[iw];simp only[names,bo,bx,bu];intro O;exact h (aZ.2 ⟨x,y,O⟩)
def Gb{y O es:List dp}(Y:(es.map dp.name).Nodup)(h:(y++rst).Perm es)(hp:rst.Perm (e::O)):e.name ∉ y.map dp.name:=by
 have h1:=ju h hp;have U:=(h1.map _).nodup_iff.2 Y;rw[bc,bc,bv]at U;have W:=U.1;rw[bv]at W;intro hm;exact W.2.2 _ hm _ (by simp) rfl
def wD(l:List dp)(e:dp):dv (l++[e])=dv l++(if e.gone then []else [e]):=by
 unfold dv;cases h:e.gone<;>simp[h]
def DD{x:Wd}(h:x ∉ l.map dp.name):x ∉ (dv l).map dp.name:=by
 intro hm;obtain⟨e,y,rfl⟩:=aZ.1 hm;exact h (aZ.2 ⟨e,(bl.1 y).1,rfl⟩)
def oF(B:Nat)(es:List dp)(w:World)(hs:eE w B es)(hl:es.length<1099511627776)(ai:∀e∈es,e.name.length<=bz) :
  b2 prog 60 #[.map (some B)] w λen w'=>∃C,en=.returned (.map (some C))/\w.heap.size<=C/\eE w' C (dv es)/\Below w.heap.size w w':=by
 have a8:=@bR prog;have aj:=hs.nodup;obtain⟨w0,ae⟩:∃w0,w.alloc (.map #[] 0)=w0:=⟨_,rfl⟩;have au:w0.heap.size=w.heap.size+1:=by rw[<-ae];simp
 have hb0:Below w.heap.size w w0:=by rw[<-ae];exact(bS _ _).alloc (bE _) _
 have hM0:eE w0 w.heap.size []:=by rw[<-ae];exact dM.made w
 have HS:bO (eE w0 B es):=dM.below hs hb0;have av:bO ((es.map dp.name).Nodup):=aj;have aw:bO (∀e∈es,e.name.length<=bz):=ai;have a9:=dM.lt hs;clear hs aj ai;go_enter func60,ntmps60;go_wp2_with (first|(at_range;refine kH _ rfl _ rfl rfl HS.out ?_;intro w1 hrg0 hg0 ax));rw[au]at hrg0 ax⊢;go_frame;go_loopw [4] (λ_ wr=>∃(y rst:List dp),(y++rst).Perm es/\my wr B (w.heap.size+1) es rst/\eE wr w.heap.size (dv y)/\Below w.heap.size w wr) (λ_ wr=>wr.rangeLeft B (w.heap.size+1))
 case atStart=>exact⟨[],es,cl _,hrg0,dM.kept hM0 hg0 (by simp),hb0.grown hg0 hb0.size (λk hk=>by cases hk)⟩
 case round=>
  obtain⟨y,rst,eL,hr,hm,hb⟩:=hrel;have HP:bO ((y++rst).Perm es):=eL;have HR:bO (my wr B (w.heap.size+1) es rst):=hr;have HM:bO (eE wr w.heap.size (dv y)):=hm;have HB:bO (Below w.heap.size w wr):=hb
  have a':(dv y).length<=es.length:=by
   have h1:=pP y;have h2:=eL.length_eq;rw[aX]at h2;omega
  clear eL hr hb hm;go_wp2_with (first|(at_next;refine lM _ rfl _ rfl (w.heap.size+1) rst rfl HR.out ?_ ?_))
  .intro h0
   have HE:bO (y.Perm es):=by
    show List.Perm _ _;have:=HP.out;rw[h0,bd]at this;exact this
   clear h0;go_wp2;go_ret;exact⟨_,rfl,bE _,HM.out.perm (wz HE.out),HB.out⟩
  intro e O w2 W Y ac af ay aA;have ak:=eF.lt Y;have al:=dM.lt (eF.owns Y);have ag:bO (Below w.heap.size w w2):=mz HB.out af (by omega);have am:bO (my w2 B (w.heap.size+1) es O):=Y;have an:bO (w2.rangeLeft B (w.heap.size+1)<wr.rangeLeft B (w.heap.size+1)):=ac;have ao:bO (rst.Perm (e::O)):=W;have ap:bO (eE w2 w.heap.size (dv y)):=dM.kept HM.out af (by simp);have az:e.name.length<=bz:=aw.out e (HP.out.mem_iff.1 (bq _ (W.mem_iff.2 (ba ..))));have ad:=Gb av.out HP.out W;have U:=vd (dv y) e (.agg #[.bool e.gone,.string ⟨(xI e).toArray⟩,.string ⟨e.text.toArray⟩,.int .i64 e.du,.int .i64 e.dE]) rfl;rw[FJ (DD ad)]at U;have aa:=wD y e;clear W Y ac af ad;obtain⟨nm,gn,tx,wt,tg⟩:=e
  cases gn with
  |true=>
   have ah:bO (dv (y++[⟨nm,true,tx,wt,tg⟩])=dv y):=by show _=_;rw[aa];simp
   clear aa U;go_wp2;go_roundw
   case rel=>
    exact⟨y++[⟨nm,true,tx,wt,tg⟩],O,ju HP.out ao.out,am.out.alloc _,by rw[ah.out];exact dM.kept ap.out (cg _ _ none) (by simp),ag.out.alloc (bG HB.out.size (by rw[ay];exact bE _)) _⟩
   case measure=>
    rw[jf al ak];exact an.out
  |false=>
   have ah:bO (dv (y++[⟨nm,false,tx,wt,tg⟩])=dv y++[⟨nm,false,tx,wt,tg⟩]):=by show _=_;rw[aa];simp
   have aq:bO (rV ((dv y).map j6) nm (.agg #[.bool false,.string ⟨(xI (⟨nm,false,tx,wt,tg⟩:dp)).toArray⟩,.string ⟨tx.toArray⟩,.int .i64 wt,.int .i64 tg])=(dv y++[(⟨nm,false,tx,wt,tg⟩:dp)]).map j6):=U;clear aa U;have ar:=λo:Obj=>dM.kept ap.out (cg w2 o none) (by simp);have a5:bO (∀o:Obj,dM prog 9 (w2.alloc o) w.heap.size ((dv y).map j6)):=ar;clear ar;go_wp2_with (first|(at_mapUpdate;refine jB _ rfl _ _ _ 85 rfl 111 bV bW rfl (a5.out _) (by rw[aY];unfold bz;omega) nm az rfl (.agg #[.bool false,.string ⟨(xI (⟨nm,false,tx,wt,tg⟩:dp)).toArray⟩,.string ⟨tx.toArray⟩,.int .i64 wt,.int .i64 tg]) rfl ?_;intro w3 a6 ab aB));have a7:w.heap.size<=w2.heap.size:=ag.out.size;refine⟨⟨y++[⟨nm,false,tx,wt,tg⟩],O,ju HP.out ao.out,eF.kept (am.out.alloc _) ab (by simp;omega) (by simp),?_,(ag.out.alloc a7 _).grown ab (by simp;omega) (λk hk=>by cases hk;exact bE _)⟩,?_⟩;rw[ah.out];unfold eE;rw[<-aq.out];exact a6;rw[eF.jT (ab.block B (by simp;omega) (by simp;omega)) (ab.block (w.heap.size+1) (by simp;omega) (by simp)),jf al ak];exact an.out
def PO(B C:Nat)(ds es:List dp)(w:World)(hd:eE w B ds)(hs:eE w C es)(ax:B≠C)(hl:es.length<549755813888)(ay:ds.length<549755813888)(af:∀e∈es,e.name.length<=bz) :
  b2 prog 89 #[.map (some B),.map (some C)] w λen w'=>en=.returned (.tuple #[])/\eE w' B (dL ds es)/\dw (· = B) w w':=by
 have ag:=hs.nodup;have HS:bO (eE w C es):=hs;have HD:bO (eE w B ds):=hd;have aj:bO ((es.map dp.name).Nodup):=ag;have ak:bO (∀e∈es,e.name.length<=bz):=af;have az:=dM.lt hd;have a5:=dM.lt hs;clear hs hd ag af;go_enter func89,ntmps89;go_wp2_with (first|(at_range;refine kH _ rfl _ rfl rfl HS.out ?_;intro w1 hrg0 O a6));go_frame;go_loopw [4] (λ_ wr=>∃(y rst:List dp),(y++rst).Perm es/\my wr C w.heap.size es rst/\eE wr B (dL ds y)/\dw (· = B) w wr) (λ_ wr=>wr.rangeLeft C w.heap.size)
 case atStart=>exact⟨[],es,cl _,hrg0,by rw[jZ];exact dM.kept HD.out O (by simp),⟨O.os,O.tape,O.output,O.size,λk hk _=>O.block k hk (by simp)⟩⟩
 case round=>
  obtain⟨y,rst,eL,hr,hm,hb⟩:=hrel;have HP:bO ((y++rst).Perm es):=eL;have HR:bO (my wr C w.heap.size es rst):=hr;have HM:bO (eE wr B (dL ds y)):=hm;have HB:bO (dw (· = B) w wr):=hb
  have a7:(dL ds y).length<=1099511627775:=by
   have h1:=C7 ds y;have h2:=eL.length_eq;rw[aX]at h2;omega
  clear eL hr hb hm;go_wp2_with (first|(at_next;refine lM _ rfl _ rfl w.heap.size rst rfl HR.out ?_ ?_))
  .intro h0
   have HE:bO (y.Perm es):=by
    show List.Perm _ _;have:=HP.out;rw[h0,bd]at this;exact this
   clear h0;go_wp2;go_end0;exact⟨rfl,HM.out.perm (C9 (cl _) HE.out),HB.out⟩
  intro e U w2 Y aa ac ae a8 a9;have al:=eF.lt aa;have am:=dM.lt (eF.owns aa);have a':=HB.out.size;have an:bO (dw (· = B) w w2):=HB.out.trans (dw.qd ae) (λi hi hg=>by omega);have ao:bO (my w2 C w.heap.size es U):=aa;have ap:bO (w2.rangeLeft C w.heap.size<wr.rangeLeft C w.heap.size):=ac;have aq:bO (rst.Perm (e::U)):=Y;have ah:bO (eE w2 B (dL ds y)):=dM.kept HM.out ae (by simp;omega);have ar:e.name.length<=bz:=ak.out e (HP.out.mem_iff.1 (bq _ (Y.mem_iff.2 (ba ..))));have ad:=Gb aj.out HP.out Y;have W:=vd (dL ds y) e (.agg #[.bool e.gone,.string ⟨(xI e).toArray⟩,.string ⟨e.text.toArray⟩,.int .i64 e.du,.int .i64 e.dE]) rfl;rw[qj,FJ ad]at W;have ai:bO (rV ((dL ds y).map j6) e.name (.agg #[.bool e.gone,.string ⟨(xI e).toArray⟩,.string ⟨e.text.toArray⟩,.int .i64 e.du,.int .i64 e.dE])=(dL ds (y++[e])).map j6):=W;have au:bO (∀o:Obj,dM prog 9 (w2.alloc o) B ((dL ds y).map j6)):=λo=>dM.kept ah.out (cg w2 o none) (by simp);clear Y aa ac ae ad W;go_wp2_with (first|(at_mapUpdate;refine jB _ rfl _ _ _ 85 rfl 111 bV bW rfl (au.out _) (by rw[aY];unfold bz;omega) e.name ar rfl (.agg #[.bool e.gone,.string ⟨(xI e).toArray⟩,.string ⟨e.text.toArray⟩,.int .i64 e.du,.int .i64 e.dE]) rfl ?_;intro w3 av ab aA));have aw:=dM.lt ah.out;refine⟨⟨_,_,_,_,_,_,_,_,_,_,⟨y++[e],U,ju HP.out aq.out,eF.kept (ao.out.alloc _) ab (by simp;omega) (by simp;omega),?_,(an.out.then (dw.eQ ((bS _ _).alloc (bE _) _))).then (dw.qd ab)⟩,rfl⟩,?_⟩;unfold eE;rw[<-ai.out];exact av;rw[eF.jT (ab.block C (by simp;omega) (by simp;omega)) (ab.block _ (by simp;omega) (by simp;omega)),jf am al];exact ap.out
def yO(c:Nat):Value:=.map (some c)
structure K0(w:World)(v:Value)(Cs:List Nat)(ls:List (List dp)):Prop where
 rd:Rd w v (Cs.map yO)
 len:Cs.length=ls.length
 each:∀i(h:i<ls.length)(h':i<Cs.length),eE w Cs[i] ls[i]
def xK(y:List (List dp))(k:Nat)(h:k<y.length):eu (y.take (k+1))=dL (eu (y.take k)) y[k]:=by
 rw[List.take_succ_eq_append_getElem h,ew]
def Oe(y:List (List dp))(k:Nat)(h:k<y.length):y[k].length<=ic y:=by
 have O:=yL y k h;have U:=Hb y (k+1);omega
def sQ(y:List (List dp))(k:Nat)(O:k<=y.length):(eu (y.take k)).length<=ic y:=by
 have U:=G9 y k O;have W:=Hb y k;rw[zm]at U;omega
def ua(v:Value)(Y:List Nat)(y:List (List dp))(w:World)(h:K0 w v Y y)(ak:ic y<=536870912)(ad:∀l∈y,∀e∈l,e.name.length<=bz) :
  b2 prog 58 #[v] w λen w'=>∃B,en=.returned (.map (some B))/\w.heap.size<=B/\eE w' B (eu y)/\Below w.heap.size w w':=by
 have al:=@bR prog;obtain⟨a,cap,rfl,ah,hcm,ae⟩:=id h.rd;have af:(Y.map yO).length=y.length:=by rw[aY,h.len]
 rw[af]at ah⊢;have am:=N1 y;unfold bz at hcm;obtain⟨w0,ab⟩:∃w0,w.alloc (.map #[] 0)=w0:=⟨_,rfl⟩;have an:w0.heap.size=w.heap.size+1:=by rw[<-ab];simp
 have hb0:Below w.heap.size w w0:=by rw[<-ab];exact(bS _ _).alloc (bE _) _
 have hM0:eE w0 w.heap.size []:=by rw[<-ab];exact dM.made w
 have HL:bO (K0 w (.slice a (Y.map yO).length cap) Y y):=h;have ai:bO (∀j u,(Y.map yO)[j]?=some u->∃b off,a=some ⟨b,off,none⟩/\w.cell? ⟨b,off+j,none⟩=some u):=ae;have aj:bO (∀l∈y,∀e∈l,e.name.length<=bz):=ad;clear h ae af ad;go_enter func58,ntmps58;go_wp2;go_loopw [9] (λi wr=>∃k:Nat,k<=y.length/\i=.int .i64 k/\eE wr w.heap.size (eu (y.take k))/\Below w.heap.size w wr) (λi _=>y.length-(intOf i).toNat)
 case atStart=>exact⟨0,bF _,rfl,hM0,hb0⟩
 case round=>
  obtain⟨k,hk,rfl,hm,hb⟩:=hrel;have HM:bO (eE wr w.heap.size (eu (y.take k))):=hm;have W:bO (Below w.heap.size w wr):=hb;clear hm hb;by_cases O:k<y.length
  .have ag:k<Y.length:=by rw[HL.out.len];exact O
   obtain⟨bb,off,rfl,U⟩:=ai.out k (yO Y[k]) (by simp[ag]);have hc:=b4 W.out U;unfold yO at hc;have ac:=HL.out.each k O ag;have ao:=dM.lt ac;have aa:=PO w.heap.size Y[k] (eu (y.take k)) y[k] wr HM.out (dM.below ac W.out) (by omega) (by have:=Oe y k O;omega) (by have:=sQ y k hk;omega) (aj.out _ (bf O));rw[<-xK y k O]at aa;clear U ac;go_wp2_with fail;refine aa.mono ?_;rintro e w1 ⟨rfl,q1,q2⟩;have HM1:bO (eE w1 w.heap.size (eu (y.take (k+1)))):=q1
   have HB1:bO (Below w.heap.size w w1):=by
    refine⟨q2.os.trans W.out.os,q2.tape.trans W.out.tape,q2.output.trans W.out.output,bG W.out.size q2.size,λi hi=>?_⟩;rw[q2.block i (bJ hi W.out.size) (by omega),W.out.block i hi]
   go_wp2;go_roundw
   case rel=>exact⟨k+1,by omega,by go_num,HM1.out,HB1.out⟩
   case measure=>simp[intOf];omega
  have HE:bO (y.take k=y):=bp (by omega);go_wp2;go_ret;refine⟨_,rfl,bE _,?_,W.out⟩;have:=HM.out;rw[HE.out]at this;exact this
def RP(h:NN e):KV e:=by
 rcases h with h|h
 have y:=fZ h.2.1;have U:=kg h.2.2.1;have W:=h.2.2.2.2;exact⟨by omega,by omega,⟨by omega,by omega⟩,by omega,by omega⟩;have y:=fZ h.2;have O:e.text=[]:=by rw[h.1]
 have Y:e.du=0:=by rw[h.1]
 have e3:e.dE=0:=by rw[h.1]
 exact⟨by omega,by rw[O];simp,⟨by omega,by omega⟩,by omega,by omega⟩
def ru(h:NN e):gq e.name=true:=by
 rcases h with h|h
 exact h.2.1;exact h.2
def JC(l:List dp)(h:∀e∈l,e.name.length<=8):(l.flatMap λe=>dC e.name).length<=l.length*9:=by
 induction l with
 |nil=>simp|cons e l y=>
  rw[List.flatMap_cons,aX];have O:=y (λx U=>h x (bk _ U));have W:=h e (ba ..);simp only[dC,be]at O⊢;omega
def pB(h:kz l):(dK l).length<=3000000000:=by
 unfold dK
 have U:((eW l).filter λe=>e.gone).length<=100:=by
  rw[((fL l).filter _).length_eq];exact h.gone
 have W:((eW l).filter λe=>!e.gone).length<=30:=by
  rw[((fL l).filter _).length_eq];exact h.there
 have Y:=JC ((eW l).filter λe=>e.gone) (λe y=>(fZ (ru (h.each e (nz.1 (bl.1 y).1)))).2);have h2:=Q1 26 [] ((eW l).filter λe=>!e.gone) (λe y=>RP (h.each e (nz.1 (bl.1 y).1)));have O:(dC []).length=1:=rfl;simp only[be,aX,O];omega
def mI(h:kz l):∀e∈l,e.name.length<=bz:=λe y=>by
 have:=(fZ (ru (h.each e y))).2;unfold bz;omega
def lm(h:kz l):l.length<=130:=by
 have y:=jM l;have O:=h.gone;have U:(dv l).length<=30:=h.there;omega
def pq(s:List dp)(w:World)(h:kz s) :
  b2 prog 73 #[.string ⟨(dK s).toArray⟩] w λY w'=>∃B,Y=.returned (.map (some B))/\w.heap.size<=B/\eE w' B s/\Below w.heap.size w w':=by
 have hl:=pB h;obtain⟨gs,es,O,U⟩:=tV h;have y:=zH ⟨(dK s).toArray⟩ w (by show(dK s).toArray.size<=_;simp;omega);rw[show pH (⟨(dK s).toArray⟩:ByteArray).data.toList=_ from O]at y;have HP:bO _:=U;clear U O hl h;go_enter func73,ntmps73;go_wp2_with fail;refine y.mono ?_;rintro e w1 ⟨hb,B,rfl,hB,W⟩;have HS:bO (eE w1 B s):=eE.perm W HP.out;have HB:bO _:=hb;clear y W hb;go_wp2;go_ret;exact⟨B,rfl,hB,HS.out,HB.out⟩
variable {ss:List (List dp)} {buf:List dp}
def Sb:(prog.info? 85).map (λi=>(i.zero,i.size,i.bytes))=some (some (.map none),1,8):=by kernel_rfl
structure ED(w:World)(F:Nat->Prop)(b:Nat)(buf:List dp)(ss:List (List dp))(Bb:Nat)(vS vM vK:Value):Prop where
 blk:w.heap[b]?=some (.cells #[.map (some Bb),vS,vM,vK] 90 (0,0))
 fb:F b
 fB:F Bb
 say:eE w Bb buf
 row:w.ownsRow 0 9 1 vS ss.length (dl (ss.map dK))
 lr:∀k,vS.ownBlock=some k->F k
 inv:Inv buf ss
def qQ{w:World}{base e n:Nat}{v:Value}{xs:List Value}(O:w.ownsRow base e 1 v n xs){P:Program}{k:b8}{B:Nat}{l:List (Wd×Value)}(hm:dM P k w B l):some B≠v.ownBlock:=by
 rcases O.2 with⟨rfl,_⟩|⟨g,cap,U,rfl,_,W,_⟩
 simp[Value.ownBlock];intro y;simp only[Value.ownBlock,cj]at y;exact hm.nP W y
def qM(h:Inv buf ss):buf.length<=130:=by
 have O:=jM buf;have U:=h.gone;have y:=h.all;rw[fl,ew]at y;have W:=lB (eu ss) buf;omega
def Nq(ss:List (List dp))(h:∀s∈ss,kz s):ic ss<=ss.length*131:=by
 induction ss with
 |nil=>simp[ic]|cons s ss y=>
  have O:=y (λx U=>h x (bk _ U));have W:=lm (h s (ba ..));simp only[ic,bo,List.sum_cons,be]at O⊢;omega
def EW(a b:List (List dp)):ic (a++b)=ic a+ic b:=by simp[ic]
def O0(h:Inv buf ss):ic (ss++[buf])<=1000:=by
 have y:=Nq ss h.iB;have O:=h.qg;have U:=qM h;rw[EW];have:ic [buf]=buf.length+1:=by simp[ic]
 omega
def vG(h:Inv buf ss):∀l∈ss++[buf],∀e∈l,e.name.length<=bz:=by
 intro l U e O;rcases List.mem_append.1 U with y|y
 exact mI (h.iB l y) e O;simp only[bu]at y;subst y;have:=(fZ (ru (h.each e O))).2;unfold bz;omega
def oB{y:List (List dp)}(h:∀l∈y,∀e∈l,e.name.length<=bz):∀e∈eu y,e.name.length<=bz:=by
 have:∀(y:List _)(a:List dp),(∀e∈a,e.name.length<=bz)->(∀l∈y,∀e∈l,e.name.length<=bz)->∀e∈y.foldl dL a,e.name.length<=bz:=by
  intro y;induction y with
  |nil=>intro a O _ e U;exact O e U|cons l y ih=>
   intro a O Y e U;refine ih _ (λx hx=>?_) (λm hm=>Y m (bk _ hm)) e U;rcases lP.1 hx with W|W
   exact O x W.1;exact Y l (ba ..) x W
 exact this y [] (nofun) h
def tQ(F:Nat->Prop)(b:Nat)(buf:List dp)(ss:List (List dp))(Bb:Nat)(vS vM vK:Value)(w:World)(h:ED w F b buf ss Bb vS vM vK) :
  b2 prog 59 #[.pointer (some ⟨b,0,none⟩)] w λen w'=>∃C,en=.returned (.map (some C))/\w.heap.size<=C/\eE w' C (dP ss buf)/\Below w.heap.size w w':=by
 obtain⟨i0,hi,ag,ah,ai⟩:=bD Sb;obtain⟨aS,cS,rfl,aG⟩:=dN h.row;have aj:=Rd.jk h.row;have ay:=dn h.blk;have h6:=h.inv.qg
 have HR:bO (∀j(hj:j<ss.length),∃bb off,aS=some ⟨bb,off,none⟩/\w.cell? ⟨bb,off+j,none⟩=some (.string ⟨(dK ss[j]).toArray⟩)):=by
  intro j hj;obtain⟨a',c',he,_,_,hr⟩:=aj;simp only[Value.slice.injEq]at he;obtain⟨rfl,_,rfl⟩:=he;exact hr j _ (by simp[dl,hj])
 have HP:bO _:=h;clear h aj;go_enter func59,ntmps59;go_wp2;go_loopw [3,11] (λv i wr=>∃(k:Nat)(Cs:List Nat),k<=ss.length/\i=.int .i64 k/\Cs.length=k/\wr.ownsRow w.heap.size 85 1 v k (Cs.map yO)/\(∀i(h:i<k)(h':i<Cs.length)(h2:i<ss.length),eE wr Cs[i] ss[i]/\w.heap.size<=Cs[i])/\Below w.heap.size w wr) (λ_ i _=>ss.length-(intOf i).toNat)
 case atStart=>exact⟨0,[],bF _,rfl,rfl,World.ownsRow_nil _ _ _ _,λi h=>by omega,bS _ _⟩
 case round=>
  obtain⟨k,Cs,hk,rfl,hCl,O,Y,hb⟩:=hrel;have HB:bO _:=hb;have hz:=hb.size;have HE:bO _:=Y;clear Y hb;by_cases ak:k<ss.length
  .obtain⟨bb,off,rfl,aa⟩:=HR.out k ak;have hc:=b4 HB.out aa;have al:=pq ss[k] wr (HP.out.inv.iB _ (bf ak));clear aa;go_wp2_with fail;refine al.mono ?_;rintro e w1 ⟨C,rfl,hC,hs,ab⟩;have aE:=ab.size;have W:w1.ownsRow w.heap.size 85 1 _ k (Cs.map yO):=eH O (λj hj=>ab.block j (O.lt j hj).2);have am:bO (eE w1 C ss[k]/\wr.heap.size<=C):=⟨hs,hC⟩;have az:bO (Below w.heap.size w w1):=HB.out.trans (ab.mono hz);have a5:bO _:=ab;clear al hs ab
   go_wp2_with (first
    |(at_builtin;refine fD _ rfl _ _ 136 rfl w.heap.size 85 i0 (.map none) 8 ca hi ag ah ai rfl _ _ _ rfl (W.alloc _) ⟨w1.heap.size,0,none⟩ _ rfl iH rfl ?c1 ?c2 ?c3 ?_))
   case c1=>omega
   case c2=>unfold bz;omega
   case c3=>first|omega|(simp;omega)
   intro v' w2 U y _
   have HW2:bO (w2.ownsRow w.heap.size 85 1 v' (k+1) ((Cs++[C]).map yO)):=by
    show w2.ownsRow _ _ _ _ _ _;rw[bc];exact U
   have HB2:bO (Below w.heap.size w w2):=(az.out.alloc (by omega) _).grown y (by simp;omega) (λb hb=>(O.lt b hb).1)
   have HE2:bO (∀i(h:i<k+1)(h':i<(Cs++[C]).length)(h2:i<ss.length),eE w2 (Cs++[C])[i] ss[i]/\w.heap.size<=(Cs++[C])[i]):=by
    intro i h h' h2
    have key:∀(D:Nat)(l:List dp),eE w1 D l->eE w2 D l:=λD l hm=>by
     have ac:eE (w1.alloc (.cells #[.map (some C)] 85)) D l:=dM.kept hm (cg _ _ none) (by simp);exact dM.kept ac y (qQ (W.alloc _) ac)
    by_cases ad:i<k;rw[bj (by omega)];have hh:=HE.out i ad (by omega) h2;exact⟨key _ _ (dM.below hh.1 a5.out),hh.2⟩;have an:i=k:=by omega
    subst an;rw[bh (by omega)];simp only[hCl,Nat.sub_self,List.getElem_cons_zero];exact⟨key _ _ am.out.1,bG hz am.out.2⟩
   obtain⟨a',c',rfl,aH⟩:=dN HW2.out;clear U y O W;go_wp2;go_roundw
   case rel=>exact⟨k+1,Cs++[C],by omega,by go_num,by simp[hCl],HW2.out,HE2.out,HB2.out⟩
   case measure=>simp[intOf];omega
  have a6:k=ss.length:=by omega
  subst a6;have aF:=b4 HB.out (ay 0)
  go_wp2_with (first
   |(at_builtin;refine fD _ rfl _ _ 136 rfl w.heap.size 85 i0 (.map none) 8 ca hi ag ah ai rfl _ _ _ rfl (O.alloc _) ⟨wr.heap.size,0,none⟩ _ rfl iH rfl ?c1 ?c2 ?c3 ?_))
  case c1=>omega
  case c2=>unfold bz;omega
  case c3=>first|omega|(simp;omega)
  intro v' w2 U y _;have ao:Below w.heap.size w w2:=(HB.out.alloc hz _).grown y (by simp;omega) (λb hb=>(O.lt b hb).1)
  have ap:K0 w2 v' (Cs++[Bb]) (ss++[buf]):=by
   refine⟨?_,by simp[hCl],λi h h'=>?_⟩;rw[bc];exact Rd.jk U
   have key:∀(D:Nat)(l:List dp),eE wr D l->eE w2 D l:=λD l hm=>by
    have ac:eE (wr.alloc (.cells #[.map (some Bb)] 85)) D l:=dM.kept hm (cg _ _ none) (by simp);exact dM.kept ac y (qQ (O.alloc _) ac)
   by_cases ad:i<ss.length;have e1:(Cs++[Bb])[i]=Cs[i]'(by omega):=bj (by omega);have e2:(ss++[buf])[i]=ss[i]:=bj ad;rw[e1,e2];exact key _ _ (HE.out i ad (by omega) ad).1;have a7:i=ss.length:=by simp at h;omega
   subst a7;have h9:=h';have e1:(Cs++[Bb])[ss.length]'h9=Bb:=by rw[bh (by omega)];simp[hCl]
   have e2:(ss++[buf])[ss.length]'h=buf:=by rw[bh (by omega)];simp
   rw[e1,e2];exact key _ _ (dM.below HP.out.say HB.out)
  have a8:=O0 HP.out.inv;have ae:=vG HP.out.inv;have aq:=ua v' (Cs++[Bb]) (ss++[buf]) w2 ap (by omega) ae;have HB2:bO _:=ao;have a9:bO _:=ae
  have aA:bO ((eu (ss++[buf])).length<=1000):=by
   show _<=_;have:=sQ (ss++[buf]) (ss++[buf]).length (bE _);rw[List.take_length]at this;omega
  clear U y O ap ao ae a8;go_wp2_with fail;refine aq.mono ?_;rintro e w3 ⟨B3,rfl,aI,ar,au⟩;have av:=oF B3 (eu (ss++[buf])) w3 ar (by have:=aA.out;omega) (oB a9.out);have af:bO (Below w.heap.size w w3):=HB2.out.trans (au.mono HB2.out.size);clear aq ar au;go_wp2_with fail;refine av.mono ?_;rintro e w4 ⟨C,rfl,hC,aw,ax⟩;have aB:bO (eE w4 C (dP ss buf)):=by show eE _ _ _;rw[fl];exact aw
  have aC:bO (Below w.heap.size w w4):=af.out.trans (ax.mono af.out.size);have aD:w.heap.size<=C:=bG af.out.size hC;clear av aw ax;go_wp2;go_ret;exact⟨C,rfl,aD,aB.out,aC.out⟩
end
section
open Go.RowKit
variable {row:List Nat} {i n z:Nat} {c:UInt8} {q:Wd}
def lj(q:Wd)(c:UInt8)(row:List Nat)(z n i:Nat):List Nat:=iR q c row z i++bm (n-i) 0
def CI(h:i<=n):(lj q c row z n i).length=n+1:=by
 unfold lj;rw[aX,kU,List.length_replicate];omega
def Nw:(lj q c row z n i).getD i 0=(iR q c row z i).getD i 0:=by
 unfold lj;rw[a0,a0,bn (by rw[kU];omega)]
def Ax{m:Nat}(h:i<n)(hm:m=min (min (row.getD i 0+(if q.getD i 0=c then 0 else 1)) (row.getD (i+1) 0+1)) ((iR q c row z i).getD i 0+1)) :
  (e9 (lj q c row z n i)).set (i+1) (.int .i64 (m:Int))=e9 (lj q c row z n (i+1)):=by
 have e:n-i=(n-(i+1))+1:=by omega
 have y:lj q c row z n (i+1)=(lj q c row z n i).set (i+1) m:=by
  unfold lj;rw[List.set_append_right _ _ (by rw[kU];omega),kU,e,br,iR,<-hm];simp
 rw[y];unfold e9;rw[List.map_set]
def NG(q:Wd)(c:UInt8)(row:List Nat)(z n:Nat):lj q c row z n n=iR q c row z n:=by simp[lj]
def Km(q:Wd)(c:UInt8)(row:List Nat)(z n:Nat):(e9 (bm (n+1) 0)).set 0 (.int .i64 (z:Int))=e9 (lj q c row z n 0):=by
 simp[lj,iR,e9,br]
def IU(row:List Nat)(O:ByteArray)(c:UInt8)(v:Value)(w:World)(hq:O.size<=1048576)(hv:Rd w v (e9 row))(hl:row.length=O.size+1)(ap:∀x∈row,x<=2097152) :
  b2 prog 270 #[v,.string O,.int .u8 c.toNat] w λe w'=>∃g,e=.returned (.slice (some ⟨g,0,none⟩) (O.size+1) (O.size+1))/\w'.ownsRow w.heap.size 3 1 (.slice (some ⟨g,0,none⟩) (O.size+1) (O.size+1)) (O.size+1) (e9 (iR O.data.toList c row (row.getD 0 0+1) O.size))/\Below w.heap.size w w':=by
 obtain⟨i3,a9,a',aA,hy2⟩:=bD SY;have ab:bO _:=hl;have ad:bO _:=ap;obtain⟨aQ,cQ,rfl,_,_,aq⟩:=hv;have ai:bO _:=aq;have ar:(e9 row).length=O.size+1:=by rw[AG,hl]
 rw[ar];clear aq hl ap ar;obtain⟨bQ,oQ,rfl,qz⟩:=ai.out 0 _ (ja row 0 (by rw[ab.out];omega));rw[Nat.add_zero]at qz;obtain⟨z0,aj⟩:∃z0,z0=row.getD 0 0:=⟨_,rfl⟩;have aH:z0<=2097152:=by rw[aj,a0,bg (by rw[ab.out];omega)];exact ad.out _ (bf _)
 rw[<-aj]at qz⊢;clear aj;have aP:(0:Int)<(O.size:Int)+1:=by omega
 have aR:bQ<w.heap.size:=World.block_lt_of_cell? w _ qz;go_enter func270,ntmps270;go_wp2_with (at_make;go_must (refine wpList_make_full _ rfl _ _ 26 rfl w.heap.size 3 i3 (.int .i64 0) 1 underlying26 a9 a' aA .i64 .i64 _ _ (O.size+1) rfl rfl rfl rfl ?m1 ?m2 ?m3 ?_))
 case m1=>rw[hy2];omega
 case m2=>unfold bz;omega
 case m3=>exact bE _
 intro w5 ac au;have ak:bO (Below w.heap.size w w5):=(bS _ _).grown au (bE _) (by simp);have e:(madeCells #[Value.int .i64 0] (O.size+1)).toList=e9 (bm (O.size+1) 0):=BM _;rw[e]at ac;have aB:=b4 ak.out qz;obtain⟨bt,ot,aa,ah⟩:=jy ac 0 _ (ja _ 0 (by simp));simp only[cj,ck]at aa;obtain⟨rfl,rfl,_⟩:=aa;rw[bH]at ah;have av:=rD ac 0
 have HT6:bO ((w5.setCell ⟨w.heap.size,0,none⟩ (.int .i64 ((z0:Int)+1))).ownsRow w.heap.size 3 1 (.slice (some ⟨w.heap.size,0,none⟩) (O.size+1) (O.size+1)) (O.size+1) (e9 (lj O.data.toList c row (z0+1) O.size 0))):=by
  show ch _ _ _ _ _ _ _;rw[<-Km];have h:=zv ac 0 (.int .i64 ((z0+1:Nat):Int)) (by omega);simpa using h
 have HB6:bO (Below w.heap.size w (w5.setCell ⟨w.heap.size,0,none⟩ (.int .i64 ((z0:Int)+1)))):=by exact bU ak.out (bE _) _
 clear ac au e;go_wp2;go_loopw [22] (λiv wr=>∃i:Nat,i<=O.size/\iv=.int .i64 i/\wr.ownsRow w.heap.size 3 1 (.slice (some ⟨w.heap.size,0,none⟩) (O.size+1) (O.size+1)) (O.size+1) (e9 (lj O.data.toList c row (z0+1) O.size i))/\Below w.heap.size w wr) (λi _=>O.size-(intOf i).toNat)
 case atStart=>exact⟨0,bF _,rfl,HT6.out,HB6.out⟩
 case round=>
  obtain⟨i,hi,rfl,U,W⟩:=hrel;by_cases al:i<O.size
  .have aI:(i:Int)<(O.size:Int):=by omega
   have aJ:(i:Int)<(O.size:Int)+1:=by omega
   have aK:(i:Int)+1<(O.size:Int)+1:=by omega
   have aS:(0:Int)<=(i:Int)+1:=by omega
   obtain⟨r0,ae⟩:∃r0,r0=row.getD i 0:=⟨_,rfl⟩;obtain⟨Y,af⟩:∃Y,Y=row.getD (i+1) 0:=⟨_,rfl⟩;obtain⟨x,hx⟩:∃x,x=(iR O.data.toList c row (z0+1) i).getD i 0:=⟨_,rfl⟩;have aL:r0<=2097152:=by rw[ae,a0,bg (by rw[ab.out];omega)];exact ad.out _ (bf _)
   have aM:Y<=2097152:=by rw[af,a0,bg (by rw[ab.out];omega)];exact ad.out _ (bf _)
   have aT:x<=4194304:=by
    rw[hx,a0,bg (by rw[kU];omega)];exact uT _ _ row (z0+1) 4194304 (by omega) (λy hy=>by have:=ad.out y hy;omega) i (by rw[ab.out];omega) _ (bf _)
   obtain⟨b0,o0,aw,q0⟩:=ai.out i _ (ja row i (by rw[ab.out];omega));simp only[cj,ck]at aw;obtain⟨rfl,rfl,_⟩:=aw;obtain⟨b1,o1,ax,q1⟩:=ai.out (i+1) _ (ja row (i+1) (by rw[ab.out];omega));simp only[cj,ck]at ax;obtain⟨rfl,rfl,_⟩:=ax;have p0:=b4 W q0;have p1:=b4 W q1;rw[<-ae]at p0;rw[<-af]at p1;obtain⟨bt,ot,aa,am⟩:=jy U i _ (ja _ i (by rw[CI hi];omega));simp only[cj,ck]at aa;obtain⟨rfl,rfl,_⟩:=aa;rw[bH,Nw,<-hx]at am;obtain⟨bt,ot,aa,an⟩:=jy U (i+1) _ (ja _ (i+1) (by rw[CI hi];omega));simp only[cj,ck]at aa;obtain⟨rfl,rfl,_⟩:=aa;rw[bH]at an;obtain⟨ov,aU⟩:∃ov:Int,wr.cell? ⟨w.heap.size,i+1,none⟩=some (.int .i64 ov):=⟨_,an⟩;have aV:=rD U (i+1);have ay:bO (row.getD i 0=r0):=ae.symm;have az:bO (row.getD (i+1) 0=Y):=af.symm;have a5:bO ((iR O.data.toList c row (z0+1) i).getD i 0=x):=hx.symm;have aW:IntKind.i64.wrap ((i:Int)+1)=(i:Int)+1:=Lr _ _ rfl (by omega) (by omega);have aN:IntKind.i64.wrap ((Y:Int)+1)=(Y:Int)+1:=Lr _ _ rfl (by omega) (by omega);have aO:IntKind.i64.wrap ((x:Int)+1)=(x:Int)+1:=Lr _ _ rfl (by omega) (by omega);have a6:bO (O.data.toList.getD i 0=O[i]):=l5 O i al;have a7:bO _:=U;have aC:bO _:=W;clear q0 q1 ae af hx U W an HT6 HB6 ak ah av aB;by_cases hc:O[i]=c
   case' pos=>
    have aD:((O[i].toNat:Int)==(c.toNat:Int))=true:=by rw[wI,hc];simp
    have ao:bO ((if O.data.toList.getD i 0=c then 0 else 1)=0):=by show _=_;rw[a6.out,if_pos hc]
    have HM:bO (∀m:Nat,m=min (min (r0) (Y+1)) (x+1)->(e9 (lj O.data.toList c row (z0+1) O.size i)).set (i+1) (.int .i64 (m:Int))=e9 (lj O.data.toList c row (z0+1) O.size (i+1))):=λm hm=>Ax al (by rw[ay.out,az.out,a5.out,ao.out];omega);clear hc;go_wp2
   case' neg=>
    have aD:((O[i].toNat:Int)==(c.toNat:Int))=false:=by rw[wI];simpa using hc
    have ao:bO ((if O.data.toList.getD i 0=c then 0 else 1)=1):=by show _=_;rw[a6.out,if_neg hc]
    have HM:bO (∀m:Nat,m=min (min (r0+1) (Y+1)) (x+1)->(e9 (lj O.data.toList c row (z0+1) O.size i)).set (i+1) (.int .i64 (m:Int))=e9 (lj O.data.toList c row (z0+1) O.size (i+1))):=λm hm=>Ax al (by rw[ay.out,az.out,a5.out,ao.out];omega);clear hc;go_wp2
   all_goals
    have s0:(wr.drew).cell? ⟨bQ,oQ+(i+1),none⟩=some (.int .i64 Y):=p1;have s1:(wr.drew).cell? ⟨w.heap.size,i,none⟩=some (.int .i64 x):=am;refine b5 (S:=λw'=>w'.cell? ⟨bQ,oQ+(i+1),none⟩=some (.int .i64 Y)/\w'.cell? ⟨w.heap.size,i,none⟩=some (.int .i64 x)) (by kernel_rfl) ?_;refine fJ 0 ?_ ⟨s0,s1⟩ ?_<|fJ 1 ?_ ⟨s0,s1⟩ ?_<|fJ 2 ?_ ⟨s0,s1⟩ ?_<|fJ 3 ?_ ⟨s0,s1⟩ ?_<|fJ 4 ?_ ⟨s0,s1⟩ ?_<|fJ 5 ?_ ⟨s0,s1⟩ ?_<|fJ 6 ?_ ⟨s0,s1⟩ ?_<|fJ 7 ?_ ⟨s0,s1⟩ ?_<|fJ 8 ?_ ⟨s0,s1⟩ ?_<|fJ 9 ?_ ⟨s0,s1⟩ ?_<|fJ 10 ?_ ⟨s0,s1⟩ ?_<|fJ 11 ?_ ⟨s0,s1⟩ ?_<|fJ 12 ?_ ⟨s0,s1⟩ ?_<|fJ 13 ?_ ⟨s0,s1⟩ ?_<|fJ 14 ?_ ⟨s0,s1⟩ ?_<|fJ 15 ?_ ⟨s0,s1⟩ ?_<|fJ 16 ?_ ⟨s0,s1⟩ ?_ ?_
    any_goals(rintro w' ⟨t0,t1⟩;go_simp;first|done|with_reducible rfl)
    refine j9 17 λK' a8=>?_;unfold Oper.wp;go_simp
   case' pos=>
    obtain⟨m,hm⟩:∃m:Nat,m=min (min (r0) (Y+1)) (x+1):=⟨_,rfl⟩
    have ag:(if(x:Int)+1<(if(Y:Int)+1<(r0:Int)then(Y:Int)+1 else(r0:Int))then(x:Int)+1 else(if(Y:Int)+1<(r0:Int)then(Y:Int)+1 else(r0:Int)))=(m:Int):=by
     rw[hm];split<;>split at * <;> omega
    rw[ag]
   case' neg=>
    obtain⟨m,hm⟩:∃m:Nat,m=min (min (r0+1) (Y+1)) (x+1):=⟨_,rfl⟩
    have ag:(if(x:Int)+1<(if Y<r0 then(Y:Int)+1 else((r0:Int)+1))then(x:Int)+1 else(if Y<r0 then(Y:Int)+1 else((r0:Int)+1)))=(m:Int):=by
     rw[hm];split<;>split at * <;> omega
    rw[ag]
   all_goals
    have HO8:bO ((wr.setCell ⟨w.heap.size,i+1,none⟩ (.int .i64 m)).drew.ownsRow w.heap.size 3 1 (.slice (some ⟨w.heap.size,0,none⟩) (O.size+1) (O.size+1)) (O.size+1) (e9 (lj O.data.toList c row (z0+1) O.size (i+1)))):=by
     show ch _ _ _ _ _ _ _;rw[<-HM.out m hm];exact zv a7.out (i+1) (.int .i64 m) (by omega)
    have HB8:bO (Below w.heap.size w (wr.setCell ⟨w.heap.size,i+1,none⟩ (.int .i64 m)).drew):=(bU aC.out (bE _) _).drew;refine a8 _ _ ⟨⟨?_,?_⟩,bA (by kernel_rfl) ?_ _⟩;show(wr.setCell ⟨w.heap.size,i+1,none⟩ (.int .i64 m)).cell? _=_;rw[World.cell?_setCell_far _ _ _ _ (by show w.heap.size≠bQ;omega)];exact p1
    .show(wr.setCell ⟨w.heap.size,i+1,none⟩ (.int .i64 m)).cell? _=_;rw[World.cell?_setCell_other _ _ _ _ (by intro e;simp at e)];exact am
    clear a8 ag hm;go_wp2;go_roundw
    case rel=>exact⟨i+1,by omega,by go_num,HO8.out,HB8.out⟩
    case measure=>simp[intOf];omega
  have aE:i=O.size:=by omega
  subst aE
  have aF:bO (wr.ownsRow w.heap.size 3 1 (.slice (some ⟨w.heap.size,0,none⟩) (O.size+1) (O.size+1)) (O.size+1) (e9 (iR O.data.toList c row (z0+1) O.size))):=by
   show ch _ _ _ _ _ _ _;rw[<-NG];exact U
  have aG:bO _:=W;clear U W;go_wp2;go_ret;exact⟨w.heap.size,rfl,aF.out,aG.out⟩
def Hg(a:Wd)(c:UInt8)(row:List Nat)(z:Nat):∀i,(iR a c row z i).getD 0 0=z:=by
 intro i;induction i with
 |zero=>rfl|succ i y=>
  rw[iR,a0,bn (by rw[kU];omega)];exact y
def Jd(a s:Wd)(k:Nat):(lU a s k).getD 0 0=k:=by
 cases k with
 |zero=>simp[lU]|succ k=>rw[lU,Hg]
def qU(y O:ByteArray)(most:Nat)(w:World)(au:1<=most)(av:most<=2)(hq:y.size<=1048576)(hs:O.size<=1048576) :
  b2 prog 242 #[.string y,.string O,.int .i64 most] w λe w'=>e=.returned (.bool (kw (most+1) y.data.toList O.data.toList))/\Below w.heap.size w w':=by
 have ae:y.data.toList.length=y.size:=by simp
 have W:bO _:=ae
 have HF:bO (kw (most+1) y.data.toList O.data.toList=(List.range (O.size+1)).any λk=>decide (Fl y.data.toList O.data.toList k<most+1)):=by
  show _=_;unfold kw;rw[if_neg (by omega),if_neg (by omega)];simp
 clear ae;go_enter func242,ntmps242;go_wp2_with fail;refine(xM y w hq).mono ?_;rintro e w1 ⟨g1,rfl,af,ag⟩
 have HO1:bO (w1.ownsRow w.heap.size 3 1 (.slice (some ⟨g1,0,none⟩) (y.size+1) (y.size+1)) (y.size+1) (e9 (lU y.data.toList O.data.toList 0))):=by
  show ch _ _ _ _ _ _ _;rw[lU,W.out];exact af
 have HB1:bO _:=ag;clear af ag;go_wp2;go_loopw [7,13] (λv iv wr=>∃(k g:Nat),k<=O.size/\iv=.int .i64 k/\v=.slice (some ⟨g,0,none⟩) (y.size+1) (y.size+1)/\wr.ownsRow w.heap.size 3 1 (.slice (some ⟨g,0,none⟩) (y.size+1) (y.size+1)) (y.size+1) (e9 (lU y.data.toList O.data.toList k))/\(∀j,j<k->¬Fl y.data.toList O.data.toList j<most+1)/\Below w.heap.size w wr) (λ_ i _=>O.size-(intOf i).toNat)
 case atStart=>exact⟨0,g1,bF _,rfl,rfl,HO1.out,λj hj=>by omega,HB1.out⟩
 case round=>
  obtain⟨k,g,hk,rfl,rfl,U,ah,Y⟩:=hrel;have ai:bO _:=ah;have ac:bO _:=Y;have HS:=Y.size;have aw:(y.size:Int)<(y.size:Int)+1:=by omega
  obtain⟨dd,ad⟩:∃dd,dd=Fl y.data.toList O.data.toList k:=⟨_,rfl⟩;obtain⟨bt,ot,aj,am⟩:=jy U y.size _ (ja _ y.size (by rw[we,W.out];omega));simp only[cj,ck]at aj;obtain⟨rfl,rfl,_⟩:=aj;have e1:(lU y.data.toList O.data.toList k).getD y.size 0=dd:=by rw[ad];unfold Fl;rw[W.out]
  rw[bH,e1]at am;have aa:bO _:=ad;clear ah Y ad e1;by_cases an:k<O.size
  .have ar:(k:Int)<(O.size:Int):=by omega
   by_cases hd:dd<=most
   .have ao:(dd:Int)<=(most:Int):=by omega
    have HY:bO (kw (most+1) y.data.toList O.data.toList=true):=by
     show _=_;rw[HF.out];exact any_some k (by omega) (by rw[<-aa.out];simp;omega)
    clear U;go_wp2;go_ret;exact⟨eO HY.out.symm,ac.out⟩
   have ao:¬((dd:Int)<=(most:Int)):=by omega
   have ab:=IU (lU y.data.toList O.data.toList k) y O[k] (.slice (some ⟨g,0,none⟩) (y.size+1) (y.size+1)) wr hq (Rd.jk U) (by rw[we,W.out]) (λx hx=>by have:=Hd _ _ _ x hx;rw[W.out]at this;omega);rw[Jd]at ab
   have e2:iR y.data.toList O[k] (lU y.data.toList O.data.toList k) (k+1) y.size=lU y.data.toList O.data.toList (k+1):=by
    rw[lU,W.out,l5 O k an]
   rw[e2]at ab;clear U e2;go_wp2_with fail;refine ab.mono ?_;rintro e w3 ⟨g3,rfl,ak,al⟩;have HO3:bO (w3.ownsRow w.heap.size 3 1 (.slice (some ⟨g3,0,none⟩) (y.size+1) (y.size+1)) (y.size+1) (e9 (lU y.data.toList O.data.toList (k+1)))):=jW ak HS;have ap:bO (Below w.heap.size w w3):=ac.out.trans (al.mono HS);clear ab ak al;go_wp2;go_roundw
   case rel=>exact⟨k+1,g3,by omega,by go_num,rfl,HO3.out,λj hj=>by
    rcases bK j k with h|h
    exact ai.out j h;have e:j=k:=by omega
    subst e;rw[<-aa.out];omega,ap.out⟩
   case measure=>simp[intOf];omega
  have aq:k=O.size:=by omega
  subst aq
  have HY:bO (kw (most+1) y.data.toList O.data.toList=decide (dd<=most)):=by
   show _=_;rw[HF.out];by_cases hd:dd<=most;rw[any_some O.size (by omega) (by rw[<-aa.out];simp;omega)];simp;omega;rw[any_none (λi hi=>?_)];simp;omega;rcases bK i O.size with h|h
   have:=ai.out i h;simpa using this;have e:i=O.size:=by omega
   subst e;rw[<-aa.out];simp;omega
  go_wp2;go_ret;exact⟨eO HY.out.symm,ac.out⟩
def M5(m:Nat)(y O:ByteArray)(w:World)(hm:m<=3)(W:y.size<=1048576)(U:O.size<=1048576) :
  b2 prog 215 #[.int .i64 m,.string y,.string O] w λe w'=>e=.returned (.bool (kw m y.data.toList O.data.toList))/\Below w.heap.size w w':=by
 have Y:m=0\/m=1\/m=2\/m=3:=by omega
 rcases Y with rfl|rfl|rfl|rfl
 .have HF:bO (kw 0 y.data.toList O.data.toList=rk O.data.toList y.data.toList):=rfl;go_enter bZ,bY;go_wp2_with fail;refine(yr O y w).mono ?_;rintro e w' ⟨rfl,rfl⟩;go_wp2;go_ret;exact⟨eO HF.out.symm,bS _ _⟩
 .go_enter bZ,bY;go_wp2_with fail;refine(Ex y O w U).mono ?_;rintro e w' ⟨rfl,rfl⟩;go_wp2;go_ret;exact⟨rfl,bS _ _⟩
 .go_enter bZ,bY;go_wp2_with fail;refine(qU y O 1 w (by omega) (by omega) W U).mono ?_;rintro e w' ⟨rfl,hb⟩;go_wp2;go_ret;exact⟨rfl,hb⟩
 go_enter bZ,bY;go_wp2_with fail;refine(qU y O 2 w (by omega) (by omega) W U).mono ?_;rintro e w' ⟨rfl,hb⟩;go_wp2;go_ret;exact⟨rfl,hb⟩
end
end Go.Proofs.YtocbogeoffeolaaGreatDoor
