import Derived.Test.YtocbogeoffeolaaGreatDoorComAA
import Derived.OrdersHeld
import Derived.RegionTactic
import Derived.Deep.RegionHeld3
import Derived.Recover
import Derived.Laws.EntriesVeiled
set_option linter.all false
set_option maxHeartbeats 8000000
set_option maxRecDepth 1000000
open Option renaming bind_some->aJ,bind_eq_some_iff->aK,bind_assoc->aL
open Go renaming Calls->aM,heap_alloc_new->aN,maxLen->aO,wp_region_held->aP,results->aQ,wpAnyH->aR,callsD_of_wpS->aS,leaves_cons->aT,wpS_region->aU
open List renaming mem_map->aV,length_map->aW,append_nil->aX,length_append->aY,append_assoc->aZ,length_cons->ba,map_append->bc
open Go.RowKit renaming Hid->bd,wrap64->be,run_makeMap->bf
open Nat renaming le_refl->bg,zero_le->bh,shiftLeft_add_eq_or_of_lt->bi
open Go.RowKit.Below renaming refl->bj,heap_alloc->bk
open Go.IntKind renaming wrap_i64->bl
open Go.Op renaming bytesLess->bm
open Go renaming undef->bn
open And renaming intro->A?
open Bool renaming false->f?,true->t?
open Go renaming Program->P?,Value->v?,World->w?
open Go.Ending renaming returned->e?
open Go.IntKind renaming i64->i?
open Go.Obj renaming cells->c?
open Go.Value renaming int->n?,pointer->p?,string->s?
open List renaming length->l?,toArray->a?
open Option renaming none->x?,some->y?
namespace Go.Proofs.YtocbogeoffeolaaGreatDoor
open Go.Proofs.Tryz
section
variable {a:Act} {listed:Array Bool} {fuel:Nat} {w:w?}
section
variable {P:P?} {md:Region.Mode} {ops:Array Oper} {Q:Exit->Act->w?->Prop} {S:w?->Prop}
def fV(i)(v){oi}(O:S w)
  (U:∀w,S w->(execOp a.eval oi).run P w=.ok (.value v) w) (h:aR P md ops Q S fuel (listed.setIfInBounds i t?) (a.put oi.dst v) w)
  (W:ops[i]?=y? oi:=by rfl) (Y:Region.noSelect ops=t?:=by kernel_rfl) (hf:Region.free md ops listed i=t?:=by kernel_rfl)
  (hr:(Region.ready md ops listed).contains i=t?:=by kernel_rfl) (hQ:∀c a w,Q (.panic c) (a.put oi.dst v) w->Q (.panic c) a w:=by exact λ_ _ _ h=>h)
  (hw:Region.wanted oi (yielded ops a.tmps)=t?:=by rfl):aR P md ops Q S (fuel+1) listed a w:=
 wpAnyH_take W Y hf hr hQ (.inl ⟨hw,U⟩) O h
def kL(i){o}(h:∀K',(∀O w',S w'/\aR P md ops Q S fuel (listed.setIfInBounds i t?) O w'->K' O w')->Oper.wp P o a w K' Q)
  (U:Region.ready md ops listed=[i]:=by kernel_rfl) (W:ops[i]?=y? o:=by rfl) (Y:Region.wanted o (yielded ops a.tmps)=t?:=by rfl):aR P md ops Q S (fuel+1) listed a w:=
 wpAnyH_all U i! λj hj=>by
  obtain rfl:j=i:=by simpa using hj
  exact wpOp_step W λK' hK=>by rw[if_pos Y];exact h K' hK
end
open Go.RowKit
def ER:PanicEntry:={v:=.iface 264 (.agg #[]),recovered:=f?}
def ib(w):aM prog 212 #[.bool t?] w λe w'=>e=e? (.tuple #[])/\w=w':=by go_wp2;go_end0;exact⟨q?,q?⟩
def jq(w):aM prog 212 #[.bool f?] w λe w'=>e=.panicked [ER]/\w=w':=by go_wp2;exact⟨q?,q?,q?⟩
def BF(w:w?)(Rb:Nat)(S:ByteArray)(p:Nat)(Mk:Nat)(O:v?):Prop:=w.1[Rb]?=y? (c? #[s? S,n? i? p,.map (y? Mk),O] 216 (0,0))
def Ds(s:ByteArray)(p n):s.extract p (p+n)=⟨((s.1.1.drop p).take n).toArray⟩:=by apply ByteArray.ext;apply Array.ext';simp[List.take_drop]
def jd{w b o v F}(hF:F b):dp F w (w.setCell ⟨b,o,x?⟩ v):=
 ⟨q?,q?,q?,by simp[World.setCell],λk U O=>Below.heap_setCell _ _ _ _ (by intro e;subst e;exact O hF)⟩
def OU(Rb)(S)(p Mk)(vt)(n)(w)(h:BF w Rb S p Mk vt)(hp:p+n<=S.size)(hS:S.size<=1099511627776) :
  aM prog 236 #[p? (y? ⟨Rb,0,x?⟩),n? i? n] w λe w'=>e=e? (s? (S.extract p (p+n)))/\BF w' Rb S (p+n) Mk vt/\dp (· = Rb) w w'/\w'.1.size=w.1.size:=by
 unfold BF at h;have c0:=dq h;have f1:=dP h 1;have HH:bd _:=h;have aa:IntKind.i64.wrap ((S.size:Int)-(p:Int))=(S.size:Int)-(p:Int):=by simp only[bl];omega
 have ab:(n:Int)<=(S.size:Int)-(p:Int):=o!;have U:IntKind.i64.wrap ((p:Int)+(n:Int))=((p+n:Nat):Int):=by simp only[bl];omega
 have W:(p:Int)<=((p+n:Nat):Int):=o!;have Y:((p+n:Nat):Int)<=(S.size:Int):=o!;clear h;go_enter func236,ntmps236;go_wp2_with fail;go_region_held3 (λw'=>w'.cell? ⟨Rb,0,x?⟩=y? (s? S)/\w'.cell? ⟨Rb,1,x?⟩=y? (n? i? p)) (go_keep) (first|(go_at_call 212;refine(ib _).mono ?_;rintro e w' ⟨rfl,rfl⟩));go_wp2_with fail;go_quiet (fail);go_wp2;go_ret
 have h1:((w.drewN (1+nq)).setCell ⟨Rb,1,x?⟩ (n? i? ((p:Int)+(n:Int)))).1[Rb]?=y? (c? #[s? S,n? i? ((p+n:Nat):Int),.map (y? Mk),vt] 216 (0,0)):=by rw[heap_set (w:=w.drewN (1+nq)) HH.out];simp
 refine⟨q?,h1,?_,by simp[World.setCell,World.drewN]⟩;have O:=jd (w:=w.drewN (1+nq)) (b:=Rb) (o:=1) (v:=n? i? ((p:Int)+(n:Int))) (F:=(· = Rb)) rfl;exact⟨O.os,O.tape,O.output,O.size,O.block⟩
def OK(R)(Rb)(S)(p Mk)(vt)(n)(w)(h:BF w Rb S p Mk vt)(hp:S.size<p+n)(W:p<=S.size)(hS:S.size<=1099511627776)(O:R (.panicked [ER]) w.drew) :
  aM prog 236 #[p? (y? ⟨Rb,0,x?⟩),n? i? n] w R:=by
 unfold BF at h;have c0:=dq h;have Y:IntKind.i64.wrap ((S.size:Int)-(p:Int))=(S.size:Int)-(p:Int):=by simp only[bl];omega
 have aa:decide ((n:Int)<=(S.size:Int)-(p:Int))=f?:=decide_eq_false o!;have U:∀tm:Array v?,bodyPost prog f236 R (.panic [ER]) {tmps:=tm,defers:=[]} w.drew:=λ_=>⟨q?,O⟩;clear h;go_enter func236,ntmps236;go_wp2_with fail;refine aP (S:=λw'=>w'=w.drew) k! ?_;refine fV 0 ?_ q? ?_<|fV 1 ?_ q? ?_<|fV 2 ?_ q? ?_<|fV 3 ?_ q? ?_<|fV 4 ?_ q? ?_<|fV 5 ?_ q? ?_<|fV 6 ?_ q? ?_<|fV 7 ?_ q? ?_<|fV 8 ?_ q? ?_<|fV 9 ?_ q? ?_<|fV 10 ?_ q? ?_<|fV 11 ?_ q? ?_ ?_
 any_goals(rintro _ rfl;go_simp;first|done|with_reducible rfl)
 refine kL 12 λK' _=>?_;unfold Oper.wp;go_simp;refine(jq _).mono ?_;rintro e w' ⟨rfl,rfl⟩;exact⟨q?,O⟩
def S5(Rb)(S)(p Mk)(vt)(n)(w)(h:BF w Rb S p Mk vt)(U:S.size<p+n)(O:p<=S.size)(W:S.size<=1099511627776) :
  aM prog 236 #[p? (y? ⟨Rb,0,x?⟩),n? i? n] w λe w'=>e=.panicked [ER]/\dp (· = Rb) w w'/\w'.1.size=w.1.size:=
 OK _ Rb S p Mk vt n w h U O W ⟨q?,⟨q?,q?,q?,bg _,λ_ _ _=>rfl⟩,q?⟩
def Jt(w:w?)(Rb:Nat)(S:ByteArray)(rest:Wd)(Mk:Nat)(O:v?):Prop:=∃p:Nat,BF w Rb S p Mk O/\p<=S.size/\S.1.1.drop p=rest
def Ends{α:Type}(F:Nat->Prop)(w:w?)(X:Option α)(ok:α->Ending->w?->Prop)(e:Ending)(w':w?):Prop:=dp F w w'/\match X with
 |some x=>ok x e w'|none=>e=.panicked [ER]
def zy(Rb)(S)(rest)(Mk)(vt)(n:Nat)(w)(h:Jt w Rb S rest Mk vt)(U:S.size<=1099511627776) :
  aM prog 236 #[p? (y? ⟨Rb,0,x?⟩),n? i? n] w (Ends (· = Rb) w (pT n rest) λx e w'=>e=e? (s? ⟨a? x.1⟩)/\Jt w' Rb S x.2 Mk vt/\w'.1.size=w.1.size):=by
 obtain⟨p,W,h2,rfl⟩:=h;have hl:(S.1.1.drop p).length=S.size-p:=i!;unfold pT;by_cases Y:n<=(S.1.1.drop p).length;rw[if_pos Y];refine(OU Rb S p Mk vt n w W o! U).mono ?_;rintro e w' ⟨rfl,g1,O,g3⟩;refine⟨O,?_,⟨p+n,g1,o!,i!⟩,g3⟩;rw[Ds];rw[if_neg Y];refine(S5 Rb S p Mk vt n w W o! h2 U).mono ?_;rintro e w' ⟨rfl,O,g3⟩;exact⟨O,q?⟩
def oX(Rb)(S)(rest)(Mk)(vt)(w)(h:Jt w Rb S rest Mk vt)(hS:S.size<=1099511627776) :
  aM prog 233 #[p? (y? ⟨Rb,0,x?⟩)] w (Ends (· = Rb) w (rdNum rest) λx e w'=>e=e? (n? i? x.1)/\Jt w' Rb S x.2 Mk vt/\w'.1.size=w.1.size):=by
 have Y:=zy Rb S rest Mk vt 1 w h hS
 cases rest with
 |nil=>go_enter func233,ntmps233;go_wp2_with fail;refine Y.mono ?_;rintro e w' ⟨O,U⟩;subst U;exact⟨q?,O,q?⟩
 |cons b r=>go_enter func233,ntmps233;go_wp2_with fail;refine Y.mono ?_;rintro e w' ⟨O,U⟩;obtain⟨rfl,g3,g4⟩:=U;have W:bd (dp _ w w'/\Jt w' Rb S r Mk vt/\w'.1.size=w.1.size):=⟨O,g3,g4⟩;go_wp2;go_ret;refine⟨W.1,?_,W.2.1,W.2.2⟩;have hb:=b.toNat_lt;show Ending.returned (n? _ (be b.toNat))=e? _;refine dQ ?_;unfold be;omega
def dp.then{F a b c}(h:dp F a b)(k:dp F b c):dp F a c:=h.trans k (λ_ _ h=>h)
def vF(Rb)(S)(rest)(Mk)(vt)(w)(h:Jt w Rb S rest Mk vt)(hS:S.size<=1099511627776) :
  aM prog 213 #[p? (y? ⟨Rb,0,x?⟩)] w (Ends (· = Rb) w (gC rest) λx e w'=>e=e? (s? ⟨a? x.1⟩)/\Jt w' Rb S x.2 Mk vt/\w'.1.size=w.1.size):=by
 have W:=oX Rb S rest Mk vt w h hS;unfold gC;clear h
 cases U:rdNum rest with
 |none=>rw[U]at W;clear U;go_enter func213,ntmps213;go_wp2_with fail;refine W.mono ?_;rintro e w' ⟨Y,rfl⟩;exact⟨q?,Y,q?⟩
 |some x=>
  obtain⟨n,r⟩:=x;rw[U]at W;go_enter func213,ntmps213;go_wp2_with fail;refine W.mono ?_;rintro e w1 ⟨Y,rfl,g2,g3⟩;have O:=zy Rb S r Mk vt n w1 g2 hS
  cases U:pT n r with
  |none=>rw[U]at O;go_wp2_with fail;refine O.mono ?_;rintro e w2 ⟨g4,rfl⟩;exact⟨q?,Y.then g4,by simp only[aJ,U]⟩
  |some y=>rw[U]at O;have HN:bd _:=U;go_wp2_with fail;refine O.mono ?_;rintro e w2 ⟨g4,rfl,g5,g6⟩;have HF:bd (dp _ w w2/\Jt w2 Rb S _ Mk vt/\w2.1.size=w.1.size):=⟨Y.then g4,g5,o!⟩;go_wp2;go_ret;refine⟨HF.1,?_⟩;simp only[aJ,HN.out];exact⟨q?,HF.2⟩
def BW(n:Nat)(h:n<18446744073709551616):(BitVec.ofInt 64 n).toNat=n:=by rw[BitVec.toNat_ofInt];omega
def OH(x y:Nat)(O:x<4294967296)(U:y<4294967296):bits .or i? x y=((x ||| y:Nat)):=by
 show IntKind.i64.wrap ((BitVec.ofInt 64 x ||| BitVec.ofInt 64 _).toNat)=_;rw[BitVec.toNat_or,BW x o!,BW y o!];have h:x ||| y<2 ^ 32:=Nat.or_lt_two_pow o! o!
 rw[bl];omega
def IC(a b c:UInt8):bits BinOp.or IntKind.i64 (bits BinOp.or IntKind.i64 (be (be a.toNat*65536)) (be (be b.toNat*256))) (be c.toNat)=((a.toNat*65536+b.toNat*256+c.toNat:Nat)):=by
 have ha:=a.toNat_lt;have hb:=b.toNat_lt;have hc:=c.toNat_lt;have O:be (be a.toNat*65536)=((a.toNat <<< 16)):=by unfold be;omega
 have U:be (be b.toNat*256)=((b.toNat <<< 8)):=by unfold be;omega
 have W:be c.toNat=c.toNat:=by unfold be;omega
 have Y:a.toNat <<< 16<4294967296:=o!;have l2:b.toNat <<< 8<2 ^ 16:=o!;have j1:a.toNat <<< 16 ||| b.toNat <<< 8=a.toNat <<< 16+b.toNat <<< 8:=(bi l2 _).symm
 have j2:(a.toNat <<< 16+b.toNat <<< 8) ||| c.toNat=a.toNat <<< 16+b.toNat <<< 8+c.toNat:=by have:a.toNat <<< 16+b.toNat <<< 8=(a.toNat*256+b.toNat) <<< 8:=o!;rw[this];exact(bi o! _).symm
 rw[O,U,W,OH _ _ Y o!,j1,OH _ _ o! o!,j2];simp only[Nat.shiftLeft_eq]
def AG(Rb)(S)(rest)(Mk)(vt)(w)(h:Jt w Rb S rest Mk vt)(hS:S.size<=1099511627776) :
  aM prog 237 #[p? (y? ⟨Rb,0,x?⟩)] w (Ends (· = Rb) w (fe rest) λx e w'=>e=e? (n? i? x.1)/\Jt w' Rb S x.2 Mk vt/\w'.1.size=w.1.size):=by
 have O:=zy Rb S rest Mk vt 3 w h hS;clear h hS
 have U:∀rest:Wd,l? rest<3->aM prog 236 #[p? (y? ⟨Rb,0,x?⟩),n? i? 3] w (Ends (· = Rb) w (pT 3 rest) λx e w'=>e=e? (s? ⟨a? x.1⟩)/\Jt w' Rb S x.2 Mk vt/\w'.1.size=w.1.size)->fe rest=x?->
   aM prog 237 #[p? (y? ⟨Rb,0,x?⟩)] w (Ends (· = Rb) w (fe rest) λx e w'=>e=e? (n? i? x.1)/\Jt w' Rb S x.2 Mk vt/\w'.1.size=w.1.size):=by
  intro rest hl O hw;have hn:pT 3 rest=x?:=by unfold pT;rw[if_neg o!]
  rw[hn]at O;rw[hw];go_enter func237,ntmps237;go_wp2_with fail;refine O.mono ?_;rintro e w' ⟨Y,rfl⟩;exact⟨q?,Y,q?⟩
 match rest,O with
 |[],O=>exact U _ i! O rfl|[_],O=>exact U _ i! O rfl|[_,_],O=>exact U _ i! O rfl|a::b::c::r,O=>go_enter func237,ntmps237;go_wp2_with fail;refine O.mono ?_;rintro e w1 ⟨Y,rfl,g2,g3⟩;have W:bd (dp _ w w1/\Jt w1 Rb S r Mk vt/\w1.1.size=w.1.size):=⟨Y,g2,g3⟩;go_wp2_with fail;go_quiet (fail);go_wp2;go_ret;refine⟨⟨W.1.os,W.1.tape,W.1.output,W.1.size,W.1.block⟩,?_,W.2.1,W.2.2⟩;exact dQ (IC a b c)
open Go.Maps
variable {l:List (Wd×v?)} {B:Nat} {P:P?} {k:TypeId}
def rZ(s)(w)(hs:s.size<=aO) :
  aM prog 69 #[s? s] w λe w'=>e=e? (.bool (fU s.1.1))/\w=w':=by
 unfold aO at hs;by_cases h0:0<s.size
 .by_cases h8:s.size<=8
  .go_enter func69,ntmps69;go_wp2;go_loop [14] (λi=>∃k:Nat,k<=s.size/\i=n? i? k/\(s.1.1.take k).all jz=t?) (λi=>s.size-(intOf i).toNat)
   case atStart=>exact⟨0,bh _,q?,q?⟩
   case round=>
    obtain⟨k,hk,rfl,fl⟩:=hrel;have HA:bd _:=fl;clear fl;by_cases O:k<s.size
    .have HS:bd (s.1.1.take (k+1)=s.1.1.take k++[s[k]]):=qp s k O;go_wp2_with fail;refine(rF _ _).mono ?_;rintro e w' ⟨rfl,rfl⟩
     cases W:jz s[k]with
     |true=>
      have Y:bd _:=W;clear W;go_wp2;go_round
      case rel=>exact⟨k+1,o!,by go_num,by rw[HS.out,List.all_append,HA.out];simp[Y.out]⟩
      case measure=>simp[intOf];omega
     |false=>have Y:bd _:=W;clear W;go_wp2;go_ret;refine⟨dT ?_,q?⟩;symm;rw[Bool.eq_false_iff];intro hq;simp only[fU,Bool.and_eq_true]at hq;have:=List.all_eq_true.1 hq.1.1 _ (yK s k O);rw[Y.out]at this;simp at this
    go_wp2;go_ret;refine⟨dT ?_,q?⟩;have e:s.1.1.take k=s.1.1:=List.take_of_length_le j!;have U:=HA.out;rw[e]at U;unfold fU;rw[U];simp;omega
  go_enter func69,ntmps69;go_wp2;go_ret;refine⟨dT ?_,q?⟩;simp[fU];omega
 go_enter func69,ntmps69;go_wp2;go_ret;refine⟨dT ?_,q?⟩;simp[fU];omega
def yy(e:dD):Wd:=if e.gone then []else e.name
def sw(e:dD):v?:=.agg #[.bool e.gone,s? ⟨(yy e).toArray⟩,s? ⟨a? e.text⟩,n? i? e.dn,n? i? e.dE]
def kB(e:dD):Wd×v?:=(e.name,sw e)
def Rq(e:dD):Wd×v?:=(e.name,.agg #[])
def eT(w:w?)(B:Nat)(es:List dD):Prop:=dU prog 9 w B (es.map kB)
def dU.map(h:dU P k w B l):∃es clock,w.1[B]?=y? (.map es clock):=by obtain⟨D,⟨es,clock,O,_⟩,_⟩:=h;exact⟨es,clock,O⟩
def dU.oU{b}(h:dU P k w B l){cs t fz}(hb:w.1[b]?=y? (c? cs t fz)):B≠b:=by obtain⟨es,clock,O⟩:=h.map;intro e;rw[e,hb]at O;cases O
def eG{k o}(h:w.1[k]?=y? o):k<w.1.size:=(Array.getElem?_eq_some_iff.1 h).1
def NA(told:List dD)(x):((told.map Rq).any λp=>p.1==x)=decide (x∈told.map dD.name):=by rw[Bool.eq_iff_iff,decide_eq_true_eq,List.any_eq_true,aV];constructor;rintro⟨p,U,h⟩;obtain⟨e,O,rfl⟩:=aV.1 U;exact⟨e,O,by simpa[Rq]using h⟩;rintro⟨e,O,rfl⟩;exact⟨Rq e,aV.2 ⟨e,O,q?⟩,by simp[Rq]⟩
def NB(told:List dD)(x):nS (told.map Rq) x (.agg #[])=.agg #[]:=by unfold nS;split;rename_i p O;obtain⟨e,_,rfl⟩:=aV.1 (List.mem_of_find?_eq_some O);rfl;rfl
def M8(ks)(last bs):ml ks last bs=(gC bs).bind λx=>if fU x.1=t?/\bm last x.1=t?/\x.1 ∉ ks then y? x else x?:=rfl
def V6(x y:Wd):(!bm x y && !x==y)=bm y x:=by
 obtain h|h|h:=jZ x y
 rw[h,ta h];rfl;subst h;rw[jH];simp;rw[h,ta h];have:(x==y)=f?:=by rw[beq_eq_false_iff_ne];exact λe=>FN h e.symm
 rw[this];rfl
def RN(w):(zeroValue 263).run prog w=.ok (.agg #[]) w:=by kernel_rfl
def AV(e:dD):v?:=.agg #[s? ⟨a? e.name⟩,s? ⟨a? e.text⟩,n? i? e.dn,n? i? e.dE]
def Kw(told)(e)(f:dD->Wd×v?)(O:∀e,(f e).1=e.name)(h:e.name ∉ told.map dD.name):sD (told.map f) e.name (f e).2=(told++[e]).map f:=by
 unfold sD;rw[List.filter_eq_self.2,bc,List.map_cons,List.map_nil];have:(e.name,(f e).2)=f e:=by rw[<-O e]
 rw[this];intro p U;obtain⟨x,W,rfl⟩:=aV.1 U;simp only[bne_iff_ne,ne_eq,O];intro Y;exact h (aV.2 ⟨x,W,Y⟩)
def dp.qM{w'}(h:w.grownBy w' (y? B)):dp (· = B) w w':=⟨h.os,h.tape,h.output,h.size,λk O U=>h.block k O (λe=>U (u! e))⟩
def Oh(Bx W)(told:List dD)(e:dD)(at_)(w:w?)(hx:w.1[Bx]?=y? (c? #[.map (y? W)] 85 (0,0)))(hs:eT w W told)(hn:e.name ∉ told.map dD.name)(hl:l? told<1099511627776)(ac:l? e.name<=aO) :
  aM prog 130 #[n? i? at_,s? ⟨a? e.name⟩,sw e,p? (y? ⟨Bx,0,x?⟩)] w λen w'=>en=e? (.tuple #[])/\eT w' W (told++[e])/\dp (· = W) w w':=by
 have ah:=eG hx;have hc:=dq hx 0;have U:=Kw told e kB (λ_=>rfl) hn;obtain⟨w0,Y⟩:∃w0,w.alloc (c? #[.bool e.gone,s? ⟨(yy e).toArray⟩,s? ⟨a? e.text⟩,n? i? e.dn,n? i? e.dE] 111)=w0:=⟨_,q?⟩;have O:B? w w0:=by rw[<-Y];exact(bj _ _).alloc (bg _) _
 have aa:eT w0 W told:=dU.below hs O;have ab:w0.1[w.1.size]?=y? (c? #[.bool e.gone,s? ⟨(yy e).toArray⟩,s? ⟨a? e.text⟩,n? i? e.dn,n? i? e.dE] 111 (0,0)):=by rw[<-Y];exact aN w _
 have d0:=dq ab;have ai:=cell_later O hc;have ad:bd _:=O;have ae:bd _:=aa;have HP:bd _:=U;clear hx hs hn ab hc O aa U;unfold sw;go_enter func130,ntmps130;go_wp2_with (first|(at_mapUpdate;refine kS _ q? _ _ _ 85 q? 111 underlying9 underlying85 q? ae (by rw[aW];unfold aO;omega) e.name ac q? (sw e) q? ?_;intro w1 af ag aj));go_end0;refine⟨q?,?_,?_⟩;unfold eT;rw[<-HP.out];exact af;exact(dp.eB ad).then (dp.qM ag)
end
section
open Go.RowKit Go.Maps
variable {F:Nat->Prop} {α:Type}
def Told(e:dD):Prop:=l? e.name<=255/\l? e.text<=255/\(e.gone=f?->0<=e.dE/\e.dE<=255)
structure Kr where
 fn:FuncId
 cp:Array v?
 own:Nat->Prop
 QL:Nat->Prop
 T:w?->List (Nat×dD)->Prop
def Kr.v(t:Kr):v?:=.func (.func t.fn) #[] t.cp
structure Kr.Ok(t:Kr)(mx:Nat):Prop where
 iD:∃iD c,prog.funcs[t.fn]?=some iD/\iD.body=some c/\(iD.name == "runtime.NumGoroutine")=false
 sub:∀k,t.own k->t.QL k
 lt:∀{w told k},t.T w told->t.QL k->k<w.1.size
 stay:∀{w w' told},t.T w told->(∀k,t.QL k->w'.1[k]?=w.1[k]?)->t.T w' told
 tell:∀(w:w?)(q:Nat)(told:List (Nat×dD))(e:dD),t.T w told->e.name ∉ (sn told).map dD.name->l? told<1099511627776->Told e->q<=mx->
  aM prog t.fn (#[.int .i64 (q:Int),.string ⟨a? e.name⟩,sw e]++t.cp) w λen w'=>en=.returned (.tuple #[])/\t.T w' (told++[(q,e)])/\dp t.own w w'
structure RG(w:w?)(Rb Mk:Nat)(t:Kr)(S:ByteArray)(rest:Wd)(told:List (Nat×dD)):Prop where
 rd:Jt w Rb S rest Mk t.v
 kn:dU prog 9 w Mk ((sn told).map Rq)
 sd:t.T w told
 yW:l? told+l? rest<=S.size
 ne:∀k,t.QL k->k≠Rb/\k≠Mk
def tL(Rb Mk:Nat)(t:Kr)(k:Nat):Prop:=k=Rb\/k=Mk\/t.own k
section
variable {w w':w?} {Rb Mk mx:Nat} {t:Kr} {S:ByteArray} {rest r:Wd} {told:List (Nat×dD)}
def RG.mr(h:RG w Rb Mk t S rest told):Mk≠Rb:=by obtain⟨p,O,_⟩:=h.rd;exact h.kn.oU O
def RG.turn(O:t.Ok mx)(h:RG w Rb Mk t S rest told)(U:dp (· = Rb) w w')(Y:Jt w' Rb S r Mk t.v)(hl:l? r<=l? rest):RG w' Rb Mk t S r told:=
 ⟨Y,h.kn.stay (U.block _ h.kn.lt h.mr),O.stay h.sd λk W=>U.block k (O.lt h.sd W) (h.ne k W).1,by have:=h.yW;omega,h.ne⟩
def RG.below(O:t.Ok mx)(h:RG w Rb Mk t S rest told)(hb:B? w w'):RG w' Rb Mk t S rest told:=by obtain⟨p,U,W⟩:=h.rd;exact⟨⟨p,by unfold BF at *;rw[hb.block Rb (eG U)];exact U,W⟩,h.kn.below hb,O.stay h.sd λk Y=>hb.block k (O.lt h.sd Y),h.yW,h.ne⟩
def RG.pos(h:RG w Rb Mk t S rest told):w.cell? ⟨Rb,1,x?⟩=y? (n? i? ((S.size-l? rest:Nat))):=by obtain⟨p,O,U,rfl⟩:=h.rd;rw[dq O];have e:S.size-(S.1.1.drop p).length=p:=j!;rw[e];rfl
end
def Ends.no{w w' X}{ok:α->Ending->w?->Prop}(O:dp F w w')(U:X=x?):Ends F w X ok (.panicked [ER]) w':=⟨O,by rw[U]⟩
def Ends.SF{w w' X ok}{x:α}{e}(O:dp F w w')(U:X=y? x)(h:ok x e w'):Ends F w X ok e w':=⟨O,by rw[U];exact h⟩
def vD{Rb Mk mx}{t:Kr}{S rest}{told:List (Nat×dD)}{last:Wd}{w}(hT:t.Ok mx)(h:RG w Rb Mk t S rest told)(hS:S.size<=1099511627775) :
  aM prog 234 #[p? (y? ⟨Rb,0,x?⟩),s? ⟨a? last⟩] w (Ends (· = Rb) w (ml ((sn told).map dD.name) last rest) λx e w'=>e=e? (s? ⟨a? x.1⟩)/\RG w' Rb Mk t S x.2 told):=by
 have ht:=vF Rb S rest Mk t.v w h.rd o!;have HR:bd _:=h;have HT:bd _:=hT;obtain⟨X,hX⟩:∃X,ml ((sn told).map dD.name) last rest=X:=⟨_,q?⟩;rw[hX];rw[M8]at hX;have HX:bd _:=hX;clear h hT hX;go_enter func234,ntmps234;go_wp2_with fail;refine ht.mono ?_;rintro e w1 ⟨g1,g2⟩;have W:bd _:=g1
 cases hx:gC rest with
 |none=>rw[hx]at g2;cases g2;exact⟨q?,.no g1 (by rw[<-HX.out,hx];rfl)⟩
 |some x=>
  obtain⟨nm,r⟩:=x;rw[hx]at g2;obtain⟨rfl,g2,_⟩:=g2;obtain⟨O,ag⟩:=fZ hx;have aa:bd _:=HR.turn HT g1 g2 (by rw[O];simp);have Y:bd (X=if fU nm=t?/\bm last nm=t?/\nm ∉ (sn told).map dD.name then y? (nm,r)else x?):=by show X=_;rw[<-HX.out,hx];rfl
  have ae:(⟨a? nm⟩:ByteArray).size<=aO:=by show nm.toArray.size<=aO;unfold aO;simp;omega
  have af:l? nm<=aO:=by unfold aO;omega
  clear g1 g2 ht hx O HX HR;go_wp2_with fail;refine(rZ _ _ ae).mono ?_;rintro e w' ⟨rfl,rfl⟩;rw[show fU (⟨a? nm⟩:ByteArray).1.1=fU nm from rfl]
  cases ac:fU nm with
  |false=>have U:bd (X=x?):=Y.trans (if_neg (by rw[ac];simp));go_wp2_with fail;refine(jq _).mono ?_;rintro e w' ⟨rfl,rfl⟩;exact⟨q?,.no W U⟩
  |true=>
   have HN:bd _:=ac;go_wp2_with fail;rw[V6]
   cases ad:bm last nm with
   |false=>refine(jq _).mono ?_;rintro e w' ⟨rfl,rfl⟩;exact⟨q?,.no W (Y.trans (if_neg (by rw[ad];simp)))⟩
   |true=>
    have HL:bd _:=ad;refine(ib _).mono ?_;rintro e w' ⟨rfl,rfl⟩
    have ah:w1.cell? ⟨Rb,2,x?⟩=y? (.map (y? Mk)):=by obtain⟨p,h1,_⟩:=aa.rd;rw[dq h1];rfl
    have ab:=(aa.kn.look underlying9 underlying214 (RN w1) nm af).2;have hb:=(bj _ w1).alloc (bg _) (c? #[] 263);have HB:bd _:=hb;rw[NB,NA]at ab;by_cases hk:nm∈(sn told).map dD.name
    .rw[decide_eq_true hk]at ab;have U:bd _:=Y.trans (if_neg λh=>h.2.2 hk);go_wp2_with fail;refine(jq _).mono ?_;rintro e w' ⟨rfl,rfl⟩;exact⟨q?,.no (W.then (dp.eB HB)) U⟩
    rw[decide_eq_false hk]at ab;have U:bd _:=Y.trans (if_pos ⟨HN,HL,hk⟩);go_wp2_with fail;refine(ib _).mono ?_;rintro e w' ⟨rfl,rfl⟩;go_wp2;go_ret;exact .SF (W.then (dp.eB HB)) U ⟨q?,aa.below HT HB⟩
variable {S:ByteArray} {told:List (Nat×dD)} {Mk Rb mx:Nat} {t:Kr} {nm rest:Wd} {w:w?}
def RG.WL{w' b}{cs:Array v?}{ty}{fz:Nat×Nat}(U:t.Ok mx)(h:RG w Rb Mk t S rest told)(hb:w.1[b]?=y? (c? cs ty fz))(h1:b≠Rb)(h2:∀k,t.QL k->k≠b)(O:dp (· = b) w w'):RG w' Rb Mk t S rest told:=by obtain⟨p,W,g2⟩:=h.rd;exact⟨⟨p,by unfold BF at *;rw[O.block Rb (eG W) (λe=>h1 e.symm)];exact W,g2⟩,h.kn.stay (O.block _ h.kn.lt (h.kn.oU hb)),U.stay h.sd λk Y=>O.block k (U.lt h.sd Y) (h2 k Y),h.yW,h.ne⟩
def D6{r3 e}(h:j0 nm rest=y? (e,r3)):∃tx wt tg r O,gC rest=y? (tx,r)/\(eR tx=t?/\tx≠[])/\fe r=y? (wt,O)/\wt<=1000000/\rdNum O=y? (tg,r3)/\e=⟨nm,f?,tx,wt,tg⟩:=by
 unfold j0 at h;simp only[aK]at h;obtain⟨⟨tx,r⟩,U,h⟩:=h;split at h;rename_i W;simp only[aK]at h;obtain⟨⟨wt,O⟩,Y,h⟩:=h;split at h;rename_i hw;simp only[aK]at h;obtain⟨⟨tg,r4⟩,h3,h⟩:=h;cases h;exact⟨tx,wt,tg,r,O,U,W,Y,hw,h3,q?⟩
 cases h
 cases h
def Rs(hT:t.Ok mx)(h:RG w Rb Mk t S rest told)(hS:S.size<=1099511627775) :
  aM prog 266 #[p? (y? ⟨Rb,0,x?⟩),s? ⟨a? nm⟩] w (Ends (· = Rb) w (j0 nm rest) λx e w'=>e=e? (AV x.1)/\RG w' Rb Mk t S x.2 told):=by
 obtain⟨w0,af⟩:∃w0,w.alloc (c? #[s? ⟨#[]⟩,s? ⟨#[]⟩,n? i? 0,n? i? 0] 96)=w0:=⟨_,q?⟩;have ag:B? w w0:=by rw[<-af];exact(bj _ _).alloc (bg _) _
 have W:bd (dp (· = Rb) w w0):=dp.eB ag
 have aw:Rb<w.1.size:=by obtain⟨p,h1,_⟩:=h.rd;exact eG h1
 have HH:bd (∀{w'},dp (· = Rb) w0 w'->w'.1[w.1.size]?=y? (c? #[s? ⟨#[]⟩,s? ⟨#[]⟩,n? i? 0,n? i? 0] 96 (0,0))):=λg=>by have e:=aN w (c? #[s? ⟨#[]⟩,s? ⟨#[]⟩,n? i? 0,n? i? 0] 96);rw[af]at e;rw[g.block _ (eG e) (by show w.1.size≠Rb;omega)];exact e
 have HD:bd (∀k,t.QL k->k≠w.1.size):=λk hk e=>by have:=hT.lt h.sd hk;omega
 have ah:bd _:=h.below hT ag;have ht:=vF Rb S rest Mk t.v w0 ah.rd o!;have HT:bd _:=hT;obtain⟨X,hX⟩:∃X,j0 nm rest=X:=⟨_,q?⟩;rw[hX];unfold j0 at hX;have HX:bd _:=hX;clear h hT hX ag;go_enter func266,ntmps266;go_wp2_with fail;clear af;refine ht.mono ?_;rintro e w1 ⟨g1,O⟩;have aa:bd _:=g1;clear g1 ht
 cases U:gC rest with
 |none=>rw[U]at O;cases O;exact⟨q?,.no (W.then aa.out) (by rw[<-HX.out,U];rfl)⟩
 |some x=>
 obtain⟨tx,r⟩:=x;rw[U]at O;obtain⟨rfl,O,_⟩:=O;obtain⟨ab,av⟩:=fZ U;have ai:bd _:=ah.turn HT aa O (by rw[ab];simp);have aj:bd _:=U;have ap:(⟨a? tx⟩:ByteArray).size<=aO:=by show tx.toArray.size<=aO;unfold aO;simp;omega
 clear O U ab ah;go_wp2_with fail;refine(AE _ _ ap).mono ?_;rintro e w' ⟨rfl,rfl⟩;by_cases hq:eR tx=t?/\tx≠[]
 case neg=>
  rw[show decide (eR (⟨a? tx⟩:ByteArray).1.1=t?/\(⟨a? tx⟩:ByteArray).1.1≠[])=f? from decide_eq_false hq];have Y:bd (X=x?):=by show X=x?;rw[<-HX.out,aj.out];exact if_neg hq
  clear hq;go_wp2_with fail;refine(jq _).mono ?_;rintro e w' ⟨rfl,rfl⟩;exact⟨q?,.no (W.then aa.out) Y⟩
 rw[show decide (eR (⟨a? tx⟩:ByteArray).1.1=t?/\(⟨a? tx⟩:ByteArray).1.1≠[])=t? from decide_eq_true hq];have Y:bd (((fe r).bind λy=>if y.1<=1000000 then(rdNum y.2).bind λz=>y? ((⟨nm,f?,tx,y.1,z.1⟩:dD),z.2)else x?)=X):=by show _=X;rw[<-HX.out,aj.out];exact(if_pos hq).symm
 clear hq HX aj;go_wp2_with fail;refine(ib _).mono ?_;rintro e w' ⟨rfl,rfl⟩;have hw:=AG Rb S r Mk t.v w1 ai.rd o!;go_wp2_with fail;refine hw.mono ?_;rintro e w2 ⟨g1,O⟩;have ad:bd _:=aa.then g1
 cases U:fe r with
 |none=>rw[U]at O;cases O;exact⟨q?,.no (W.then ad.out) (by rw[<-Y.out,U];rfl)⟩
 |some x=>
 obtain⟨wt,r2⟩:=x;rw[U]at O;obtain⟨rfl,O,_⟩:=O;have ak:bd _:=ai.turn HT g1 O (by rw[(ju U).1];simp);have al:bd _:=U;clear g1 O hw U ai aa;by_cases ae:wt<=1000000
 case neg=>
  have aq:decide ((wt:Int)<=1000000)=f?:=decide_eq_false o!;have ac:bd (X=x?):=by show X=x?;rw[<-Y.out,al.out];exact if_neg ae
  clear ae;go_wp2_with fail;refine(jq _).mono ?_;rintro e w' ⟨rfl,rfl⟩;exact⟨q?,.no (W.then ad.out) ac⟩
 have aq:(wt:Int)<=1000000:=o!;have ac:bd (((rdNum r2).bind λz=>y? ((⟨nm,f?,tx,wt,z.1⟩:dD),z.2))=X):=by show _=X;rw[<-Y.out,al.out];exact(if_pos ae).symm
 clear ae Y al;go_wp2_with fail;refine(ib _).mono ?_;rintro e w' ⟨rfl,rfl⟩;have hn:=oX Rb S r2 Mk t.v w2 ak.rd o!;go_wp2_with fail;refine hn.mono ?_;rintro e w3 ⟨g1,O⟩;have am:bd _:=ad.then g1
 cases U:rdNum r2 with
 |none=>rw[U]at O;cases O;exact⟨q?,.no (W.then am.out) (by rw[<-ac.out,U];rfl)⟩
 |some x=>
 obtain⟨tg,r3⟩:=x;rw[U]at O;obtain⟨rfl,O,_⟩:=O;have ar:bd _:=ak.turn HT g1 O (by rw[(fK U).1];simp);have au:bd (X=y? (⟨nm,f?,tx,wt,tg⟩,r3)):=by show X=_;rw[<-ac.out,U];rfl
 have an:bd _:=HH.out am;clear g1 O hn U ak ad ac HH;have e0:=dq an;have z0:=dP an;go_wp2
 have ao:dp _ w3 ((((w3.setCell ⟨w.1.size,0,x?⟩ (s? ⟨a? nm⟩)).setCell ⟨w.1.size,1,x?⟩ (s? ⟨a? tx⟩)).setCell ⟨w.1.size,2,x?⟩ (n? i? wt)).setCell ⟨w.1.size,3,x?⟩ (n? i? tg)):=
  (((jd (F:=(· = w.1.size)) q?).then (jd q?)).then (jd q?)).then (jd q?)
 exact bodyPost_ret (v:=AV _) (by simp[aQ,results266,go_sem,e0,AV]) q? (.SF ((W.then am.out).trans ao λi hi hg=>o!) au ⟨q?,ar.WL HT an o! HD ao⟩)
def Eh{P f iD c}(O:P.funcs[f]?=y? iD)(hb:iD.body=y? c)(U:(iD.name == "runtime.NumGoroutine")=f?) (args) (w):(callFunc f args).run P w=.ok (.enter f args) w:=by show((match P.funcs[f]? with|none=>_|some fn=>_:Sem _)).run P w=_;rw[O];simp only[U,hb,Bool.false_eq_true,if_false,Option.isNone_some];rfl
def Fa{q mx t S rest e w}(hT:t.Ok mx)(h:RG w Rb Mk t S rest told)(hS:S.size<=1099511627775)(hm:S.size<=mx)(hn:e.name ∉ (sn told).map dD.name)(ho:Told e)(a7:l? told+1+l? rest<=S.size)(hq:q<=S.size) :
  aM prog 235 #[p? (y? ⟨Rb,0,x?⟩),n? i? q,s? ⟨a? e.name⟩,sw e] w λen w'=>en=e? (.tuple #[])/\RG w' Rb Mk t S rest (told++[(q,e)])/\dp (tL Rb Mk t) w w':=by
 obtain⟨w0,al⟩:∃w0,w.alloc (c? #[.bool e.gone,s? ⟨(yy e).toArray⟩,s? ⟨a? e.text⟩,n? i? e.dn,n? i? e.dE] 111)=w0:=⟨_,q?⟩;have ae:B? w w0:=by rw[<-al];exact(bj _ _).alloc (bg _) _
 have af:w0.1[w.1.size]?=y? (c? #[.bool e.gone,s? ⟨(yy e).toArray⟩,s? ⟨a? e.text⟩,n? i? e.dn,n? i? e.dE] 111 (0,0)):=by rw[<-al];exact aN w _
 have W:=h.below hT ae;have n1:=W.mr;have ab:=W.ne;have aq:∀k,t.QL k->k≠w.1.size:=λk U e=>by have:=hT.lt h.sd U;omega
 obtain⟨p,hp1,am⟩:=id W.rd;unfold BF at hp1;have c2:=dq hp1 2;have ar:Mk≠w.1.size:=W.kn.oU af;have ad:=Kw (sn told) e Rq (λ_=>rfl) hn;have au:l? e.name<=aO:=by have:=ho.1;unfold aO;omega
 obtain⟨iD,cc,av,aw,ax⟩:=hT.iD;have ag:bd _:=W;have ah:bd _:=A? hp1 am;have an:bd _:=af;have ay:bd _:=ae;have HP:bd _:=ad;have HN:bd (e.name ∉ (sn told).map dD.name/\Told e/\l? told<1099511627776/\q<=mx):=⟨hn,ho,o!,o!⟩;have HT:bd _:=hT;clear h ae af W hp1 am ad hn hT ho;unfold sw;go_enter func235,ntmps235;go_wp2_with (first|(at_mapUpdate;refine kS _ rfl _ _ _ 214 rfl 263 underlying9 underlying214 rfl ag.kn (by rw[aW,aW];unfold aO;omega) e.name au rfl (.agg #[]) rfl ?_;intro w1 ao az a8));have ac:=dp.qM az;have ai:w1.1[Rb]?=y? (c? #[s? S,n? i? p,.map (y? Mk),t.v] 216 (0,0)):=by rw[ac.block Rb (eG ah.1) (λe=>n1 e.symm)];exact ah.1
 have aj:w1.1[w.1.size]?=y? (c? #[.bool e.gone,s? ⟨(yy e).toArray⟩,s? ⟨a? e.text⟩,n? i? e.dn,n? i? e.dE] 111 (0,0)):=by rw[ac.block _ (eG an.out) (λe=>ar e.symm)];exact an
 have a0:t.T w1 told:=HT.stay ag.sd λk U=>ac.block k (HT.lt ag.sd U) (ab k U).2;have c3:=dq ai 3;have d0:=dq aj
 have a5:bd (∀w2:w?,w2.1=w1.1->w2.os=w1.os->w2.tape=w1.tape->w2.output=w1.output->aM prog t.fn (#[n? i? (q:Int),s? ⟨a? e.name⟩,sw e]++t.cp) w2 λen w'=>en=e? (.tuple #[])/\t.T w' (told++[(q,e)])/\dp t.own w1 w'):=by intro w2 k1 k2 k3 k4;obtain⟨a1,a2,a3,a4⟩:=HN.out;refine(HT.tell w2 q told e (HT.stay a0 λk _=>by rw[k1]) a1 a3 a2 a4).mono ?_;rintro en w' ⟨q1,q2,q3⟩;exact⟨q1,q2,⟨q3.os.trans k2,q3.tape.trans k3,q3.output.trans k4,by have:=q3.size;rw[k1]at this;exact this,λk U hn=>by rw[q3.block k (by rw[k1];exact U) hn,k1]⟩⟩
 have O:w1.drew.cell? ⟨Rb,3,x?⟩=y? (.func (.func t.fn) #[] t.cp)/\w1.drew.cell? ⟨w.1.size,0,x?⟩=y? (.bool e.gone)/\w1.drew.cell? ⟨w.1.size,1,x?⟩=y? (s? ⟨(yy e).toArray⟩)/\w1.drew.cell? ⟨w.1.size,2,x?⟩=y? (s? ⟨a? e.text⟩)/\w1.drew.cell? ⟨w.1.size,3,x?⟩=y? (n? i? e.dn)/\w1.drew.cell? ⟨w.1.size,4,x?⟩=y? (n? i? e.dE):=⟨c3,(d0 0),(d0 1),(d0 2),(d0 3),(d0 4)⟩;clear c3 d0;refine aP (S:=λw'=>w'.cell? ⟨Rb,3,x?⟩=y? (.func (.func t.fn) #[] t.cp)/\w'.cell? ⟨w.1.size,0,x?⟩=y? (.bool e.gone)/\w'.cell? ⟨w.1.size,1,x?⟩=y? (s? ⟨(yy e).toArray⟩)/\w'.cell? ⟨w.1.size,2,x?⟩=y? (s? ⟨a? e.text⟩)/\w'.cell? ⟨w.1.size,3,x?⟩=y? (n? i? e.dn)/\w'.cell? ⟨w.1.size,4,x?⟩=y? (n? i? e.dE)) k! ?_;refine fV 0 ?_ O ?_<|fV 1 ?_ O ?_<|fV 2 ?_ O ?_<|fV 3 ?_ O ?_<|fV 4 ?_ O ?_<|fV 5 ?_ O ?_<|fV 6 ?_ O ?_ ?_
 any_goals(rintro w' ⟨k0,k1,k2,k3,k4,k5⟩;go_simp;first|done|with_reducible rfl)
 refine kL 7 λK' a6=>?_;have ak:=a5.out w1.drew q? q? q? rfl;unfold Oper.wp;go_simp;change Oper.upon _ _ _ _ _ (Sem.run _ (callFunc t.fn _) _);rw[Eh av aw ax];refine ak.mono ?_;rintro en w2 ⟨rfl,q2,q3⟩;have Y:∀k,t.own k->k≠Rb/\k≠Mk/\k≠w.1.size:=λk U=>⟨(ab k (HT.sub k U)).1,(ab k (HT.sub k U)).2,aq k (HT.sub k U)⟩;have ap:w2.1[Rb]?=y? (c? #[s? S,n? i? p,.map (y? Mk),t.v] 216 (0,0)):=by rw[q3.block Rb (eG ai) (λe=>(Y _ e).1 q?)];exact ai
 have aa:w2.1[w.1.size]?=y? (c? #[.bool e.gone,s? ⟨(yy e).toArray⟩,s? ⟨a? e.text⟩,n? i? e.dn,n? i? e.dE] 111 (0,0)):=by rw[q3.block _ (eG aj) (λe=>(Y _ e).2.2 q?)];exact aj
 refine a6 _ _ ⟨⟨by rw[dq ap];rfl,by rw[dq aa];rfl,by rw[dq aa];rfl,by rw[dq aa];rfl,by rw[dq aa];rfl,by rw[dq aa];rfl⟩,wpAnyH_done k! ?_ _⟩;go_wp2;go_end0;refine⟨q?,⟨⟨p,ap,ah.2⟩,?_,q2,j!,ab⟩,?_⟩;rw[show sn (told++[(q,e)])=sn told++[e] by simp[sn],<-HP.out];exact dU.stay ao (q3.block _ (dU.lt ao) λe=>(Y _ e).2.1 q?);exact((dp.eB ay).then (ac.mono (λ_ U=>Or.inr (Or.inl U)))).then (q3.mono (λ_ U=>Or.inr (Or.inr U)))
def dp.D8{w'}(h:dp (· = Rb) w w'):dp (tL Rb Mk t) w w':=h.mono (λ_ O=>Or.inl O)
def RG.here{rest}(h:RG w Rb Mk t S rest told):∃p:Nat,w.cell? ⟨Rb,1,x?⟩=y? (n? i? p)/\p=S.size-l? rest:=⟨_,h.pos,q?⟩
def Et{nm r y}(h:j0 nm r=y? y):∃tx wt tg O,y=(⟨nm,f?,tx,wt,tg⟩,O)/\l? tx<256/\l? O<=l? r:=by have h0:=h;unfold j0 at h;obtain⟨x,U,h⟩:=aK.1 h;split at h;obtain⟨z,W,h⟩:=aK.1 h;split at h;obtain⟨u,Y,h⟩:=aK.1 h;simp only[Option.some.injEq]at h;subst h;obtain⟨g1,g2⟩:=fZ U;refine⟨_,_,_,_,q?,g2,?_⟩;have g3:=(ju W).1;have g4:=(fK Y).1;rw[g1,g3,g4];simp;omega;simp at h;simp at h
def TP{rest}(hT:t.Ok mx)(h:RG w Rb Mk t S rest [])(hS:S.size<=1099511627775)(hm:S.size<=mx) :
  aM prog 211 #[p? (y? ⟨Rb,0,x?⟩)] w (Ends (tL Rb Mk t) w ((rdNum rest).bind λa=>(iU S.size a.1 [] [] a.2).bind λb=>y? (a.1,b.1,b.2)) λx e w'=>e=e? (n? i? x.1)/\RG w' Rb Mk t S x.2.2 x.2.1):=by
 have ht:=oX Rb S rest Mk t.v w h.rd o!;have HR:bd _:=h;have HT:bd _:=hT;obtain⟨X,hX⟩:∃X,((rdNum rest).bind λa=>(iU S.size a.1 [] [] a.2).bind λb=>y? (a.1,b.1,b.2))=X:=⟨_,q?⟩;rw[hX];have HX:bd _:=hX;clear h hT hX;go_enter func211,ntmps211;go_wp2_with fail;refine ht.mono ?_;rintro e w1 ⟨g1,O⟩;have HF1:bd (dp (tL Rb Mk t) w w1):=g1.D8
 cases U:rdNum rest with
 |none=>rw[U]at O;cases O;exact⟨q?,.no HF1 (by rw[<-HX.out,U];rfl)⟩
 |some x=>
 obtain⟨n,r0⟩:=x;rw[U]at O;obtain⟨rfl,O,_⟩:=O;obtain⟨ac,aj⟩:=fK U;have HR1:bd _:=HR.turn HT g1 O (by rw[ac];simp);have HX1:bd (X=(iU S.size n [] [] r0).bind λz=>y? (n,z.1,z.2)):=by show X=_;rw[<-HX.out,U];rfl
 clear g1 O ht U ac HX HR;go_wp2;go_loopw [4,9] (λl i wr=>∃(k:Nat)(done:List (Nat×dD))(ls r:Wd),k<=n/\i=n? i? k/\l=s? ⟨a? ls⟩/\RG wr Rb Mk t S r done/\dp (tL Rb Mk t) w wr/\X=(iU S.size (n-k) ((sn done).map dD.name) ls r).bind λz=>y? (n,done++z.1,z.2)) (λ_ i _=>n-(intOf i).toNat)
 case atStart=>exact⟨0,[],[],r0,bh _,q?,q?,HR1,HF1,HX1⟩
 case round=>
  obtain⟨k,done,ls,r,hk,rfl,rfl,hr,hf,hg⟩:=hrel;have ad:bd _:=hf;have ab:bd _:=hr;by_cases am:k<n
  .obtain⟨p,hp,ae⟩:=hr.here;have af:bd _:=ae;rw[(o!:n-k=(n-(k+1))+1),iU]at hg;have HG:bd _:=hg;have ag:=vD (last:=ls) HT ab hS;clear hr hf hg ae;go_wp2_with fail;refine ag.mono ?_;rintro e w2 ⟨g1,O⟩;have ah:bd (dp (tL Rb Mk t) w w2):=ad.then g1.D8
   cases U:ml ((sn done).map dD.name) ls r with
   |none=>rw[U]at O;cases O;exact⟨q?,.no ah (by rw[HG.out,U];rfl)⟩
   |some x=>
   obtain⟨nm,r1⟩:=x;rw[U]at O;obtain⟨rfl,O⟩:=O;obtain⟨ai,W,_,Y⟩:=lQ U;have ak:=ab.yW;have al:l? r1+1<=l? r:=by rw[ai];simp[dI]
   have aa:=Fa (rest:=r1) (q:=p) (e:=⟨nm,t?,[],0,0⟩) HT O hS hm Y ⟨by show nm.length<=255;have:=(il W).2;omega,i!,λh=>by cases h⟩ o! (v! af.out)
   have HG1:bd (X=(iU S.size (n-(k+1)) ((sn (done++[(p,(⟨nm,t?,[],0,0⟩:dD))])).map dD.name) nm r1).bind λz=>y? (n,done++[(p,⟨nm,t?,[],0,0⟩)]++z.1,z.2)):=by show X=_;rw[HG.out,U,<-af.out];simp[sn,aL]
   clear ag g1 O hp U ai W Y HG;go_wp2_with fail;refine aa.mono ?_;rintro e w3 ⟨rfl,q1,q2⟩;have HR3:bd _:=q1;have HF3:bd (dp (tL Rb Mk t) w w3):=ah.then q2;clear aa q1 q2;go_wp2;go_roundw
   case rel=>exact⟨k+1,_,nm,r1,o!,by go_num,q?,HR3,HF3,HG1⟩
   case measure=>simp[intOf];omega
  rw[(o!:n-k=0),iU]at hg;have HG:bd _:=hg;clear hr hf hg;go_wp2;go_ret;exact .SF ad HG ⟨q?,u! ab.out⟩
def Ml{rest path:Wd}(hT:t.Ok mx)(h:RG w Rb Mk t S rest told)(hS:S.size<=1099511627775)(hm:S.size<=mx) :
  aM prog 238 #[.pointer (y? ⟨Rb,0,x?⟩),.string ⟨a? path⟩] w (Ends (tL Rb Mk t) w ((rdNum rest).bind λa=>(iV S.size a.1 path ((sn told).map dD.name) [] a.2).bind λb=>y? (a.1,b.1,b.2)) λx e w'=>e=.returned (.tuple #[.int i? x.1,.int i? (fI (sn x.2.1))])/\RG w' Rb Mk t S x.2.2 (told++x.2.1)):=by
 have ht:=oX Rb S rest Mk t.v w h.rd o!;have HR:bd _:=h;have HT:bd _:=hT;obtain⟨X,hX⟩:∃X,((rdNum rest).bind λa=>(iV S.size a.1 path ((sn told).map dD.name) [] a.2).bind λb=>y? (a.1,b.1,b.2))=X:=⟨_,q?⟩;rw[hX];have HX:bd _:=hX;clear h hT hX;go_enter func238,ntmps238;go_wp2_with fail;refine ht.mono ?_;rintro e w1 ⟨W,O⟩;have ar:bd (dp (tL Rb Mk t) w w1):=W.D8
 cases U:rdNum rest with
 |none=>rw[U]at O;cases O;exact⟨q?,.no ar.out (by rw[<-HX.out,U];rfl)⟩
 |some x=>
 obtain⟨n,r0⟩:=x;rw[U]at O;obtain⟨rfl,O,_⟩:=O;obtain⟨au,a5⟩:=fK U;have a6:bd _:=HR.out.turn HT.out W O (by rw[au];simp);have a7:bd (X=(iV S.size n path ((sn told).map dD.name) [] r0).bind λz=>y? (n,z.1,z.2)):=by show X=_;rw[<-HX.out,U];rfl
 clear W O ht U au HX HR;go_wp2;go_loopw [5,6,12] (λg l i wr=>∃(k:Nat)(done:List (Nat×dD))(ls r:Wd),k<=n/\i=.int i? k/\l=.string ⟨a? ls⟩/\g=.int i? (fI (sn done))/\RG wr Rb Mk t S r (told++done)/\dp (tL Rb Mk t) w wr/\X=(iV S.size (n-k) path ((sn (told++done)).map dD.name) ls r).bind λz=>y? (n,done++z.1,z.2)) (λ_ _ i _=>n-(intOf i).toNat)
 case atStart=>exact⟨0,[],[],r0,bh _,q?,q?,q?,by rw[aX];exact a6.out,ar.out,by rw[aX];exact a7.out⟩
 case round=>
  obtain⟨k,done,ls,r,hk,rfl,rfl,rfl,hr,hf,hg⟩:=hrel;have av:bd _:=hf;have ag:bd _:=hr;by_cases aG:k<n
  .obtain⟨p,hp,aw⟩:=hr.here;have ax:bd _:=aw;rw[(o!:n-k=(n-(k+1))+1),iV]at hg;have HG:bd _:=hg;have ay:=vD (last:=ls) HT.out ag.out hS;clear hr hf hg aw;go_wp2_with fail;refine ay.mono ?_;rintro e w2 ⟨W,O⟩;have ah:bd (dp (tL Rb Mk t) w w2):=av.out.then W.D8
   cases U:ml ((sn (told++done)).map dD.name) ls r with
   |none=>rw[U]at O;cases O;exact⟨q?,.no ah.out (by rw[HG.out,U];rfl)⟩
   |some x=>
   obtain⟨nm,r1⟩:=x;rw[U]at O;obtain⟨rfl,O⟩:=O;obtain⟨az,ad,_,ae⟩:=lQ U;have aD:=ag.out.yW;have aE:r1.length+1<=r.length:=by rw[az];simp[dI]
   have af:=Rs (nm:=nm) HT.out O hS;have HN:bd _:=And.intro ae (And.intro (il ad).2 U);clear ay W O hp U az ad ae;go_wp2_with fail;refine af.mono ?_;rintro e w3 ⟨W,O⟩;have ai:bd (dp (tL Rb Mk t) w w3):=ah.out.then W.D8
   cases hy:j0 nm r1 with
   |none=>rw[hy]at O;cases O;exact⟨q?,.no ai.out (by rw[HG.out,HN.out.2.2,aJ,hy];rfl)⟩
   |some y=>
   obtain⟨tx,wt,tg,r2,rfl,aH,aF⟩:=Et hy;rw[hy]at O;obtain⟨rfl,O⟩:=O;have Y:bd _:=O;obtain⟨_,_,aI,_,_,_,_,_,_,a0,a1⟩:=D6 hy
   have a8:bd (0<=tg/\tg<=255):=by simp only[dD.mk.injEq]at a1;have:=(fK a0).2;exact⟨o!,o!⟩
   have aj:bd (X=(if eA tx=path then(iV S.size (n-(k+1)) path ((sn (told++done)).map dD.name++[nm]) nm r2).bind λz=>y? ((p,(⟨nm,f?,tx,wt,tg⟩:dD))::z.1,z.2)else x?).bind λz=>y? (n,done++z.1,z.2)):=by show X=_;rw[HG.out,HN.out.2.2,aJ,hy,<-ax.out];rfl
   clear af W O hy a0 a1 ah HG;unfold AV;have a9:(⟨a? tx⟩:ByteArray).size<=1099511627776:=by show tx.toArray.size<=_;simp;omega
   obtain⟨w4,ak⟩:∃w4,w3.alloc (.cells #[.string ⟨a? nm⟩,.string ⟨a? tx⟩,.int i? wt,.int i? tg] 96)=w4:=⟨_,q?⟩;have al:B? w3 w4:=by rw[<-ak];exact(bj _ _).alloc (bg _) _
   have ac:w4.1[w3.1.size]?=y? (.cells #[.string ⟨a? nm⟩,.string ⟨a? tx⟩,.int i? wt,.int i? tg] 96 (0,0)):=by rw[<-ak];exact aN w3 _
   have e1:=dq ac 1;go_wp2_with fail;refine(tr _ _ a9).mono ?_;rintro e w5 ⟨rfl,am⟩;clear ak e1;have a':=al.size;have an:w5.1[w3.1.size]?=y? (.cells #[.string ⟨a? nm⟩,.string ⟨a? tx⟩,.int i? wt,.int i? tg] 96 (0,0)):=by rw[am.block _ (eG ac)];exact ac
   have aa:B? w3 w5:=al.trans (am.mono a')
   have HD:bd (∀k,tL Rb Mk t k->k≠w3.1.size):=by rintro k (h1|h1|h1) e;obtain⟨p1,W,_⟩:=Y.out.rd;have:=eG W;omega;have:=Y.out.kn.lt;omega;have:=HT.out.lt Y.out.sd (HT.out.sub k h1);omega
   have a2:bd _:=Y.out.below HT.out aa;have ao:bd (dp (tL Rb Mk t) w w5):=ai.out.then (dp.eB aa);have ap:bd _:=an;have d0:=dq an;clear al ac am an aa Y ai;rw[show(eA (⟨a? tx⟩:ByteArray).1.1)=eA tx from rfl];by_cases jN:eA tx=path
   case neg=>
    have aA:(eA tx==path)=f?:=beq_eq_false_iff_ne.2 jN;have aq:bd (X=x?):=by show X=x?;rw[aj.out,if_neg jN];rfl
    clear jN;go_wp2_with fail;refine(jq _).mono ?_;rintro e w' ⟨rfl,rfl⟩;exact⟨q?,.no ao.out aq.out⟩
   have aA:(eA tx==path)=t?:=beq_iff_eq.2 jN
   have aq:bd (X=(iV S.size (n-(k+1)) path ((sn (told++(done++[(p,(⟨nm,f?,tx,wt,tg⟩:dD))]))).map dD.name) nm r2).bind λz=>y? (n,done++[(p,⟨nm,f?,tx,wt,tg⟩)]++z.1,z.2)):=by show X=_;rw[aj.out,if_pos jN];simp[sn,aL]
   clear jN aj;go_wp2_with fail;refine(ib _).mono ?_;rintro e w' ⟨rfl,rfl⟩;have ab:=Fa (q:=p) (e:=⟨nm,f?,tx,wt,tg⟩) HT.out a2.out hS hm HN.out.1 ⟨by show nm.length<=255;have:=HN.out.2.1;omega,by show tx.length<=255;omega,λ_=>a8.out⟩ o! (by have:=ax.out;omega);have a3:sw ⟨nm,f?,tx,wt,tg⟩=.agg #[.bool f?,.string ⟨a? nm⟩,.string ⟨a? tx⟩,.int i? wt,.int i? tg]:=rfl;rw[a3]at ab;clear a3;go_wp2_with fail;refine ab.mono ?_;rintro e w6 ⟨rfl,q1,q2⟩
   have a4:w6.1[w3.1.size]?=y? (.cells #[.string ⟨a? nm⟩,.string ⟨a? tx⟩,.int i? wt,.int i? tg] 96 (0,0)):=by rw[q2.block _ (eG ap.out) (λh=>HD.out _ h q?)];exact ap.out
   have d26:=dq a4 2;have aB:bd _:=q1;have aC:bd (dp (tL Rb Mk t) w w6):=ao.out.then q2;clear ab q1 q2 a4 d0 a2 ao ap;go_wp2;go_roundw
   case rel=>refine⟨k+1,done++[(p,⟨nm,f?,tx,wt,tg⟩)],nm,r2,o!,by go_num,q?,?_,by rw[<-aZ];exact aB.out,aC.out,aq.out⟩;rw[show sn (done++[(p,(⟨nm,f?,tx,wt,tg⟩:dD))])=sn done++[⟨nm,f?,tx,wt,tg⟩] by simp[sn],kT,lM,show fI []=0 from rfl];have:=me (sn done);show Value.int i? (max (fI (sn done)) wt)=Value.int i? (max (fI (sn done)) (max (max 0 wt) 0));congr 1;omega
   case measure=>simp[intOf];omega
  rw[(o!:n-k=0),iV]at hg;have HG:bd _:=hg;clear hr hf hg;go_wp2;go_ret2;exact .SF av.out HG.out ⟨i!,by simpa using ag.out⟩
variable {f:Nat}
def T8(a b:Wd):(⟨a? a⟩:ByteArray)++⟨a? b⟩=⟨(a++b).toArray⟩:=by apply ByteArray.ext;simp
def Lh(t:Kr)(mx f:Nat):Prop:=∀(Rb Mk:Nat)(S:ByteArray)(rest:Wd)(told:List (Nat×dD))(path:Wd)(w:w?),RG w Rb Mk t S rest told->S.size<=1099511627775->S.size<=mx->26<=f+l? path->l? path<=1099511627775->
  aM prog 214 #[p? (y? ⟨Rb,0,x?⟩),s? ⟨a? path⟩] w (Ends (tL Rb Mk t) w (fJ S.size f path ((sn told).map dD.name) rest) λx e w'=>e=e? (n? i? x.1)/\RG w' Rb Mk t S x.2.2 (told++x.2.1))
def IR{S}{rest path:Wd}{w}(hN:Lh t mx f)(hT:t.Ok mx)(h:RG w Rb Mk t S rest told)(hS:S.size<=1099511627775)(hm:S.size<=mx)(hp:l? path<=24)(hf:25<=f+l? path) :
  aM prog 239 #[p? (y? ⟨Rb,0,x?⟩),s? ⟨a? path⟩] w (Ends (tL Rb Mk t) w ((rdNum rest).bind λa=>(jl (fJ S.size f) a.1 path ((sn told).map dD.name) (-1) a.2).bind λb=>y? (a.1,b.1,b.2.1,b.2.2)) λx e w'=>e=e? (.tuple #[n? i? x.1,n? i? x.2.1])/\RG w' Rb Mk t S x.2.2.2 (told++x.2.2.1)):=by
 have ht:=oX Rb S rest Mk t.v w h.rd o!;have HR:bd _:=h;have HT:bd _:=hT;have HN:bd _:=hN;obtain⟨X,hX⟩:∃X,((rdNum rest).bind λa=>(jl (fJ S.size f) a.1 path ((sn told).map dD.name) (-1) a.2).bind λb=>y? (a.1,b.1,b.2.1,b.2.2))=X:=⟨_,q?⟩;rw[hX];have HX:bd _:=hX;clear h hT hX hN;go_enter func239,ntmps239;go_wp2_with fail;refine ht.mono ?_;rintro e w1 ⟨Y,O⟩;have ai:bd (dp (tL Rb Mk t) w w1):=Y.D8
 cases U:rdNum rest with
 |none=>rw[U]at O;cases O;exact⟨q?,.no ai (by rw[<-HX.out,U];rfl)⟩
 |some x=>
 obtain⟨n,r0⟩:=x;rw[U]at O;obtain⟨rfl,O,_⟩:=O;obtain⟨aj,ap⟩:=fK U;have aq:bd _:=HR.turn HT Y O (by rw[aj];simp);have ar:bd (X=(jl (fJ S.size f) n path ((sn told).map dD.name) (-1) r0).bind λz=>y? (n,max 0 z.1,z.2.1,z.2.2)):=by show X=_;rw[<-HX.out,U];simp
 clear Y O ht U aj HX HR;go_wp2;go_loopw [5,6,11] (λgv l i wr=>∃(k gg:Nat)(done:List (Nat×dD))(la:Int)(r:Wd),k<=n/\i=n? i? k/\l=n? i? la/\gv=n? i? gg/\RG wr Rb Mk t S r (told++done)/\dp (tL Rb Mk t) w wr/\(X=(jl (fJ S.size f) (n-k) path ((sn (told++done)).map dD.name) la r).bind λz=>y? (n,max gg z.1,done++z.2.1,z.2.2))/\-1<=la/\la<=255) (λ_ _ i _=>n-(intOf i).toNat)
 case atStart=>exact⟨0,0,[],-1,r0,bh _,q?,q?,q?,by rw[aX];exact aq,ai,by rw[aX];exact ar,o!,o!⟩
 case round=>
  obtain⟨k,gg,done,la,r,hk,rfl,rfl,rfl,hr,ae,hg,ay,az⟩:=hrel;have ak:bd _:=ae;have af:bd _:=hr;by_cases a1:k<n
  .rw[(o!:n-k=(n-(k+1))+1),jl]at hg;have HG:bd _:=hg;have al:=vF Rb S r Mk t.v wr af.rd o!;clear hr ae hg;go_wp2_with fail;refine al.mono ?_;rintro e w2 ⟨Y,O⟩;have aa:bd (dp (tL Rb Mk t) w w2):=ak.then Y.D8
   cases U:gC r with
   |none=>rw[U]at O;cases O;exact⟨q?,.no aa (by rw[HG.out,U];rfl)⟩
   |some x=>
   obtain⟨lb,r1⟩:=x;rw[U]at O;obtain⟨rfl,O,_⟩:=O;obtain⟨am,ad⟩:=fZ U;have au:bd _:=af.turn HT Y O (by rw[am];simp);have ab:bd _:=U;clear al Y O U am
   cases lb with
   |nil=>go_wp2_with fail;refine(jq _).mono ?_;rintro e w' ⟨rfl,rfl⟩;exact⟨q?,.no aa (by rw[HG.out,ab.out];rfl)⟩
   |cons c cs=>
   have hc:=c.toNat_lt;have an:(⟨(c::cs).toArray⟩:ByteArray).size=l? cs+1:=by show(c::cs).toArray.size=_;simp
   have a2:(⟨(c::cs).toArray⟩:ByteArray)[0]'(by rw[an];omega)=c:=rfl;by_cases ac:la<(c.toNat:Int)
   case neg=>
    have a3:decide (la<(c.toNat:Int))=f?:=decide_eq_false ac;have W:bd (X=x?):=by show X=x?;rw[HG.out,ab.out,aJ,if_neg λh=>ac h.2];rfl
    clear ac;go_wp2_with fail;refine(jq _).mono ?_;rintro e w' ⟨rfl,rfl⟩;exact⟨q?,.no aa W⟩
   have ag:=HG.out;rw[ab.out,aJ,if_pos ⟨i!,ac⟩]at ag;have W:bd _:=ag;have av:(⟨a? path⟩:ByteArray).size=l? path:=by show path.toArray.size=_;simp
   have a0:¬(9223372036854775807<(⟨a? path⟩:ByteArray).size+(⟨(c::cs).toArray⟩:ByteArray).size):=by rw[av,an];simp only[ba]at ad;omega
   have ah:=HN.out Rb Mk S r1 (told++done) (path++(c::cs)) w2 au hS hm (by simp only[aY,ba];omega) (by simp only[aY,ba]at ad⊢;omega);rw[<-T8 path (c::cs)]at ah;clear ag HG ab;go_wp2_with fail;refine(ib _).mono ?_;rintro e w' ⟨rfl,rfl⟩;go_wp2_with fail;refine ah.mono ?_;rintro e w3 ⟨Y,O⟩;have ao:bd (dp (tL Rb Mk t) w w3):=aa.then Y
   cases hy:fJ S.size f (path++(c::cs)) ((sn (told++done)).map dD.name) r1 with
   |none=>rw[hy]at O;cases O;exact⟨q?,.no ao (by rw[W.out,hy];rfl)⟩
   |some y=>
   obtain⟨ga,ea,r2⟩:=y;rw[hy]at O;obtain⟨rfl,O⟩:=O;have aw:bd _:=O
   have ax:bd (X=(jl (fJ S.size f) (n-(k+1)) path ((sn (told++(done++ea))).map dD.name) (c.toNat:Int) r2).bind λz=>y? (n,max (max gg ga) z.1,done++ea++z.2.1,z.2.2)):=by show X=_;rw[W.out,hy];simp[sn,aL,Nat.max_assoc]
   clear ah Y O hy W;go_wp2;go_roundw
   case rel=>refine⟨k+1,max gg ga,done++ea,(c.toNat:Int),r2,o!,by go_num,q?,?_,by rw[<-aZ];exact aw,ao,ax,o!,o!⟩;show Value.int i? (max (gg:Int) (ga:Int))=Value.int i? ((max gg ga:Nat):Int);congr 1;omega
   case measure=>simp[intOf];omega
  rw[(o!:n-k=0),jl]at hg;have HG:bd _:=hg;clear hr ae hg;go_wp2;go_ret2;exact .SF ak HG ⟨i!,u! af.out⟩
def Dw(N f)(path)(ks)(bs):fJ N (f+1) path ks bs=if path.length<=24 then(fe bs).bind λa=>((rdNum a.2).bind λb=>(iV N b.1 path ks [] b.2).bind λc=>y? (b.1,c.1,c.2)).bind λx=>
  ((rdNum x.2.2).bind λd=>(jl (fJ N f) d.1 path (ks++(sn x.2.1).map dD.name) (-1) d.2).bind λe=>y? (d.1,e.1,e.2.1,e.2.2)).bind λy=>if(a.1)=max (fI (sn x.2.1)) y.2.1/\(path=[]\/0<x.1\/1<y.1)then y? (a.1,x.2.1++y.2.2.1,y.2.2.2)else x? else x?:=by
 rw[fJ];simp only[aL,aJ]
def Cv(hT:t.Ok mx)(ih:∀f',f=f'+1->Lh t mx f'):Lh t mx f:=by
 intro Rb Mk S rest told path w h hS hm hf ap;have aq:(⟨a? path⟩:ByteArray).size=l? path:=by show path.toArray.size=_;simp
 by_cases hp:l? path<=24
 case neg=>
  have al:decide ((l? path:Int)<=24)=f?:=decide_eq_false o!
  have HX:bd (fJ S.size f path ((sn told).map dD.name) rest=x?):=by show _=_;cases f;rfl;rw[fJ,if_neg hp]
  clear hT ih h;go_enter func214,ntmps214;go_wp2_with fail;refine(jq _).mono ?_;rintro e w' ⟨rfl,rfl⟩;exact⟨q?,.no (dp.refl _ _) HX⟩
 obtain⟨f,rfl⟩:∃f',f=f'+1:=⟨f-1,o!⟩;have al:(l? path:Int)<=24:=o!;have ht:=AG Rb S rest Mk t.v w h.rd o!;have HR:bd _:=h;have HN:bd _:=ih f rfl;have HT:bd _:=hT;obtain⟨X,hX⟩:∃X,fJ S.size (f+1) path ((sn told).map dD.name) rest=X:=⟨_,q?⟩;rw[hX];rw[Dw,if_pos hp]at hX;have HX:bd _:=hX;clear h ih hT hX;go_enter func214,ntmps214;go_wp2_with fail;refine(ib _).mono ?_;rintro e w' ⟨rfl,rfl⟩;go_wp2_with fail;refine ht.mono ?_;rintro e w1 ⟨g1,O⟩;have ab:bd (dp (tL Rb Mk t) w w1):=g1.D8
 cases U:fe rest with
 |none=>rw[U]at O;cases O;exact⟨q?,.no ab (by rw[<-HX.out,U];rfl)⟩
 |some x=>
 obtain⟨wg,r0⟩:=x;rw[U]at O;obtain⟨rfl,O,_⟩:=O;have ag:bd _:=HR.turn HT g1 O (by rw[(ju U).1];simp);have hX:=HX.out;rw[U,aJ]at hX;have ac:bd _:=hX;clear ht g1 O U hX HX HR;have ah:=Ml (path:=path) HT ag hS hm;go_wp2_with fail;refine ah.mono ?_;rintro e w2 ⟨g1,O⟩;have ad:bd (dp (tL Rb Mk t) w w2):=ab.then g1
 cases U:(rdNum r0).bind λa=>(iV S.size a.1 path ((sn told).map dD.name) [] a.2).bind λb=>y? (a.1,b.1,b.2)with
 |none=>rw[U]at O;cases O;exact⟨q?,.no ad (by rw[<-ac.out,U];rfl)⟩
 |some x=>
 obtain⟨nb,own,r1⟩:=x;rw[U]at O;obtain⟨rfl,O⟩:=O;have ai:bd _:=O;have hX:=ac.out;rw[U,aJ,show(sn told).map dD.name++(sn own).map dD.name=(sn (told++own)).map dD.name by simp[sn]]at hX;have ae:bd _:=hX;clear ah g1 O U hX ag ab ac;have aj:=IR HN HT ai hS hm hp o!;go_wp2_with fail;refine aj.mono ?_;rintro e w3 ⟨g1,O⟩;have W:bd (dp (tL Rb Mk t) w w3):=ad.then g1
 cases U:(rdNum r1).bind λa=>(jl (fJ S.size f) a.1 path ((sn (told++own)).map dD.name) (-1) a.2).bind λb=>y? (a.1,b.1,b.2.1,b.2.2)with
 |none=>rw[U]at O;cases O;exact⟨q?,.no W (by rw[<-ae.out,U];rfl)⟩
 |some x=>
 obtain⟨nc,gb,below,r⟩:=x;rw[U]at O;obtain⟨rfl,O⟩:=O;have af:bd (RG w3 Rb Mk t S r (told++(own++below))):=by show RG _ _ _ _ _ _ _;rw[<-aZ];exact O
 have aa:bd (X=if(wg:Int)=max (fI (sn own)) gb/\(path=[]\/0<nb\/1<nc)then y? (wg,own++below,r)else x?):=by show X=_;rw[<-ae.out,U];rfl
 clear aj g1 O U ai ad ae;by_cases Y:(wg:Int)=max (fI (sn own)) gb
 case neg=>have ak:((wg:Int)==max (fI (sn own)) (gb:Int))=f?:=beq_eq_false_iff_ne.2 Y;have am:bd (X=x?):=aa.trans (if_neg λh=>Y h.1);clear Y;go_wp2_with fail;refine(jq _).mono ?_;rintro e w' ⟨rfl,rfl⟩;exact⟨q?,.no W am⟩
 have ak:((wg:Int)==max (fI (sn own)) (gb:Int))=t?:=beq_iff_eq.2 Y;have HG:bd _:=Y;clear Y;go_wp2_with fail;refine(ib _).mono ?_;rintro e w' ⟨rfl,rfl⟩;clear ak
 cases path with
 |nil=>go_wp2_with fail;refine(ib _).mono ?_;rintro e w' ⟨rfl,rfl⟩;go_wp2;go_ret;exact .SF W (aa.trans (if_pos ⟨HG,.inl t!⟩)) ⟨q?,af⟩
 |cons c cs=>
  by_cases h1:0<nb
  .have an:(0:Int)<(nb:Int):=o!;go_wp2_with fail;refine(ib _).mono ?_;rintro e w' ⟨rfl,rfl⟩;go_wp2;go_ret;exact .SF W (aa.trans (if_pos ⟨HG,.inr (.inl h1)⟩)) ⟨q?,af⟩
  have an:decide ((0:Int)<(nb:Int))=f?:=decide_eq_false o!;by_cases h2:1<nc
  .have ao:(1:Int)<(nc:Int):=o!;go_wp2_with fail;refine(ib _).mono ?_;rintro e w' ⟨rfl,rfl⟩;go_wp2;go_ret;exact .SF W (aa.trans (if_pos ⟨HG,.inr (.inr h2)⟩)) ⟨q?,af⟩
  have ao:decide ((1:Int)<(nc:Int))=f?:=decide_eq_false o!;go_wp2_with fail;refine(jq _).mono ?_;rintro e w' ⟨rfl,rfl⟩;exact⟨q?,.no W (aa.trans (if_neg λh=>by obtain h|h|h:=h.2<;>simp_all))⟩
def O6(hT:t.Ok mx):∀f,Lh t mx f
 |0=>Cv hT λ_ h=>by cases h
 |f+1=>Cv hT λ_ h=>by cases h;exact O6 hT f
def Jd(w):(Instr.typeAssert (.iface 264 (.agg #[])) 20 264 t?).run prog w=.ok (.tuple #[.agg #[],.bool t?]) w:=by kernel_rfl
def Dl(b)(w)(b0)(hb:w.1[b]?=y? (c? #[.bool b0] 4 (0,0))) :
  CallsD prog 210 #[p? (y? ⟨b,0,x?⟩)] (.panicking [ER]) w λe W w'=>e=e? (.tuple #[])/\W=.panicking [{v:=.iface 264 (.agg #[]),recovered:=t?}]/\w'=(w.alloc (c? #[] 264)).setCell ⟨b,0,x?⟩ (.bool f?):=by
 have Y:=Jd;have O:(w.alloc (c? #[] 264)).1[b]?=y? (c? #[.bool b0] 4 (0,0)):=by rw[bk _ _ _ (eG hb)];exact hb
 have aa:=dq O 0;have ab:=dP O 0;clear hb O;refine aS func210 q? λU cs hu=>?_;apply wpS_seq;apply aU;simp[wpOpsS,go_sem,recoverD,hu,ntmps210,Exit.thenS,ER];refine wpS_of_wp ?_;change Code.wp _ _ _ {tmps:=#[p? (y? ⟨b,0,x?⟩),.iface 264 (.agg #[]),bn,bn,.iface 264 (.agg #[]),bn,bn,bn,bn,bn,bn,bn,bn,bn,bn],defers:=[]} _;go_wp2;cases U;simp_all [bodyPostS,aQ,results210]
def Kb(p)(w) :
  CallsD prog 210 #[p? (y? p)] .returning w λe U w'=>e=e? (.tuple #[])/\U=.returning/\w'=w:=by
 refine aS func210 q? λO cs W=>?_;apply wpS_seq;apply aU;simp[wpOpsS,go_sem,recoverD,W,ntmps210,Exit.thenS];refine wpS_of_wp ?_;change Code.wp _ _ _ {tmps:=#[p? (y? p),.nilIface,bn,bn,.nilIface,bn,bn,bn,bn,bn,bn,bn,bn,bn,bn],defers:=[]} _;go_wp2;cases O;simp_all [bodyPostS,aQ,results210]
def N6(N)(bs):iM N bs=((rdNum bs).bind λa=>(iU N a.1 [] [] a.2).bind λb=>y? (a.1,b.1,b.2)).bind λx=>(gC x.2.2).bind λc=>if c.1=[]then(fJ N 26 [] ((sn x.2.1).map dD.name) c.2).bind λd=>
  if d.2.2=[]/\0<l? x.2.1+l? d.2.1/\x.1<=100/\l? d.2.1<=30 then y? (x.2.1,d.2.1)else x? else x?:=by
 unfold iM;simp only[aL,aJ]
def Nw{S}(hT:t.Ok mx)(h:RG w Rb Mk t S rest [])(hS:S.size<=1099511627775)(hm:S.size<=mx) :
  aM prog 159 #[p? (y? ⟨Rb,0,x?⟩)] w (Ends (tL Rb Mk t) w (iM S.size rest) λx e w'=>e=e? (.tuple #[])/\t.T w' (x.1++x.2)):=by
 have aq:=TP hT h hS hm;have HT:bd _:=hT;obtain⟨X,hX⟩:∃X,iM S.size rest=X:=⟨_,q?⟩;rw[hX];rw[N6]at hX;have HX:bd _:=hX;clear h hX hT;go_enter func159,ntmps159;go_wp2_with fail;refine aq.mono ?_;rintro e w1 ⟨g1,O⟩;have ak:bd _:=g1
 cases U:(rdNum rest).bind λa=>(iU S.size a.1 [] [] a.2).bind λb=>y? (a.1,b.1,b.2)with
 |none=>rw[U]at O;cases O;exact⟨q?,.no ak (by rw[<-HX.out,U];rfl)⟩
 |some x=>
 obtain⟨Y,W,r0⟩:=x;rw[U]at O;obtain⟨rfl,O⟩:=O;have al:bd _:=O;have hX:=HX.out;rw[U,aJ]at hX;have am:bd _:=hX
 have ae:bd (l? W=Y/\Y<=255):=by simp only[aK]at U;obtain⟨a,h1,b,h2,h3⟩:=U;cases h3;have:=(fK h1).2;exact⟨GG h2,o!⟩
 clear aq g1 O U hX HX;have ar:=vF Rb S r0 Mk t.v w1 al.rd o!;go_wp2_with fail;refine ar.mono ?_;rintro e w2 ⟨g1,O⟩;have af:bd (dp (tL Rb Mk t) w w2):=ak.then g1.D8
 cases U:gC r0 with
 |none=>rw[U]at O;cases O;exact⟨q?,.no af (by rw[<-am.out,U];rfl)⟩
 |some x=>
 obtain⟨lb,r1⟩:=x;rw[U]at O;obtain⟨rfl,O,_⟩:=O;have au:bd _:=al.turn HT g1 O (by rw[(fZ U).1];simp);have hX:=am.out;rw[U,aJ]at hX;have an:bd _:=hX;clear ar g1 O U hX al ak am
 cases lb with
 |cons c cs=>
  have ac:bd (X=x?):=by show X=x?;rw[<-an.out];rfl
  go_wp2_with fail;refine(jq _).mono ?_;rintro e w' ⟨rfl,rfl⟩;exact⟨q?,.no af ac⟩
 |nil=>
 have ac:bd (((fJ S.size 26 [] ((sn W).map dD.name) r1).bind λd=>if d.2.2=[]/\0<l? W+l? d.2.1/\Y<=100/\l? d.2.1<=30 then y? (W,d.2.1)else x?)=X):=an.out;clear an;go_wp2_with fail;refine(ib _).mono ?_;rintro e w' ⟨rfl,rfl⟩;have av:=O6 HT 26 Rb Mk S r1 W [] w2 au hS hm i! i!;go_wp2_with fail;refine av.mono ?_;rintro e w3 ⟨g1,O⟩;have aa:bd (dp (tL Rb Mk t) w w3):=af.then g1
 cases U:fJ S.size 26 [] ((sn W).map dD.name) r1 with
 |none=>rw[U]at O;cases O;exact⟨q?,.no aa (by rw[<-ac.out,U];rfl)⟩
 |some x=>
 obtain⟨wg,es,r2⟩:=x;rw[U]at O;obtain⟨rfl,O⟩:=O;have ag:bd (RG w3 Rb Mk t S r2 (W++es)):=O;have ao:bd (X=if r2=[]/\0<l? W+l? es/\Y<=100/\l? es<=30 then y? (W,es)else x?):=by show X=_;rw[<-ac.out,U];rfl
 clear av g1 O U au af ac;obtain⟨p,aw,a6,ax⟩:=ag.rd;have c0:=dq aw
 have ah:r2=[]↔p=S.size:=by rw[<-ax,List.drop_eq_nil_iff];simp;omega
 have ad:bd (dp (tL Rb Mk t) w w3.drew):=⟨aa.os,aa.tape,aa.output,aa.size,aa.block⟩;have a3:bd (t.T w3.drew (W++es)):=HT.stay ag.sd λ_ _=>rfl;clear aw ax;by_cases hr:r2=[]
 case neg=>
  have a4:((p:Int)==(S.size:Int))=f?:=beq_eq_false_iff_ne.2 (λe=>hr (ah.2 o!));have ab:bd (X=x?):=ao.trans (if_neg λh=>hr h.1);clear hr ah;go_wp2_with fail;refine aP (S:=λw'=>w'=w3.drew) k! ?_;refine fV 0 ?_ q? ?_<|fV 1 ?_ q? ?_<|fV 2 ?_ q? ?_<|fV 3 ?_ q? ?_<|fV 4 ?_ q? ?_<|fV 5 ?_ q? ?_<|fV 6 ?_ q? ?_<|fV 7 ?_ q? ?_<|fV 8 ?_ q? ?_<|fV 9 ?_ q? ?_ ?_
  any_goals(rintro _ rfl;go_simp;first|done|with_reducible rfl)
  refine kL 10 λK' _=>?_;unfold Oper.wp;go_simp;refine(jq _).mono ?_;rintro e w' ⟨rfl,rfl⟩;exact⟨q?,.no ad ab⟩
 have a4:((p:Int)==(S.size:Int))=t?:=beq_iff_eq.2 (by rw[ah.1 hr]);have ai:=λty:TypeId=>dU.len (dU.stay ag.kn rfl:dU prog 9 w3.drew Mk ((sn (W++es)).map Rq)) underlying214 ty;have ay:((sn (W++es)).map Rq).length=l? W+l? es:=i!;rw[ay]at ai;obtain⟨N,hN⟩:∃N:Nat,N=l? W+l? es:=⟨_,q?⟩;rw[<-hN]at ai;have a7:N<=S.size:=by have:=ag.yW;rw[aY]at this;omega
 have ab:bd (X=if 0<N/\Y<=100/\N-Y<=30 then y? (W,es)else x?):=by show X=_;rw[ao.out,hN,<-ae.1];simp[hr]
 have a8:Y<=N:=by have:=ae.1;omega
 have a5:=ae.2;clear hN ay hr ah ao ae;go_wp2_with fail;go_region_held3 (λw'=>w'.cell? ⟨Rb,0,x?⟩=y? (s? S)/\w'.cell? ⟨Rb,1,x?⟩=y? (n? i? p)) (go_keep) (first|(go_at_call 212;refine(ib _).mono ?_;rintro e w' ⟨rfl,rfl⟩));by_cases az:0<N
 case neg=>have a0:decide ((0:Int)<(N:Int))=f?:=decide_eq_false o!;go_wp2_with fail;refine(jq _).mono ?_;rintro e w' ⟨rfl,rfl⟩;exact⟨q?,.no ad (ab.trans (if_neg λh=>az h.1))⟩
 have a0:(0:Int)<(N:Int):=o!;go_wp2_with fail;refine(ib _).mono ?_;rintro e w' ⟨rfl,rfl⟩;by_cases aj:Y<=100
 case neg=>have ap:decide ((Y:Int)<=100)=f?:=decide_eq_false o!;go_wp2_with fail;refine(jq _).mono ?_;rintro e w' ⟨rfl,rfl⟩;exact⟨q?,.no ad (ab.trans (if_neg λh=>aj h.2.1))⟩
 have ap:(Y:Int)<=100:=o!;go_wp2_with fail;refine(ib _).mono ?_;rintro e w' ⟨rfl,rfl⟩;by_cases a1:N-Y<=30
 case neg=>have a2:decide ((N:Int)-(Y:Int)<=30)=f?:=decide_eq_false o!;go_wp2_with fail;refine(jq _).mono ?_;rintro e w' ⟨rfl,rfl⟩;exact⟨q?,.no ad (ab.trans (if_neg λh=>a1 h.2.2))⟩
 have a2:(N:Int)-(Y:Int)<=30:=o!;go_wp2_with fail;refine(ib _).mono ?_;rintro e w' ⟨rfl,rfl⟩;go_wp2;go_end0;exact .SF ad (ab.trans (if_pos ⟨az,aj,a1⟩)) ⟨q?,a3⟩
def Tr(t:Kr)(X:Option (List (Nat×dD)×List (Nat×dD)))(e:Ending)(w':w?):Prop:=match X with
 |some x=>e=e? (.bool t?)/\t.T w' (x.1++x.2)|none=>e=e? (.bool f?)
def SK{S}(hT:t.Ok mx)(h:RG w Rb Mk t S rest [])(hS:S.size<=1099511627775)(hm:S.size<=mx) :
  aM prog 158 #[.func (.func 159) #[p? (y? ⟨Rb,0,x?⟩)] #[]] w λe w'=>dp (tL Rb Mk t) w w'/\Tr t (iM S.size rest) e w':=by
 have ak:∀(fn:Fn)(first cap:Array v?)(w:w?),(Instr.makeFunc fn first cap).run prog w=.ok (.func fn first cap) w:=λ_ _ _ _=>rfl;obtain⟨w0,ac⟩:∃w0,w.alloc (c? #[.bool f?] 4)=w0:=⟨_,q?⟩;have Y:B? w w0:=by rw[<-ac];exact(bj _ _).alloc (bg _) _
 have ad:w0.1[w.1.size]?=y? (c? #[.bool f?] 4 (0,0)):=by rw[<-ac];exact aN w _
 have U:=Nw hT (h.below hT Y) hS hm;have HD:bd (∀k,t.QL k->k<w.1.size):=λk W=>hT.lt h.sd W
 have HZ:bd (¬tL Rb Mk t w.1.size):=by rintro(W|W|W);obtain⟨p,h1,_⟩:=h.rd;have:=eG h1;omega;have:=h.kn.lt;omega;have:=HD.out _ (hT.sub _ W);omega
 have ae:bd _:=ad;have ai:bd (dp (tL Rb Mk t) w w0):=dp.eB Y;have HT:bd _:=hT;obtain⟨X,hX⟩:∃X,iM S.size rest=X:=⟨_,q?⟩;rw[hX]at U⊢;clear h Y ad hT hX;go_enter_defers func158,ntmps158;go_wp2_with fail;refine U.mono ?_;rintro e w1 ⟨g1,g2⟩;have O:w1.1[w.1.size]?=y? (c? #[.bool f?] 4 (0,0)):=by rw[g1.block _ (eG ae.out) HZ.out];exact ae
 have af:bd (dp (tL Rb Mk t) w w1):=ai.then g1;have aj:bd _:=O
 cases X with
 |none=>
  cases g2;refine aT (f:=210) (args:=#[p? (y? ⟨w.1.size,0,x?⟩)]) i! (by simp[go_sem]) ?_;refine(Dl w.1.size w1 f? O).mono ?_;rintro e u' w2 ⟨rfl,rfl,rfl⟩
  have aa:((w1.alloc (c? #[] 264)).setCell ⟨w.1.size,0,x?⟩ (.bool f?)).1[w.1.size]?=y? (c? #[.bool f?] 4 (0,0)):=by rw[heap_set (by rw[bk _ _ _ (eG O)];exact O)];rfl
  have ab:((w1.alloc (c? #[] 264)).setCell ⟨w.1.size,0,x?⟩ (.bool f?)).cell? ⟨w.1.size,0,x?⟩=y? (.bool f?):=by rw[dq aa];rfl
  refine⟨.bool f?,?_,(af.then (dp.eB ((bj _ _).alloc (bg _) _))).trans (jd (F:=(· = w.1.size)) q?) (λi hi hg=>o!),q?⟩;simp[aQ,results158,go_sem,ab]
 |some x=>
  obtain⟨rfl,g2⟩:=g2;have c1:=dq O 0;have f1:=dP O 0;have ag:bd _:=g2;clear U g1 g2 O;go_wp2;refine aT (f:=210) (args:=#[p? (y? ⟨w.1.size,0,x?⟩)]) i! (by simp[go_sem]) ?_;refine(Kb _ _).mono ?_;rintro e u' w2 ⟨rfl,rfl,rfl⟩;have ah:dp (· = w.1.size) w1 (w1.setCell ⟨w.1.size,0,x?⟩ (.bool t?)):=jd rfl
  have aa:(w1.setCell ⟨w.1.size,0,x?⟩ (.bool t?)).1[w.1.size]?=y? (c? #[.bool t?] 4 (0,0)):=by rw[heap_set aj.out];rfl
  have ab:(w1.setCell ⟨w.1.size,0,x?⟩ (.bool t?)).cell? ⟨w.1.size,0,x?⟩=y? (.bool t?):=by rw[dq aa];rfl
  refine⟨.bool t?,?_,af.trans ah (λi hi hg=>o!),q?,HT.stay ag λk W=>ah.block k (HT.lt ag W) (Nat.ne_of_lt (HD k W))⟩;simp[aQ,results158,go_sem,ab]
def Pr{S}(hT:t.Ok mx)(h:t.T w [])(hS:S.size<=1099511627775)(hm:S.size<=mx) :
  aM prog 117 #[s? S,t.v] w λe w'=>dp t.own w w'/\Tr t (iM S.size S.1.1) e w':=by
 have ag:=@bf prog;have ah:∀(fn:Fn)(first cap:Array v?)(w:w?),(Instr.makeFunc fn first cap).run prog w=.ok (.func fn first cap) w:=λ_ _ _ _=>rfl;obtain⟨w0,O⟩:∃w0,w.alloc (.map #[] 0)=w0:=⟨_,q?⟩;have af:w0.1.size=w.1.size+1:=by rw[<-O];simp
 obtain⟨w1,hw1⟩:∃w1,w0.alloc (c? #[s? S,n? i? 0,.map (y? w.1.size),t.v] 216)=w1:=⟨_,q?⟩;have Y:B? w w0:=by rw[<-O];exact(bj _ _).alloc (bg _) _
 have U:B? w w1:=by rw[<-hw1];exact Y.alloc o! _
 have aa:dU prog 9 w0 w.1.size []:=by rw[<-O];exact dU.made w
 have ab:dU prog 9 w1 w.1.size []:=aa.stay (by rw[<-hw1];exact bk _ _ _ o!);have ac:w1.1[w.1.size+1]?=y? (c? #[s? S,n? i? 0,.map (y? w.1.size),t.v] 216 (0,0)):=by rw[<-hw1,<-af];exact aN w0 _
 have ad:RG w1 (w.1.size+1) w.1.size t S S.1.1 []:=
  ⟨⟨0,ac,bh _,q?⟩,ab,hT.stay h λk hk=>U.block k (hT.lt h hk),i!,λk hk=>by have:=hT.lt h hk;omega⟩
 have W:=SK hT ad hS hm;obtain⟨X,hX⟩:∃X,iM S.size S.1.1=X:=⟨_,q?⟩;rw[hX]at W⊢
 have ae:bd (∀w',dp (tL (w.1.size+1) w.1.size t) w1 w'->dp t.own w w'):=λw' g=>(dp.eB U).trans g (λi hi hg=>by
  obtain h|h|h:=hg
  omega;omega
  exact h)
 clear h Y U aa ab ac ad hT hX;unfold Kr.v at hw1⊢;have ai:∀(a:Addr)(w:w?),(store a (.func (.func t.fn) #[] t.cp)).run prog w=stored prog w a (.func (.func t.fn) #[] t.cp) .plain:=λa w=>run_store prog w a _ .plain rfl;go_enter func117,ntmps117;go_wp2_with fail;refine W.mono ?_;rintro e w2 ⟨g1,g2⟩;clear W
 cases X with
 |none=>cases g2;go_wp2;go_ret;exact⟨ae _ g1,q?⟩
 |some x=>obtain⟨rfl,g2⟩:=g2;have HS:bd _:=g2;clear g2;go_wp2;go_ret;exact⟨ae _ g1,q?,HS⟩
def VW(U O:Nat):Kr where
 fn:=130
 cp:=#[p? (y? ⟨U,0,x?⟩)]
 own k:=k=O
 QL k:=k=O\/k=U
 T w told:=w.1[U]?=y? (c? #[.map (y? O)] 85 (0,0))/\eT w O (sn told)
def RX(Bx Bs mx):(VW Bx Bs).Ok mx where
 iD:=⟨_,_,func130,q?,k!⟩
 sub _ h:=Or.inl h
 lt:=by rintro w told k ⟨O,U⟩ (rfl|rfl);exact dU.lt U;exact eG O
 stay:=by rintro w w' told ⟨O,U⟩ h;exact⟨by rw[h Bx (Or.inr q?)];exact O,dU.stay U (h Bs (Or.inl q?))⟩
 tell:=by rintro w q told e ⟨O,U⟩ Y hl he _;refine(Oh Bx Bs (sn told) e q w O U Y (by rw[aW];exact hl) (by have:=he.1;unfold aO;omega)).mono ?_;rintro en w' ⟨rfl,g1,W⟩;exact⟨q?,⟨by rw[W.block Bx (eG O) (λk=>dU.oU U O k.symm)];exact O,by rw[show sn (told++[(q,e)])=sn told++[e] by simp[sn]];exact g1⟩,W⟩
def VC(w:w?)(X:Option (List dD×List dD))(e:Ending)(w':w?):Prop:=match X with
 |some x=>∃B,e=e? (.tuple #[.map (y? B),.bool t?])/\w.1.size<=B/\eT w' B (x.1++x.2)|none=>e=e? (.tuple #[.map x?,.bool f?])
def Ap(S)(w)(hS:S.size<=1099511627775) :
  aM prog 88 #[s? S] w λe w'=>B? w w'/\VC w (nR S.1.1) e w':=by
 have aj:=@bf prog;have ak:∀(fn:Fn)(first cap:Array v?)(w:w?),(Instr.makeFunc fn first cap).run prog w=.ok (.func fn first cap) w:=λ_ _ _ _=>rfl;obtain⟨w0,U⟩:∃w0,w.alloc (.map #[] 0)=w0:=⟨_,q?⟩;have ae:w0.1.size=w.1.size+1:=by rw[<-U];simp
 obtain⟨w1,W⟩:∃w1,w0.alloc (c? #[.map (y? w.1.size)] 85)=w1:=⟨_,q?⟩;have af:B? w w0:=by rw[<-U];exact(bj ..).alloc (bg _) _
 have ag:B? w w1:=by rw[<-W];exact af.alloc o! _
 have ah:eT w0 w.1.size []:=by rw[<-U];exact dU.made w
 have ai:eT w1 _ []:=dU.stay ah (by rw[<-W];exact bk _ _ _ o!);have aa:w1.1[w.1.size+1]?=y? (c? #[.map (y? w.1.size)] 85 (0,0)):=by rw[<-W,<-ae];exact aN w0 _
 have ab:=Pr (RX _ _ _) ⟨aa,ai⟩ hS (bg _);rw[NQ _];obtain⟨X,hX⟩:∃X,iM S.size S.1.1=X:=⟨_,q?⟩;rw[hX]at ab⊢;have ac:bd _:=aa;have O:bd _:=ag;go_enter func88,ntmps88;go_wp2_with fail;refine ab.mono ?_;rintro e w2 ⟨Y,g2⟩
 have ad:bd (B? w w2):=by refine⟨Y.os.trans O.os,Y.tape.trans O.tape,Y.output.trans O.output,Nat.le_trans O.size Y.size,λk hk=>?_⟩;rw[Y.block k (Nat.lt_of_lt_of_le hk O.size) (by show k≠_;omega),O.block k hk]
 have c2:w2.cell? ⟨w.1.size+1,0,x?⟩=y? (.map (y? w.1.size)):=by rw[dq (by rw[Y.block _ (eG ac.out) (by show w.1.size+1≠_;omega)];exact ac)];rfl
 cases X with
 |none=>cases g2;go_wp2;go_ret2;exact⟨ad,q?⟩
 |some x=>
  obtain⟨rfl,g2⟩:=g2;have HS:bd (eT w2 w.1.size (sn x.1++sn x.2)):=by rw[<-show sn _=sn _++sn _ from bc];exact g2.2
  go_wp2;go_ret2;exact⟨ad,_,q?,bg _,HS⟩
end
