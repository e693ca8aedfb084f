import Derived.Test.YtocbogeoffeolaaGreatDoorWidAB
import Derived.OrdersHeld
import Derived.RegionTactic
import Derived.Deep.RegionHeld3
import Derived.Recover
import Derived.Laws.EntriesVeiled
set_option linter.all false
set_option maxHeartbeats 8000000
set_option maxRecDepth 1000000
open List renaming getD_eq_getElem?_getD->aV,append_nil->aW,length_append->aX,length_map->aY,mem_map->aZ,mem_cons_self->ba,map_append->bc,getElem_mem->bd,getElem?_eq_getElem->be,append_assoc->bf,length_cons->bg,getElem_append_right->bh,getElem_append_left->bi,mem_cons_of_mem->bj,mem_filter->bk,replicate->bl,getElem?_append_left->bm,map_cons->bn,take_of_length_le->bo,mem_append_right->bp,replicate_succ->bq,filter_eq_self->br,mem_singleton->bs,nodup_append->bu,perm_middle->bv,map_nil->bw
open Nat renaming le_refl->bx,zero_le->bz,le_trans->b2,zero_add->b3,shiftLeft_add_eq_or_of_lt->b4,lt_of_lt_of_le->b5,lt_or_ge->b6
open Go renaming maxLen->b7,Calls->b8,heap_alloc_new->b9,cell_later->b',wp_region_held->bA,TypeId->bB,wpList->bC,wpAnyH->bD,results->bE,wpAnyH_done->bF,info_parts->bG
open Go.RowKit renaming Hid->bH,wrap64->bI,run_makeMap->bJ
open Go.RowKit.Below renaming refl->bK,heap_alloc->bL,setCell->bM
open Go.Proofs.Tryz renaming underlying9->bN,underlying85->bO,underlying214->bP,ntmps215->bR,func215->bS,underlying136->bT,ntmps69->bU,func69->bV
open Option renaming bind_eq_some_iff->bW,bind_some->bX
open Go.World renaming grownBy_alloc->bY,ownsRow->bZ,setCell->ca
open Option.some renaming injEq->cb
open Go.Addr.mk renaming injEq->cd
open List.Perm renaming refl->ce
open Go.IntKind renaming wrap_i64->cf
open Go.Op renaming bytesLess->cg
namespace Go.Proofs.YtocbogeoffeolaaGreatDoor
open Go.Proofs.Tryz
section
variable {a:Act} {listed:Array Bool} {fuel:Nat} {w:World}
section
variable {P:Program} {md:Region.Mode} {ops:Array Oper} {Q:Exit->Act->World->Prop} {S:World->Prop}
theorem fR(i:Nat)(v:Value){O:Oper}(U:S w)
  (W:∀w,S w->(execOp a.eval O).run P w=.ok (.value v) w) (h:bD P md ops Q S fuel (listed.setIfInBounds i true) (a.put O.dst v) w)
  (hi:ops[i]?=some O:=by rfl) (Y:Region.noSelect ops=true:=by kernel_rfl) (hf:Region.free md ops listed i=true:=by kernel_rfl)
  (hr:(Region.ready md ops listed).contains i=true:=by kernel_rfl) (hQ:∀c a w,Q (.panic c) (a.put O.dst v) w->Q (.panic c) a w:=by exact λ_ _ _ h=>h)
  (hw:Region.wanted O (yielded ops a.tmps)=true:=by rfl):bD P md ops Q S (fuel+1) listed a w:=
 wpAnyH_take hi Y hf hr hQ (.inl ⟨hw,W⟩) U h
theorem l8(i:Nat){o:Oper}(h:∀K':Act->World->Prop,(∀O w',S w'/\bD P md ops Q S fuel (listed.setIfInBounds i true) O w'->K' O w')->Oper.wp P o a w K' Q)
  (U:Region.ready md ops listed=[i]:=by kernel_rfl) (W:ops[i]?=some o:=by rfl) (Y:Region.wanted o (yielded ops a.tmps)=true:=by rfl):bD P md ops Q S (fuel+1) listed a w:=
 wpAnyH_all U (by simp) λj hj=>by
  obtain rfl:j=i:=by simpa using hj
  exact wpOp_step W λK' hK=>by rw[if_pos Y]; exact h K' hK
end
end
section
open Go.RowKit
def NO:PanicEntry:={v:=.iface 264 (.agg #[]),recovered:=false}
theorem gw(w:World):b8 prog 212 #[.bool true] w λe w'=>e=.returned (.tuple #[])/\w=w':=by
 go_wp2;go_end0;exact⟨rfl,rfl⟩
theorem Q9(w:World):b8 prog 212 #[.bool false] w λe w'=>e=.panicked [NO]/\w=w':=by
 go_wp2;exact⟨rfl,rfl,rfl⟩
def AA(w:World)(Rb:Nat)(S:ByteArray)(p:Nat)(Mk:Nat)(O:Value):Prop:=w.heap[Rb]?=some (.cells #[.string S,.int .i64 p,.map (some Mk),O] 216 (0,0))
theorem JQ(s:ByteArray)(p n:Nat):s.extract p (p+n)=⟨((s.data.toList.drop p).take n).toArray⟩:=by
 apply ByteArray.ext;apply Array.ext';simp[List.take_drop]
theorem k7{w:World}{b o:Nat}{v:Value}{F:Nat->Prop}(hF:F b):dv F w (w.setCell ⟨b,o,none⟩ v):=
 ⟨rfl,rfl,rfl,by simp[ca],λk U O=>Below.heap_setCell _ _ _ _ (by intro e; subst e; exact O hF)⟩
theorem NX(Rb:Nat)(S:ByteArray)(p Mk:Nat)(U:Value)(n:Nat)(w:World)(h:AA w Rb S p Mk U)(hp:p+n<=S.size)(hS:S.size<=1099511627776) :
  b8 prog 236 #[.pointer (some ⟨Rb,0,none⟩),.int .i64 n] w λe w'=>e=.returned (.string (S.extract p (p+n)))/\AA w' Rb S (p+n) Mk U/\dv (· = Rb) w w'/\w'.heap.size=w.heap.size:=by
 unfold AA at h;have c0:w.cell? ⟨Rb,0,none⟩=some (.string S):=by rw[dh h]; rfl
 have c1:w.cell? ⟨Rb,1,none⟩=some (.int .i64 p):=by rw[dh h]; rfl
 have f1:w.frozen? ⟨Rb,1,none⟩=false:=dK h 1;have HH:bH _:=h;have ab:IntKind.i64.wrap ((S.size:Int)-(p:Int))=(S.size:Int)-(p:Int):=by simp only[cf]; omega
 have ac:(n:Int)<=(S.size:Int)-(p:Int):=by omega
 have W:IntKind.i64.wrap ((p:Int)+(n:Int))=((p+n:Nat):Int):=by simp only[cf]; omega
 have Y:(p:Int)<=((p+n:Nat):Int):=by omega
 have aa:((p+n:Nat):Int)<=(S.size:Int):=by omega
 clear h;go_enter func236,ntmps236;go_wp2_with fail;go_region_held3 (λw'=>w'.cell? ⟨Rb,0,none⟩=some (.string S)/\w'.cell? ⟨Rb,1,none⟩=some (.int .i64 p)) (go_keep) (first|(go_at_call 212; refine(gw _).mono ?_; rintro e w' ⟨rfl,rfl⟩));go_wp2_with fail;go_quiet (fail);go_wp2;go_ret
 have h1:((w.drewN (1+nq)).setCell ⟨Rb,1,none⟩ (.int .i64 ((p:Int)+(n:Int)))).heap[Rb]?=some (.cells #[.string S,.int .i64 ((p+n:Nat):Int),.map (some Mk),U] 216 (0,0)):=by
  rw[heap_set (w:=w.drewN (1+nq)) HH.out];simp
 refine⟨rfl,h1,?_,by simp[ca,World.drewN]⟩;have O:=k7 (w:=w.drewN (1+nq)) (b:=Rb) (o:=1) (v:=.int .i64 ((p:Int)+(n:Int))) (F:=(· = Rb)) rfl;exact⟨O.os,O.tape,O.output,O.size,O.block⟩
theorem Pj(R:Ending->World->Prop)(Rb:Nat)(S:ByteArray)(p Mk:Nat)(W:Value)(n:Nat)(w:World)(h:AA w Rb S p Mk W)(hp:S.size<p+n)(Y:p<=S.size)(hS:S.size<=1099511627776)(O:R (.panicked [NO]) w.drew) :
  b8 prog 236 #[.pointer (some ⟨Rb,0,none⟩),.int .i64 n] w R:=by
 unfold AA at h;have c0:w.cell? ⟨Rb,0,none⟩=some (.string S):=by rw[dh h]; rfl
 have c1:w.cell? ⟨Rb,1,none⟩=some (.int .i64 p):=by rw[dh h]; rfl
 have aa:IntKind.i64.wrap ((S.size:Int)-(p:Int))=(S.size:Int)-(p:Int):=by simp only[cf]; omega
 have ab:decide ((n:Int)<=(S.size:Int)-(p:Int))=false:=decide_eq_false (by omega);have U:∀tm:Array Value,bodyPost prog f236 R (.panic [NO]) {tmps:=tm,defers:=[]} w.drew:=λ_=>⟨rfl,O⟩;clear h;go_enter func236,ntmps236;go_wp2_with fail;refine bA (S:=λw'=>w'=w.drew) (by kernel_rfl) ?_;refine fR 0 ?_ rfl ?_<|fR 1 ?_ rfl ?_<|fR 2 ?_ rfl ?_<|fR 3 ?_ rfl ?_<|fR 4 ?_ rfl ?_<|fR 5 ?_ rfl ?_<|fR 6 ?_ rfl ?_<|fR 7 ?_ rfl ?_<|fR 8 ?_ rfl ?_<|fR 9 ?_ rfl ?_<|fR 10 ?_ rfl ?_<|fR 11 ?_ rfl ?_ ?_
 any_goals(rintro _ rfl; go_simp; first|done|with_reducible rfl)
 refine l8 12 λK' _=>?_;unfold Oper.wp;go_simp;refine(Q9 _).mono ?_;rintro e w' ⟨rfl,rfl⟩;exact⟨rfl,O⟩
theorem PN(Rb:Nat)(S:ByteArray)(p Mk:Nat)(U:Value)(n:Nat)(w:World)(h:AA w Rb S p Mk U)(W:S.size<p+n)(O:p<=S.size)(Y:S.size<=1099511627776) :
  b8 prog 236 #[.pointer (some ⟨Rb,0,none⟩),.int .i64 n] w λe w'=>e=.panicked [NO]/\dv (· = Rb) w w'/\w'.heap.size=w.heap.size:=
 Pj _ Rb S p Mk U n w h W O Y ⟨rfl,⟨rfl,rfl,rfl,bx _,λ_ _ _=>rfl⟩,rfl⟩
def GZ(w:World)(Rb:Nat)(S:ByteArray)(rest:Wd)(Mk:Nat)(O:Value):Prop:=∃p:Nat,AA w Rb S p Mk O/\p<=S.size/\S.data.toList.drop p=rest
def Ends{O:Type}(F:Nat->Prop)(w:World)(X:Option O)(ok:O->Ending->World->Prop)(e:Ending)(w':World):Prop:=dv F w w'/\match X with
 |some x=>ok x e w'
 |none=>e=.panicked [NO]
theorem yB(Rb:Nat)(S:ByteArray)(rest:Wd)(Mk:Nat)(O:Value)(n:Nat)(w:World)(h:GZ w Rb S rest Mk O)(W:S.size<=1099511627776) :
  b8 prog 236 #[.pointer (some ⟨Rb,0,none⟩),.int .i64 n] w (Ends (· = Rb) w (pX n rest) λx e w'=>e=.returned (.string ⟨x.1.toArray⟩)/\GZ w' Rb S x.2 Mk O/\w'.heap.size=w.heap.size):=by
 obtain⟨p,Y,h2,rfl⟩:=h;have hl:(S.data.toList.drop p).length=S.size-p:=by simp
 unfold pX;by_cases hn:n<=(S.data.toList.drop p).length
 .rw[if_pos hn];refine(NX Rb S p Mk O n w Y (by omega) W).mono ?_;rintro e w' ⟨rfl,g1,U,g3⟩;refine⟨U,?_,⟨p+n,g1,by omega,by simp⟩,g3⟩;rw[JQ]
 .rw[if_neg hn];refine(PN Rb S p Mk O n w Y (by omega) h2 W).mono ?_;rintro e w' ⟨rfl,U,g3⟩;exact⟨U,rfl⟩
theorem na(Rb:Nat)(S:ByteArray)(rest:Wd)(Mk:Nat)(O:Value)(w:World)(h:GZ w Rb S rest Mk O)(hS:S.size<=1099511627776) :
  b8 prog 233 #[.pointer (some ⟨Rb,0,none⟩)] w (Ends (· = Rb) w (rdNum rest) λx e w'=>e=.returned (.int .i64 x.1)/\GZ w' Rb S x.2 Mk O/\w'.heap.size=w.heap.size):=by
 have Y:=yB Rb S rest Mk O 1 w h hS
 cases rest with
 |nil=>
  go_enter func233,ntmps233;go_wp2_with fail;refine Y.mono ?_;rintro e w' ⟨g1,U⟩;subst U;exact⟨rfl,g1,rfl⟩
 |cons b r=>
  go_enter func233,ntmps233;go_wp2_with fail;refine Y.mono ?_;rintro e w' ⟨g1,U⟩;obtain⟨rfl,g3,g4⟩:=U;have W:bH (dv _ w w'/\GZ w' Rb S r Mk O/\w'.heap.size=w.heap.size):=⟨g1,g3,g4⟩;go_wp2;go_ret;refine⟨W.out.1,?_,W.out.2.1,W.out.2.2⟩;have hb:=b.toNat_lt;show Ending.returned (.int _ (bI b.toNat))=.returned _;refine eS ?_;unfold bI;omega
end
section
open Go.RowKit
theorem dv.then{F:Nat->Prop}{a b c:World}(h:dv F a b)(k:dv F b c):dv F a c:=h.trans k (λ_ _ h=>h)
theorem tS(Rb:Nat)(S:ByteArray)(rest:Wd)(Mk:Nat)(W:Value)(w:World)(h:GZ w Rb S rest Mk W)(hS:S.size<=1099511627776) :
  b8 prog 213 #[.pointer (some ⟨Rb,0,none⟩)] w (Ends (· = Rb) w (ju rest) λx e w'=>e=.returned (.string ⟨x.1.toArray⟩)/\GZ w' Rb S x.2 Mk W/\w'.heap.size=w.heap.size):=by
 have Y:=na Rb S rest Mk W w h hS;unfold ju;clear h
 cases U:rdNum rest with
 |none=>
  rw[U]at Y;clear U;go_enter func213,ntmps213;go_wp2_with fail;refine Y.mono ?_;rintro e w' ⟨g1,rfl⟩;exact⟨rfl,g1,rfl⟩
 |some x=>
  obtain⟨n,r⟩:=x;rw[U]at Y;go_enter func213,ntmps213;go_wp2_with fail;refine Y.mono ?_;rintro e w1 ⟨g1,rfl,g2,g3⟩;have O:=yB Rb S r Mk W n w1 g2 hS
  cases U:pX n r with
  |none=>
   rw[U]at O;go_wp2_with fail;refine O.mono ?_;rintro e w2 ⟨g4,rfl⟩;exact⟨rfl,g1.then g4,by simp only[bX,U]⟩
  |some y=>
   rw[U]at O;have HN:bH _:=U;go_wp2_with fail;refine O.mono ?_;rintro e w2 ⟨g4,rfl,g5,g6⟩;have HF:bH (dv _ w w2/\GZ w2 Rb S _ Mk W/\w2.heap.size=w.heap.size):=⟨g1.then g4,g5,by omega⟩;go_wp2;go_ret;refine⟨HF.out.1,?_⟩;simp only[bX,HN.out];exact⟨rfl,HF.out.2⟩
theorem Bu(n:Nat)(h:n<18446744073709551616):(BitVec.ofInt 64 (n:Int)).toNat=n:=by
 rw[BitVec.toNat_ofInt];omega
theorem Pc(x y:Nat)(O:x<4294967296)(U:y<4294967296):bits .or .i64 (x:Int) (y:Int)=((x ||| y:Nat):Int):=by
 show IntKind.i64.wrap ((BitVec.ofInt 64 x ||| BitVec.ofInt 64 _).toNat)=_;rw[BitVec.toNat_or,Bu x (by omega),Bu y (by omega)];have h:x ||| y<2 ^ 32:=Nat.or_lt_two_pow (by omega) (by omega)
 rw[cf];omega
theorem IW(a b c:UInt8):bits BinOp.or IntKind.i64 (bits BinOp.or IntKind.i64 (bI (bI (a.toNat:Int)*65536)) (bI (bI (b.toNat:Int)*256))) (bI (c.toNat:Int))=((a.toNat*65536+b.toNat*256+c.toNat:Nat):Int):=by
 have ha:=a.toNat_lt;have hb:=b.toNat_lt;have hc:=c.toNat_lt;have O:bI (bI a.toNat*65536)=((a.toNat <<< 16)):=by unfold bI; omega
 have U:bI (bI b.toNat*256)=((b.toNat <<< 8)):=by unfold bI; omega
 have W:bI c.toNat=c.toNat:=by unfold bI; omega
 have Y:a.toNat <<< 16<4294967296:=by omega
 have l2:b.toNat <<< 8<2 ^ 16:=by omega
 have j1:a.toNat <<< 16 ||| b.toNat <<< 8=a.toNat <<< 16+b.toNat <<< 8:=(b4 l2 _).symm
 have j2:(a.toNat <<< 16+b.toNat <<< 8) ||| c.toNat=a.toNat <<< 16+b.toNat <<< 8+c.toNat:=by
  have:a.toNat <<< 16+b.toNat <<< 8=(a.toNat*256+b.toNat) <<< 8:=by omega
  rw[this];exact(b4 (by omega) _).symm
 rw[O,U,W,Pc _ _ Y (by omega),j1,Pc _ _ (by omega) (by omega),j2];simp only[Nat.shiftLeft_eq]
theorem zm(Rb:Nat)(S:ByteArray)(rest:Wd)(Mk:Nat)(Y:Value)(w:World)(h:GZ w Rb S rest Mk Y)(hS:S.size<=1099511627776) :
  b8 prog 237 #[.pointer (some ⟨Rb,0,none⟩)] w (Ends (· = Rb) w (ir rest) λx e w'=>e=.returned (.int .i64 x.1)/\GZ w' Rb S x.2 Mk Y/\w'.heap.size=w.heap.size):=by
 have O:=yB Rb S rest Mk Y 3 w h hS;clear h hS
 have U:∀rest:Wd,rest.length<3->b8 prog 236 #[.pointer (some ⟨Rb,0,none⟩),.int .i64 3] w (Ends (· = Rb) w (pX 3 rest) λx e w'=>e=.returned (.string ⟨x.1.toArray⟩)/\GZ w' Rb S x.2 Mk Y/\w'.heap.size=w.heap.size)->ir rest=none->
   b8 prog 237 #[.pointer (some ⟨Rb,0,none⟩)] w (Ends (· = Rb) w (ir rest) λx e w'=>e=.returned (.int .i64 x.1)/\GZ w' Rb S x.2 Mk Y/\w'.heap.size=w.heap.size):=by
  intro rest hl O hw;have hn:pX 3 rest=none:=by unfold pX; rw[if_neg (by omega)]
  rw[hn]at O;rw[hw];go_enter func237,ntmps237;go_wp2_with fail;refine O.mono ?_;rintro e w' ⟨g1,rfl⟩;exact⟨rfl,g1,rfl⟩
 match rest,O with
 |[],O=>exact U _ (by simp) O rfl
 |[_],O=>exact U _ (by simp) O rfl
 |[_,_],O=>exact U _ (by simp) O rfl
 |a::b::c::r,O=>
  go_enter func237,ntmps237;go_wp2_with fail;refine O.mono ?_;rintro e w1 ⟨g1,rfl,g2,g3⟩;have W:bH (dv _ w w1/\GZ w1 Rb S r Mk Y/\w1.heap.size=w.heap.size):=⟨g1,g2,g3⟩;go_wp2_with fail;go_quiet (fail);go_wp2;go_ret;refine⟨⟨W.out.1.os,W.out.1.tape,W.out.1.output,W.out.1.size,W.out.1.block⟩,?_,W.out.2.1,W.out.2.2⟩;exact eS (IW a b c)
end
section
open Go.RowKit Go.Maps
variable {l:List (Wd×Value)} {B:Nat} {P:Program} {k:bB} {w:World}
theorem qX(s:ByteArray)(w:World)(hs:s.size<=b7) :
  b8 prog 69 #[.string s] w λe w'=>e=.returned (.bool (iL s.data.toList))/\w=w':=by
 unfold b7 at hs;by_cases h0:0<s.size
 .by_cases h8:s.size<=8
  .go_enter bV,bU;go_wp2;go_loop [14] (λi=>∃k:Nat,k<=s.size/\i=.int .i64 k/\(s.data.toList.take k).all fe=true) (λi=>s.size-(intOf i).toNat)
   case atStart=>exact⟨0,bz _,rfl,rfl⟩
   case round=>
    obtain⟨k,hk,rfl,fv⟩:=hrel;have HA:bH _:=fv;clear fv;by_cases O:k<s.size
    .have HS:bH (s.data.toList.take (k+1)=s.data.toList.take k++[s[k]]):=Bw s k O;go_wp2_with fail;refine(mK _ _).mono ?_;rintro e w' ⟨rfl,rfl⟩
     cases W:fe s[k]with
     |true=>
      have Y:bH _:=W;clear W;go_wp2;go_round
      case rel=>exact⟨k+1,by omega,by go_num,by rw[HS.out,List.all_append,HA.out]; simp[Y.out]⟩
      case measure=>simp[intOf]; omega
     |false=>
      have Y:bH _:=W;clear W;go_wp2;go_ret;refine⟨eH ?_,rfl⟩;symm;rw[Bool.eq_false_iff];intro hq;simp only[iL,Bool.and_eq_true]at hq;have:=List.all_eq_true.1 hq.1.1 _ (CZ s k O);rw[Y.out]at this;simp at this
    .go_wp2;go_ret;refine⟨eH ?_,rfl⟩;have e:s.data.toList.take k=s.data.toList:=bo (by simp; omega);have U:=HA.out;rw[e]at U;unfold iL;rw[U];simp;omega
  .go_enter bV,bU;go_wp2;go_ret;refine⟨eH ?_,rfl⟩;simp[iL];omega
 .go_enter bV,bU;go_wp2;go_ret;refine⟨eH ?_,rfl⟩;simp[iL];omega
def ui(e:dq):Wd:=if e.gone then []else e.name
def qF(e:dq):Value:=.agg #[.bool e.gone,.string ⟨(ui e).toArray⟩,.string ⟨e.text.toArray⟩,.int .i64 e.du,.int .i64 e.dD]
def jj(e:dq):Wd×Value:=(e.name,qF e)
def QK(e:dq):Wd×Value:=(e.name,.agg #[])
def ey(w:World)(B:Nat)(es:List dq):Prop:=dM prog 9 w B (es.map jj)
theorem dM.map(h:dM P k w B l):∃es clock,w.heap[B]?=some (.map es clock):=by
 obtain⟨D,⟨es,clock,O,_⟩,_⟩:=h;exact⟨es,clock,O⟩
theorem dM.nz{b:Nat}(h:dM P k w B l){cs:Array Value}{t:bB}{fz:Nat×Nat}(hb:w.heap[b]?=some (.cells cs t fz)):B≠b:=by
 obtain⟨es,clock,O⟩:=h.map;intro e;rw[e,hb]at O;cases O
theorem eQ{k:Nat}{o:Obj}(h:w.heap[k]?=some o):k<w.heap.size:=(Array.getElem?_eq_some_iff.1 h).1
theorem LA(told:List dq)(x:Wd):((told.map QK).any λp=>p.1==x)=decide (x∈told.map dq.name):=by
 rw[Bool.eq_iff_iff,decide_eq_true_eq,List.any_eq_true,aZ];constructor
 .rintro⟨p,U,h⟩;obtain⟨e,O,rfl⟩:=aZ.1 U;exact⟨e,O,by simpa[QK]using h⟩
 .rintro⟨e,O,rfl⟩;exact⟨QK e,aZ.2 ⟨e,O,rfl⟩,by simp[QK]⟩
theorem Kw(told:List dq)(x:Wd):mC (told.map QK) x (.agg #[])=.agg #[]:=by
 unfold mC;split
 .rename_i p O;obtain⟨e,_,rfl⟩:=aZ.1 (List.mem_of_find?_eq_some O);rfl
 .rfl
theorem Mg(O:List Wd)(last U:Wd):nA O last U=(ju U).bind λx=>if iL x.1=true/\cg last x.1=true/\x.1 ∉ O then some x else none:=rfl
theorem Tr(x y:Wd):(!cg x y && !x==y)=cg y x:=by
 rcases il x y with h|h|h
 .rw[h,pZ h]; rfl
 .subst h; rw[ij]; simp
 .rw[h,pZ h];have:(x==y)=false:=by rw[beq_eq_false_iff_ne]; exact λe=>Bt h e.symm
  rw[this]; rfl
theorem Rc(w:World):(zeroValue 263).run prog w=.ok (.agg #[]) w:=by kernel_rfl
def zx(e:dq):Value:=.agg #[.string ⟨e.name.toArray⟩,.string ⟨e.text.toArray⟩,.int .i64 e.du,.int .i64 e.dD]
theorem JI(told:List dq)(e:dq)(f:dq->Wd×Value)(O:∀e,(f e).1=e.name)(h:e.name ∉ told.map dq.name):qU (told.map f) e.name (f e).2=(told++[e]).map f:=by
 unfold qU;rw[br.2,bc,bn,bw]
 .have:(e.name,(f e).2)=f e:=by rw[<-O e]
  rw[this]
 .intro p U;obtain⟨x,W,rfl⟩:=aZ.1 U;simp only[bne_iff_ne,ne_eq,O];intro Y;exact h (aZ.2 ⟨x,W,Y⟩)
theorem dv.oI{w':World}(h:w.grownBy w' (some B)):dv (· = B) w w':=⟨h.os,h.tape,h.output,h.size,λk O U=>h.block k O (λe=>U (by simpa using e))⟩
theorem Nj(Bx Y:Nat)(told:List dq)(e:dq)(at_:Int)(w:World)(hx:w.heap[Bx]?=some (.cells #[.map (some Y)] 85 (0,0)))(hs:ey w Y told)(hn:e.name ∉ told.map dq.name)(hl:told.length<1099511627776)(ac:e.name.length<=b7) :
  b8 prog 130 #[.int .i64 at_,.string ⟨e.name.toArray⟩,qF e,.pointer (some ⟨Bx,0,none⟩)] w λen w'=>en=.returned (.tuple #[])/\ey w' Y (told++[e])/\dv (· = Y) w w':=by
 have ah:=eQ hx;have hc:w.cell? ⟨Bx,0,none⟩=some (.map (some Y)):=by rw[dh hx]; rfl
 have W:=JI told e jj (λ_=>rfl) hn;obtain⟨w0,aa⟩:∃w0,w.alloc (.cells #[.bool e.gone,.string ⟨(ui e).toArray⟩,.string ⟨e.text.toArray⟩,.int .i64 e.du,.int .i64 e.dD] 111)=w0:=⟨_,rfl⟩;have U:Below w.heap.size w w0:=by rw[<-aa]; exact(bK _ _).alloc (bx _) _
 have ab:ey w0 Y told:=dM.below hs U;have O:w0.heap[w.heap.size]?=some (.cells #[.bool e.gone,.string ⟨(ui e).toArray⟩,.string ⟨e.text.toArray⟩,.int .i64 e.du,.int .i64 e.dD] 111 (0,0)):=by rw[<-aa]; exact b9 w _
 have d0:w0.cell? ⟨w.heap.size,0,none⟩=some (.bool e.gone):=by rw[dh O]; rfl
 have d1:w0.cell? ⟨w.heap.size,1,none⟩=some (.string ⟨(ui e).toArray⟩):=by rw[dh O]; rfl
 have d2:w0.cell? ⟨w.heap.size,2,none⟩=some (.string ⟨e.text.toArray⟩):=by rw[dh O]; rfl
 have d3:w0.cell? ⟨w.heap.size,3,none⟩=some (.int .i64 e.du):=by rw[dh O]; rfl
 have d4:w0.cell? ⟨w.heap.size,4,none⟩=some (.int .i64 e.dD):=by rw[dh O]; rfl
 have ai:=b' U hc;have ad:bH _:=U;have ae:bH _:=ab;have HP:bH _:=W;clear hx hs hn O hc U ab W;unfold qF;go_enter func130,ntmps130;go_wp2_with (first|(at_mapUpdate; refine jq _ rfl _ _ _ 85 rfl 111 bN bO rfl ae.out (by rw[aY]; unfold b7; omega) e.name ac rfl (qF e) rfl ?_; intro w1 af ag aj));go_end0;refine⟨rfl,?_,?_⟩
 .unfold ey;rw[<-HP.out];exact af
 .exact(dv.fC ad.out).then (dv.oI ag)
end
section
open Go.RowKit Go.Maps
theorem C2{nm r:Wd}{y:dq×Wd}(h:ki nm r=some y):∃tx wt tg O,y=(⟨nm,false,tx,wt,tg⟩,O)/\tx.length<256/\O.length<=r.length:=by
 have h0:=h;unfold ki at h;obtain⟨x,U,h⟩:=bW.1 h;split at h
 .obtain⟨z,W,h⟩:=bW.1 h;split at h
  .obtain⟨u,Y,h⟩:=bW.1 h;simp only[cb]at h;subst h;obtain⟨g1,g2⟩:=iu U;refine⟨_,_,_,_,rfl,g2,?_⟩;have g3:=(jR W).1;have g4:=(gW Y).1;rw[g1,g3,g4];simp;omega
  .simp at h
 .simp at h
end
section
open Go.RowKit Go.Maps
theorem Sn(a b:Wd):(⟨a.toArray⟩:ByteArray)++⟨b.toArray⟩=⟨(a++b).toArray⟩:=by
 apply ByteArray.ext;simp
end
section
open Go.RowKit Go.Maps
theorem Iu(p:Addr)(w:World) :
  CallsD prog 210 #[.pointer (some p)] .returning w λe U w'=>e=.returned (.tuple #[])/\U=.returning/\w'=w:=by
 refine callsD_of_wpS func210 rfl λO cs W=>?_;apply wpS_seq;apply wpS_region;simp[wpOpsS,go_sem,recoverD,W,ntmps210,Exit.thenS];refine wpS_of_wp ?_;change Code.wp _ _ _ {tmps:=#[.pointer (some p),.nilIface,undef,undef,.nilIface,undef,undef,undef,undef,undef,undef,undef,undef,undef,undef],defers:=[]} _;go_wp2;cases O;simp_all [bodyPostS,bE,results210]
end
section
open Go.RowKit Go.Maps
variable {fs rst:List dq} {r:Nat}
theorem ua(es:List dq)(e:dq)(v:Value)(O:v=qF e):qU (es.map jj) e.name v=(dJ es [e]).map jj:=by
 subst O;unfold qU dJ;rw[bc,List.filter_map]
 have:(es.filter ((λp=>p.1 != e.name) ∘ jj))=es.filter (jg [e]):=by
  refine List.filter_congr λx _=>?_;rw[Bool.eq_iff_iff,ii];simp[names,jj]
 rw[this];rfl
theorem ey.perm{w:World}{B:Nat}{es:List dq}(h:ey w B es)(O:es.Perm fs):ey w B fs:=dM.perm h (O.map jj)
theorem ey.nodup{w:World}{B:Nat}{es:List dq}(h:ey w B es):(es.map dq.name).Nodup:=by
 have:=dM.nodup h;rw[List.map_map]at this;exact this
theorem PU(B:Nat)(es:List dq)(e:dq)(w:World)(hs:ey w B es)(hg:e.gone=false)(hl:es.length<1099511627776)(aa:e.name.length<=b7) :
  b8 prog 72 #[.map (some B),zx e] w λen w'=>en=.returned (.tuple #[])/\ey w' B (dJ es [e])/\dv (· = B) w w':=by
 obtain⟨nm,gn,tx,wt,tg⟩:=e;simp only at hg;subst hg;have U:=ua es ⟨nm,false,tx,wt,tg⟩ (.agg #[.bool false,.string ⟨nm.toArray⟩,.string ⟨tx.toArray⟩,.int .i64 wt,.int .i64 tg]) rfl;obtain⟨w0,Y⟩:∃w0,w.alloc (.cells #[.string ⟨nm.toArray⟩,.string ⟨tx.toArray⟩,.int .i64 wt,.int .i64 tg] 96)=w0:=⟨_,rfl⟩;have W:Below w.heap.size w w0:=by rw[<-Y]; exact(bK _ _).alloc (bx _) _
 have O:w0.heap[w.heap.size]?=some (.cells #[.string ⟨nm.toArray⟩,.string ⟨tx.toArray⟩,.int .i64 wt,.int .i64 tg] 96 (0,0)):=by rw[<-Y]; exact b9 w _
 have d0:w0.cell? ⟨w.heap.size,0,none⟩=some (.string ⟨nm.toArray⟩):=by rw[dh O]; rfl
 have d1:w0.cell? ⟨w.heap.size,1,none⟩=some (.string ⟨tx.toArray⟩):=by rw[dh O]; rfl
 have d2:w0.cell? ⟨w.heap.size,2,none⟩=some (.int .i64 wt):=by rw[dh O]; rfl
 have d3:w0.cell? ⟨w.heap.size,3,none⟩=some (.int .i64 tg):=by rw[dh O]; rfl
 have ab:bH _:=W;have ac:bH (ey w0 B es):=dM.below hs W;have HP:bH _:=U;clear hs O W U;unfold zx;go_enter func72,ntmps72;go_wp2_with (first|(at_mapUpdate; refine jq _ rfl _ _ _ 85 rfl 111 bN bO rfl ac.out (by rw[aY]; unfold b7; omega) nm aa rfl _ rfl ?_; intro w1 ad ae af));go_end0;refine⟨rfl,?_,(dv.fC ab.out).then (dv.oI ae)⟩;unfold ey;rw[<-HP.out];exact ad
theorem CG(B:Nat)(es:List dq)(nm:Wd)(w:World)(hs:ey w B es)(hl:es.length<1099511627776)(U:nm.length<=b7) :
  b8 prog 71 #[.map (some B),.string ⟨nm.toArray⟩] w λen w'=>en=.returned (.tuple #[])/\ey w' B (dJ es [⟨nm,true,[],0,0⟩])/\dv (· = B) w w':=by
 have O:=ua es ⟨nm,true,[],0,0⟩ (.agg #[.bool true,.string ⟨#[]⟩,.string ⟨#[]⟩,.int .i64 0,.int _ 0]) rfl;have W:bH _:=hs;have HP:bH _:=O;go_enter func71,ntmps71;go_wp2_with (first|(refine jq _ rfl _ _ _ 85 rfl _ bN bO rfl W.out (by rw[aY]; unfold b7; omega) nm U rfl _ rfl ?_; intro w1 Y aa ab));go_end0;refine⟨rfl,?_,dv.oI aa⟩;unfold ey;rw[<-HP.out];exact Y
def lJ(w:World)(B r:Nat)(es rst:List dq):Prop:=eu prog 9 w B r (es.map jj) (rst.map jj)
theorem eu.perm{P:Program}{k:bB}{w:World}{B:Nat}{l a b:List (Wd×Value)}(h:eu P k w B r l a)(O:a.Perm b):eu P k w B r l b:=by
 obtain⟨U,W,D,left,cnt,Y,h4,h5⟩:=h;exact⟨(O.map _).nodup_iff.1 U,λp hm=>W p (O.mem_iff.2 hm),D,left,cnt,Y,h4,λx=>by rw[h5 x,Gm O]⟩
theorem Qq{p:Wd×Value}{left:List (Wd×Value)}(h:(rst.map jj).Perm (p::left)):∃e O,p=jj e/\left.Perm (O.map jj)/\rst.Perm (e::O):=by
 have hm:=h.mem_iff.2 (ba ..);obtain⟨e,U,rfl⟩:=aZ.1 hm;obtain⟨a,b,rfl⟩:=List.append_of_mem U;refine⟨e,a++b,rfl,?_,bv⟩
 have W:((a++e::b).map jj).Perm (jj e::(a++b).map jj):=by
  exact bv.map _
 exact(h.symm.trans W).cons_inv
section
variable {B:Nat} {es:List dq} (w:World) {ops:Array Oper} {rest:List Oper} {o:Oper} {a:Act} {Q:Exit->Act->World->Prop}
theorem jX(U:o.guard=none)(m:Operand)(O:o.op=Op.range 85 m)(hm:a.eval m=.map (some B))(h:ey w B es)
  (W:∀w',lJ w' B w.heap.size es es->w.grownBy w' none->w'.heap.size=w.heap.size+1->bC prog ops Q rest (a.put o.dst (.pointer (some ⟨w.heap.size,0,none⟩))) w') :
  bC prog ops Q (o::rest) a w:=
 A0 w U m 85 O _ bN bO hm h W
theorem lh(hg:o.guard=none)(it:Operand)(W:o.op=Op.next it false)(r:Nat)(rst:List dq)
  (Y:a.eval it=.pointer (some ⟨r,0,none⟩)) (h:lJ w B r es rst)
  (U:rst=[]->bC prog ops Q rest (a.put o.dst (.tuple #[.bool false])) w)
  (hMore:∀(e:dq)(O:List dq)(w':World),rst.Perm (e::O)->lJ w' B r es O->w'.rangeLeft B r<w.rangeLeft B r->w.grownBy w' (some r)->w'.heap.size=w.heap.size->
    (Instr.entry (.pointer (some ⟨r,0,none⟩))).run prog w'=.ok (.tuple #[.string ⟨e.name.toArray⟩,.agg #[.bool e.gone,.string ⟨(ui e).toArray⟩,.string ⟨e.text.toArray⟩,.int .i64 e.du,.int .i64 e.dD]]) w'->
    bC prog ops Q rest (a.put o.dst (.tuple #[.bool true,.string ⟨e.name.toArray⟩,.agg #[.bool e.gone,.string ⟨(ui e).toArray⟩,.string ⟨e.text.toArray⟩,.int .i64 e.du,.int .i64 e.dD]])) w') :
  bC prog ops Q (o::rest) a w:=by
 refine D2 w hg it W bN r _ Y h (λh0=>U (by simpa using h0)) ?_;intro p aa w' hp hr ab ac ad ae;obtain⟨e,O,rfl,h1,h2⟩:=Qq hp;exact hMore e O w' h2 (hr.perm h1) ab ac ad ae
end
theorem lJ.alloc{w:World}{B:Nat}{es:List dq}(h:lJ w B r es rst)(o:Obj):lJ (w.alloc o) B r es rst:=eu.kept h (bY w o none) (by simp) (by simp)
theorem iU{w:World}{B:Nat}{o:Obj}(O:B<w.heap.size)(U:r<w.heap.size):(w.alloc o).rangeLeft B r=w.rangeLeft B r:=
 eu.jG (bL _ _ _ O) (bL _ _ _ U)
theorem lG{w0 w w':World}(h:Below w0.heap.size w0 w)(O:w.grownBy w' (some r))(U:w0.heap.size<=r):Below w0.heap.size w0 w':=h.grown O h.size (λk W=>by cases W; exact U)
def iY(es:List dq):Nat:=(es.filter λe=>e.gone).length
theorem xO(es:List dq)(e:dq):iY (es++[e])=iY es+(if e.gone then 1 else 0):=by
 unfold iY;cases h:e.gone<;>simp[h]
theorem FJ(es:List dq):iY es<=es.length:=List.length_filter_le ..
theorem GC{es:List dq}(h:es.Perm fs):iY es=iY fs:=(h.filter _).length_eq
theorem jd{U O es:List dq}{e:dq}(h:(U++rst).Perm es)(W:rst.Perm (e::O)):((U++[e])++O).Perm es:=by
 refine List.Perm.trans ?_ h;rw[bf];exact(ce U).append W.symm
theorem BP(B:Nat)(es:List dq)(w:World)(hs:ey w B es)(hl:es.length<1099511627776) :
  b8 prog 70 #[.map (some B)] w λen w'=>en=.returned (.int .i64 (iY es))/\Below w.heap.size w w':=by
 have HS:bH (ey w B es):=hs;have aj:=dM.lt hs;clear hs;go_enter func70,ntmps70;go_wp2_with (first|(at_range; refine jX _ rfl _ rfl rfl HS.out ?_; intro w0 hrg0 hg0 ak));go_frame;go_loopw [3] (λg wr=>∃(O rst:List dq),(O++rst).Perm es/\g=.int .i64 (iY O)/\lJ wr B w.heap.size es rst/\Below w.heap.size w wr) (λ_ wr=>wr.rangeLeft B w.heap.size)
 case atStart=>exact⟨[],es,ce _,rfl,hrg0,(bK _ w).grown hg0 (bx _) (λk hk=>by cases hk)⟩
 case round=>
  obtain⟨O,rst,eE,rfl,hr,hb⟩:=hrel;have HP:bH ((O++rst).Perm es):=eE;have HR:bH (lJ wr B w.heap.size es rst):=hr;have HB:bH (Below w.heap.size w wr):=hb
  have al:iY O<=es.length:=by
   have h1:=FJ O;have h2:=eE.length_eq;rw[aX]at h2;omega
  clear eE hr hb;go_wp2_with (first|(at_next; refine lh _ rfl _ rfl w.heap.size rst rfl HR.out ?_ ?_))
  .intro h0
   have HE:bH (iY O=iY es):=by
    show _=_;refine GC ?_;have:=HP.out;rw[h0,aW]at this;exact this
   clear h0;go_wp2;go_ret;exact⟨eS (by rw[HE.out]),HB.out⟩
  .intro e U w1 aa W Y ab ac am;have ad:=eu.lt W;have ae:=dM.lt (eu.owns W);have af:bH (Below w.heap.size w w1):=lG HB.out ab (bx _);have ag:bH (lJ w1 B w.heap.size es U):=W;have ah:bH (w1.rangeLeft B w.heap.size<wr.rangeLeft B w.heap.size):=Y;have ai:bH (rst.Perm (e::U)):=aa;clear aa W Y ab;obtain⟨nm,gn,tx,wt,tg⟩:=e
   cases gn with
   |false=>
    go_wp2;go_roundw
    case rel=>
     refine⟨O++[⟨nm,false,tx,wt,tg⟩],U,jd HP.out ai.out,?_,ag.out.alloc _,af.out.alloc (b2 HB.out.size (by rw[ac]; exact bx _)) _⟩;rw[xO];simp
    case measure=>
     rw[iU ae ad];exact ah.out
   |true=>
    go_wp2;go_roundw
    case rel=>
     refine⟨O++[⟨nm,true,tx,wt,tg⟩],U,jd HP.out ai.out,?_,ag.out.alloc _,af.out.alloc (b2 HB.out.size (by rw[ac]; exact bx _)) _⟩;rw[xO];go_num
    case measure=>
     rw[iU ae ad];exact ah.out
end
section
open Go.RowKit Go.Maps
variable {e:dq} {l:List dq}
theorem Em(h:e.name ∉ l.map dq.name):dJ l [e]=l++[e]:=by
 unfold dJ;rw[br.2];intro x O;rw[ii];simp only[names,bn,bw,bs];intro U;exact h (aZ.2 ⟨x,O,U⟩)
theorem E1{O rst U es:List dq}(hn:(es.map dq.name).Nodup)(h:(O++rst).Perm es)(hp:rst.Perm (e::U)):e.name ∉ O.map dq.name:=by
 have h1:=jd h hp;have W:=(h1.map _).nodup_iff.2 hn;rw[bc,bc,bu]at W;have Y:=W.1;rw[bu]at Y;intro hm;exact Y.2.2 _ hm _ (by simp) rfl
theorem vm(l:List dq)(e:dq):dx (l++[e])=dx l++(if e.gone then []else [e]):=by
 unfold dx;cases h:e.gone<;>simp[h]
theorem Ce{x:Wd}(h:x ∉ l.map dq.name):x ∉ (dx l).map dq.name:=by
 intro hm;obtain⟨e,O,rfl⟩:=aZ.1 hm;exact h (aZ.2 ⟨e,(bk.1 O).1,rfl⟩)
theorem qW(B:Nat)(es:List dq)(w:World)(hs:ey w B es)(hl:es.length<1099511627776)(aj:∀e∈es,e.name.length<=b7) :
  b8 prog 60 #[.map (some B)] w λen w'=>∃C,en=.returned (.map (some C))/\w.heap.size<=C/\ey w' C (dx es)/\Below w.heap.size w w':=by
 have a6:=@bJ prog;have ak:=hs.nodup;obtain⟨w0,af⟩:∃w0,w.alloc (.map #[] 0)=w0:=⟨_,rfl⟩;have av:w0.heap.size=w.heap.size+1:=by rw[<-af]; simp
 have hb0:Below w.heap.size w w0:=by rw[<-af]; exact(bK _ _).alloc (bx _) _
 have hM0:ey w0 w.heap.size []:=by rw[<-af]; exact dM.made w
 have HS:bH (ey w0 B es):=dM.below hs hb0;have aw:bH ((es.map dq.name).Nodup):=ak;have ax:bH (∀e∈es,e.name.length<=b7):=aj;have a7:=dM.lt hs;clear hs ak aj;go_enter func60,ntmps60;go_wp2_with (first|(at_range; refine jX _ rfl _ rfl rfl HS.out ?_; intro w1 hrg0 hg0 ay));rw[av]at hrg0 ay⊢;go_frame;go_loopw [4] (λ_ wr=>∃(O rst:List dq),(O++rst).Perm es/\lJ wr B (w.heap.size+1) es rst/\ey wr w.heap.size (dx O)/\Below w.heap.size w wr) (λ_ wr=>wr.rangeLeft B (w.heap.size+1))
 case atStart=>exact⟨[],es,ce _,hrg0,dM.kept hM0 hg0 (by simp),hb0.grown hg0 hb0.size (λk hk=>by cases hk)⟩
 case round=>
  obtain⟨O,rst,eE,hr,hm,hb⟩:=hrel;have HP:bH ((O++rst).Perm es):=eE;have HR:bH (lJ wr B (w.heap.size+1) es rst):=hr;have HM:bH (ey wr w.heap.size (dx O)):=hm;have HB:bH (Below w.heap.size w wr):=hb
  have a8:(dx O).length<=es.length:=by
   have h1:=oP O;have h2:=eE.length_eq;rw[aX]at h2;omega
  clear eE hr hb hm;go_wp2_with (first|(at_next; refine lh _ rfl _ rfl (w.heap.size+1) rst rfl HR.out ?_ ?_))
  .intro h0
   have HE:bH (O.Perm es):=by
    show List.Perm _ _;have:=HP.out;rw[h0,aW]at this;exact this
   clear h0;go_wp2;go_ret;exact⟨_,rfl,bx _,HM.out.perm (wv HE.out),HB.out⟩
  .intro e U w2 Y aa ad ag az a9;have al:=eu.lt aa;have am:=dM.lt (eu.owns aa);have ah:bH (Below w.heap.size w w2):=lG HB.out ag (by omega);have an:bH (lJ w2 B (w.heap.size+1) es U):=aa;have ao:bH (w2.rangeLeft B (w.heap.size+1)<wr.rangeLeft B (w.heap.size+1)):=ad;have ap:bH (rst.Perm (e::U)):=Y;have aq:bH (ey w2 w.heap.size (dx O)):=dM.kept HM.out ag (by simp);have a0:e.name.length<=b7:=ax.out e (HP.out.mem_iff.1 (bp _ (Y.mem_iff.2 (ba ..))));have ae:=E1 aw.out HP.out Y;have W:=ua (dx O) e (.agg #[.bool e.gone,.string ⟨(ui e).toArray⟩,.string ⟨e.text.toArray⟩,.int .i64 e.du,.int .i64 e.dD]) rfl;rw[Em (Ce ae)]at W;have ab:=vm O e;clear Y aa ad ag ae;obtain⟨nm,gn,tx,wt,tg⟩:=e
   cases gn with
   |true=>
    have ai:bH (dx (O++[⟨nm,true,tx,wt,tg⟩])=dx O):=by show _=_; rw[ab]; simp
    clear ab W;go_wp2;go_roundw
    case rel=>
     exact⟨O++[⟨nm,true,tx,wt,tg⟩],U,jd HP.out ap.out,an.out.alloc _,by rw[ai.out]; exact dM.kept aq.out (bY _ _ none) (by simp),ah.out.alloc (b2 HB.out.size (by rw[az]; exact bx _)) _⟩
    case measure=>
     rw[iU am al];exact ao.out
   |false=>
    have ai:bH (dx (O++[⟨nm,false,tx,wt,tg⟩])=dx O++[⟨nm,false,tx,wt,tg⟩]):=by show _=_; rw[ab]; simp
    have ar:bH (qU ((dx O).map jj) nm (.agg #[.bool false,.string ⟨(ui (⟨nm,false,tx,wt,tg⟩:dq)).toArray⟩,.string ⟨tx.toArray⟩,.int .i64 wt,.int .i64 tg])=(dx O++[(⟨nm,false,tx,wt,tg⟩:dq)]).map jj):=W;clear ab W;have au:=λo:Obj=>dM.kept aq.out (bY w2 o none) (by simp);have a3:bH (∀o:Obj,dM prog 9 (w2.alloc o) w.heap.size ((dx O).map jj)):=au;clear au;go_wp2_with (first|(at_mapUpdate; refine jq _ rfl _ _ _ 85 rfl 111 bN bO rfl (a3.out _) (by rw[aY]; unfold b7; omega) nm a0 rfl (.agg #[.bool false,.string ⟨(ui (⟨nm,false,tx,wt,tg⟩:dq)).toArray⟩,.string ⟨tx.toArray⟩,.int .i64 wt,.int .i64 tg]) rfl ?_; intro w3 a4 ac a'));have a5:w.heap.size<=w2.heap.size:=ah.out.size;refine⟨⟨O++[⟨nm,false,tx,wt,tg⟩],U,jd HP.out ap.out,eu.kept (an.out.alloc _) ac (by simp; omega) (by simp),?_,(ah.out.alloc a5 _).grown ac (by simp; omega) (λk hk=>by cases hk; exact bx _)⟩,?_⟩
    .rw[ai.out];unfold ey;rw[<-ar.out];exact a4
    .rw[eu.jG (ac.block B (by simp; omega) (by simp; omega)) (ac.block (w.heap.size+1) (by simp; omega) (by simp)),iU am al];exact ao.out
theorem Ps(B C:Nat)(ds es:List dq)(w:World)(hd:ey w B ds)(hs:ey w C es)(ay:B≠C)(hl:es.length<549755813888)(az:ds.length<549755813888)(ag:∀e∈es,e.name.length<=b7) :
  b8 prog 89 #[.map (some B),.map (some C)] w λen w'=>en=.returned (.tuple #[])/\ey w' B (dJ ds es)/\dv (· = B) w w':=by
 have ah:=hs.nodup;have HS:bH (ey w C es):=hs;have HD:bH (ey w B ds):=hd;have ak:bH ((es.map dq.name).Nodup):=ah;have al:bH (∀e∈es,e.name.length<=b7):=ag;have a0:=dM.lt hd;have a3:=dM.lt hs;clear hs hd ah ag;go_enter func89,ntmps89;go_wp2_with (first|(at_range; refine jX _ rfl _ rfl rfl HS.out ?_; intro w1 hrg0 U a4));go_frame;go_loopw [4] (λ_ wr=>∃(O rst:List dq),(O++rst).Perm es/\lJ wr C w.heap.size es rst/\ey wr B (dJ ds O)/\dv (· = B) w wr) (λ_ wr=>wr.rangeLeft C w.heap.size)
 case atStart=>exact⟨[],es,ce _,hrg0,by rw[oR]; exact dM.kept HD.out U (by simp),⟨U.os,U.tape,U.output,U.size,λk hk _=>U.block k hk (by simp)⟩⟩
 case round=>
  obtain⟨O,rst,eE,hr,hm,hb⟩:=hrel;have HP:bH ((O++rst).Perm es):=eE;have HR:bH (lJ wr C w.heap.size es rst):=hr;have HM:bH (ey wr B (dJ ds O)):=hm;have HB:bH (dv (· = B) w wr):=hb
  have a5:(dJ ds O).length<=1099511627775:=by
   have h1:=AU ds O;have h2:=eE.length_eq;rw[aX]at h2;omega
  clear eE hr hb hm;go_wp2_with (first|(at_next; refine lh _ rfl _ rfl w.heap.size rst rfl HR.out ?_ ?_))
  .intro h0
   have HE:bH (O.Perm es):=by
    show List.Perm _ _;have:=HP.out;rw[h0,aW]at this;exact this
   clear h0;go_wp2;go_end0;exact⟨rfl,HM.out.perm (Kg (ce _) HE.out),HB.out⟩
  .intro e W w2 aa ab ad af a6 a7;have am:=eu.lt ab;have an:=dM.lt (eu.owns ab);have a8:=HB.out.size;have ao:bH (dv (· = B) w w2):=HB.out.trans (dv.oI af) (λi hi hg=>by omega);have ap:bH (lJ w2 C w.heap.size es W):=ab;have aq:bH (w2.rangeLeft C w.heap.size<wr.rangeLeft C w.heap.size):=ad;have ar:bH (rst.Perm (e::W)):=aa;have ai:bH (ey w2 B (dJ ds O)):=dM.kept HM.out af (by simp; omega);have au:e.name.length<=b7:=al.out e (HP.out.mem_iff.1 (bp _ (aa.mem_iff.2 (ba ..))));have ae:=E1 ak.out HP.out aa;have Y:=ua (dJ ds O) e (.agg #[.bool e.gone,.string ⟨(ui e).toArray⟩,.string ⟨e.text.toArray⟩,.int .i64 e.du,.int .i64 e.dD]) rfl;rw[qa,Em ae]at Y;have aj:bH (qU ((dJ ds O).map jj) e.name (.agg #[.bool e.gone,.string ⟨(ui e).toArray⟩,.string ⟨e.text.toArray⟩,.int .i64 e.du,.int .i64 e.dD])=(dJ ds (O++[e])).map jj):=Y;have av:bH (∀o:Obj,dM prog 9 (w2.alloc o) B ((dJ ds O).map jj)):=λo=>dM.kept ai.out (bY w2 o none) (by simp);clear aa ab ad af ae Y;go_wp2_with (first|(at_mapUpdate; refine jq _ rfl _ _ _ 85 rfl 111 bN bO rfl (av.out _) (by rw[aY]; unfold b7; omega) e.name au rfl (.agg #[.bool e.gone,.string ⟨(ui e).toArray⟩,.string ⟨e.text.toArray⟩,.int .i64 e.du,.int .i64 e.dD]) rfl ?_; intro w3 aw ac a9));have ax:=dM.lt ai.out;refine⟨⟨_,_,_,_,_,_,_,_,_,_,⟨O++[e],W,jd HP.out ar.out,eu.kept (ap.out.alloc _) ac (by simp; omega) (by simp; omega),?_,(ao.out.then (dv.fC ((bK _ _).alloc (bx _) _))).then (dv.oI ac)⟩,rfl⟩,?_⟩
   .unfold ey;rw[<-aj.out];exact aw
   .rw[eu.jG (ac.block C (by simp; omega) (by simp; omega)) (ac.block _ (by simp; omega) (by simp; omega)),iU an am];exact aq.out
end
section
open Go.RowKit Go.Maps
def Told(e:dq):Prop:=e.name.length<=255/\e.text.length<=255/\(e.gone=false->0<=e.dD/\e.dD<=255)
structure DE where
 fn:FuncId
 cp:Array Value
 own:Nat->Prop
 P2:Nat->Prop
 T:World->List (Nat×dq)->Prop
def DE.v(t:DE):Value:=.func (.func t.fn) #[] t.cp
structure DE.Ok(t:DE)(mx:Nat):Prop where
 gK:∃gK c,prog.funcs[t.fn]?=some gK/\gK.body=some c/\(gK.name == "runtime.NumGoroutine")=false
 sub:∀k,t.own k->t.P2 k
 lt:∀{w told k},t.T w told->t.P2 k->k<w.heap.size
 stay:∀{w w' told},t.T w told->(∀k,t.P2 k->w'.heap[k]?=w.heap[k]?)->t.T w' told
 tell:∀(w:World)(q:Nat)(told:List (Nat×dq))(e:dq),t.T w told->e.name ∉ (sn told).map dq.name->told.length<1099511627776->Told e->q<=mx->
  b8 prog t.fn (#[.int .i64 (q:Int),.string ⟨e.name.toArray⟩,qF e]++t.cp) w λen w'=>en=.returned (.tuple #[])/\t.T w' (told++[(q,e)])/\dv t.own w w'
structure RG(w:World)(Rb Mk:Nat)(t:DE)(S:ByteArray)(rest:Wd)(told:List (Nat×dq)):Prop where
 rd:GZ w Rb S rest Mk t.v
 kn:dM prog 9 w Mk ((sn told).map QK)
 sd:t.T w told
 qk:told.length+rest.length<=S.size
 ne:∀k,t.P2 k->k≠Rb/\k≠Mk
def rM(Rb Mk:Nat)(t:DE)(k:Nat):Prop:=k=Rb\/k=Mk\/t.own k
section
variable {w w':World} {Rb Mk mx:Nat} {t:DE} {S:ByteArray} {rest r:Wd} {told:List (Nat×dq)}
theorem RG.mr(h:RG w Rb Mk t S rest told):Mk≠Rb:=by
 obtain⟨p,O,_⟩:=h.rd;exact h.kn.nz O
theorem RG.turn(O:t.Ok mx)(h:RG w Rb Mk t S rest told)(U:dv (· = Rb) w w')(Y:GZ w' Rb S r Mk t.v)(hl:r.length<=rest.length):RG w' Rb Mk t S r told:=
 ⟨Y,h.kn.stay (U.block _ h.kn.lt h.mr),O.stay h.sd λk W=>U.block k (O.lt h.sd W) (h.ne k W).1,by have:=h.qk; omega,h.ne⟩
theorem RG.below(O:t.Ok mx)(h:RG w Rb Mk t S rest told)(hb:Below w.heap.size w w'):RG w' Rb Mk t S rest told:=by
 obtain⟨p,U,W⟩:=h.rd;exact⟨⟨p,by unfold AA at *; rw[hb.block Rb (eQ U)]; exact U,W⟩,h.kn.below hb,O.stay h.sd λk Y=>hb.block k (O.lt h.sd Y),h.qk,h.ne⟩
theorem RG.pos(h:RG w Rb Mk t S rest told):w.cell? ⟨Rb,1,none⟩=some (.int .i64 ((S.size-rest.length:Nat):Int)):=by
 obtain⟨p,O,U,rfl⟩:=h.rd;rw[dh O];have e:S.size-(S.data.toList.drop p).length=p:=by simp; omega
 rw[e];rfl
end
theorem qn{Rb Mk mx:Nat}{t:DE}{S:ByteArray}{rest:Wd}{told:List (Nat×dq)}{last nm r:Wd}{w:World}(hT:t.Ok mx)(h:RG w Rb Mk t S rest told)(hS:S.size<=1099511627775)(U:nA ((sn told).map dq.name) last rest=some (nm,r)) :
  b8 prog 234 #[.pointer (some ⟨Rb,0,none⟩),.string ⟨last.toArray⟩] w λe w'=>e=.returned (.string ⟨nm.toArray⟩)/\RG w' Rb Mk t S r told/\dv (· = Rb) w w':=by
 have ht:=tS Rb S rest Mk t.v w h.rd (by omega);have HR:bH _:=h;rw[Mg]at U;clear h
 cases hx:ju rest with
 |none=>rw[hx]at U; cases U
 |some x=>
  obtain⟨ai,r'⟩:=x;rw[hx]at ht U;simp only[bX]at U;split at U
  .rename_i hc;cases U;obtain⟨aa,Y,hk⟩:=hc;obtain⟨O,ah⟩:=iu hx;have ab:r.length<=rest.length:=by rw[O]; simp
   clear hx O;have ac:(⟨nm.toArray⟩:ByteArray).size<=b7:=by show nm.toArray.size<=b7; unfold b7; simp; omega
   have ad:nm.length<=b7:=by unfold b7; omega
   have ae:cg (⟨last.toArray⟩:ByteArray).toList (⟨nm.toArray⟩:ByteArray).toList=true:=by rw[ByteArray.toList_eq,ByteArray.toList_eq]; exact Y
   have HT:bH _:=hT;clear hT;go_enter func234,ntmps234;go_wp2_with fail;refine ht.mono ?_;rintro e w1 ⟨g1,rfl,g2,g3⟩;have W:bH (RG w1 Rb Mk t S r told):=HR.out.turn HT.out g1 g2 ab;have af:bH _:=g1;clear g1 g2 g3 ht;go_wp2_with fail;refine(qX _ _ ac).mono ?_;rintro e w' ⟨rfl,rfl⟩;rw[show iL (⟨nm.toArray⟩:ByteArray).data.toList=true from aa];clear ae;go_wp2_with fail;rw[Tr,Y];refine(gw _).mono ?_;rintro e w' ⟨rfl,rfl⟩
   have aj:w1.cell? ⟨Rb,2,none⟩=some (.map (some Mk)):=by
    obtain⟨p,h1,_⟩:=W.out.rd;rw[dh h1]; rfl
   have ag:=(W.out.kn.look bN bP (Rc w1) nm ad).2;rw[Kw,LA,decide_eq_false hk]at ag;go_wp2_with fail;refine(gw _).mono ?_;rintro e w' ⟨rfl,rfl⟩;go_wp2;go_ret;have hb:=(bK _ w1).alloc (bx _) (.cells #[] 263);exact⟨rfl,W.out.below HT.out hb,af.out.then (dv.fC hb)⟩
  .cases U
end
section
open Go.RowKit Go.Maps
variable {S:ByteArray} {told:List (Nat×dq)} {Mk Rb mx:Nat} {t:DE} {nm r3 rest:Wd} {w:World}
theorem RG.UL{w':World}{b:Nat}{cs:Array Value}{Y:bB}{fz:Nat×Nat}(U:t.Ok mx)(h:RG w Rb Mk t S rest told)(hb:w.heap[b]?=some (.cells cs Y fz))(h1:b≠Rb)(h2:∀k,t.P2 k->k≠b)(O:dv (· = b) w w'):RG w' Rb Mk t S rest told:=by
 obtain⟨p,g1,g2⟩:=h.rd;exact⟨⟨p,by unfold AA at *; rw[O.block Rb (eQ g1) (λe=>h1 e.symm)]; exact g1,g2⟩,h.kn.stay (O.block _ h.kn.lt (h.kn.nz hb)),U.stay h.sd λk W=>O.block k (U.lt h.sd W) (h2 k W),h.qk,h.ne⟩
theorem tu{e:dq}(h:ki nm rest=some (e,r3)):∃tx wt tg r O,ju rest=some (tx,r)/\(dU tx=true/\tx≠[])/\ir r=some (wt,O)/\wt<=1000000/\rdNum O=some (tg,r3)/\e=⟨nm,false,tx,wt,tg⟩:=by
 unfold ki at h;simp only[bW]at h;obtain⟨⟨tx,r⟩,U,h⟩:=h;split at h
 .rename_i W;simp only[bW]at h;obtain⟨⟨wt,O⟩,Y,h⟩:=h;split at h
  .rename_i hw;simp only[bW]at h;obtain⟨⟨tg,r4⟩,h3,h⟩:=h;cases h;exact⟨tx,wt,tg,r,O,U,W,Y,hw,h3,rfl⟩
  .cases h
 .cases h
theorem GG{en:dq}(hT:t.Ok mx)(h:RG w Rb Mk t S rest told)(hS:S.size<=1099511627775)(hX:ki nm rest=some (en,r3)) :
  b8 prog 266 #[.pointer (some ⟨Rb,0,none⟩),.string ⟨nm.toArray⟩] w λe w'=>e=.returned (zx en)/\RG w' Rb Mk t S r3 told/\dv (· = Rb) w w':=by
 obtain⟨tx,wt,tg,r,r2,Y,hq,aa,az,ab,rfl⟩:=tu hX;clear hX;obtain⟨w0,ac⟩:∃w0,w.alloc (.cells #[.string ⟨#[]⟩,.string ⟨#[]⟩,.int .i64 0,.int .i64 0] 96)=w0:=⟨_,rfl⟩;have ad:Below w.heap.size w w0:=by rw[<-ac]; exact(bK _ _).alloc (bx _) _
 have ae:bH (w0.heap[w.heap.size]?=some (.cells #[.string ⟨#[]⟩,.string ⟨#[]⟩,.int .i64 0,.int .i64 0] 96 (0,0))):=by show _=_; rw[<-ac]; exact b9 w _
 have af:bH _:=h.below hT ad;have ak:bH (dv (· = Rb) w w0):=dv.fC ad
 have a0:Rb<w.heap.size:=by
  obtain⟨p,h1,_⟩:=h.rd;exact eQ h1
 have HD:bH (∀k,t.P2 k->k≠w.heap.size):=λk hk e=>by have:=hT.lt h.sd hk; omega
 have ht:=tS Rb S rest Mk t.v w0 af.out.rd (by omega);rw[Y]at ht;obtain⟨U,ay⟩:=iu Y;obtain⟨al,_⟩:=jR aa;obtain⟨am,_⟩:=gW ab;have au:r.length<=rest.length:=by rw[U]; simp
 have an:r2.length<=r.length:=by rw[al]; simp
 have ao:r3.length<=r2.length:=by rw[am]; simp
 have HT:bH _:=hT;have HW:bH _:=And.intro aa ab;clear h ad Y U al am aa ab hT;have av:(⟨tx.toArray⟩:ByteArray).size<=b7:=by show tx.toArray.size<=b7; unfold b7; simp; omega
 go_enter func266,ntmps266;go_wp2_with fail;clear ac;refine ht.mono ?_;rintro e w1 ⟨g1,rfl,W,g3⟩;have ag:bH _:=af.out.turn HT.out g1 W au;have ap:bH (dv (· = Rb) w w1):=ak.out.then g1;have ah:bH (w1.heap[w.heap.size]?=some (.cells #[.string ⟨#[]⟩,.string ⟨#[]⟩,.int .i64 0,.int .i64 0] 96 (0,0))):=by show _=_; rw[g1.block _ (eQ ae.out) (by show w.heap.size≠Rb; omega)]; exact ae.out
 clear g1 W g3 ht af ak ae;go_wp2_with fail;refine(pJ _ _ av).mono ?_;rintro e w' ⟨rfl,rfl⟩;rw[show decide (dU (⟨tx.toArray⟩:ByteArray).data.toList=true/\(⟨tx.toArray⟩:ByteArray).data.toList≠[])=true from decide_eq_true hq];clear hq;go_wp2_with fail;refine(gw _).mono ?_;rintro e w' ⟨rfl,rfl⟩;have hw:=zm Rb S r Mk t.v w1 ag.out.rd (by omega);rw[HW.out.1]at hw;go_wp2_with fail;refine hw.mono ?_;rintro e w2 ⟨g1,rfl,W,g3⟩;have ai:bH _:=ag.out.turn HT.out g1 W an;have aq:bH (dv (· = Rb) w w2):=ap.out.then g1;have aj:bH (w2.heap[w.heap.size]?=some (.cells #[.string ⟨#[]⟩,.string ⟨#[]⟩,.int .i64 0,.int .i64 0] 96 (0,0))):=by show _=_; rw[g1.block _ (eQ ah.out) (by show w.heap.size≠Rb; omega)]; exact ah.out
 clear g1 W g3 hw ag ap ah;have a3:(wt:Int)<=1000000:=by omega
 go_wp2_with fail;refine(gw _).mono ?_;rintro e w' ⟨rfl,rfl⟩;have hn:=na Rb S r2 Mk t.v w2 ai.out.rd (by omega);rw[HW.out.2]at hn;go_wp2_with fail;refine hn.mono ?_;rintro e w3 ⟨g1,rfl,W,g3⟩;have aw:bH _:=ai.out.turn HT.out g1 W ao;have ax:bH (dv (· = Rb) w w3):=aq.out.then g1;have O:bH (w3.heap[w.heap.size]?=some (.cells #[.string ⟨#[]⟩,.string ⟨#[]⟩,.int .i64 0,.int .i64 0] 96 (0,0))):=by show _=_; rw[g1.block _ (eQ aj.out) (by show w.heap.size≠Rb; omega)]; exact aj.out
 clear g1 W g3 hn ai aq aj HW;have e0:w3.cell? ⟨w.heap.size,0,none⟩=some (.string ⟨#[]⟩):=by rw[dh O.out]; rfl
 have e1:w3.cell? ⟨w.heap.size,1,none⟩=some (.string ⟨#[]⟩):=by rw[dh O.out]; rfl
 have e2:w3.cell? ⟨w.heap.size,2,none⟩=some (.int .i64 0):=by rw[dh O.out]; rfl
 have e3:w3.cell? ⟨w.heap.size,3,none⟩=some (.int .i64 0):=by rw[dh O.out]; rfl
 have z0:w3.frozen? ⟨w.heap.size,0,none⟩=false:=dK O.out 0;have z1:w3.frozen? ⟨w.heap.size,1,none⟩=false:=dK O.out 1;have z2:w3.frozen? ⟨w.heap.size,2,none⟩=false:=dK O.out 2;have z3:w3.frozen? ⟨w.heap.size,3,none⟩=false:=dK O.out 3;go_wp2
 have ar:dv (· = w.heap.size) w3 ((((w3.setCell ⟨w.heap.size,0,none⟩ (.string ⟨nm.toArray⟩)).setCell ⟨w.heap.size,1,none⟩ (.string ⟨tx.toArray⟩)).setCell ⟨w.heap.size,2,none⟩ (.int .i64 wt)).setCell ⟨w.heap.size,3,none⟩ (.int .i64 tg)):=
  (((k7 (F:=(· = w.heap.size)) rfl).then (k7 rfl)).then (k7 rfl)).then (k7 rfl)
 refine bodyPost_ret (v:=zx ⟨nm,false,tx,wt,tg⟩) (by simp[bE,results266,go_sem,e0,e1,e2,e3,zx]) rfl ⟨rfl,aw.out.UL HT.out O.out (by omega) HD.out ar,ax.out.trans ar (λi hi hg=>by omega)⟩
end
section
open Go.RowKit Go.Maps
theorem Dx{P:Program}{f:FuncId}{gK:Func}{c:Code}(O:P.funcs[f]?=some gK)(hb:gK.body=some c)(U:(gK.name == "runtime.NumGoroutine")=false) (args:Array Value) (w:World):(callFunc f args).run P w=.ok (.enter f args) w:=by
 show((match P.funcs[f]? with|none=>_|some fn=>_:Sem _)).run P w=_;rw[O];simp only[U,hb,Bool.false_eq_true,if_false,Option.isNone_some];rfl
theorem DI{Rb Mk q mx:Nat}{t:DE}{S:ByteArray}{rest:Wd}{told:List (Nat×dq)}{e:dq}{w:World}(hT:t.Ok mx)(h:RG w Rb Mk t S rest told)(hS:S.size<=1099511627775)(hm:S.size<=mx)(hn:e.name ∉ (sn told).map dq.name)(ho:Told e)(a7:told.length+1+rest.length<=S.size)(hq:q<=S.size) :
  b8 prog 235 #[.pointer (some ⟨Rb,0,none⟩),.int .i64 (q:Int),.string ⟨e.name.toArray⟩,qF e] w λen w'=>en=.returned (.tuple #[])/\RG w' Rb Mk t S rest (told++[(q,e)])/\dv (rM Rb Mk t) w w':=by
 obtain⟨w0,al⟩:∃w0,w.alloc (.cells #[.bool e.gone,.string ⟨(ui e).toArray⟩,.string ⟨e.text.toArray⟩,.int .i64 e.du,.int .i64 e.dD] 111)=w0:=⟨_,rfl⟩;have af:Below w.heap.size w w0:=by rw[<-al]; exact(bK _ _).alloc (bx _) _
 have ag:w0.heap[w.heap.size]?=some (.cells #[.bool e.gone,.string ⟨(ui e).toArray⟩,.string ⟨e.text.toArray⟩,.int .i64 e.du,.int .i64 e.dD] 111 (0,0)):=by rw[<-al]; exact b9 w _
 have Y:=h.below hT af;have n1:=Y.mr;have ac:=Y.ne;have aq:∀k,t.P2 k->k≠w.heap.size:=λk W e=>by have:=hT.lt h.sd W; omega
 obtain⟨p,hp1,am⟩:=id Y.rd;unfold AA at hp1;have c2:w0.cell? ⟨Rb,2,none⟩=some (.map (some Mk)):=by rw[dh hp1]; rfl
 have ar:Mk≠w.heap.size:=Y.kn.nz ag;have ae:=JI (sn told) e QK (λ_=>rfl) hn;have au:e.name.length<=b7:=by have:=ho.1; unfold b7; omega
 obtain⟨gK,cc,av,aw,ax⟩:=hT.gK;have ah:bH _:=Y;have ai:bH _:=And.intro hp1 am;have an:bH _:=ag;have ay:bH _:=af;have HP:bH _:=ae;have HN:bH (e.name ∉ (sn told).map dq.name/\Told e/\told.length<1099511627776/\q<=mx):=⟨hn,ho,by omega,by omega⟩;have HT:bH _:=hT;clear h af ag Y hp1 am ae hn hT ho;unfold qF;go_enter func235,ntmps235;go_wp2_with (first|(at_mapUpdate; refine jq _ rfl _ _ _ 214 rfl 263 bN bP rfl ah.out.kn (by rw[aY,aY]; unfold b7; omega) e.name au rfl (.agg #[]) rfl ?_; intro w1 ao az a8));have ad:=dv.oI az;have aj:w1.heap[Rb]?=some (.cells #[.string S,.int .i64 p,.map (some Mk),t.v] 216 (0,0)):=by rw[ad.block Rb (eQ ai.out.1) (λe=>n1 e.symm)]; exact ai.out.1
 have O:w1.heap[w.heap.size]?=some (.cells #[.bool e.gone,.string ⟨(ui e).toArray⟩,.string ⟨e.text.toArray⟩,.int .i64 e.du,.int .i64 e.dD] 111 (0,0)):=by rw[ad.block _ (eQ an.out) (λe=>ar e.symm)]; exact an.out
 have a0:t.T w1 told:=HT.out.stay ah.out.sd λk W=>ad.block k (HT.out.lt ah.out.sd W) (ac k W).2;have c3:w1.cell? ⟨Rb,3,none⟩=some (.func (.func t.fn) #[] t.cp):=by rw[dh aj]; rfl
 have d0:w1.cell? ⟨w.heap.size,0,none⟩=some (.bool e.gone):=by rw[dh O]; rfl
 have d1:w1.cell? ⟨w.heap.size,1,none⟩=some (.string ⟨(ui e).toArray⟩):=by rw[dh O]; rfl
 have d2:w1.cell? ⟨w.heap.size,2,none⟩=some (.string ⟨e.text.toArray⟩):=by rw[dh O]; rfl
 have d3:w1.cell? ⟨w.heap.size,3,none⟩=some (.int .i64 e.du):=by rw[dh O]; rfl
 have d4:w1.cell? ⟨w.heap.size,4,none⟩=some (.int .i64 e.dD):=by rw[dh O]; rfl
 have a5:bH (∀w2:World,w2.heap=w1.heap->w2.os=w1.os->w2.tape=w1.tape->w2.output=w1.output->b8 prog t.fn (#[.int .i64 (q:Int),.string ⟨e.name.toArray⟩,qF e]++t.cp) w2 λen w'=>en=.returned (.tuple #[])/\t.T w' (told++[(q,e)])/\dv t.own w1 w'):=by
  intro w2 k1 k2 k3 k4;obtain⟨a1,a2,a3,a4⟩:=HN.out;refine(HT.out.tell w2 q told e (HT.out.stay a0 λk _=>by rw[k1]) a1 a3 a2 a4).mono ?_;rintro en w' ⟨q1,q2,q3⟩;exact⟨q1,q2,⟨q3.os.trans k2,q3.tape.trans k3,q3.output.trans k4,by have:=q3.size; rw[k1]at this; exact this,λk W hn=>by rw[q3.block k (by rw[k1]; exact W) hn,k1]⟩⟩
 have U:w1.drew.cell? ⟨Rb,3,none⟩=some (.func (.func t.fn) #[] t.cp)/\w1.drew.cell? ⟨w.heap.size,0,none⟩=some (.bool e.gone)/\w1.drew.cell? ⟨w.heap.size,1,none⟩=some (.string ⟨(ui e).toArray⟩)/\w1.drew.cell? ⟨w.heap.size,2,none⟩=some (.string ⟨e.text.toArray⟩)/\w1.drew.cell? ⟨w.heap.size,3,none⟩=some (.int .i64 e.du)/\w1.drew.cell? ⟨w.heap.size,4,none⟩=some (.int .i64 e.dD):=⟨c3,d0,d1,d2,d3,d4⟩;clear c3 d0 d1 d2 d3 d4;refine bA (S:=λw'=>w'.cell? ⟨Rb,3,none⟩=some (.func (.func t.fn) #[] t.cp)/\w'.cell? ⟨w.heap.size,0,none⟩=some (.bool e.gone)/\w'.cell? ⟨w.heap.size,1,none⟩=some (.string ⟨(ui e).toArray⟩)/\w'.cell? ⟨w.heap.size,2,none⟩=some (.string ⟨e.text.toArray⟩)/\w'.cell? ⟨w.heap.size,3,none⟩=some (.int .i64 e.du)/\w'.cell? ⟨w.heap.size,4,none⟩=some (.int .i64 e.dD)) (by kernel_rfl) ?_;refine fR 0 ?_ U ?_<|fR 1 ?_ U ?_<|fR 2 ?_ U ?_<|fR 3 ?_ U ?_<|fR 4 ?_ U ?_<|fR 5 ?_ U ?_<|fR 6 ?_ U ?_ ?_
 any_goals(rintro w' ⟨k0,k1,k2,k3,k4,k5⟩; go_simp; first|done|with_reducible rfl)
 refine l8 7 λK' a6=>?_;have ak:=a5.out w1.drew rfl rfl rfl rfl;unfold Oper.wp;go_simp;change Oper.upon _ _ _ _ _ (Sem.run _ (callFunc t.fn _) _);rw[Dx av aw ax];refine ak.mono ?_;rintro en w2 ⟨rfl,q2,q3⟩;have aa:∀k,t.own k->k≠Rb/\k≠Mk/\k≠w.heap.size:=λk W=>⟨(ac k (HT.out.sub k W)).1,(ac k (HT.out.sub k W)).2,aq k (HT.out.sub k W)⟩;have ap:w2.heap[Rb]?=some (.cells #[.string S,.int .i64 p,.map (some Mk),t.v] 216 (0,0)):=by rw[q3.block Rb (eQ aj) (λe=>(aa _ e).1 rfl)]; exact aj
 have ab:w2.heap[w.heap.size]?=some (.cells #[.bool e.gone,.string ⟨(ui e).toArray⟩,.string ⟨e.text.toArray⟩,.int .i64 e.du,.int .i64 e.dD] 111 (0,0)):=by rw[q3.block _ (eQ O) (λe=>(aa _ e).2.2 rfl)]; exact O
 refine a6 _ _ ⟨⟨by rw[dh ap]; rfl,by rw[dh ab]; rfl,by rw[dh ab]; rfl,by rw[dh ab]; rfl,by rw[dh ab]; rfl,by rw[dh ab]; rfl⟩,bF (by kernel_rfl) ?_ _⟩;go_wp2;go_end0;refine⟨rfl,⟨⟨p,ap,ai.out.2⟩,?_,q2,by simp; omega,ac⟩,?_⟩
 .rw[show sn (told++[(q,e)])=sn told++[e] by simp[sn],<-HP.out];exact dM.stay ao (q3.block _ (dM.lt ao) λe=>(aa _ e).2.1 rfl)
 .exact((dv.fC ay.out).then (ad.mono (λ_ W=>Or.inr (Or.inl W)))).then (q3.mono (λ_ W=>Or.inr (Or.inr W)))
end
section
open Go.RowKit Go.Maps
variable {S:ByteArray} {told:List (Nat×dq)} {Mk Rb mx n:Nat} {t:DE} {r0 rest rf:Wd} {w:World}
theorem dv.Df{w':World}(h:dv (· = Rb) w w'):dv (rM Rb Mk t) w w':=h.mono (λ_ O=>Or.inl O)
theorem RG.here(h:RG w Rb Mk t S rest told):∃p:Nat,w.cell? ⟨Rb,1,none⟩=some (.int .i64 (p:Int))/\p=S.size-rest.length:=⟨_,h.pos,rfl⟩
theorem Lz{gs:List (Nat×dq)}(hT:t.Ok mx)(h:RG w Rb Mk t S rest [])(hS:S.size<=1099511627775)(hm:S.size<=mx)(hx:rdNum rest=some (n,r0))(hX:jY S.size n [] [] r0=some (gs,rf)) :
  b8 prog 211 #[.pointer (some ⟨Rb,0,none⟩)] w λe w'=>e=.returned (.int .i64 n)/\dv (rM Rb Mk t) w w'/\RG w' Rb Mk t S rf gs:=by
 have ht:=na Rb S rest Mk t.v w h.rd (by omega);have HR:bH _:=h;have HT:bH _:=hT;clear h hT;rw[hx]at ht;obtain⟨ad,ak⟩:=gW hx;have al:r0.length<=rest.length:=by rw[ad]; simp
 clear hx ad;go_enter func211,ntmps211;go_wp2_with fail;refine ht.mono ?_;rintro e w1 ⟨g1,rfl,g2,g3⟩;have HR1:bH _:=HR.out.turn HT.out g1 g2 al;have HF1:bH (dv (rM Rb Mk t) w w1):=g1.Df;have HX0:bH _:=hX;clear g1 g2 g3 ht hX;go_wp2;go_loopw [4,9] (λl i wr=>∃(k:Nat)(done gs':List (Nat×dq))(ls r:Wd),k<=n/\i=.int .i64 k/\l=.string ⟨ls.toArray⟩/\RG wr Rb Mk t S r done/\dv (rM Rb Mk t) w wr/\jY S.size (n-k) ((sn done).map dq.name) ls r=some (gs',rf)/\gs=done++gs') (λ_ i _=>n-(intOf i).toNat)
 case atStart=>exact⟨0,[],gs,[],r0,bz _,rfl,rfl,HR1.out,HF1.out,HX0.out,rfl⟩
 case round=>
  obtain⟨k,done,gs',ls,r,hk,rfl,rfl,hr,hf,Y,O⟩:=hrel;have ae:bH _:=hf;have HG:bH _:=And.intro Y O;by_cases ap:k<n
  .obtain⟨p,hp,af⟩:=hr.here;have U:bH _:=hr;have ag:bH _:=af;have e1:n-k=(n-(k+1))+1:=by omega
   rw[e1]at Y;obtain⟨nm,r1,gs2,hx,ah,rfl⟩:=sY Y;have ai:=qn HT.out U.out hS hx;obtain⟨aj,aa,_,ab⟩:=nV hx;have W:bH _:=And.intro ah (And.intro O (And.intro ab (gI aa).2));have an:r1.length+1<=r.length:=by rw[aj]; simp[dL]
   clear hr hf Y O af hx aj aa ab ah e1 HG;go_wp2_with fail;refine ai.mono ?_;rintro e w2 ⟨rfl,g2,g1⟩;have ao:=U.out.qk;have ac:=DI (q:=p) (e:=⟨nm,true,[],0,0⟩) HT.out g2 hS hm W.out.2.2.1 ⟨by show nm.length<=255; have:=W.out.2.2.2; omega,by simp,λh=>by cases h⟩ (by omega) (by have:=ag.out; omega);have am:bH (dv (rM Rb Mk t) w w2):=ae.out.then g1.Df;clear ai g1 g2 hp;go_wp2_with fail;refine ac.mono ?_;rintro e w3 ⟨rfl,q1,q2⟩;have HR3:bH _:=q1;have HF3:bH (dv (rM Rb Mk t) w w3):=am.out.then q2;clear ac q1 q2;go_wp2;go_roundw
   case rel=>exact⟨k+1,_,gs2,nm,r1,by omega,by go_num,rfl,HR3.out,HF3.out,by rw[show(sn (done++[(p,(⟨nm,true,[],0,0⟩:dq))])).map dq.name=(sn done).map dq.name++[nm] by simp[sn]]; exact W.out.1,by rw[W.out.2.1,ag.out]; simp⟩
   case measure=>simp[intOf]; omega
  .have U:bH _:=hr;clear hr hf Y O;go_wp2;go_ret;have Y:=HG.out.1;rw[show n-k=0 by omega,jY]at Y;cases Y;exact⟨rfl,ae.out,by rw[HG.out.2,aW]; exact U.out⟩
theorem Dk{path:Wd}{es:List (Nat×dq)}(hT:t.Ok mx)(h:RG w Rb Mk t S rest told)(hS:S.size<=1099511627775)(hm:S.size<=mx)(hx:rdNum rest=some (n,r0))(hX:lj S.size n path ((sn told).map dq.name) [] r0=some (es,rf)) :
  b8 prog 238 #[.pointer (some ⟨Rb,0,none⟩),.string ⟨path.toArray⟩] w λe w'=>e=.returned (.tuple #[.int .i64 n,.int .i64 (gL (sn es))])/\dv (rM Rb Mk t) w w'/\RG w' Rb Mk t S rf (told++es):=by
 have ht:=na Rb S rest Mk t.v w h.rd (by omega);have HR:bH _:=h;have HT:bH _:=hT;clear h hT;rw[hx]at ht;obtain⟨ao,a6⟩:=gW hx;have a7:r0.length<=rest.length:=by rw[ao]; simp
 clear hx ao;go_enter func238,ntmps238;go_wp2_with fail;refine ht.mono ?_;rintro e w1 ⟨g1,rfl,g2,g3⟩;have a8:bH _:=HR.out.turn HT.out g1 g2 a7;have a9:bH (dv (rM Rb Mk t) w w1):=g1.Df;have a':bH _:=hX;clear g1 g2 g3 ht hX;go_wp2;go_loopw [5,6,12] (λg l i wr=>∃(k:Nat)(done aj:List (Nat×dq))(ls r:Wd),k<=n/\i=.int .i64 k/\l=.string ⟨ls.toArray⟩/\g=.int .i64 (gL (sn done))/\RG wr Rb Mk t S r (told++done)/\dv (rM Rb Mk t) w wr/\lj S.size (n-k) path ((sn (told++done)).map dq.name) ls r=some (aj,rf)/\es=done++aj) (λ_ _ i _=>n-(intOf i).toNat)
 case atStart=>exact⟨0,[],es,[],r0,bz _,rfl,rfl,rfl,by rw[aW]; exact a8.out,a9.out,by rw[aW]; exact a'.out,rfl⟩
 case round=>
  obtain⟨k,done,aj,ls,r,hk,rfl,rfl,rfl,hr,hf,hg,ac⟩:=hrel;have ap:bH _:=hf;have HG:bH _:=And.intro hg ac;by_cases aI:k<n
  .obtain⟨p,hp,aq⟩:=hr.here;have ad:bH _:=hr;have ar:bH _:=aq;have e1:n-k=(n-(k+1))+1:=by omega
   rw[e1]at hg;obtain⟨nm,r1,en,r2,aA,hx,hy,gJ,au,rfl⟩:=C0 hg;have av:=qn HT.out ad.out hS hx;obtain⟨aw,af,_,ag⟩:=nV hx;obtain⟨tx,wt,tg,aJ,W,aK,aF⟩:=C2 hy;cases W;obtain⟨_,_,aL,_,_,_,_,_,_,ax,W⟩:=tu hy
   have ah:tg<=255:=by
    simp only[dq.mk.injEq]at W;have:=(gW ax).2;omega
   have ai:0<=tg:=by
    simp only[dq.mk.injEq]at W;omega
   have O:bH _:=And.intro au (And.intro ac (And.intro ag (And.intro (gI af).2 (And.intro ai (And.intro ah hy)))));have aG:r1.length+1<=r.length:=by rw[aw]; simp[dL]
   have aM:(ed tx==path)=true:=beq_iff_eq.2 gJ;clear hr hf hg ac aq hx aw af ag au e1 HG hy gJ ax W ah ai;go_wp2_with fail;refine av.mono ?_;rintro e w2 ⟨rfl,g2,g1⟩;have aH:=ad.out.qk;have hent:=GG HT.out g2 hS O.out.2.2.2.2.2.2;have ay:bH (dv (rM Rb Mk t) w w2):=ap.out.then g1.Df;clear av g1 g2 hp;unfold zx at hent;go_wp2_with fail;refine hent.mono ?_;rintro e w3 ⟨rfl,g2,g1⟩;have Y:bH _:=g2;have az:bH (dv (rM Rb Mk t) w w3):=ay.out.then g1.Df;clear hent g1 g2 ay;have aB:(⟨tx.toArray⟩:ByteArray).size<=1099511627776:=by show tx.toArray.size<=_; simp; omega
   obtain⟨w4,ak⟩:∃w4,w3.alloc (.cells #[.string ⟨nm.toArray⟩,.string ⟨tx.toArray⟩,.int .i64 wt,.int .i64 tg] 96)=w4:=⟨_,rfl⟩;have al:Below w3.heap.size w3 w4:=by rw[<-ak]; exact(bK _ _).alloc (bx _) _
   have ae:w4.heap[w3.heap.size]?=some (.cells #[.string ⟨nm.toArray⟩,.string ⟨tx.toArray⟩,.int .i64 wt,.int .i64 tg] 96 (0,0)):=by rw[<-ak]; exact b9 w3 _
   have e1:w4.cell? ⟨w3.heap.size,1,none⟩=some (.string ⟨tx.toArray⟩):=by rw[dh ae]; rfl
   go_wp2_with fail;refine(oU _ _ aB).mono ?_;rintro e w5 ⟨rfl,am⟩;clear ak e1;have aC:=al.size;have U:w5.heap[w3.heap.size]?=some (.cells #[.string ⟨nm.toArray⟩,.string ⟨tx.toArray⟩,.int .i64 wt,.int .i64 tg] 96 (0,0)):=by rw[am.block _ (eQ ae)]; exact ae
   have aa:Below w3.heap.size w3 w5:=al.trans (am.mono aC)
   have HD:bH (∀k,rM Rb Mk t k->k≠w3.heap.size):=by
    rintro k (h1|h1|h1) e
    .obtain⟨p1,g1,_⟩:=Y.out.rd;have:=eQ g1;omega
    .have:=Y.out.kn.lt;omega
    .have:=HT.out.lt Y.out.sd (HT.out.sub k h1);omega
   have a0:bH _:=Y.out.below HT.out aa;have a3:bH (dv (rM Rb Mk t) w w5):=az.out.then (dv.fC aa);have an:bH _:=U;have d0:w5.cell? ⟨w3.heap.size,0,none⟩=some (.string ⟨nm.toArray⟩):=by rw[dh U]; rfl
   have d1:w5.cell? ⟨w3.heap.size,1,none⟩=some (.string ⟨tx.toArray⟩):=by rw[dh U]; rfl
   have d2:w5.cell? ⟨w3.heap.size,2,none⟩=some (.int .i64 wt):=by rw[dh U]; rfl
   have d3:w5.cell? ⟨w3.heap.size,3,none⟩=some (.int .i64 tg):=by rw[dh U]; rfl
   clear al ae am U aa Y az;rw[show(ed (⟨tx.toArray⟩:ByteArray).data.toList)=ed tx from rfl];go_wp2_with fail;refine(gw _).mono ?_;rintro e w' ⟨rfl,rfl⟩;have ab:=DI (q:=p) (e:=⟨nm,false,tx,wt,tg⟩) HT.out a0.out hS hm O.out.2.2.1 ⟨by show nm.length<=255; have:=O.out.2.2.2.1; omega,by show tx.length<=255; omega,λ_=>⟨O.out.2.2.2.2.1,O.out.2.2.2.2.2.1⟩⟩ (by omega) (by have:=ar.out; omega);have a4:qF ⟨nm,false,tx,wt,tg⟩=.agg #[.bool false,.string ⟨nm.toArray⟩,.string ⟨tx.toArray⟩,.int .i64 wt,.int .i64 tg]:=rfl;rw[a4]at ab;clear a4;go_wp2_with fail;refine ab.mono ?_;rintro e w6 ⟨rfl,q1,q2⟩
   have a5:w6.heap[w3.heap.size]?=some (.cells #[.string ⟨nm.toArray⟩,.string ⟨tx.toArray⟩,.int .i64 wt,.int .i64 tg] 96 (0,0)):=by
    rw[q2.block _ (eQ an.out) (λh=>HD.out _ h rfl)]; exact an.out
   have d26:w6.cell? ⟨w3.heap.size,2,none⟩=some (.int .i64 wt):=by rw[dh a5]; rfl
   have aD:bH _:=q1;have aE:bH (dv (rM Rb Mk t) w w6):=a3.out.then q2;clear ab q1 q2 a5 d0 d1 d2 d3 a0 a3 an;go_wp2;go_roundw
   case rel=>
    refine⟨k+1,done++[(p,⟨nm,false,tx,wt,tg⟩)],aA,nm,r2,by omega,by go_num,rfl,?_,by rw[<-bf]; exact aD.out,aE.out,?_,by rw[O.out.2.1,ar.out]; simp⟩
    .rw[show sn (done++[(p,(⟨nm,false,tx,wt,tg⟩:dq))])=sn done++[⟨nm,false,tx,wt,tg⟩] by simp[sn],nS,kH,show gL []=0 from rfl];have:=nF (sn done);show Value.int .i64 (max (gL (sn done)) wt)=Value.int .i64 (max (gL (sn done)) (max (max 0 wt) 0));congr 1;omega
    .rw[show((sn (told++(done++[(p,(⟨nm,false,tx,wt,tg⟩:dq))]))).map dq.name)=(sn (told++done)).map dq.name++[nm] by simp[sn]];exact O.out.1
   case measure=>simp[intOf]; omega
  .have ad:bH _:=hr;clear hr hf hg ac;go_wp2;go_ret2;have hg:=HG.out.1;rw[show n-k=0 by omega,lj]at hg;cases hg;have e:=HG.out.2;rw[aW]at e;refine⟨?_,ap.out,by rw[e]; exact ad.out⟩;rw[e];rfl
end
section
open Go.RowKit Go.Maps
def Ro(t:DE)(mx f:Nat):Prop:=∀(Rb Mk g:Nat)(S:ByteArray)(rest r:Wd)(told es:List (Nat×dq))(path:Wd)(w:World),RG w Rb Mk t S rest told->S.size<=1099511627775->S.size<=mx->path.length<=1099511627775->jZ S.size f path ((sn told).map dq.name) rest=some (g,es,r)->
  b8 prog 214 #[.pointer (some ⟨Rb,0,none⟩),.string ⟨path.toArray⟩] w λe w'=>e=.returned (.int .i64 g)/\dv (rM Rb Mk t) w w'/\RG w' Rb Mk t S r (told++es)
theorem Ar{Rb Mk mx n f g:Nat}{t:DE}{S:ByteArray}{rest r0 rf path:Wd}{told es:List (Nat×dq)}{w:World}(hN:Ro t mx f)(hT:t.Ok mx)(h:RG w Rb Mk t S rest told)(hS:S.size<=1099511627775)(hm:S.size<=mx)(hp:path.length<=24)(hx:rdNum rest=some (n,r0))(hX:lQ (jZ S.size f) n path ((sn told).map dq.name) (-1) r0=some (g,es,rf)) :
  b8 prog 239 #[.pointer (some ⟨Rb,0,none⟩),.string ⟨path.toArray⟩] w λe w'=>e=.returned (.tuple #[.int .i64 n,.int .i64 g])/\dv (rM Rb Mk t) w w'/\RG w' Rb Mk t S rf (told++es):=by
 have ht:=na Rb S rest Mk t.v w h.rd (by omega);have HR:bH _:=h;have HT:bH _:=hT;have HN:bH _:=hN;clear h hT hN;rw[hx]at ht;obtain⟨af,ak⟩:=gW hx;have al:r0.length<=rest.length:=by rw[af]; simp
 clear hx af;go_enter func239,ntmps239;go_wp2_with fail;refine ht.mono ?_;rintro e w1 ⟨g1,rfl,W,g3⟩;have am:bH _:=HR.out.turn HT.out g1 W al;have an:bH (dv (rM Rb Mk t) w w1):=g1.Df;have ao:bH _:=hX;clear g1 W g3 ht hX;go_wp2;go_loopw [5,6,11] (λgv l i wr=>∃(k gg g':Nat)(done ab:List (Nat×dq))(la:Int)(r:Wd),k<=n/\i=.int .i64 k/\l=.int .i64 la/\gv=.int .i64 gg/\RG wr Rb Mk t S r (told++done)/\dv (rM Rb Mk t) w wr/\lQ (jZ S.size f) (n-k) path ((sn (told++done)).map dq.name) la r=some (g',ab,rf)/\(g=max gg g'/\es=done++ab)/\-1<=la/\la<=255) (λ_ _ i _=>n-(intOf i).toNat)
 case atStart=>exact⟨0,0,g,[],es,-1,r0,bz _,rfl,rfl,rfl,by rw[aW]; exact am.out,an.out,by rw[aW]; exact ao.out,⟨by omega,rfl⟩,by omega,by omega⟩
 case round=>
  obtain⟨k,gg,g',done,ab,la,r,hk,rfl,rfl,rfl,hr,hf,Y,O,aw,ax⟩:=hrel;have ag:bH _:=hf;have HG:bH _:=And.intro Y O;have ac:bH _:=hr;by_cases az:k<n
  .rw[show n-k=(n-(k+1))+1 by omega]at Y;obtain⟨c,cs,r1,ga,ea,r2,gb,eb,hx,a0,hy,hz,rfl,rfl⟩:=CI Y;have ad:=tS Rb S r Mk t.v wr ac.out.rd (by omega);rw[hx]at ad;obtain⟨ah,aa⟩:=iu hx;have ai:r1.length<=r.length:=by rw[ah]; simp
   have U:bH _:=And.intro hz (And.intro O hy);have hc:=c.toNat_lt;have aj:(⟨(c::cs).toArray⟩:ByteArray).size=cs.length+1:=by show(c::cs).toArray.size=_; simp
   have a3:(⟨(c::cs).toArray⟩:ByteArray)[0]'(by rw[aj]; omega)=c:=rfl;have ap:(⟨path.toArray⟩:ByteArray).size=path.length:=by show path.toArray.size=_; simp
   have ay:¬(9223372036854775807<(⟨path.toArray⟩:ByteArray).size+(⟨(c::cs).toArray⟩:ByteArray).size):=by rw[ap,aj]; simp only[bg]at aa; omega
   clear hr hf Y O hx ah hy hz HG;go_wp2_with fail;refine ad.mono ?_;rintro e w2 ⟨g1,rfl,W,g3⟩;have aq:bH _:=ac.out.turn HT.out g1 W ai;have ar:bH (dv (rM Rb Mk t) w w2):=ag.out.then g1.Df;clear ad g1 W g3;have ae:=HN.out Rb Mk ga S r1 r2 (told++done) ea (path++(c::cs)) w2 aq.out hS hm (by simp only[aX,bg]at aa⊢; omega) U.out.2.2;rw[<-Sn path (c::cs)]at ae;go_wp2_with fail;refine(gw _).mono ?_;rintro e w' ⟨rfl,rfl⟩;go_wp2_with fail;refine ae.mono ?_;rintro e w3 ⟨rfl,g1,W⟩;have au:bH _:=W;have av:bH (dv (rM Rb Mk t) w w3):=ar.out.then g1;clear ae g1 W;go_wp2;go_roundw
   case rel=>
    refine⟨k+1,max gg ga,gb,done++ea,eb,(c.toNat:Int),r2,by omega,by go_num,rfl,?_,by rw[<-bf]; exact au.out,av.out,?_,⟨by rw[U.out.2.1.1,Nat.max_assoc],by rw[U.out.2.1.2,bf]⟩,by omega,by omega⟩
    .show Value.int .i64 (max (gg:Int) (ga:Int))=Value.int .i64 ((max gg ga:Nat):Int);congr 1;omega
    .rw[show((sn (told++(done++ea))).map dq.name)=(sn (told++done)).map dq.name++(sn ea).map dq.name by simp[sn]];exact U.out.1
   case measure=>simp[intOf]; omega
  .clear hr hf Y O;go_wp2;go_ret2;have Y:=HG.out.1;rw[show n-k=0 by omega]at Y;cases Y;have e1:=HG.out.2.1;have e2:=HG.out.2.2;rw[aW]at e2;refine⟨?_,ag.out,by rw[e2]; exact ac.out⟩;rw[e1,Nat.max_zero];rfl
theorem Lg{t:DE}{mx:Nat}(hT:t.Ok mx):∀f,Ro t mx f:=by
 intro f
 induction f with
 |zero=>
  intro Rb Mk g S rest r told es path w h hS hm Y hX;cases hX
 |succ f ih=>
  intro Rb Mk g S rest r told es path w h hS hm Y hX;obtain⟨f',ai,hp,r0,nb,r1,own,r2,nc,r3,gb,below,h1,h2,h3,h4,h5,aa,ab,rfl⟩:=Dy hX;cases ai;clear hX Y;have am:(⟨path.toArray⟩:ByteArray).size=path.length:=by show path.toArray.size=_; simp
  have an:(path.length:Int)<=24:=by omega
  have ht:=zm Rb S rest Mk t.v w h.rd (by omega);rw[h1]at ht;have aj:r0.length<=rest.length:=by rw[(jR h1).1]; simp
  have HR:bH _:=h;have HN:bH _:=ih;have HT:bH _:=hT;have HX:bH _:=And.intro h2 (And.intro h3 (And.intro h4 h5));clear h ih hT h1 h2 h3 h4 h5;have HG:bH _:=aa;have HP:bH _:=ab;go_enter func214,ntmps214;go_wp2_with fail;refine(gw _).mono ?_;rintro e w' ⟨rfl,rfl⟩;go_wp2_with fail;refine ht.mono ?_;rintro e w1 ⟨g1,rfl,O,g3⟩;have ac:bH _:=HR.out.turn HT.out g1 O aj;have ad:bH (dv (rM Rb Mk t) w w1):=g1.Df;clear ht g1 O g3 aa ab;have ae:=Dk HT.out ac.out hS hm HX.out.1 HX.out.2.1;go_wp2_with fail;refine ae.mono ?_;rintro e w2 ⟨rfl,g1,O⟩;have af:bH _:=O;have ag:bH (dv (rM Rb Mk t) w w2):=ad.out.then g1;clear ae g1 O ac ad;have ah:=Ar HN.out HT.out af.out hS hm hp HX.out.2.2.1 (by rw[show(sn (told++own)).map dq.name=(sn told).map dq.name++(sn own).map dq.name by simp[sn]]; exact HX.out.2.2.2);go_wp2_with fail;refine ah.mono ?_;rintro e w3 ⟨rfl,g1,O⟩;have U:bH (RG w3 Rb Mk t S r (told++(own++below))):=by show RG _ _ _ _ _ _ _; rw[<-bf]; exact O
  have W:bH (dv (rM Rb Mk t) w w3):=ag.out.then g1;clear ah g1 O af ag HX;have ak:((g:Int)==max (gL (sn own)) (gb:Int))=true:=beq_iff_eq.2 HG.out;go_wp2_with fail;refine(gw _).mono ?_;rintro e w' ⟨rfl,rfl⟩;clear ak
  cases path with
  |nil=>
   go_wp2_with fail;refine(gw _).mono ?_;rintro e w' ⟨rfl,rfl⟩;go_wp2;go_ret;exact⟨rfl,W.out,U.out⟩
  |cons c cs=>
   by_cases h1:0<nb
   .have al:(0:Int)<(nb:Int):=by omega
    go_wp2_with fail;refine(gw _).mono ?_;rintro e w' ⟨rfl,rfl⟩;go_wp2;go_ret;exact⟨rfl,W.out,U.out⟩
   .have al:decide ((0:Int)<(nb:Int))=false:=decide_eq_false (by omega)
    have ao:(1:Int)<nc:=by
     rcases HP.out with h|h|h
     .cases h
     .exact absurd h h1
     .omega
    go_wp2_with fail;refine(gw _).mono ?_;rintro e w' ⟨rfl,rfl⟩;go_wp2;go_ret;exact⟨rfl,W.out,U.out⟩
end
section
open Go.RowKit Go.Maps
variable {S:ByteArray} {es gs:List (Nat×dq)} {Mk Rb mx:Nat} {t:DE} {rest:Wd} {w:World}
theorem CP(hT:t.Ok mx)(h:RG w Rb Mk t S rest [])(hS:S.size<=1099511627775)(hm:S.size<=mx)(hX:ji S.size rest=some (gs,es)) :
  b8 prog 159 #[.pointer (some ⟨Rb,0,none⟩)] w λe w'=>e=.returned (.tuple #[])/\dv (rM Rb Mk t) w w'/\RG w' Rb Mk t S [] (gs++es):=by
 obtain⟨ng,r,r0,r1,g,h1,h2,h3,h4,h5,aq,al⟩:=Fx hX;have am:gs.length=ng:=vH h2;have ad:=Lz hT h hS hm h1 h2;have ae:r1.length<=r0.length:=by rw[(iu h3).1]; simp
 have HT:bH _:=hT;have H3:bH _:=h3;have H4:bH _:=h4;clear h h1 h2 h3 h4 hX hT;go_enter func159,ntmps159;go_wp2_with fail;refine ad.mono ?_;rintro e w1 ⟨rfl,g1,Y⟩;have ab:bH _:=Y;have af:bH _:=g1;clear ad g1 Y;have ac:=tS Rb S r0 Mk t.v w1 ab.out.rd (by omega);rw[H3.out]at ac;go_wp2_with fail;refine ac.mono ?_;rintro e w2 ⟨g1,rfl,Y,g3⟩;have ag:bH _:=ab.out.turn HT.out g1 Y ae;have ah:bH (dv (rM Rb Mk t) w w2):=af.out.then g1.Df;clear ac g1 Y g3 ab af;go_wp2_with fail;refine(gw _).mono ?_;rintro e w' ⟨rfl,rfl⟩;have ai:=Lg HT.out 26 Rb Mk g S r1 [] gs es [] w2 ag.out hS hm (by simp) H4.out;go_wp2_with fail;refine ai.mono ?_;rintro e w3 ⟨rfl,g1,Y⟩;have U:bH _:=Y;have O:bH (dv (rM Rb Mk t) w w3):=ah.out.then g1;clear ai g1 Y ag ah;obtain⟨p,W,av,aj⟩:=U.out.rd;have c0:w3.cell? ⟨Rb,0,none⟩=some (.string S):=by rw[dh W]; rfl
 have c1:w3.cell? ⟨Rb,1,none⟩=some (.int .i64 p):=by rw[dh W]; rfl
 have c2:w3.cell? ⟨Rb,2,none⟩=some (.map (some Mk)):=by rw[dh W]; rfl
 have aw:((p:Int)==(S.size:Int))=true:=beq_iff_eq.2 (by
  have:=List.drop_eq_nil_iff.1 aj;simp at this
  omega)
 clear W aj;have aa:=λty:bB=>dM.len (dM.stay U.out.kn rfl:dM prog 9 w3.drew Mk ((sn (gs++es)).map QK)) bP ty;have ak:((sn (gs++es)).map QK).length=gs.length+es.length:=by simp
 rw[ak]at aa;obtain⟨N,hN⟩:∃N:Nat,N=gs.length+es.length:=⟨_,rfl⟩;rw[<-hN]at aa;have ax:N<=S.size:=by have:=U.out.qk; rw[aX]at this; omega
 have ay:0<N:=by omega
 have ar:(0:Int)<(N:Int):=by omega
 have al:N-ng<=30:=by omega
 have an:(ng:Int)<=100:=by omega
 have au:(N:Int)-(ng:Int)<=30:=by omega
 have ao:bH (dv (rM Rb Mk t) w w3.drew):=⟨O.out.os,O.out.tape,O.out.output,O.out.size,O.out.block⟩
 have ap:bH (RG w3.drew Rb Mk t S [] (gs++es)):=by
  have h:=U.out;exact⟨h.rd,dM.stay h.kn rfl,HT.out.stay h.sd λ_ _=>rfl,h.qk,h.ne⟩
 clear hN am ak h5;go_wp2_with fail;go_region_held3 (λw'=>w'.cell? ⟨Rb,0,none⟩=some (.string S)/\w'.cell? ⟨Rb,1,none⟩=some (.int .i64 p)) (go_keep) (first|(go_at_call 212; refine(gw _).mono ?_; rintro e w' ⟨rfl,rfl⟩));go_wp2_with fail;refine(gw _).mono ?_;rintro e w' ⟨rfl,rfl⟩;go_wp2_with fail;refine(gw _).mono ?_;rintro e w' ⟨rfl,rfl⟩;go_wp2_with fail;refine(gw _).mono ?_;rintro e w' ⟨rfl,rfl⟩;go_wp2;go_end0;exact⟨rfl,ao.out,ap.out⟩
theorem Hu(hT:t.Ok mx)(h:RG w Rb Mk t S rest [])(hS:S.size<=1099511627775)(hm:S.size<=mx)(hX:ji S.size rest=some (gs,es)) :
  b8 prog 158 #[.func (.func 159) #[.pointer (some ⟨Rb,0,none⟩)] #[]] w λe w'=>e=.returned (.bool true)/\dv (rM Rb Mk t) w w'/\t.T w' (gs++es):=by
 have al:∀(fn:Fn)(first cap:Array Value)(w:World),(Instr.makeFunc fn first cap).run prog w=.ok (.func fn first cap) w:=λ_ _ _ _=>rfl;obtain⟨w0,aa⟩:∃w0,w.alloc (.cells #[.bool false] 4)=w0:=⟨_,rfl⟩;have Y:Below w.heap.size w w0:=by rw[<-aa]; exact(bK _ _).alloc (bx _) _
 have ab:w0.heap[w.heap.size]?=some (.cells #[.bool false] 4 (0,0)):=by rw[<-aa]; exact b9 w _
 have ac:=h.below hT Y;have U:=CP hT ac hS hm hX;have HD:bH (∀k,t.P2 k->k<w.heap.size):=λk W=>hT.lt h.sd W
 have HZ:bH (¬rM Rb Mk t w.heap.size):=by
  rintro(W|W|W)
  .obtain⟨p,h1,_⟩:=h.rd;have:=eQ h1;omega
  .have:=h.kn.lt;omega
  .have:=HD.out _ (hT.sub _ W);omega
 have ad:bH (w0.heap[w.heap.size]?=some (.cells #[.bool false] 4 (0,0))):=ab;have ag:bH (dv (rM Rb Mk t) w w0):=dv.fC Y;have HT:bH _:=hT;clear h Y ab ac hX hT;go_enter_defers func158,ntmps158;go_wp2_with fail;refine U.mono ?_;rintro e w1 ⟨rfl,g1,g2⟩;have O:w1.heap[w.heap.size]?=some (.cells #[.bool false] 4 (0,0)):=by rw[g1.block _ (eQ ad.out) HZ.out]; exact ad.out
 have c1:w1.cell? ⟨w.heap.size,0,none⟩=some (.bool false):=by rw[dh O]; rfl
 have f1:w1.frozen? ⟨w.heap.size,0,none⟩=false:=dK O 0;have ah:bH (w1.heap[w.heap.size]?=some (.cells #[.bool false] 4 (0,0))):=O;have ae:bH _:=g2.sd;have ai:bH (dv (rM Rb Mk t) w w1):=ag.out.then g1;clear U g1 g2 O;go_wp2;refine leaves_cons (f:=210) (args:=#[.pointer (some ⟨w.heap.size,0,none⟩)]) (by simp) (by simp[go_sem]) ?_;refine(Iu _ _).mono ?_;rintro e u' w2 ⟨rfl,rfl,rfl⟩;have af:dv (· = w.heap.size) w1 (w1.setCell ⟨w.heap.size,0,none⟩ (.bool true)):=k7 rfl
 have aj:(w1.setCell ⟨w.heap.size,0,none⟩ (.bool true)).heap[w.heap.size]?=some (.cells #[.bool true] 4 (0,0)):=by
  rw[heap_set ah.out]; rfl
 have ak:(w1.setCell ⟨w.heap.size,0,none⟩ (.bool true)).cell? ⟨w.heap.size,0,none⟩=some (.bool true):=by rw[dh aj]; rfl
 refine⟨.bool true,?_,rfl,ai.out.trans af (λi hi hg=>by omega),HT.out.stay ae.out λk W=>af.block k (HT.out.lt ae.out W) (Nat.ne_of_lt (HD.out k W))⟩;simp[bE,results158,go_sem,ak]
theorem BM(W:t.Ok mx)(h:t.T w [])(hS:S.size<=1099511627775)(hm:S.size<=mx)(hX:ji S.size S.data.toList=some (gs,es)) :
  b8 prog 117 #[.string S,t.v] w λe w'=>e=.returned (.bool true)/\dv t.own w w'/\t.T w' (gs++es):=by
 have ah:=@bJ prog;have ai:∀(fn:Fn)(first cap:Array Value)(w:World),(Instr.makeFunc fn first cap).run prog w=.ok (.func fn first cap) w:=λ_ _ _ _=>rfl;obtain⟨w0,O⟩:∃w0,w.alloc (.map #[] 0)=w0:=⟨_,rfl⟩;have af:w0.heap.size=w.heap.size+1:=by rw[<-O]; simp
 obtain⟨w1,hw1⟩:∃w1,w0.alloc (.cells #[.string S,.int .i64 0,.map (some w.heap.size),t.v] 216)=w1:=⟨_,rfl⟩;have Y:Below w.heap.size w w0:=by rw[<-O]; exact(bK _ _).alloc (bx _) _
 have U:Below w.heap.size w w1:=by rw[<-hw1]; exact Y.alloc (by omega) _
 have aa:dM prog 9 w0 w.heap.size []:=by rw[<-O]; exact dM.made w
 have ab:dM prog 9 w1 w.heap.size []:=aa.stay (by rw[<-hw1]; exact bL _ _ _ (by omega));have ac:w1.heap[w.heap.size+1]?=some (.cells #[.string S,.int .i64 0,.map (some w.heap.size),t.v] 216 (0,0)):=by rw[<-hw1,<-af]; exact b9 w0 _
 have ad:RG w1 (w.heap.size+1) w.heap.size t S S.data.toList []:=
  ⟨⟨0,ac,bz _,rfl⟩,ab,W.stay h λk hk=>U.block k (W.lt h hk),by simp,λk hk=>by have:=W.lt h hk; omega⟩
 have ae:=Hu W ad hS hm hX
 have ag:bH (∀w',dv (rM (w.heap.size+1) w.heap.size t) w1 w'->dv t.own w w'):=λw' g=>(dv.fC U).trans g (λi hi hg=>by
  rcases hg with h|h|h
  .omega
  .omega
  .exact h)
 clear h Y U aa ab ac ad W hX;unfold DE.v at hw1⊢;have aj:∀(a:Addr)(w:World),(store a (.func (.func t.fn) #[] t.cp)).run prog w=stored prog w a (.func (.func t.fn) #[] t.cp) .plain:=λa w=>run_store prog w a _ .plain rfl;go_enter func117,ntmps117;go_wp2_with fail;refine ae.mono ?_;rintro e w2 ⟨rfl,g1,g2⟩;have HS:bH _:=g2;clear ae g2;go_wp2;go_ret;exact⟨rfl,ag.out _ g1,HS.out⟩
end
section
open Go.RowKit Go.Maps
def Ue(U O:Nat):DE where
 fn:=130
 cp:=#[.pointer (some ⟨U,0,none⟩)]
 own k:=k=O
 P2 k:=k=O\/k=U
 T w told:=w.heap[U]?=some (.cells #[.map (some O)] 85 (0,0))/\ey w O (sn told)
theorem Qp(W Y mx:Nat):(Ue W Y).Ok mx where
 gK:=⟨_,_,func130,rfl,by kernel_rfl⟩
 sub _ h:=Or.inl h
 lt:=by
  rintro w told k ⟨O,U⟩ (rfl|rfl)
  .exact dM.lt U
  .exact eQ O
 stay:=by
  rintro w w' told ⟨O,U⟩ h;exact⟨by rw[h W (Or.inr rfl)]; exact O,dM.stay U (h Y (Or.inl rfl))⟩
 tell:=by
  rintro w q told e ⟨O,U⟩ hn hl he _;refine(Nj W Y (sn told) e q w O U hn (by rw[aY]; exact hl) (by have:=he.1; unfold b7; omega)).mono ?_;rintro en w' ⟨rfl,g1,g2⟩;exact⟨rfl,⟨by rw[g2.block W (eQ O) (λk=>dM.nz U O k.symm)]; exact O,by rw[show sn (told++[(q,e)])=sn told++[e] by simp[sn]]; exact g1⟩,g2⟩
theorem FM{S:ByteArray}{gs es:List (Nat×dq)}(w:World)(hS:S.size<=1099511627775)(hX:ji S.size S.data.toList=some (gs,es)) :
  b8 prog 88 #[.string S] w λe w'=>Below w.heap.size w w'/\∃B,e=.returned (.tuple #[.map (some B),.bool true])/\w.heap.size<=B/\ey w' B (sn (gs++es)):=by
 have ah:=@bJ prog;have ai:∀(fn:Fn)(first cap:Array Value)(w:World),(Instr.makeFunc fn first cap).run prog w=.ok (.func fn first cap) w:=λ_ _ _ _=>rfl;obtain⟨w0,U⟩:∃w0,w.alloc (.map #[] 0)=w0:=⟨_,rfl⟩;have Y:w0.heap.size=w.heap.size+1:=by rw[<-U]; simp
 obtain⟨w1,W⟩:∃w1,w0.alloc (.cells #[.map (some w.heap.size)] 85)=w1:=⟨_,rfl⟩;have aa:Below w.heap.size w w0:=by rw[<-U]; exact(bK _ _).alloc (bx _) _
 have ab:Below w.heap.size w w1:=by rw[<-W]; exact aa.alloc (by omega) _
 have ac:ey w0 w.heap.size []:=by rw[<-U]; exact dM.made w
 have ad:ey w1 w.heap.size []:=dM.stay ac (by rw[<-W]; exact bL _ _ _ (by omega));have ae:w1.heap[w.heap.size+1]?=some (.cells #[.map (some w.heap.size)] 85 (0,0)):=by rw[<-W,<-Y]; exact b9 w0 _
 have af:=BM (Qp (w.heap.size+1) w.heap.size S.size) ⟨ae,ad⟩ hS (bx _) hX;have O:bH _:=ab;go_enter func88,ntmps88;go_wp2_with fail;refine af.mono ?_;rintro e w2 ⟨rfl,g1,g2,g3⟩
 have ag:bH (Below w.heap.size w w2):=by
  refine⟨g1.os.trans O.out.os,g1.tape.trans O.out.tape,g1.output.trans O.out.output,b2 O.out.size g1.size,λk hk=>?_⟩;rw[g1.block k (b5 hk O.out.size) (by show k≠_; omega),O.out.block k hk]
 have c2:w2.cell? ⟨w.heap.size+1,0,none⟩=some (.map (some w.heap.size)):=by rw[dh g2]; rfl
 have HS:bH _:=g3;go_wp2;go_ret2;exact⟨ag.out,_,rfl,bx _,HS.out⟩
end
section
open Go.RowKit Go.Maps
variable {e:dq} {l:List dq}
def yj(c:Nat):Value:=.map (some c)
structure JH(w:World)(v:Value)(Cs:List Nat)(ls:List (List dq)):Prop where
 rd:Rd w v (Cs.map yj)
 len:Cs.length=ls.length
 each:∀i(h:i<ls.length)(h':i<Cs.length),ey w Cs[i] ls[i]
theorem wO(O:List (List dq))(k:Nat)(h:k<O.length):fX (O.take (k+1))=dJ (fX (O.take k)) O[k]:=by
 rw[List.take_succ_eq_append_getElem h,fj]
theorem OQ(O:List (List dq))(k:Nat)(h:k<O.length):O[k].length<=iy O:=by
 have U:=xS O k h;have W:=DW O (k+1);omega
theorem uU(O:List (List dq))(k:Nat)(U:k<=O.length):(fX (O.take k)).length<=iy O:=by
 have W:=FB O k U;have Y:=DW O k;rw[zN]at W;omega
theorem zc(v:Value)(Cs:List Nat)(O:List (List dq))(w:World)(h:JH w v Cs O)(ak:iy O<=536870912)(ad:∀l∈O,∀e∈l,e.name.length<=b7) :
  b8 prog 58 #[v] w λen w'=>∃B,en=.returned (.map (some B))/\w.heap.size<=B/\ey w' B (fX O)/\Below w.heap.size w w':=by
 have al:=@bJ prog;obtain⟨a,cap,rfl,ah,hcm,ae⟩:=id h.rd;have af:(Cs.map yj).length=O.length:=by rw[aY,h.len]
 rw[af]at ah⊢;have am:=Mj O;unfold b7 at hcm;obtain⟨w0,ab⟩:∃w0,w.alloc (.map #[] 0)=w0:=⟨_,rfl⟩;have an:w0.heap.size=w.heap.size+1:=by rw[<-ab]; simp
 have hb0:Below w.heap.size w w0:=by rw[<-ab]; exact(bK _ _).alloc (bx _) _
 have hM0:ey w0 w.heap.size []:=by rw[<-ab]; exact dM.made w
 have HL:bH (JH w (.slice a (Cs.map yj).length cap) Cs O):=h;have ai:bH (∀j u,(Cs.map yj)[j]?=some u->∃b off,a=some ⟨b,off,none⟩/\w.cell? ⟨b,off+j,none⟩=some u):=ae;have aj:bH (∀l∈O,∀e∈l,e.name.length<=b7):=ad;clear h ae af ad;go_enter func58,ntmps58;go_wp2;go_loopw [9] (λi wr=>∃k:Nat,k<=O.length/\i=.int .i64 k/\ey wr w.heap.size (fX (O.take k))/\Below w.heap.size w wr) (λi _=>O.length-(intOf i).toNat)
 case atStart=>exact⟨0,bz _,rfl,hM0,hb0⟩
 case round=>
  obtain⟨k,hk,rfl,hm,hb⟩:=hrel;have HM:bH (ey wr w.heap.size (fX (O.take k))):=hm;have Y:bH (Below w.heap.size w wr):=hb;clear hm hb;by_cases U:k<O.length
  .have ag:k<Cs.length:=by rw[HL.out.len]; exact U
   obtain⟨bb,off,rfl,W⟩:=ai.out k (yj Cs[k]) (by simp[ag]);have hc:=b' Y.out W;unfold yj at hc;have ac:=HL.out.each k U ag;have ao:=dM.lt ac;have aa:=Ps w.heap.size Cs[k] (fX (O.take k)) O[k] wr HM.out (dM.below ac Y.out) (by omega) (by have:=OQ O k U; omega) (by have:=uU O k hk; omega) (aj.out _ (bd U));rw[<-wO O k U]at aa;clear W ac;go_wp2_with fail;refine aa.mono ?_;rintro e w1 ⟨rfl,q1,q2⟩;have HM1:bH (ey w1 w.heap.size (fX (O.take (k+1)))):=q1
   have HB1:bH (Below w.heap.size w w1):=by
    refine⟨q2.os.trans Y.out.os,q2.tape.trans Y.out.tape,q2.output.trans Y.out.output,b2 Y.out.size q2.size,λi hi=>?_⟩;rw[q2.block i (b5 hi Y.out.size) (by omega),Y.out.block i hi]
   go_wp2;go_roundw
   case rel=>exact⟨k+1,by omega,by go_num,HM1.out,HB1.out⟩
   case measure=>simp[intOf]; omega
  .have HE:bH (O.take k=O):=bo (by omega);go_wp2;go_ret;refine⟨_,rfl,bx _,?_,Y.out⟩;have:=HM.out;rw[HE.out]at this;exact this
theorem Qk(h:Pz e):Jg e:=by
 rcases h with h|h
 .have O:=gI h.2.1;have W:=jc h.2.2.1;have Y:=h.2.2.2.2;exact⟨by omega,by omega,⟨by omega,by omega⟩,by omega,by omega⟩
 .have O:=gI h.2;have U:e.text=[]:=by rw[h.1]
  have e2:e.du=0:=by rw[h.1]
  have e3:e.dD=0:=by rw[h.1]
  exact⟨by omega,by rw[U]; simp,⟨by omega,by omega⟩,by omega,by omega⟩
theorem qY(h:Pz e):iL e.name=true:=by
 rcases h with h|h
 .exact h.2.1
 .exact h.2
theorem GJ(l:List dq)(h:∀e∈l,e.name.length<=8):(l.flatMap λe=>dL e.name).length<=l.length*9:=by
 induction l with
 |nil=>simp
 |cons e l O=>
  rw[List.flatMap_cons,aX];have U:=O (λx W=>h x (bj _ W));have Y:=h e (ba ..);simp only[dL,bg]at U⊢;omega
theorem rC(h:ni l):(dX l).length<=3000000000:=by
 unfold dX
 have W:((fo l).filter λe=>e.gone).length<=100:=by
  rw[((fS l).filter _).length_eq];exact h.gone
 have Y:((fo l).filter λe=>!e.gone).length<=30:=by
  rw[((fS l).filter _).length_eq];exact h.there
 have h1:=GJ ((fo l).filter λe=>e.gone) (λe O=>(gI (qY (h.each e (mV.1 (bk.1 O).1)))).2);have h2:=N4 26 [] ((fo l).filter λe=>!e.gone) (λe O=>Qk (h.each e (mV.1 (bk.1 O).1)));have U:(dL []).length=1:=rfl;simp only[bg,aX,U];omega
theorem qR(h:ni l):∀e∈l,e.name.length<=b7:=λe O=>by
 have:=(gI (qY (h.each e O))).2;unfold b7;omega
theorem mT(h:ni l):l.length<=130:=by
 have O:=jv l;have U:=h.gone;have W:(dx l).length<=30:=h.there;omega
theorem ox(s:List dq)(w:World)(h:ni s) :
  b8 prog 73 #[.string ⟨(dX s).toArray⟩] w λU w'=>∃B,U=.returned (.map (some B))/\w.heap.size<=B/\ey w' B s/\Below w.heap.size w w':=by
 have hl:=rC h;obtain⟨gs,es,W,Y⟩:=y6 h;obtain⟨ps,qs,O,e1,e2,_⟩:=Bq W;have hu:=FM (S:=⟨(dX s).toArray⟩) w (by show(dX s).toArray.size<=_; simp; omega) O;have HP:bH ((sn (ps++qs)).Perm s):=by rw[show sn _=sn ps++sn qs from bc,e1,e2]; exact Y
 go_enter func73,ntmps73;go_wp2_with fail;refine hu.mono ?_;rintro e w1 ⟨hb,B,rfl,hB,hs⟩;have HS:bH _:=ey.perm hs HP.out;have HB:bH _:=hb;go_wp2;go_ret;exact⟨B,rfl,hB,HS.out,HB.out⟩
end
section
open Go.RowKit Go.Maps
variable {ss:List (List dq)} {buf:List dq}
theorem QO:(prog.info? 85).map (λi=>(i.zero,i.size,i.bytes))=some (some (.map none),1,8):=by kernel_rfl
structure Ac(w:World)(F:Nat->Prop)(b:Nat)(buf:List dq)(ss:List (List dq))(Bb:Nat)(vS vM vK:Value):Prop where
 blk:w.heap[b]?=some (.cells #[.map (some Bb),vS,vM,vK] 90 (0,0))
 fb:F b
 fB:F Bb
 say:ey w Bb buf
 row:w.ownsRow 0 9 1 vS ss.length (dp (ss.map dX))
 kX:∀k,vS.ownBlock=some k->F k
 inv:Inv buf ss
theorem pY{w:World}{base e n:Nat}{v:Value}{xs:List Value}(U:w.ownsRow base e 1 v n xs){P:Program}{k:bB}{B:Nat}{l:List (Wd×Value)}(hm:dM P k w B l):some B≠v.ownBlock:=by
 rcases U.2 with⟨rfl,_⟩|⟨g,cap,W,rfl,_,Y,_⟩
 .simp[Value.ownBlock]
 .intro O;simp only[Value.ownBlock,cb]at O;exact hm.nz Y O
theorem rK(h:Inv buf ss):buf.length<=130:=by
 have U:=jv buf;have W:=h.gone;have O:=h.all;rw[fP,fj]at O;have Y:=lu (fX ss) buf;omega
theorem Lj(ss:List (List dq))(h:∀s∈ss,ni s):iy ss<=ss.length*131:=by
 induction ss with
 |nil=>simp[iy]
 |cons s ss O=>
  have U:=O (λx W=>h x (bj _ W));have Y:=mT (h s (ba ..));simp only[iy,bn,List.sum_cons,bg]at U⊢;omega
theorem F5(a b:List (List dq)):iy (a++b)=iy a+iy b:=by simp[iy]
theorem OW(h:Inv buf ss):iy (ss++[buf])<=1000:=by
 have O:=Lj ss h.jf;have U:=h.qk;have W:=rK h;rw[F5];have:iy [buf]=buf.length+1:=by simp[iy]
 omega
theorem Bi(h:Inv buf ss):∀l∈ss++[buf],∀e∈l,e.name.length<=b7:=by
 intro l W e U;rcases List.mem_append.1 W with O|O
 .exact qR (h.jf l O) e U
 .simp only[bs]at O;subst O;have:=(gI (qY (h.each e U))).2;unfold b7;omega
theorem vN{O:List (List dq)}(h:∀l∈O,∀e∈l,e.name.length<=b7):∀e∈fX O,e.name.length<=b7:=by
 have:∀(O:List _)(a:List dq),(∀e∈a,e.name.length<=b7)->(∀l∈O,∀e∈l,e.name.length<=b7)->∀e∈O.foldl dJ a,e.name.length<=b7:=by
  intro O
  induction O with
  |nil=>intro a U _ e W; exact U e W
  |cons l O ih=>
   intro a U hl e W;refine ih _ (λx hx=>?_) (λm hm=>hl m (bj _ hm)) e W;rcases kL.1 hx with Y|Y
   .exact U x Y.1
   .exact hl l (ba ..) x Y
 exact this O [] (nofun) h
theorem zS(F:Nat->Prop)(b:Nat)(buf:List dq)(ss:List (List dq))(Bb:Nat)(vS vM vK:Value)(w:World)(h:Ac w F b buf ss Bb vS vM vK) :
  b8 prog 59 #[.pointer (some ⟨b,0,none⟩)] w λen w'=>∃C,en=.returned (.map (some C))/\w.heap.size<=C/\ey w' C (eO ss buf)/\Below w.heap.size w w':=by
 obtain⟨i0,hi,ah,ai,aj⟩:=bG QO;obtain⟨aS,cS,rfl,aE⟩:=dN h.row;have ak:=Rd.jl h.row;have az:w.cell? ⟨b,0,none⟩=some (.map (some Bb)):=by rw[dh h.blk]; rfl
 have aF:w.cell? ⟨b,1,none⟩=some (.slice aS ss.length cS):=by rw[dh h.blk]; rfl
 have h6:=h.inv.qk
 have HR:bH (∀j(hj:j<ss.length),∃bb off,aS=some ⟨bb,off,none⟩/\w.cell? ⟨bb,off+j,none⟩=some (.string ⟨(dX ss[j]).toArray⟩)):=by
  intro j hj;obtain⟨a',c',he,_,_,hr⟩:=ak;simp only[Value.slice.injEq]at he;obtain⟨rfl,_,rfl⟩:=he;exact hr j _ (by simp[dp,hj])
 have HP:bH _:=h;clear h ak;go_enter func59,ntmps59;go_wp2;go_loopw [3,11] (λv i wr=>∃(k:Nat)(Cs:List Nat),k<=ss.length/\i=.int .i64 k/\Cs.length=k/\wr.ownsRow w.heap.size 85 1 v k (Cs.map yj)/\(∀i(h:i<k)(h':i<Cs.length)(h2:i<ss.length),ey wr Cs[i] ss[i]/\w.heap.size<=Cs[i])/\Below w.heap.size w wr) (λ_ i _=>ss.length-(intOf i).toNat)
 case atStart=>exact⟨0,[],bz _,rfl,rfl,World.ownsRow_nil _ _ _ _,λi h=>by omega,bK _ _⟩
 case round=>
  obtain⟨k,Cs,hk,rfl,hCl,U,aa,hb⟩:=hrel;have HB:bH _:=hb;have hz:=hb.size;have HE:bH _:=aa;clear aa hb;by_cases al:k<ss.length
  .obtain⟨bb,off,rfl,ab⟩:=HR.out k al;have hc:=b' HB.out ab;have am:=ox ss[k] wr (HP.out.inv.jf _ (bd al));clear ab;go_wp2_with fail;refine am.mono ?_;rintro e w1 ⟨C,rfl,hC,hs,ac⟩;have aC:=ac.size;have Y:w1.ownsRow w.heap.size 85 1 _ k (Cs.map yj):=eF U (λj hj=>ac.block j (U.lt j hj).2);have an:bH (ey w1 C ss[k]/\wr.heap.size<=C):=⟨hs,hC⟩;have a0:bH (Below w.heap.size w w1):=HB.out.trans (ac.mono hz);have a3:bH _:=ac;clear am hs ac
   go_wp2_with (first
    |(at_builtin; refine fp _ rfl _ _ 136 rfl w.heap.size 85 i0 (.map none) 8 bT hi ah ai aj rfl _ _ _ rfl (Y.alloc _) ⟨w1.heap.size,0,none⟩ _ rfl iH rfl ?c1 ?c2 ?c3 ?_))
   case c1=>omega
   case c2=>unfold b7; omega
   case c3=>first|omega|(simp; omega)
   intro v' w2 W O _
   have HW2:bH (w2.ownsRow w.heap.size 85 1 v' (k+1) ((Cs++[C]).map yj)):=by
    show w2.ownsRow _ _ _ _ _ _;rw[bc];exact W
   have HB2:bH (Below w.heap.size w w2):=(a0.out.alloc (by omega) _).grown O (by simp; omega) (λb hb=>(U.lt b hb).1)
   have HE2:bH (∀i(h:i<k+1)(h':i<(Cs++[C]).length)(h2:i<ss.length),ey w2 (Cs++[C])[i] ss[i]/\w.heap.size<=(Cs++[C])[i]):=by
    intro i h h' h2
    have key:∀(D:Nat)(l:List dq),ey w1 D l->ey w2 D l:=λD l hm=>by
     have ad:ey (w1.alloc (.cells #[.map (some C)] 85)) D l:=dM.kept hm (bY _ _ none) (by simp);exact dM.kept ad O (pY (Y.alloc _) ad)
    by_cases ae:i<k
    .rw[bi (by omega)];have hh:=HE.out i ae (by omega) h2;exact⟨key _ _ (dM.below hh.1 a3.out),hh.2⟩
    .have ao:i=k:=by omega
     subst ao;rw[bh (by omega)];simp only[hCl,Nat.sub_self,List.getElem_cons_zero];exact⟨key _ _ an.out.1,b2 hz an.out.2⟩
   obtain⟨a',c',rfl,aG⟩:=dN HW2.out;clear W O U Y;go_wp2;go_roundw
   case rel=>exact⟨k+1,Cs++[C],by omega,by go_num,by simp[hCl],HW2.out,HE2.out,HB2.out⟩
   case measure=>simp[intOf]; omega
  .have a4:k=ss.length:=by omega
   subst a4;have aD:=b' HB.out az
   go_wp2_with (first
    |(at_builtin; refine fp _ rfl _ _ 136 rfl w.heap.size 85 i0 (.map none) 8 bT hi ah ai aj rfl _ _ _ rfl (U.alloc _) ⟨wr.heap.size,0,none⟩ _ rfl iH rfl ?c1 ?c2 ?c3 ?_))
   case c1=>omega
   case c2=>unfold b7; omega
   case c3=>first|omega|(simp; omega)
   intro v' w2 W O _;have ap:Below w.heap.size w w2:=(HB.out.alloc hz _).grown O (by simp; omega) (λb hb=>(U.lt b hb).1)
   have aq:JH w2 v' (Cs++[Bb]) (ss++[buf]):=by
    refine⟨?_,by simp[hCl],λi h h'=>?_⟩
    .rw[bc];exact Rd.jl W
    .have key:∀(D:Nat)(l:List dq),ey wr D l->ey w2 D l:=λD l hm=>by
      have ad:ey (wr.alloc (.cells #[.map (some Bb)] 85)) D l:=dM.kept hm (bY _ _ none) (by simp);exact dM.kept ad O (pY (U.alloc _) ad)
     by_cases ae:i<ss.length
     .have e1:(Cs++[Bb])[i]=Cs[i]'(by omega):=bi (by omega);have e2:(ss++[buf])[i]=ss[i]:=bi ae;rw[e1,e2];exact key _ _ (HE.out i ae (by omega) ae).1
     .have a5:i=ss.length:=by simp at h; omega
      subst a5;have h9:=h';have e1:(Cs++[Bb])[ss.length]'h9=Bb:=by rw[bh (by omega)]; simp[hCl]
      have e2:(ss++[buf])[ss.length]'h=buf:=by rw[bh (by omega)]; simp
      rw[e1,e2];exact key _ _ (dM.below HP.out.say HB.out)
   have a6:=OW HP.out.inv;have af:=Bi HP.out.inv;have ar:=zc v' (Cs++[Bb]) (ss++[buf]) w2 aq (by omega) af;have HB2:bH _:=ap;have a7:bH _:=af
   have a8:bH ((fX (ss++[buf])).length<=1000):=by
    show _<=_;have:=uU (ss++[buf]) (ss++[buf]).length (bx _);rw[List.take_length]at this;omega
   clear W O U aq ap af a6;go_wp2_with fail;refine ar.mono ?_;rintro e w3 ⟨B3,rfl,aH,au,av⟩;have aw:=qW B3 (fX (ss++[buf])) w3 au (by have:=a8.out; omega) (vN a7.out);have ag:bH (Below w.heap.size w w3):=HB2.out.trans (av.mono HB2.out.size);clear ar au av;go_wp2_with fail;refine aw.mono ?_;rintro e w4 ⟨C,rfl,hC,ax,ay⟩;have a9:bH (ey w4 C (eO ss buf)):=by show ey _ _ _; rw[fP]; exact ax
   have aA:bH (Below w.heap.size w w4):=ag.out.trans (ay.mono ag.out.size);have aB:w.heap.size<=C:=b2 ag.out.size hC;clear aw ax ay;go_wp2;go_ret;exact⟨C,rfl,aB,a9.out,aA.out⟩
end
section
open Go.RowKit
variable {row:List Nat} {i n z:Nat} {c:UInt8} {q:Wd}
def jV(q:Wd)(c:UInt8)(row:List Nat)(z n i:Nat):List Nat:=gU q c row z i++bl (n-i) 0
theorem BO(h:i<=n):(jV q c row z n i).length=n+1:=by
 unfold jV;rw[aX,j0,List.length_replicate]; omega
theorem Ku:(jV q c row z n i).getD i 0=(gU q c row z i).getD i 0:=by
 unfold jV;rw[aV,aV,bm (by rw[j0]; omega)]
theorem xT{m:Nat}(h:i<n)(hm:m=min (min (row.getD i 0+(if q.getD i 0=c then 0 else 1)) (row.getD (i+1) 0+1)) ((gU q c row z i).getD i 0+1)) :
  (dY (jV q c row z n i)).set (i+1) (.int .i64 (m:Int))=dY (jV q c row z n (i+1)):=by
 have e:n-i=(n-(i+1))+1:=by omega
 have O:jV q c row z n (i+1)=(jV q c row z n i).set (i+1) m:=by
  unfold jV;rw[List.set_append_right _ _ (by rw[j0]; omega),j0,e,bq,gU,<-hm];simp
 rw[O];unfold dY;rw[List.map_set]
theorem LN(q:Wd)(c:UInt8)(row:List Nat)(z n:Nat):jV q c row z n n=gU q c row z n:=by simp[jV]
theorem Ih(q:Wd)(c:UInt8)(row:List Nat)(z n:Nat):(dY (bl (n+1) 0)).set 0 (.int .i64 (z:Int))=dY (jV q c row z n 0):=by
 simp[jV,gU,dY,bq]
theorem Hr(row:List Nat)(O:ByteArray)(c:UInt8)(v:Value)(w:World)(hq:O.size<=1048576)(hv:Rd w v (dY row))(hl:row.length=O.size+1)(aq:∀x∈row,x<=2097152) :
  b8 prog 270 #[v,.string O,.int .u8 c.toNat] w λe w'=>∃g,e=.returned (.slice (some ⟨g,0,none⟩) (O.size+1) (O.size+1))/\w'.ownsRow w.heap.size 3 1 (.slice (some ⟨g,0,none⟩) (O.size+1) (O.size+1)) (O.size+1) (dY (gU O.data.toList c row (row.getD 0 0+1) O.size))/\Below w.heap.size w w':=by
 obtain⟨i3,a7,a8,a9,hy2⟩:=bG Rx;have ac:bH (row.length=O.size+1):=hl;have ae:bH (∀x∈row,x<=2097152):=aq;obtain⟨aQ,cQ,rfl,_,_,ar⟩:=hv;have aj:bH (∀j u,(dY row)[j]?=some u->∃b off,aQ=some ⟨b,off,none⟩/\w.cell? ⟨b,off+j,none⟩=some u):=ar;have au:(dY row).length=O.size+1:=by rw[yN,hl]
 rw[au];clear ar hl aq au;obtain⟨bQ,oQ,rfl,qz⟩:=aj.out 0 _ (iN row 0 (by rw[ac.out]; omega));rw[Nat.add_zero]at qz;obtain⟨Y,ak⟩:∃Y,Y=row.getD 0 0:=⟨_,rfl⟩;have aF:Y<=2097152:=by rw[ak,aV,be (by rw[ac.out]; omega)]; exact ae.out _ (bd _)
 rw[<-ak]at qz⊢;clear ak;have aN:(0:Int)<(O.size:Int)+1:=by omega
 have aO:bQ<w.heap.size:=World.block_lt_of_cell? w _ qz;go_enter func270,ntmps270;go_wp2_with (at_make; go_must (refine wpList_make_full _ rfl _ _ 26 rfl w.heap.size 3 i3 (.int .i64 0) 1 underlying26 a7 a8 a9 .i64 .i64 _ _ (O.size+1) rfl rfl rfl rfl ?m1 ?m2 ?m3 ?_))
 case m1=>rw[hy2]; omega
 case m2=>unfold b7; omega
 case m3=>exact bx _
 intro w5 ad av;have al:bH (Below w.heap.size w w5):=(bK _ _).grown av (bx _) (by simp);have e:(madeCells #[Value.int .i64 0] (O.size+1)).toList=dY (bl (O.size+1) 0):=AF _;rw[e]at ad;have a':=b' al.out qz;obtain⟨bt,ot,aa,ai⟩:=iZ ad 0 _ (iN _ 0 (by simp));simp only[cb,cd]at aa;obtain⟨rfl,rfl,_⟩:=aa;rw[b3]at ai;have aw:=qC ad 0
 have HT6:bH ((w5.setCell ⟨w.heap.size,0,none⟩ (.int .i64 ((Y:Int)+1))).ownsRow w.heap.size 3 1 (.slice (some ⟨w.heap.size,0,none⟩) (O.size+1) (O.size+1)) (O.size+1) (dY (jV O.data.toList c row (Y+1) O.size 0))):=by
  show bZ _ _ _ _ _ _ _;rw[<-Ih];have h:=xD ad 0 (.int .i64 ((Y+1:Nat):Int)) (by omega);simpa using h
 have HB6:bH (Below w.heap.size w (w5.setCell ⟨w.heap.size,0,none⟩ (.int .i64 ((Y:Int)+1)))):=by exact bM al.out (bx _) _
 clear ad av e;go_wp2;go_loopw [22] (λiv wr=>∃i:Nat,i<=O.size/\iv=.int .i64 i/\wr.ownsRow w.heap.size 3 1 (.slice (some ⟨w.heap.size,0,none⟩) (O.size+1) (O.size+1)) (O.size+1) (dY (jV O.data.toList c row (Y+1) O.size i))/\Below w.heap.size w wr) (λi _=>O.size-(intOf i).toNat)
 case atStart=>exact⟨0,bz _,rfl,HT6.out,HB6.out⟩
 case round=>
  obtain⟨i,hi,rfl,U,ab⟩:=hrel;by_cases am:i<O.size
  .have aG:(i:Int)<(O.size:Int):=by omega
   have aH:(i:Int)<(O.size:Int)+1:=by omega
   have aI:(i:Int)+1<(O.size:Int)+1:=by omega
   have aP:(0:Int)<=(i:Int)+1:=by omega
   obtain⟨r0,af⟩:∃r0,r0=row.getD i 0:=⟨_,rfl⟩;obtain⟨W,ag⟩:∃W,W=row.getD (i+1) 0:=⟨_,rfl⟩;obtain⟨x,hx⟩:∃x,x=(gU O.data.toList c row (Y+1) i).getD i 0:=⟨_,rfl⟩;have aJ:r0<=2097152:=by rw[af,aV,be (by rw[ac.out]; omega)]; exact ae.out _ (bd _)
   have aK:W<=2097152:=by rw[ag,aV,be (by rw[ac.out]; omega)]; exact ae.out _ (bd _)
   have aR:x<=4194304:=by
    rw[hx,aV,be (by rw[j0]; omega)];exact tr _ _ row (Y+1) 4194304 (by omega) (λy hy=>by have:=ae.out y hy; omega) i (by rw[ac.out]; omega) _ (bd _)
   obtain⟨b0,o0,ax,q0⟩:=aj.out i _ (iN row i (by rw[ac.out]; omega));simp only[cb,cd]at ax;obtain⟨rfl,rfl,_⟩:=ax;obtain⟨b1,o1,ay,q1⟩:=aj.out (i+1) _ (iN row (i+1) (by rw[ac.out]; omega));simp only[cb,cd]at ay;obtain⟨rfl,rfl,_⟩:=ay;have p0:=b' ab q0;have p1:=b' ab q1;rw[<-af]at p0;rw[<-ag]at p1;obtain⟨bt,ot,aa,an⟩:=iZ U i _ (iN _ i (by rw[BO hi]; omega));simp only[cb,cd]at aa;obtain⟨rfl,rfl,_⟩:=aa;rw[b3,Ku,<-hx]at an;obtain⟨bt,ot,aa,ao⟩:=iZ U (i+1) _ (iN _ (i+1) (by rw[BO hi]; omega));simp only[cb,cd]at aa;obtain⟨rfl,rfl,_⟩:=aa;rw[b3]at ao;obtain⟨ov,aS⟩:∃ov:Int,wr.cell? ⟨w.heap.size,i+1,none⟩=some (.int .i64 ov):=⟨_,ao⟩;have aT:=qC U (i+1);have az:bH (row.getD i 0=r0):=af.symm;have a0:bH (row.getD (i+1) 0=W):=ag.symm;have a3:bH ((gU O.data.toList c row (Y+1) i).getD i 0=x):=hx.symm;have aU:IntKind.i64.wrap ((i:Int)+1)=(i:Int)+1:=JS _ _ rfl (by omega) (by omega);have aL:IntKind.i64.wrap ((W:Int)+1)=(W:Int)+1:=JS _ _ rfl (by omega) (by omega);have aM:IntKind.i64.wrap ((x:Int)+1)=(x:Int)+1:=JS _ _ rfl (by omega) (by omega);have a4:bH (O.data.toList.getD i 0=O[i]):=lq O i am;have a5:bH (wr.ownsRow w.heap.size 3 1 (.slice (some ⟨w.heap.size,0,none⟩) (O.size+1) (O.size+1)) (O.size+1) (dY (jV O.data.toList c row (Y+1) O.size i))):=U;have aA:bH (Below _ _ _):=ab;clear q0 q1 af ag hx U ab ao HT6 HB6 al ai aw a';by_cases hc:O[i]=c
   case' pos=>
    have aB:((O[i].toNat:Int)==(c.toNat:Int))=true:=by rw[vZ,hc]; simp
    have ap:bH ((if O.data.toList.getD i 0=c then 0 else 1)=0):=by show _=_; rw[a4.out,if_pos hc]
    have HM:bH (∀m:Nat,m=min (min (r0) (W+1)) (x+1)->(dY (jV O.data.toList c row (Y+1) O.size i)).set (i+1) (.int .i64 (m:Int))=dY (jV O.data.toList c row (Y+1) O.size (i+1))):=λm hm=>xT am (by rw[az.out,a0.out,a3.out,ap.out]; omega);clear hc;go_wp2
   case' neg=>
    have aB:((O[i].toNat:Int)==(c.toNat:Int))=false:=by rw[vZ]; simpa using hc
    have ap:bH ((if O.data.toList.getD i 0=c then 0 else 1)=1):=by show _=_; rw[a4.out,if_neg hc]
    have HM:bH (∀m:Nat,m=min (min (r0+1) (W+1)) (x+1)->(dY (jV O.data.toList c row (Y+1) O.size i)).set (i+1) (.int .i64 (m:Int))=dY (jV O.data.toList c row (Y+1) O.size (i+1))):=λm hm=>xT am (by rw[az.out,a0.out,a3.out,ap.out]; omega);clear hc;go_wp2
   all_goals
    have s0:(wr.drew).cell? ⟨bQ,oQ+(i+1),none⟩=some (.int .i64 W):=p1;have s1:(wr.drew).cell? ⟨w.heap.size,i,none⟩=some (.int .i64 x):=an;refine bA (S:=λw'=>w'.cell? ⟨bQ,oQ+(i+1),none⟩=some (.int .i64 W)/\w'.cell? ⟨w.heap.size,i,none⟩=some (.int .i64 x)) (by kernel_rfl) ?_;refine fR 0 ?_ ⟨s0,s1⟩ ?_<|fR 1 ?_ ⟨s0,s1⟩ ?_<|fR 2 ?_ ⟨s0,s1⟩ ?_<|fR 3 ?_ ⟨s0,s1⟩ ?_<|fR 4 ?_ ⟨s0,s1⟩ ?_<|fR 5 ?_ ⟨s0,s1⟩ ?_<|fR 6 ?_ ⟨s0,s1⟩ ?_<|fR 7 ?_ ⟨s0,s1⟩ ?_<|fR 8 ?_ ⟨s0,s1⟩ ?_<|fR 9 ?_ ⟨s0,s1⟩ ?_<|fR 10 ?_ ⟨s0,s1⟩ ?_<|fR 11 ?_ ⟨s0,s1⟩ ?_<|fR 12 ?_ ⟨s0,s1⟩ ?_<|fR 13 ?_ ⟨s0,s1⟩ ?_<|fR 14 ?_ ⟨s0,s1⟩ ?_<|fR 15 ?_ ⟨s0,s1⟩ ?_<|fR 16 ?_ ⟨s0,s1⟩ ?_ ?_
    any_goals(rintro w' ⟨t0,t1⟩; go_simp; first|done|with_reducible rfl)
    refine l8 17 λK' a6=>?_;unfold Oper.wp;go_simp
   case' pos=>
    obtain⟨m,hm⟩:∃m:Nat,m=min (min (r0) (W+1)) (x+1):=⟨_,rfl⟩
    have ah:(if(x:Int)+1<(if(W:Int)+1<(r0:Int)then(W:Int)+1 else(r0:Int))then(x:Int)+1 else(if(W:Int)+1<(r0:Int)then(W:Int)+1 else(r0:Int)))=(m:Int):=by
     rw[hm];split<;>split at * <;> omega
    rw[ah]
   case' neg=>
    obtain⟨m,hm⟩:∃m:Nat,m=min (min (r0+1) (W+1)) (x+1):=⟨_,rfl⟩
    have ah:(if(x:Int)+1<(if W<r0 then(W:Int)+1 else((r0:Int)+1))then(x:Int)+1 else(if W<r0 then(W:Int)+1 else((r0:Int)+1)))=(m:Int):=by
     rw[hm];split<;>split at * <;> omega
    rw[ah]
   all_goals
    have HO8:bH ((wr.setCell ⟨w.heap.size,i+1,none⟩ (.int .i64 m)).drew.ownsRow w.heap.size 3 1 (.slice (some ⟨w.heap.size,0,none⟩) (O.size+1) (O.size+1)) (O.size+1) (dY (jV O.data.toList c row (Y+1) O.size (i+1)))):=by
     show bZ _ _ _ _ _ _ _;rw[<-HM.out m hm];exact xD a5.out (i+1) (.int .i64 m) (by omega)
    have HB8:bH (Below w.heap.size w (wr.setCell ⟨w.heap.size,i+1,none⟩ (.int .i64 m)).drew):=(bM aA.out (bx _) _).drew;refine a6 _ _ ⟨⟨?_,?_⟩,bF (by kernel_rfl) ?_ _⟩
    .show(wr.setCell ⟨w.heap.size,i+1,none⟩ (.int .i64 m)).cell? _=_;rw[World.cell?_setCell_far _ _ _ _ (by show w.heap.size≠bQ; omega)];exact p1
    .show(wr.setCell ⟨w.heap.size,i+1,none⟩ (.int .i64 m)).cell? _=_;rw[World.cell?_setCell_other _ _ _ _ (by intro e; simp at e)];exact an
    clear a6 ah hm;go_wp2;go_roundw
    case rel=>exact⟨i+1,by omega,by go_num,HO8.out,HB8.out⟩
    case measure=>simp[intOf]; omega
  .have aC:i=O.size:=by omega
   subst aC
   have aD:bH (wr.ownsRow w.heap.size 3 1 (.slice (some ⟨w.heap.size,0,none⟩) (O.size+1) (O.size+1)) (O.size+1) (dY (gU O.data.toList c row (Y+1) O.size))):=by
    rw[<-LN];exact U
   have aE:bH _:=ab;go_wp2;go_ret;exact⟨w.heap.size,rfl,aD.out,aE.out⟩
end
section
open Go.RowKit
theorem FX(a:Wd)(c:UInt8)(row:List Nat)(z:Nat):∀i,(gU a c row z i).getD 0 0=z:=by
 intro i
 induction i with
 |zero=>rfl
 |succ i O=>
  rw[gU,aV,bm (by rw[j0]; omega)];exact O
theorem Ii(a s:Wd)(k:Nat):(jI a s k).getD 0 0=k:=by
 cases k with
 |zero=>simp[jI]
 |succ k=>rw[jI,FX]
theorem qi(O U:ByteArray)(most:Nat)(w:World)(av:1<=most)(aw:most<=2)(hq:O.size<=1048576)(hs:U.size<=1048576) :
  b8 prog 242 #[.string O,.string U,.int .i64 most] w λe w'=>e=.returned (.bool (jo (most+1) O.data.toList U.data.toList))/\Below w.heap.size w w':=by
 have af:O.data.toList.length=O.size:=by simp
 have Y:bH (O.data.toList.length=O.size):=af
 have HF:bH (jo (most+1) O.data.toList U.data.toList=(List.range (U.size+1)).any λk=>decide (wz O.data.toList U.data.toList k<most+1)):=by
  show _=_;unfold jo;rw[if_neg (by omega),if_neg (by omega)];simp
 clear af;go_enter func242,ntmps242;go_wp2_with fail;refine(xe O w hq).mono ?_;rintro e w1 ⟨g1,rfl,ag,ah⟩
 have HO1:bH (w1.ownsRow w.heap.size 3 1 (.slice (some ⟨g1,0,none⟩) (O.size+1) (O.size+1)) (O.size+1) (dY (jI O.data.toList U.data.toList 0))):=by
  show bZ _ _ _ _ _ _ _;rw[jI,Y.out];exact ag
 have HB1:bH (Below _ _ _):=ah;clear ag ah;go_wp2;go_loopw [7,13] (λv iv wr=>∃(k g:Nat),k<=U.size/\iv=.int .i64 k/\v=.slice (some ⟨g,0,none⟩) (O.size+1) (O.size+1)/\wr.ownsRow w.heap.size 3 1 (.slice (some ⟨g,0,none⟩) (O.size+1) (O.size+1)) (O.size+1) (dY (jI O.data.toList U.data.toList k))/\(∀j,j<k->¬wz O.data.toList U.data.toList j<most+1)/\Below w.heap.size w wr) (λ_ i _=>U.size-(intOf i).toNat)
 case atStart=>exact⟨0,g1,bz _,rfl,rfl,HO1.out,λj hj=>by omega,HB1.out⟩
 case round=>
  obtain⟨k,g,hk,rfl,rfl,W,ai,aa⟩:=hrel;have aj:bH (∀j,j<k->¬wz O.data.toList U.data.toList j<most+1):=ai;have ad:bH (Below _ _ _):=aa;have HS:=aa.size;have ax:(O.size:Int)<(O.size:Int)+1:=by omega
  obtain⟨dd,ae⟩:∃dd,dd=wz O.data.toList U.data.toList k:=⟨_,rfl⟩;obtain⟨bt,ot,ak,an⟩:=iZ W O.size _ (iN _ O.size (by rw[uP,Y.out]; omega));simp only[cb,cd]at ak;obtain⟨rfl,rfl,_⟩:=ak;have e1:(jI O.data.toList U.data.toList k).getD O.size 0=dd:=by rw[ae]; unfold wz; rw[Y.out]
  rw[b3,e1]at an;have ab:bH (dd=wz O.data.toList U.data.toList k):=ae;clear ai aa ae e1;by_cases ao:k<U.size
  .have au:(k:Int)<(U.size:Int):=by omega
   by_cases hd:dd<=most
   .have ap:(dd:Int)<=(most:Int):=by omega
    have HY:bH (jo (most+1) O.data.toList U.data.toList=true):=by
     show _=_;rw[HF.out];exact any_some k (by omega) (by rw[<-ab.out]; simp; omega)
    clear W;go_wp2;go_ret;exact⟨eH HY.out.symm,ad.out⟩
   .have ap:¬((dd:Int)<=(most:Int)):=by omega
    have ac:=Hr (jI O.data.toList U.data.toList k) O U[k] (.slice (some ⟨g,0,none⟩) (O.size+1) (O.size+1)) wr hq (Rd.jl W) (by rw[uP,Y.out]) (λx hx=>by have:=FC _ _ _ x hx; rw[Y.out]at this; omega);rw[Ii]at ac
    have e2:gU O.data.toList U[k] (jI O.data.toList U.data.toList k) (k+1) O.size=jI O.data.toList U.data.toList (k+1):=by
     rw[jI,Y.out,lq U k ao]
    rw[e2]at ac;clear W e2;go_wp2_with fail;refine ac.mono ?_;rintro e w3 ⟨g3,rfl,al,am⟩;have HO3:bH (w3.ownsRow w.heap.size 3 1 (.slice (some ⟨g3,0,none⟩) (O.size+1) (O.size+1)) (O.size+1) (dY (jI O.data.toList U.data.toList (k+1)))):=jE al HS;have aq:bH (Below w.heap.size w w3):=ad.out.trans (am.mono HS);clear ac al am;go_wp2;go_roundw
    case rel=>exact⟨k+1,g3,by omega,by go_num,rfl,HO3.out,λj hj=>by
     rcases b6 j k with h|h
     .exact aj.out j h
     .have e:j=k:=by omega
      subst e; rw[<-ab.out]; omega,aq.out⟩
    case measure=>simp[intOf]; omega
  .have ar:k=U.size:=by omega
   subst ar
   have HY:bH (jo (most+1) O.data.toList U.data.toList=decide (dd<=most)):=by
    show _=_;rw[HF.out];by_cases hd:dd<=most
    .rw[any_some U.size (by omega) (by rw[<-ab.out]; simp; omega)];simp; omega
    .rw[any_none (λi hi=>?_)]
     .simp; omega
     .rcases b6 i U.size with h|h
      .have:=aj.out i h; simpa using this
      .have e:i=U.size:=by omega
       subst e; rw[<-ab.out]; simp; omega
   go_wp2;go_ret;exact⟨eH HY.out.symm,ad.out⟩
theorem Kq(m:Nat)(O U:ByteArray)(w:World)(hm:m<=3)(Y:O.size<=1048576)(W:U.size<=1048576) :
  b8 prog 215 #[.int .i64 m,.string O,.string U] w λe w'=>e=.returned (.bool (jo m O.data.toList U.data.toList))/\Below w.heap.size w w':=by
 have hc:m=0\/m=1\/m=2\/m=3:=by omega
 rcases hc with rfl|rfl|rfl|rfl
 .have HF:bH (jo 0 O.data.toList U.data.toList=nN U.data.toList O.data.toList):=rfl;go_enter bS,bR;go_wp2_with fail;refine(xG U O w).mono ?_;rintro e w' ⟨rfl,rfl⟩;go_wp2;go_ret;exact⟨eH HF.out.symm,bK _ _⟩
 .go_enter bS,bR;go_wp2_with fail;refine(C6 O U w W).mono ?_;rintro e w' ⟨rfl,rfl⟩;go_wp2;go_ret;exact⟨rfl,bK _ _⟩
 .go_enter bS,bR;go_wp2_with fail;refine(qi O U 1 w (by omega) (by omega) Y W).mono ?_;rintro e w' ⟨rfl,hb⟩;go_wp2;go_ret;exact⟨rfl,hb⟩
 .go_enter bS,bR;go_wp2_with fail;refine(qi O U 2 w (by omega) (by omega) Y W).mono ?_;rintro e w' ⟨rfl,hb⟩;go_wp2;go_ret;exact⟨rfl,hb⟩
end
end Go.Proofs.YtocbogeoffeolaaGreatDoor
