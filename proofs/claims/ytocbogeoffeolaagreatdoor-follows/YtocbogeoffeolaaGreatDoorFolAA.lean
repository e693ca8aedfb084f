import Derived.Below
import Derived.WalkKit
import Derived.WalkSpells
import Derived.Test.YtocbogeoffeolaaGreatDoorProg
import Derived.WalkLawsBesides
import Derived.Lib.ConvBytes
import Derived.Laws.IdiomStrings
import Derived.Lib.FieldsP
import Derived.Laws.RangeString
import Derived.Lib.Bytealg
import Derived.Sort.Statements
import Derived.Shelf.SlSortCmp.Insertion
import Derived.Deep.Draws
import Derived.WalkSmall
import Derived.Deep.QuietTactic
import Derived.BigQuiet
import Derived.Deep.Light
import Derived.Deep.RegionWith
import Derived.Deep.RegionHeld
import Derived.Deep.CutRange
import Derived.Deep.RegionLaw
import Derived.Maps.OwnSet
import Derived.Maps.RangeWalk
set_option linter.unusedVariables false
set_option linter.unusedSimpArgs false
set_option maxHeartbeats 8000000
set_option maxRecDepth 1000000
open List renaming getD_eq_getElem?_getD->ax,take_succ_eq_append_getElem->ay,mem_cons->az,map_cons->a0,getElem?_eq_getElem->a3,mem_filter->a4,mem_singleton->a5,mem_append->a6,length_cons->a7,getElem_mem->a8,drop_eq_getElem_cons->a9,takeWhile_cons->aA,map_append->aB,map_nil->aC,eq_nil_of_length_eq_zero->aD,range_succ->aE,nodup_cons->aF,length_nil->aG,mem_map->aH,range->aI,pairwise_iff_getElem->aJ,take_length->aK,foldl_cons->aL,take_succ_cons->aM,filter_sublist->aN,pairwise_cons->aO,nodup_append->aP,count_append->aQ,any_eq_false->aR,any_eq_true->aS,sum_cons->aT,length_pos_of_mem->aU,length_filter_le->aV,pairwise_append->aW,getElem_of_mem->aX,dropWhile_cons->aY,length_append->aZ,getElem?_take->ba,getElem?_drop->bb,foldl_append->bc,map_toArray->bd,filter_cons->be,mem_range->bf,any_cons->bg
open Nat renaming le_refl->bh,mul_right_comm->bi,mul_le_mul_right->bj,mul_left_comm->bk,mul_assoc->bl,zero_le->bm,mul_lt_mul_of_pos_right->bn,eq_zero_or_pos->bo,zero_add->bp,mul_pos->bq
open Go renaming maxLen->br,TypeId->bs,wpList->bt,wpList_plain->bu,run_append_own->bv,cell_later->bw,run_convert_bytes_string->bx,execOp->bz,run_append_room->b0,run_append_grow->b3,run_underlying->b4,run_append_nil->b5,growslice_fits->b6,Calls->b7,storeCells->b8
open Go.Op renaming bytesLess->b9
open Bool renaming and_eq_true->bA,or_eq_true->bB,eq_iff_iff->bC,not_eq_true'->bD,false_or->bE,false_eq_true->bF,not_false->bG,not_true->bH
open Option.some renaming injEq->bI
open Go.Lib renaming compareBytes->bJ,spansFromP->bK,closeSpans->bL,bytesWorld_size->bM,goFieldsP->bN
open Go.Builtin renaming append_->bO,firstCells->bP,lenOf->bQ,len_->bR
open Go.Result.ok renaming injEq->bS
open Go.Value.slice renaming injEq->bT
open UInt8 renaming lt_iff_toNat_lt->bU,ofNat->bV,toNat_inj->bW
open Go.Addr renaming add_lit->bX,add->bY
open Go.Result renaming andThen->bZ,andThen_ok->ca
open Go.World renaming setCell->cb,frozen?->cc,cell?->cd
open Go.Value renaming ownBlock->ce
open Go.Maps renaming string_keyed->cf,size->cg,has->ch
open Go.Addr.mk renaming injEq->ci
open Array renaming getElem?_modify->cj,toList_inj->ck
open Prod renaming fst->cl
namespace Go.Proofs.YtocbogeoffeolaaGreatDoor
open Go.Proofs.Tryz
section
open Go.RowKit
def jf(c:UInt8):Bool:=decide ((97<=c.toNat/\c.toNat<=122)\/(48<=c.toNat/\c.toNat<=57))
def uH(c:UInt8):Bool:=decide (32<=c.toNat/\c.toNat<=126)
def iX(l:List UInt8):Bool:=decide (l.length<=24)&&l.all uH
def G3(c:UInt8):UInt8:=if 65<=c.toNat/\c.toNat<=90 then c+32 else c
def iD(l:List UInt8):List UInt8:=l.map G3
theorem Cd(s:ByteArray)(k:Nat)(h:k<s.size):s.data.toList.take (k+1)=s.data.toList.take k++[s[k]]:=by
 rw[ay (by simpa using h)]; rfl
theorem j9(l:List UInt8):(iD l).length=l.length:=by simp[iD]
theorem GN(l:List UInt8)(c:UInt8):iD (l++[c])=iD l++[G3 c]:=by simp[iD]
def j0(l:List UInt8):List Value:=l.map λc=>Value.int .u8 c.toNat
theorem s4(l:List UInt8):(j0 l).length=l.length:=by simp[j0]
theorem Ka(c:UInt8)(h:65<=c.toNat/\c.toNat<=90):((G3 c).toNat:Int)=(c.toNat:Int)+32:=by
 unfold G3; rw[if_pos h,UInt8.toNat_add];have:(32:UInt8).toNat=32:=rfl;omega
theorem JW(c:UInt8)(h:¬(65<=c.toNat/\c.toNat<=90)):G3 c=c:=by
 unfold G3; rw[if_neg h]
def jV(l:List UInt8)(i:Nat):Bool:=jf (l.getD i 0)&&(decide (i=0) || !jf (l.getD (i-1) 0))
def wN(l:List UInt8)(i:Nat):List UInt8:=(l.drop i).takeWhile jf
def mg(l:List UInt8)(k:Nat):List (List UInt8):=((aI k).filter (jV l)).map (wN l)
def jK(l:List UInt8):List (List UInt8):=mg l l.length
def gQ(ws:List (List UInt8)):List Value:=ws.map λb=>Value.string ⟨b.toArray⟩
theorem gY(ws:List (List UInt8)):(gQ ws).length=ws.length:=by simp[gQ]
theorem lH(ws:List (List UInt8))(b:List UInt8):gQ (ws++[b])=gQ ws++[Value.string ⟨b.toArray⟩]:=by simp[gQ]
theorem wJ(l:List UInt8)(k:Nat)(h:jV l k=true):mg l (k+1)=mg l k++[wN l k]:=by
 simp[mg,aE,h]
theorem pb(l:List UInt8)(k:Nat)(h:jV l k=false):mg l (k+1)=mg l k:=by
 simp[mg,aE,h]
theorem Hq(l:List UInt8)(k:Nat):(mg l k).length<=k:=by
 unfold mg;rw[List.length_map];have:=aV (jV l) (aI k);simpa using this
theorem nR(s:ByteArray)(k:Nat)(h:k<s.size):s.data.toList.getD k 0=s[k]:=by
 rw[ax,a3 (by simpa using h)]; rfl
def zE(l:List UInt8)(i too:Nat):Prop:=i<=too/\too<=l.length/\∀j,i<=j->j<too->jf (l.getD j 0)=true
theorem Ba(p:UInt8->Bool):∀(l:List UInt8)(n:Nat),n<=l.length->(∀j,j<n->p (l.getD j 0)=true)->(n=l.length\/p (l.getD n 0)=false)->l.takeWhile p=l.take n:=by
 intro l
 induction l with
 |nil=>intro n h _ _; simp
 |cons c l Y=>
  intro n h jO O
  cases n with
  |zero=>
   rcases O with U|U
   .simp at U
   .simp at U; simp[U]
  |succ n=>
   have U:=jO 0 (by omega);simp at U;rw[aA,U,aM];simp only[if_true];rw[Y n (by simpa using h) (λj hj=>by have:=jO (j+1) (by omega); simpa using this) ?_];rcases O with W|W
   .left; simpa using W
   .right; simpa using W
theorem IZ(l:List UInt8)(i too:Nat)(h:zE l i too)(O:too=l.length\/jf (l.getD too 0)=false):wN l i=(l.drop i).take (too-i):=by
 obtain⟨Y,h2,W⟩:=h;have U:∀j,(l.drop i).getD j 0=l.getD (i+j) 0:=by intro j; simp[ax,bb]
 refine Ba jf (l.drop i) (too-i) (by simp; omega) (λj hj=>?_) ?_
 .rw[U]; exact W _ (by omega) (by omega)
 .rcases O with h|h
  .left; simp; omega
  .right; rw[U,show i+(too-i)=too by omega]; exact h
theorem FF(l:List UInt8)(k:Nat)(h:k<=l.length):zE l k k:=⟨bh _,h,λ_ _ _=>by omega⟩
theorem zY(l:List UInt8)(k t:Nat)(h:zE l k t)(W:t<l.length)(O:jf (l.getD t 0)=true):zE l k (t+1):=
 ⟨by have:=h.1; omega,by omega,λj U Y=>by
   by_cases e:j=t
   .rw[e]; exact O
   .exact h.2.2 j U (by omega)⟩
theorem vm(f:ByteArray)(k t:Nat)(h:zE f.data.toList k t)(O:t=f.size\/jf (f.data.toList.getD t 0)=false) :
  f.extract k t=⟨(wN f.data.toList k).toArray⟩:=by
 rw[IZ _ k t h (by simpa using O)];apply ByteArray.ext;rw[ByteArray.data_extract];apply ck.1;simp
theorem Ea(s:ByteArray)(k:Nat)(h:k<s.size):s[k]∈s.data.toList:=by
 have:s[k]=s.data.toList[k]'(by simpa using h):=rfl;rw[this]; exact a8 _
theorem iR{a b:Bool}(h:a=b):Ending.returned (.bool a)=.returned (.bool b):=by rw[h]
theorem iJ{k:IntKind}{a b:Int}(h:a=b):Ending.returned (.int k a)=.returned (.int k b):=by rw[h]
end
section
open Go.RowKit
variable {v:Value} {w:World}
theorem jp{P:Program}(w:World){ops:Array Oper}{rest:List Oper}{o:Oper}{a:Act}{Q:Exit->Act->World->Prop}(ab:o.guard=none)(s x:Operand)(t:bs)
  (ho:o.op=.call {callee:=.builtin .append,args:=#[s,x],argTypes:=#[t,t]})
  (base:Nat) (e:bs) (i:TypeInfo) (z:Value) (bytes:Nat) (ht:P.underlying t=some (.slice e)) (hi:P.info? e=some i) (hz:i.zero=some z)
  (U:i.size=1) (ac:i.bytes=bytes) (ae:z.cells.size=1)
  (v:Value) (n:Nat) (xs:List Value) (hs:a.eval s=v) (aa:w.ownsRow base e 1 v n xs)
  (ad:Addr) (y:Value) (hx:a.eval x=.slice (some ad) 1 1) (W:w.cell? ad=some y) (h1:y.oneCell'=true)
  (O:(n+1)*bytes<=140737488355328) (af:n+1<=br) (Y:base<=w.heap.size)
  (h:∀v' w',w'.ownsRow base e 1 v' (n+1) (xs++[y])->w.grownBy w' v.ownBlock->v'≠.slice none 0 0->bt P ops Q rest (a.put o.dst v') w'):bt P ops Q (o::rest) a w:=by
 refine wpList_append_own w ab s x t ho base e i z 1 bytes ht hi hz U ac ae (by decide) v n xs hs aa ad 1 1 [y] hx rfl ?_ ?_ af O Y ?_
 .intro j u hj
  match j,hj with
  |0,hj=>simp at hj; subst hj; simpa[bY]using W
  |j+1,hj=>simp at hj
 .intro u hu; simp at hu; subst hu; exact h1
 .intro v' w' h2 h3 h4;refine h v' w' h2 h3 ?_;intro he;have:=h4.1 he;simp at this
theorem ki{t:bs}:(w.alloc (.cells #[v] t)).cell? ⟨w.heap.size,0,none⟩=some v:=by
 rw[World.cell?_alloc_at _ _ _ _ rfl]; rfl
theorem I':∀(l:List UInt8)(s:ByteArray),(l.map λc=>(c.toNat:Int)).foldl (λr n=>r.push (bV n.toNat)) s=⟨s.data++l.toArray⟩:=by
 intro l
 induction l with
 |nil=>intro s; simp
 |cons c l h=>
  intro s;rw[a0,aL,h];have:bV ((c.toNat:Int).toNat)=c:=by simp
  rw[this];have:(s.push c).data=s.data.push c:=rfl;rw[this];simp
theorem He{P:Program}{base u8 src O n:Nat}{l:List UInt8}(h:w.ownsRow base u8 1 v n (j0 l))
  (Y:P.underlying src=some (.slice u8)) (he:P.underlying u8=some (.int .u8)) (hd:P.underlying O=some .string) :
  (convert src O v).run P w=.ok (.string ⟨l.toArray⟩) w:=by
 have h0:=h;obtain⟨U,h⟩:=h;rcases h with⟨rfl,rfl⟩|⟨g,cap,aa,rfl,_,hg,_,_,ab,ac⟩
 .have:l=[]:=by simpa[j0]using U
  subst this;rw[bx w src O u8 _ _ _ Y he hd];rfl
 .rw[bx w src O u8 _ _ _ Y he hd];have hn:n=l.length:=by rw[s4]at U; omega
  have W:=run_loadCells_list (P:=P) w ⟨g,0,none⟩ (j0 l) (h0.cells rfl);rw[s4,<-hn]at W;have e:j0 l=(l.map λc=>(c.toNat:Int)).map (Value.int .u8):=by simp[j0]
  rw[e]at W;rw[run_bytesToString w _ _ _ _ W,I'];simp
end
section
open Go.RowKit
theorem Fv:(prog.info? 5).map (λi=>(i.zero,i.size,i.bytes))=some (some (.int .u8 0),1,1):=by kernel_rfl
end
section
open Go.RowKit
theorem tW:(prog.info? 9).map (λi=>(i.zero,i.size,i.bytes))=some (some (.string ⟨#[]⟩),1,16):=by kernel_rfl
end
section
open Go.RowKit
theorem py(c:UInt8)(w:World) :
  b7 prog 98 #[.int .u8 c.toNat] w λe w'=>e=.returned (.bool (jf c))/\w=w':=by
 go_enter func98,ntmps98;go_wp2
 all_goals
  go_ret;refine⟨iR ?_,rfl⟩;unfold jf;rw[bC];simp only[decide_eq_true_eq,bB,true_iff,false_iff,bF];omega
theorem sL(s:ByteArray)(w:World)(hs:s.size<=br) :
  b7 prog 48 #[.string s] w λe w'=>e=.returned (.bool (iX s.data.toList))/\w=w':=by
 unfold br at hs;by_cases Y:s.size<=24
 .have hd:decide (24<(s.size:Int))=false:=by simp; omega
  go_enter func48,ntmps48;go_wp2;go_loop [9] (λi=>∃k:Nat,k<=s.size/\i=.int .i64 k/\(s.data.toList.take k).all uH=true) (λi=>s.size-(intOf i).toNat)
  case atStart=>exact⟨0,bm _,rfl,rfl⟩
  case round=>
   obtain⟨k,hk,rfl,jO⟩:=hrel;have HA:Hid _:=jO;clear jO;by_cases O:k<s.size
   .have U:=Cd s k O;have HS:Hid _:=U;clear U;by_cases h:uH s[k]=true
    .have HP:Hid _:=h;have W:32<=(s[k].toNat:Int):=by simp[uH]at h; omega
     have h2:(s[k].toNat:Int)<=126:=by simp[uH]at h; omega
     clear h;go_wp2;go_round
     case rel=>exact⟨k+1,by omega,by go_num,by rw[HS.out,List.all_append,HA.out]; simp[HP.out]⟩
     case measure=>simp[intOf]; omega
    .have HP:Hid _:=h;have W:(s[k].toNat:Int)<32\/126<(s[k].toNat:Int):=by simp[uH]at h; omega
     clear h;rcases W with W|W
     all_goals
      go_wp2;go_ret;refine⟨iR ?_,rfl⟩;symm;rw[Bool.eq_false_iff];intro hq;apply HP.out;simp only[iX,bA]at hq;exact List.all_eq_true.1 hq.2 _ (Ea s k O)
   .go_wp2;go_ret;refine⟨iR ?_,rfl⟩;have e:s.data.toList.take k=s.data.toList:=List.take_of_length_le (by simp; omega);have:=HA.out;rw[e]at this;simp[iX,this]; exact Y
 .go_enter func48,ntmps48;go_wp2;go_ret;refine⟨iR ?_,rfl⟩;simp[iX]; omega
theorem rT(s:ByteArray)(w:World)(Y:s.size<=br) :
  b7 prog 65 #[.string s] w λe w'=>e=.returned (.bool (decide (iX s.data.toList=true/\s.data.toList≠[])))/\w=w':=by
 by_cases O:s.data.toList=[]
 .have U:s=⟨#[]⟩:=by
   apply ByteArray.ext;apply ck.1;exact O
  subst U;clear O;go_enter func65,ntmps65;go_wp2;go_ret;exact⟨iR (by simp),rfl⟩
 .have W:s.toList.isEmpty=false:=by
   rw[ByteArray.toList_eq]
   cases h:s.data.toList with
   |nil=>exact absurd h O
   |cons a l=>rfl
  have HQ:Hid (decide (iX s.data.toList=true/\s.data.toList≠[])=iX s.data.toList):=by
   show decide (iX s.data.toList=true/\s.data.toList≠[])=iX s.data.toList;rw[bC,decide_eq_true_eq];exact⟨λh=>h.1,λh=>⟨h,O⟩⟩
  clear O;go_enter func65,ntmps65;go_wp2_with fail;refine(sL _ _ Y).mono ?_;rintro e w' ⟨rfl,rfl⟩;go_wp2;go_ret;exact⟨iR (by rw[HQ.out]),rfl⟩
def rK(w:World)(g:Nat)(l:List UInt8):Prop:=∀j(h:j<l.length),w.cell? ⟨g,j,none⟩=some (.int .u8 l[j].toNat)/\w.frozen? ⟨g,j,none⟩=false
theorem rK.set{w:World}{g:Nat}{l:List UInt8}(h:rK w g l)(k:Nat)(c:UInt8)(v:Value)(W:v=.int .u8 c.toNat):rK (w.setCell ⟨g,k,none⟩ v) g (l.set k c):=by
 subst W;intro j Y;have O:j<l.length:=by simpa using Y
 obtain⟨U,h2⟩:=h j O;refine⟨?_,by rw[World.frozen?_setCell]; exact h2⟩;by_cases e:k=j
 .subst e;rw[World.cell?_setCell_same _ _ _ U];simp
 .rw[World.cell?_setCell_other _ _ _ _ (by intro hh; simp at hh),U];simp[e]
def ld(l:List UInt8)(k:Nat):List UInt8:=iD (l.take k)++l.drop k
theorem u0(l:List UInt8)(k:Nat):(ld l k).length=l.length:=by simp[ld,iD]; omega
theorem rQ(l:List UInt8)(k:Nat)(h:k<l.length):(ld l k)[k]'(by rw[u0]; exact h)=l[k]:=by
 unfold ld;rw[List.getElem_append_right (by simp[iD]; omega)];simp[iD,Nat.min_eq_left (Nat.le_of_lt h)]
theorem xx(l:List UInt8)(k:Nat)(h:k<l.length):ld l (k+1)=(ld l k).set k (G3 l[k]):=by
 unfold ld;rw[ay h,GN];have O:(iD (l.take k)).length=k:=by rw[j9]; simp; omega
 rw[List.set_append_right _ _ (by omega),O,Nat.sub_self,List.append_assoc];congr 1;rw[a9 h];rfl
theorem zM(l:List UInt8):ld l l.length=iD l:=by simp[ld]
theorem yi(l:List UInt8):ld l 0=l:=by simp[ld,iD]
theorem qV(s:ByteArray)(w:World)(hs:s.size<=1099511627776) :
  b7 prog 50 #[.string s] w λe w'=>e=.returned (.string ⟨(iD s.data.toList).toArray⟩)/\Below w.heap.size w w':=by
 have ab:=Lib.run_convert_string_bytes (P:=prog) w 9 60 5 s underlying9 underlying60 underlying5;go_enter func50,ntmps50;obtain⟨W0,O⟩:∃W0,Lib.bytesWorld w 5 s=W0:=⟨_,rfl⟩
 have hb0:Below w.heap.size w W0:=by
  subst O;exact⟨rfl,rfl,rfl,by rw[bM]; omega,λk hk=>Lib.bytesWorld_at_old w _ s k hk⟩
 have hz0:w.heap.size<W0.heap.size:=by subst O; rw[bM]; omega
 have hA0:rK W0 w.heap.size (ld s.data.toList 0):=by
  rw[yi];intro j hj;have ac:j<s.size:=by simpa using hj
  subst O;refine⟨?_,?_⟩
  .rw[Lib.bytesWorld_cell w _ s j ac,ax,a3 hj]; rfl
  .simp[cc,Lib.bytesWorld_at_new];intro h;simp[Lib.bytesCells]at h;omega
 rw[O]at ab;clear O;go_wp2;go_loopw [10] (λi wr=>∃k:Nat,k<=s.size/\i=.int .i64 k/\rK wr w.heap.size (ld s.data.toList k)/\Below w.heap.size w wr/\w.heap.size<wr.heap.size) (λi _=>s.size-(intOf i).toNat)
 case atStart=>exact⟨0,bm _,rfl,hA0,hb0,hz0⟩
 case round=>
  obtain⟨k,hk,rfl,hA,hb,hz⟩:=hrel;by_cases ad:k<s.size
  .have W:k<s.data.toList.length:=by simpa using ad
   obtain⟨hc,hf⟩:=hA k (by rw[u0]; exact W);rw[rQ _ _ W]at hc;have HE:Hid (ld s.data.toList (k+1)=(ld s.data.toList k).set k (G3 s.data.toList[k])):=xx _ _ W;have HG:Hid (s.data.toList.length=s.size):=by show _=_; simp
   have aa:Hid ((ld s.data.toList k)[k]'(by rw[u0]; exact W)=s.data.toList[k]):=rQ _ _ W;have HA:Hid (rK wr w.heap.size (ld s.data.toList k)):=hA;generalize s.data.toList[k]=c at *;clear hA;by_cases U:65<=c.toNat/\c.toNat<=90
   .have h1:65<=(c.toNat:Int):=by omega
    have h2:(c.toNat:Int)<=90:=by omega
    have HL:Hid (((G3 c).toNat:Int)=(c.toNat:Int)+32):=Ka _ U;clear U;go_wp2;go_roundw
    case rel=>exact⟨k+1,by omega,by go_num,by rw[HE.out]; exact HA.out.set k _ _ (by rw[HL.out]; go_num),Below.setCell hb (bh _) _,by simpa[cb]using hz⟩
    case measure=>simp[intOf]; omega
   .have HL:Hid (G3 c=c):=JW _ U;have ae:(c.toNat:Int)<65\/90<(c.toNat:Int):=by omega
    have HS:Hid (ld s.data.toList (k+1)=ld s.data.toList k):=by
     show _=_;rw[HE.out,HL.out,<-aa.out];simp
    clear U;rcases ae with h1|h1
    all_goals
     go_wp2;go_roundw
     case rel=>exact⟨k+1,by omega,by go_num,by rw[HS.out]; exact HA.out,hb,hz⟩
     case measure=>simp[intOf]; omega
  .have ek:k=s.size:=by omega
   subst ek;have W:(iD s.data.toList).length=s.size:=by rw[j9]; simp
   have e1:ld s.data.toList s.size=iD s.data.toList:=by
    have:s.size=s.data.toList.length:=by simp
    rw[this,zM]
   rw[e1]at hA
   have Y:=run_convert_bytes_back (P:=prog) wr 60 9 5 ⟨w.heap.size,0,none⟩ (grownCap w s.size 0 5) (iD s.data.toList) underlying60 underlying5 underlying9 (λj hj=>by
    have:=(hA j hj).1
    have e2:(⟨w.heap.size,0,none⟩:Addr).add j=⟨w.heap.size,j,none⟩:=by
     unfold bY;split
     .rename_i h; rw[h]
     .simp
    rw[e2]; exact this)
   rw[W]at Y;clear W e1;go_wp2;go_ret;exact⟨rfl,hb⟩
end
section
open Go.RowKit
abbrev Wd:=List UInt8
def rO(t ws:List Wd)(k j:Nat):Bool:=decide ((t.drop k).take j=ws.take j)
def kJ(t ws:List Wd)(k:Nat):Bool:=rO t ws k ws.length
def iY(t ws:List Wd)(k:Nat):Nat:=((aI k).filter (kJ t ws)).length
def nj(t ws:List Wd):Nat:=iY t ws (t.length+1-ws.length)
def iO(h:List (List Wd))(ws:List Wd):Nat:=(h.map λt=>nj t ws).sum
def jE(h:List (List Wd)):Nat:=(h.map λt=>t.length+1).sum
theorem Bu(t ws:List Wd)(k:Nat)(h:kJ t ws k=true):iY t ws (k+1)=iY t ws k+1:=by
 simp[iY,aE,h]
theorem DG(t ws:List Wd)(k:Nat)(h:kJ t ws k=false):iY t ws (k+1)=iY t ws k:=by
 simp[iY,aE,h]
theorem Db(t ws:List Wd)(k:Nat):iY t ws k<=k:=by
 have:=aV (kJ t ws) (aI k);simpa[iY]using this
theorem Ae(t ws:List Wd):nj t ws<=t.length+1:=by
 have:=Db t ws (t.length+1-ws.length);unfold nj; omega
theorem Ix(O:List (List Wd))(i:Nat)(h:i<O.length):jE (O.take (i+1))=jE (O.take i)+(O[i].length+1):=by
 unfold jE;rw[ay h,aB,List.sum_append]; rfl
theorem Mi(O:List (List Wd))(ws:List Wd):iO O ws<=jE O:=by
 induction O with
 |nil=>simp[iO,jE]
 |cons t O U=>
  have h:=Ae t ws;simp only[iO,jE,a0,aT]at U⊢;omega
end
section
open Go.RowKit
def za(out:List Wd)(x:Wd):Nat:=(out.takeWhile λy=>b9 y x).length
def wk(out:List Wd)(x:Wd):List Wd:=if out[za out x]?=some x then out else out.take (za out x)++([x]++out.drop (za out x))
def yL(out:List Wd)(t:List Wd)(k:Nat):List Wd:=(t.take k).foldl wk out
def iA(h:List (List Wd)):List Wd:=h.foldl (λout t=>t.foldl wk out) []
theorem Qo(out:List Wd)(x:Wd):za out x<=out.length:=(List.takeWhile_sublist _).length_le
theorem Bd{U:Type}(p:U->Bool):∀(l:List U)(n:Nat)(O:n<=l.length),(∀j(h:j<n),p (l[j]'(by omega))=true)->(∀h:n<l.length,p l[n]=false)->(l.takeWhile p).length=n:=by
 intro l
 induction l with
 |nil=>intro n O _ _; simp at O; simp[O]
 |cons c l ih=>
  intro n O W Y
  cases n with
  |zero=>have:=Y (by simp); simp at this; simp[this]
  |succ n=>
   have h0:=W 0 (by omega);simp at h0;rw[aA,h0];simp only[if_true,a7];rw[ih n (by simpa using O) (λj hj=>by have:=W (j+1) (by omega); simpa using this) (λhh=>by have:=Y (by simpa using hh); simpa using this)]
theorem Oa(out:List Wd)(x:Wd):(wk out x).length<=out.length+1:=by
 unfold wk;have:=Qo out x;split
 .omega
 .simp; omega
theorem F3(O:List (List Wd))(i:Nat)(h:i<O.length):iA (O.take (i+1))=yL (iA (O.take i)) O[i] O[i].length:=by
 unfold iA yL;rw[ay h,bc,aK]; rfl
theorem B9(t:List Wd):∀out,(t.foldl wk out).length<=out.length+t.length:=by
 induction t with
 |nil=>intro out; simp
 |cons x t h=>intro out; have:=h (wk out x); have:=Oa out x; simp only[aL,a7]; omega
theorem ER(out t:List Wd)(k:Nat):(yL out t k).length<=out.length+k:=by
 have:=B9 (t.take k) out;unfold yL;simp at this⊢; omega
theorem IX(O:List (List Wd))(i:Nat)(hi:i<=O.length):(iA (O.take i)).length<=jE (O.take i):=by
 induction i with
 |zero=>simp[iA]
 |succ i U=>
  have h:=U (by omega);rw[F3 O i (by omega),Ix O i (by omega)];have:=ER (iA (O.take i)) O[i] O[i].length;omega
end
section
open Go.RowKit
def qA(h:List (List Wd)):Nat:=(h.map λt=>t.length).sum
def SO(h:List (List Wd))(l:List Wd)(x:Wd):Nat:=iO h [l.getD (l.length-2) [],l.getD (l.length-1) [],x]
def Sy(h:List (List Wd))(l:List Wd)(x:Wd):Nat:=iO h [l.getD (l.length-1) [],x]
def lg(h:List (List Wd))(l:List Wd)(x:Wd):Nat×Nat:=
 if 1<l.length/\0<SO h l x then(SO h l x,iO h [l.getD (l.length-2) [],l.getD (l.length-1) []])
 else if 0<l.length/\0<Sy h l x then(4*Sy h l x,10*iO h [l.getD (l.length-1) []])
 else(16*iO h [x],100*qA h)
theorem Ma(h:List (List Wd)):qA h<=jE h:=by
 induction h with
 |nil=>simp[qA,jE]
 |cons t h O=>simp only[qA,jE,a0,aT]at O⊢; omega
end
section
open Go.RowKit
abbrev Fr:=Nat×Nat
def wO(h:List Fr)(i j:Nat):Bool:=decide ((h.getD j (0,0)).1*(h.getD i (0,0)).2<(h.getD i (0,0)).1*(h.getD j (0,0)).2)
def kw(h:List Fr)(told:List Bool):Nat->Option Nat
 |0=>none
 |i+1=>if told.getD i false=true then kw h told i else
  match kw h told i with
  |none=>some i
  |some j=>if wO h i j=true then some i else some j
def AE(h:List Fr):List Bool->Nat->List Nat
 |_,0=>[]
 |told,n+1=>match kw h told h.length with
  |none=>[]
  |some b=>b::AE h (told.set b true) n
def Ub(h:List (List Wd))(l:List Wd):List Fr:=(iA h).map (lg h l)
def kQ(h:List (List Wd))(l:List Wd)(most:Nat):List Wd:=
 (AE (Ub h l) (List.replicate (iA h).length false) (min most (iA h).length)).map λi=>(iA h).getD i []
theorem C4(Y:List Fr)(told:List Bool):∀(i j:Nat),kw Y told i=some j->j<i/\told.getD j false=false:=by
 intro i
 induction i with
 |zero=>intro j h; simp[kw]at h
 |succ i U=>
  intro j h;unfold kw at h;split at h
  .have:=U j h; exact⟨by omega,this.2⟩
  .rename_i W;split at h
   .simp at h; subst h; exact⟨by omega,by simpa using W⟩
   .rename_i j' O;split at h
    .simp at h; subst h; exact⟨by omega,by simpa using W⟩
    .simp at h; subst h; have:=U j' O; exact⟨by omega,this.2⟩
theorem xz(O:List Fr)(told:List Bool):∀(i:Nat),kw O told i=none->∀j,j<i->told.getD j false=true:=by
 intro i
 induction i with
 |zero=>intro _ j h; omega
 |succ i U=>
  intro h j Y;unfold kw at h;split at h
  .rename_i W;by_cases e:j=i
   .subst e; exact W
   .exact U h j (by omega)
  .split at h
   .simp at h
   .split at h<;>simp at h
theorem G6(O:List Fr)(told:List Bool)(i:Nat)(h:told.getD i false=true):kw O told (i+1)=kw O told i:=by simp only[kw]; rw[if_pos h]
theorem Et(O:List Fr)(told:List Bool)(i:Nat)(h:told.getD i false=false)(U:kw O told i=none):kw O told (i+1)=some i:=by simp only[kw]; rw[if_neg (by rw[h]; simp),U]
theorem AZ(O:List Fr)(told:List Bool)(i j:Nat)(h:told.getD i false=false)(U:kw O told i=some j)(hb:wO O i j=true):kw O told (i+1)=some i:=by simp only[kw]; rw[if_neg (by rw[h]; simp),U]; simp[hb]
theorem D4(O:List Fr)(told:List Bool)(i j:Nat)(h:told.getD i false=false)(U:kw O told i=some j)(hb:wO O i j=false):kw O told (i+1)=some j:=by simp only[kw]; rw[if_neg (by rw[h]; simp),U]; simp[hb]
end
section
open Go.RowKit
def qC(r:Nat):Bool:=decide (128<=r) || !jf (bV r)
theorem Gq(c:UInt8)(h:c.toNat<128):qC c.toNat = !jf c:=by
 unfold qC;rw[decide_eq_false (by omega),bE];simp
def RX(b:Wd):ByteArray:=⟨b.toArray⟩
structure TA(f:ByteArray)(pos:Nat)(st:Option Nat)(acc:List (Nat×Nat)):Prop where
 none:st=none->(acc.map λx=>f.extract x.1 x.2)=(mg f.data.toList pos).map RX/\(pos=0\/jf (f.data.toList.getD (pos-1) 0)=false)
 some:∀a,st=some a->(acc.map λx=>f.extract x.1 x.2)++[RX (wN f.data.toList a)]=(mg f.data.toList pos).map RX/\a<pos/\zE f.data.toList a pos
theorem BE(l:List UInt8)(k:Nat)(h:jf (l.getD k 0)=false):jV l k=false:=by unfold jV; rw[h]; rfl
theorem IA(l:List UInt8)(k:Nat)(h:jf (l.getD k 0)=true)(O:k=0\/jf (l.getD (k-1) 0)=false):jV l k=true:=by
 unfold jV;rw[h];rcases O with O|O
 .simp[O]
 .rw[O]; simp
theorem Kj(l:List UInt8)(k a:Nat)(O:a<k)(h:zE l a k):jV l k=false:=by
 unfold jV;rw[h.2.2 (k-1) (by omega) (by omega),decide_eq_false (by omega)];simp
theorem Ey(f:ByteArray)(hf:∀k(h:k<f.size),(f[k]'h).toNat<128):∀(g pos:Nat)(st:Option Nat)(acc:List (Nat×Nat)),TA f pos st acc->pos<=f.size->f.size<=pos+g->
  ((bL f (bK qC f g pos st acc)).map λx=>f.extract x.1 x.2)=(jK f.data.toList).map RX:=by
 intro g
 induction g with
 |zero=>
  intro pos st acc h h1 h2;obtain rfl:pos=f.size:=by omega
  have hw:jK f.data.toList=mg f.data.toList f.size:=by unfold jK; simp
  rw[hw]
  cases st with
  |none=>simpa[bK,bL]using(h.none rfl).1
  |some a=>
   obtain⟨e,W,Y⟩:=h.some a rfl;simp only[bK,bL,aB,a0,aC];rw[vm f a f.size Y (Or.inl rfl)];exact e
 |succ g ih=>
  intro pos st acc h h1 h2;unfold bK;by_cases O:pos<f.size
  .rw[if_pos O,decode_ascii f pos O (hf pos O),Gq _ (hf pos O)];have hg:=nR f pos O;simp only;by_cases hl:jf (f[pos]'O)=true
   .rw[hl];simp only[bH,bF,if_false];have U:jf (f.data.toList.getD pos 0)=true:=by rw[hg]; exact hl
    cases st with
    |none=>
     obtain⟨e,hp⟩:=h.none rfl;refine ih _ _ _ ⟨λh=>(by cases h),λa W=>?_⟩ (by omega) (by omega);obtain rfl:pos=a:=by simpa using W
     have hs:=IA _ _ U hp;rw[wJ _ _ hs,aB,e];exact⟨rfl,by omega,zY _ _ _ (FF _ _ (by simp; omega)) (by simpa using O) U⟩
    |some a=>
     obtain⟨e,W,Y⟩:=h.some a rfl;refine ih _ _ _ ⟨λh=>(by cases h),λb hb=>?_⟩ (by omega) (by omega);obtain rfl:a=b:=by simpa using hb
     rw[pb _ _ (Kj _ _ _ W Y)];exact⟨e,by omega,zY _ _ _ Y (by simpa using O) U⟩
   .have aa:jf (f[pos]'O)=false:=by simpa using hl
    rw[aa];simp only[bG,if_true];have U:jf (f.data.toList.getD pos 0)=false:=by rw[hg]; exact aa
    cases st with
    |none=>
     obtain⟨e,hp⟩:=h.none rfl;refine ih _ _ _ ⟨λ_=>?_,λa W=>(by cases W)⟩ (by omega) (by omega);rw[pb _ _ (BE _ _ U)];exact⟨e,Or.inr (by simpa using U)⟩
    |some a=>
     obtain⟨e,W,Y⟩:=h.some a rfl;refine ih _ _ _ ⟨λ_=>?_,λa W=>(by cases W)⟩ (by omega) (by omega);rw[pb _ _ (BE _ _ U),<-e,aB];refine⟨?_,Or.inr (by simpa using U)⟩;simp only[a0,aC];rw[vm f a pos Y (Or.inr U)];rfl
  .rw[if_neg O];have:=ih pos st acc h h1 (by omega);rw[Lib.spansFromP_end _ _ _ _ _ _ O]at this;exact this
theorem DS(f:ByteArray)(O:∀k(h:k<f.size),(f[k]'h).toNat<128):bN qC f=(jK f.data.toList).map RX:=by
 unfold bN Lib.spansOfP;refine Ey f O f.size 0 none [] ⟨λ_=>⟨by simp[mg],Or.inl rfl⟩,λa U=>(by cases U)⟩ (by omega) (by omega)
theorem EP(ws:List Wd):(ws.map RX).map Value.string=gQ ws:=by simp[gQ,RX]
end
section
open Go.RowKit
variable {l:List Wd} {x y:Wd}
theorem kN:∀x:Wd,b9 x x=false:=by
 intro x
 induction x with
 |nil=>rfl
 |cons a x h=>simp[b9,h]
theorem EM{a b c:UInt8}(h:a<b)(k:b<c):a<c:=by
 rw[bU]at *; omega
theorem oN:∀x y z:Wd,b9 x y=true->b9 y z=true->b9 x z=true:=by
 intro x
 induction x with
 |nil=>intro y z O h; cases z with
  |nil=>cases y<;>simp[b9]at h
  |cons=>rfl
 |cons a x U=>
  intro y z O h
  cases y with
  |nil=>simp[b9]at O
  |cons b y=>
   cases z with
   |nil=>simp[b9]at h
   |cons c z=>
    simp only[b9,bB,bA,decide_eq_true_eq,beq_iff_eq]at *;rcases O with O|⟨rfl,O⟩
    .rcases h with h|⟨rfl,h⟩
     .exact Or.inl (EM O h)
     .exact Or.inl O
    .rcases h with h|⟨rfl,h⟩
     .exact Or.inl h
     .exact Or.inr ⟨rfl,U y z O h⟩
theorem kS:∀x y:Wd,b9 x y=true\/x=y\/b9 y x=true:=by
 intro x
 induction x with
 |nil=>intro y; cases y with
  |nil=>exact Or.inr (Or.inl rfl)
  |cons=>exact Or.inl rfl
 |cons a x W=>
  intro y
  cases y with
  |nil=>exact Or.inr (Or.inr rfl)
  |cons b y=>
   simp only[b9,bB,bA,decide_eq_true_eq,beq_iff_eq];by_cases O:a<b
   .exact Or.inl (Or.inl O)
   .by_cases U:b<a
    .exact Or.inr (Or.inr (Or.inl U))
    .obtain rfl:a=b:=by
      apply bW.1;rw[bU]at O U;omega
     rcases W y with h|h|h
     .exact Or.inl (Or.inr ⟨rfl,h⟩)
     .exact Or.inr (Or.inl (by rw[h]))
     .exact Or.inr (Or.inr (Or.inr ⟨rfl,h⟩))
theorem CC(h:b9 x y=true):x≠y:=by
 intro e; subst e; rw[kN]at h; cases h
theorem so(h:b9 x y=true):b9 y x=false:=by
 cases O:b9 y x with
 |false=>rfl
 |true=>have:=oN _ _ _ h O; rw[kN]at this; cases this
abbrev pg(l:List Wd):Prop:=l.Pairwise λx y=>b9 x y=true
theorem pg.nodup(h:pg l):l.Nodup:=h.imp λO=>CC O
theorem PF(out:List Wd)(x:Wd):out.take (za out x)=out.takeWhile λy=>b9 y x:=by
 unfold za
 induction out with
 |nil=>simp
 |cons a l h=>
  rw[aA];split
  .simp only[a7,aM,h]
  .simp
theorem JU(out:List Wd)(x:Wd):out.drop (za out x)=out.dropWhile λy=>b9 y x:=by
 unfold za
 induction out with
 |nil=>simp
 |cons a l h=>
  rw[aA,aY];split
  .simp only[a7,List.drop_succ_cons,h]
  .simp
theorem Bz{p:Wd->Bool}:∀(l:List Wd),∀y∈l.takeWhile p,p y=true:=by
 intro l
 induction l with
 |nil=>intro y h; simp at h
 |cons a l O=>
  intro y h;rw[aA]at h;split at h
  .rename_i U;rcases az.1 h with rfl|h
   .exact U
   .exact O y h
  .simp at h
theorem AU{p:Wd->Bool}:∀(l:List Wd)(y:Wd)(r:List Wd),l.dropWhile p=y::r->p y=false:=by
 intro l
 induction l with
 |nil=>intro y r h; simp at h
 |cons a l O=>
  intro y r h;rw[aY]at h;split at h
  .exact O y r h
  .rename_i U;cases h;simpa using U
theorem QN(out:List Wd)(x:Wd)(h:pg out):pg (wk out x)/\∀y,y∈wk out x↔(y=x\/y∈out):=by
 unfold wk;split
 .rename_i W;refine⟨h,λy=>⟨Or.inr,λO=>?_⟩⟩;rcases O with rfl|O
  .exact List.mem_of_getElem? W
  .exact O
 .rename_i W;have U:=List.take_append_drop (za out x) out;have aa:out[za out x]?=(out.drop (za out x))[0]?:=by simp
  rw[aa]at W;rw[PF,JU]at U⊢;rw[JU]at W;have hA:=Bz (p:=λy=>b9 y x) out;have hH:=AU (p:=λy=>b9 y x) out;generalize out.takeWhile (λy=>b9 y x)=A at *;generalize out.dropWhile (λy=>b9 y x)=B at *;subst U;obtain⟨sA,sB,ab⟩:=aW.1 h
  have hB:∀y∈B,b9 x y=true:=by
   cases B with
   |nil=>intro y O; simp at O
   |cons b B=>
    have h1:=hH b B rfl
    have Y:b9 x b=true:=by
     rcases kS x b with h|h|h
     .exact h
     .subst h; simp at W
     .rw[h1]at h; cases h
    intro y O;rcases az.1 O with rfl|O
    .exact Y
    .exact oN _ _ _ Y ((aO.1 sB).1 y O)
  refine⟨?_,λy=>?_⟩
  .refine aW.2 ⟨sA,?_,?_⟩
   .exact aO.2 ⟨hB,sB⟩
   .intro a ha b hb;rcases az.1 hb with rfl|hb
    .exact hA a ha
    .exact ab a ha b hb
  .simp only[a6,az,List.cons_append,List.nil_append];constructor
   .rintro(h|h|h)
    .exact Or.inr (Or.inl h)
    .exact Or.inl h
    .exact Or.inr (Or.inr h)
   .rintro(h|h|h)
    .exact Or.inr (Or.inl h)
    .exact Or.inl h
    .exact Or.inr (Or.inr h)
theorem Dn(t:List Wd):∀out,pg out->pg (t.foldl wk out)/\∀y,y∈t.foldl wk out↔(y∈t\/y∈out):=by
 induction t with
 |nil=>intro out h; exact⟨h,by simp⟩
 |cons x t O=>
  intro out h;obtain⟨U,W⟩:=QN out x h;obtain⟨Y,h4⟩:=O _ U;refine⟨Y,λy=>?_⟩;rw[aL,h4,W,az];constructor
  .rintro(h|h|h)
   .exact Or.inl (Or.inr h)
   .exact Or.inl (Or.inl h)
   .exact Or.inr h
  .rintro((h|h)|h)
   .exact Or.inr (Or.inl h)
   .exact Or.inl h
   .exact Or.inr (Or.inr h)
theorem BO(O:List (List Wd)):∀out,pg out->pg (O.foldl (λout t=>t.foldl wk out) out)/\∀y,y∈O.foldl (λout t=>t.foldl wk out) out↔((∃t∈O,y∈t)\/y∈out):=by
 induction O with
 |nil=>intro out h; exact⟨h,by simp⟩
 |cons t O U=>
  intro out h;obtain⟨W,Y⟩:=Dn t out h;obtain⟨h3,h4⟩:=U _ W;refine⟨h3,λy=>?_⟩;rw[aL,h4,Y];simp only[az,exists_eq_or_imp];constructor
  .rintro(h|h|h)
   .exact Or.inl (Or.inr h)
   .exact Or.inl (Or.inl h)
   .exact Or.inr h
  .rintro((h|h)|h)
   .exact Or.inr (Or.inl h)
   .exact Or.inl h
   .exact Or.inr (Or.inr h)
theorem jN(h:List (List Wd)):pg (iA h):=(BO h [] List.Pairwise.nil).1
theorem lc(h:List (List Wd))(y:Wd):y∈iA h↔∃t∈h,y∈t:=by
 have:=(BO h [] List.Pairwise.nil).2 y;simpa[iA]using this
theorem xM(h:l.Nodup)(a:Wd):l.count a=if a∈l then 1 else 0:=by
 induction l with
 |nil=>simp
 |cons b l O=>
  obtain⟨U,W⟩:=aF.1 h;rw[List.count_cons,O W];by_cases e:b=a
  .subst e; simp[U]
  .have Y:¬a=b:=λx=>e x.symm;simp[e,Y]
theorem Dy{U:List Wd}(h:l.Nodup)(W:U.Nodup)(hm:∀a,a∈l↔a∈U):l.Perm U:=by
 rw[List.perm_iff_count];intro a;rw[xM h,xM W];by_cases O:a∈l
 .rw[if_pos O,if_pos ((hm a).1 O)]
 .rw[if_neg O,if_neg (λx=>O ((hm a).2 x))]
def k8(kn:List Wd)(t:List Wd)(k:Nat):List Wd:=(t.take k).foldl (λu x=>if x∈kn\/x∈u then u else u++[x]) []
theorem zq(kn t:List Wd)(k:Nat)(h:k<t.length):k8 kn t (k+1)=if t[k]∈kn\/t[k]∈k8 kn t k then k8 kn t k else k8 kn t k++[t[k]]:=by
 unfold k8;rw[ay h,bc]; rfl
theorem zo(kn t:List Wd):∀k,k<=t.length->(k8 kn t k).Nodup/\(∀y,y∈k8 kn t k↔(y∈t.take k/\y ∉ kn))/\(k8 kn t k).length<=k:=by
 intro k
 induction k with
 |zero=>intro _; simp[k8]
 |succ k W=>
  intro hk;obtain⟨U,O,h3⟩:=W (by omega);rw[zq kn t k (by omega),ay (by omega)];split
  .rename_i h;refine⟨U,λy=>?_,by omega⟩;rw[O y,a6,a5];constructor
   .rintro⟨a,b⟩; exact⟨Or.inl a,b⟩
   .rintro⟨a|a,b⟩
    .exact⟨a,b⟩
    .subst a;rcases h with h|h
     .exact absurd h b
     .exact(O _).1 h
  .rename_i h;refine⟨?_,λy=>?_,by simp; omega⟩
   .rw[aP];refine⟨U,by simp,?_⟩;intro a Y b hb;simp at hb;subst hb;intro e;subst e;exact h (Or.inr Y)
   .rw[a6,a5,O y,a6,a5];constructor
    .rintro(⟨a,b⟩|a)
     .exact⟨Or.inl a,b⟩
     .subst a; exact⟨Or.inr rfl,λx=>h (Or.inl x)⟩
    .rintro⟨a|a,b⟩
     .exact Or.inl ⟨a,b⟩
     .exact Or.inr a
theorem AD(kn:List Wd)(W:List (List Wd))(t:List Wd)(h:kn.Perm (iA W)):(kn++k8 kn t t.length).Perm (iA (W++[t])):=by
 obtain⟨h1,h2,_⟩:=zo kn t t.length (bh _);have Y:kn.Nodup:=h.nodup_iff.2 (jN W).nodup;refine Dy ?_ (jN _).nodup ?_
 .rw[aP];refine⟨Y,h1,λa U b hb e=>?_⟩;subst e;exact((h2 _).1 hb).2 U
 .intro a;rw[a6,h2,lc,h.mem_iff,lc,aK];constructor
  .rintro(⟨t',O,U⟩|⟨U,_⟩)
   .exact⟨t',by simp[O],U⟩
   .exact⟨t,by simp,U⟩
  .rintro⟨t',O,U⟩;rw[a6,a5]at O;rcases O with O|rfl
   .exact Or.inl ⟨t',O,U⟩
   .by_cases hk:a∈kn
    .exact Or.inl ((lc W a).1 (h.mem_iff.1 hk))
    .exact Or.inr ⟨U,λe=>hk (h.mem_iff.2 ((lc W a).2 e))⟩
end
section
open Go.RowKit
variable {x y z:Fr} {K:List Wd} {sc:Wd->Fr}
def uW(x y:Fr):Bool:=decide (y.1*x.2<x.1*y.2)
theorem Ln(Y:0<z.2)(O:uW x y=true)(h2:uW y z=true):uW x z=true:=by
 unfold uW at *;simp only[decide_eq_true_eq]at *;have a1:y.1*x.2*z.2<x.1*y.2*z.2:=bn O Y;by_cases hx:0<x.2
 .have a2:z.1*y.2*x.2<y.1*z.2*x.2:=bn h2 hx;refine Nat.lt_of_mul_lt_mul_right (a:=y.2) ?_;have e1:z.1*x.2*y.2=z.1*y.2*x.2:=by rw[bi]
  have e2:y.1*z.2*x.2=y.1*x.2*z.2:=by rw[bi]
  have e3:x.1*z.2*y.2=x.1*y.2*z.2:=by rw[bi]
  omega
 .have U:x.2=0:=by omega
  have W:0<x.1:=by
   rcases bo x.1 with h|h
   .rw[h]at O; simp at O
   .exact h
  rw[U];simpa using bq W Y
theorem wm(h:0<x.2)(O:0<y.2)(U:0<z.2)(W:uW y x=false)(Y:uW z y=false):uW z x=false:=by
 unfold uW at *;simp only[decide_eq_false_iff_not,Nat.not_lt]at *;have a1:y.1*x.2*z.2<=x.1*y.2*z.2:=bj _ W;have a2:z.1*y.2*x.2<=y.1*z.2*x.2:=bj _ Y;have _:=h;have _:=U;refine Nat.le_of_mul_le_mul_right (c:=y.2) ?_ O;have e1:z.1*x.2*y.2=z.1*y.2*x.2:=by rw[bi]
 have e2:y.1*z.2*x.2=y.1*x.2*z.2:=by rw[bi]
 have e3:x.1*z.2*y.2=x.1*y.2*z.2:=by rw[bi]
 omega
theorem Nz(h:uW x y=true):uW y x=false:=by
 unfold uW at *;simp only[decide_eq_true_eq,decide_eq_false_iff_not]at *;omega
def nI(sc:Wd->Fr)(x y:Wd):Bool:=uW (sc x) (sc y) || (!uW (sc y) (sc x)&&b9 x y)
theorem sR(sc:Wd->Fr)(x:Wd):nI sc x x=false:=by
 unfold nI;rw[kN];have:uW (sc x) (sc x)=false:=by unfold uW; simp
 rw[this]; rfl
theorem rH(sc:Wd->Fr){x y z:Wd}(Y:0<(sc x).2)(hy:0<(sc y).2)(W:0<(sc z).2)(O:nI sc x y=true)(h:nI sc y z=true):nI sc x z=true:=by
 unfold nI at *;simp only[bB,bA,bD]at *;rcases O with O|⟨O,aa⟩
 .rcases h with h|⟨h,U⟩
  .exact Or.inl (Ln W O h)
  .cases hh:uW (sc x) (sc z)with
   |true=>exact Or.inl rfl
   |false=>
    have:=wm hy W Y h hh;rw[this]at O; cases O
 .rcases h with h|⟨h,U⟩
  .cases hh:uW (sc x) (sc z)with
   |true=>exact Or.inl rfl
   |false=>
    have:=wm W Y hy hh O;rw[this]at h; cases h
  .exact Or.inr ⟨wm Y hy W O h,oN _ _ _ aa U⟩
theorem rE(sc:Wd->Fr)(x y:Wd):nI sc x y=true\/x=y\/nI sc y x=true:=by
 unfold nI;simp only[bB,bA,bD]
 cases O:uW (sc x) (sc y)with
 |true=>exact Or.inl (Or.inl rfl)
 |false=>
  cases U:uW (sc y) (sc x)with
  |true=>exact Or.inr (Or.inr (Or.inl rfl))
  |false=>
   rcases kS x y with h|h|h
   .exact Or.inl (Or.inr ⟨rfl,h⟩)
   .exact Or.inr (Or.inl h)
   .exact Or.inr (Or.inr (Or.inr ⟨rfl,h⟩))
theorem Me(sc:Wd->Fr){x y:Wd}(h:nI sc x y=true):nI sc y x=false:=by
 unfold nI at *;simp only[bB,bA,bD,Bool.or_eq_false_iff,Bool.and_eq_false_iff,Bool.not_eq_false']at *;rcases h with h|⟨h,O⟩
 .exact⟨Nz h,Or.inl h⟩
 .exact⟨h,Or.inr (so O)⟩
theorem GS(O:pg K){i j:Nat}(h:i<j)(U:j<K.length):b9 (K[i]'(by omega)) K[j]=true:=aJ.1 O i j (by omega) U h
theorem C2(i j:Nat)(hi:i<K.length)(h:j<K.length):wO (K.map sc) i j=uW (sc K[i]) (sc K[j]):=by
 unfold wO uW;simp[ax,hi,h]
theorem I7(hK:pg K)(hp:∀x∈K,0<(sc x).2)(told:List Bool):∀(m:Nat),m<=K.length->∀b,kw (K.map sc) told m=some b->∃hb:b<K.length,∀i(hi:i<K.length),i<m->told.getD i false=false->i≠b->nI sc K[b] K[i]=true:=by
 intro m
 induction m with
 |zero=>intro _ b h; simp[kw]at h
 |succ m ih=>
  intro hm b h
  cases ht:told.getD m false with
  |true=>
   rw[G6 _ _ _ ht]at h;obtain⟨hb,hh⟩:=ih (by omega) b h;refine⟨hb,λi hi aa U Y=>?_⟩;by_cases e:i=m
   .subst e; rw[ht]at U; cases U
   .exact hh i hi (by omega) U Y
  |false=>
   cases O:kw (K.map sc) told m with
   |none=>
    rw[Et _ _ _ ht O]at h;obtain rfl:m=b:=by simpa using h
    refine⟨by omega,λi hi aa U Y=>?_⟩;have:=xz _ _ _ O i (by omega);rw[U]at this; cases this
   |some j=>
    obtain⟨hj,hh⟩:=ih (by omega) j O;have ab:=(C4 _ _ _ _ O).1
    cases W:wO (K.map sc) m j with
    |true=>
     rw[AZ _ _ _ _ ht O W]at h;obtain rfl:m=b:=by simpa using h
     refine⟨by omega,λi hi aa U Y=>?_⟩
     have h1:nI sc K[m] K[j]=true:=by
      rw[C2 m j (by omega) hj]at W;unfold nI; rw[W]; rfl
     by_cases e:i=j
     .subst e; exact h1
     .exact rH sc (hp _ (a8 _)) (hp _ (a8 _)) (hp _ (a8 _)) h1 (hh i hi (by omega) U e)
    |false=>
     rw[D4 _ _ _ _ ht O W]at h;obtain rfl:j=b:=by simpa using h
     refine⟨hj,λi hi aa U Y=>?_⟩;by_cases e:i=m
     .subst e;rw[C2 i j hi hj]at W;unfold nI;rw[W,GS hK ab hi];simp
     .exact hh i hi (by omega) U Y
theorem D9(hK:pg K)(hp:∀x∈K,0<(sc x).2):∀(k:Nat)(told:List Bool)(S:List Wd),told.length=K.length->S.Nodup->(S.Pairwise λx y=>nI sc x y=true)->
  (∀x,x∈S↔∃i,∃hi:i<K.length,told.getD i false=false/\K[i]=x)->(AE (K.map sc) told k).map (λi=>K.getD i [])=S.take k:=by
 intro k
 induction k with
 |zero=>intro told S _ _ _ _; simp[AE]
 |succ k ih=>
  intro told S hl af hs hm
  cases hb:kw (K.map sc) told (K.map sc).length with
  |none=>
   have jO:=xz _ _ _ hb
   have:S=[]:=by
    cases S with
    |nil=>rfl
    |cons x S=>
     obtain⟨i,hi,O,_⟩:=(hm x).1 (by simp);have:=jO i (by simpa using hi);rw[O]at this; cases this
   subst this;simp only[AE,hb,aC,List.take_nil]
  |some b=>
   obtain⟨ad,U⟩:=I7 hK hp told (K.map sc).length (by simp) b hb;have ag:=(C4 _ _ _ _ hb).2;have ae:K[b]∈S:=(hm _).2 ⟨b,ad,ag,rfl⟩
   cases S with
   |nil=>simp at ae
   |cons x S=>
    obtain⟨ah,ai⟩:=aO.1 hs;obtain⟨aj,ak⟩:=aF.1 af;obtain⟨i0,Y,ab,W⟩:=(hm x).1 (by simp)
    have aa:K[b]=x:=by
     rcases az.1 ae with h|h
     .exact h
     .by_cases e:i0=b
      .subst e; exact W
      .have O:=U i0 Y (by simpa using Y) ab e;have h2:=ah _ h;rw[W]at O;rw[Me sc h2]at O;cases O
    have an:i0=b:=by
     by_cases e:i0=b
     .exact e
     .have O:=U i0 Y (by simpa using Y) ab e;rw[W,aa,sR]at O;cases O
    simp only[AE,hb,a0,aM];rw[ih (told.set b true) S (by simpa using hl) ak ai ?_]
    .congr 1;rw[<-aa,ax,a3 ad];rfl
    .intro y
     have ac:∀i,(told.set b true).getD i false=if b=i then true else told.getD i false:=by
      intro i;simp only[ax,List.getElem?_set];by_cases e:b=i
      .subst e; simp[show b<told.length by omega]
      .simp[e]
     constructor
     .intro hy;obtain⟨i,hi,O,h2⟩:=(hm y).1 (List.mem_cons_of_mem _ hy);refine⟨i,hi,?_,h2⟩;rw[ac];by_cases e:b=i
      .subst e;rw[aa]at h2;subst h2;exact absurd hy aj
      .rw[if_neg e]; exact O
     .rintro⟨i,hi,O,h2⟩;rw[ac]at O;by_cases e:b=i
      .rw[if_pos e]at O; cases O
      .rw[if_neg e]at O;have al:=(hm y).2 ⟨i,hi,O,h2⟩;rcases az.1 al with h|h
       .have am:i≠b:=λx=>e x.symm;have:=U i hi (by simpa using hi) O am;rw[h2,h,aa,sR]at this;cases this
       .exact h
theorem sM(O:List (List Wd))(l:List Wd)(most:Nat)(S:List Wd)(W:∀x∈iA O,0<(lg O l x).2)(U:S.Perm (iA O))(Y:S.Pairwise λx y=>nI (lg O l) x y=true) :
  kQ O l most=S.take (min most (iA O).length):=by
 unfold kQ;refine D9 (jN O) W _ _ S (by simp) (U.nodup_iff.2 (jN O).nodup) Y ?_;intro x;rw[U.mem_iff];constructor
 .intro h;obtain⟨i,hi,e⟩:=aX h;exact⟨i,hi,by simp[ax,hi],e⟩
 .rintro⟨i,hi,_,e⟩;subst e;exact a8 _
end
section
open Go.RowKit
def ll(t:List Wd)(e:Nat):List (List Wd):=(aI (min e 3+1)).map λj=>(t.take e).drop (e-min e 3+j)
def lZ(t:List Wd):Nat->List (List Wd)
 |0=>[]
 |e+1=>lZ t e++ll t (e+1)
def ji(h:List (List Wd))(ws:List Wd):Nat:=if ws=[]then qA h else iO h ws
def P7(t ws:List Wd):Nat:=if ws=[]then t.length else nj t ws
theorem Lb(h:List (List Wd))(t ws:List Wd):ji (h++[t]) ws=ji h ws+P7 t ws:=by
 unfold ji P7;split
 .simp[qA]
 .simp[iO]
theorem Ox(ws:List Wd):ji [] ws=0:=by unfold ji; split<;>simp[qA,iO]
theorem y4(n:Nat)(f:Nat->List Wd)(ws:List Wd)(k:Nat)(W:k<n)(h:∀j,j<n->f j=ws->j=k):((aI n).map f).count ws=if f k=ws then 1 else 0:=by
 have key:∀m,m<=n->((aI m).map f).count ws=if k<m/\f k=ws then 1 else 0:=by
  intro m
  induction m with
  |zero=>intro _; simp
  |succ m Y=>
   intro hm;rw[aE,aB,aQ,Y (by omega)];simp only[a0,aC,List.count_singleton];by_cases e:m=k
   .subst e;simp
   .have O:f m≠ws:=λhh=>e (h m (by omega) hh);simp only[beq_iff_eq,O,if_false];by_cases U:k<m
    .simp[U,show k<m+1 by omega]
    .simp[U,show ¬k<m+1 by omega]
 rw[key n (bh _)];simp[W]
theorem I4(l:List (List Wd))(ws:List Wd)(h:∀x∈l,x≠ws):l.count ws=0:=by
 rw[List.count_eq_zero];intro hm;exact h ws hm rfl
theorem ud(t ws:List Wd)(e:Nat)(he:e<=t.length)(hw:ws.length<=3):(ll t e).count ws=if ws.length<=e/\(t.take e).drop (e-ws.length)=ws then 1 else 0:=by
 have h:∀j,((t.take e).drop (e-min e 3+j)).length=e-(e-min e 3+j):=by intro j; simp; omega
 by_cases O:ws.length<=e
 .unfold ll;rw[y4 (min e 3+1) (λj=>(t.take e).drop (e-min e 3+j)) ws (min e 3-ws.length) (by omega)]
  .rw[show e-min e 3+(min e 3-ws.length)=e-ws.length by omega];simp[O]
  .intro j W U;have:=h j;rw[U]at this;omega
 .rw[if_neg (by simp[O])];unfold ll;refine I4 _ _ (λx Y=>?_);obtain⟨j,W,rfl⟩:=aH.1 Y;intro U;have:=h j;rw[U]at this;omega
theorem GX(t ws:List Wd)(Y:ws.length<=3)(h1:ws≠[]):∀n,n<=t.length->(lZ t n).count ws=iY t ws (n+1-ws.length):=by
 have U:1<=ws.length:=by cases ws with|nil=>exact absurd rfl h1|cons a b=>simp
 intro n
 induction n with
 |zero=>intro _; rw[show 0+1-ws.length=0 by omega]; simp[lZ,iY]
 |succ n ih=>
  intro hn;simp only[lZ];rw[aQ,ih (by omega),ud t ws (n+1) hn Y];by_cases h:ws.length<=n+1
  .rw[show n+1+1-ws.length=(n+1-ws.length)+1 by omega]
   have W:kJ t ws (n+1-ws.length)=decide ((t.take (n+1)).drop (n+1-ws.length)=ws):=by
    unfold kJ rO;rw[aK,List.drop_take,show n+1-(n+1-ws.length)=ws.length by omega]
   by_cases O:(t.take (n+1)).drop (n+1-ws.length)=ws
   .rw[if_pos ⟨h,O⟩,Bu _ _ _ (by rw[W]; exact decide_eq_true O)]
   .rw[if_neg (λx=>O x.2),DG _ _ _ (by rw[W]; exact decide_eq_false O)];omega
  .rw[if_neg (λx=>h x.1),show n+1+1-ws.length=0 by omega,show n+1-ws.length=0 by omega,Nat.add_zero]
theorem zb(t:List Wd):∀n,n<=t.length->(lZ t n).count []=n:=by
 intro n
 induction n with
 |zero=>intro _; rfl
 |succ n h=>
  intro O;simp only[lZ];rw[aQ,h (by omega),ud t [] (n+1) O (by simp),if_pos ⟨by simp,by simp⟩]
theorem O9(t ws:List Wd)(O:ws.length<=3):(lZ t t.length).count ws=P7 t ws:=by
 unfold P7;split
 .rename_i h; rw[h]; exact zb t _ (bh _)
 .rename_i h; exact GX t ws O h _ (bh _)
theorem qw(h:List (List Wd))(ws:List Wd):ji h ws<=jE h:=by
 unfold ji;split
 .exact Ma h
 .exact Mi h ws
theorem qx(t:List Wd)(e:Nat):(ll t e).length=min e 3+1:=by simp[ll]
theorem Fg(t:List Wd)(e j:Nat)(h:j<(ll t e).length):(ll t e)[j]=(t.take e).drop (e-min e 3+j):=by simp[ll]
theorem zG(t:List Wd):∀n,(lZ t n).length<=4*n:=by
 intro n
 induction n with
 |zero=>simp[lZ]
 |succ n h=>simp only[lZ,aZ,qx]; omega
end
section
open Go.RowKit
variable {a p:Fr} {t ws:List Wd}
def qI(h:List (List Wd))(x:Wd):List Wd->Fr
 |[]=>(ji h [x]*4,ji h [])
 |[v]=>if ji h [v,x]=0 then(ji h [x]*4,ji h [])else(ji h [v,x]*10,ji h [v])
 |u::v::_=>if ji h [u,v,x]=0 then(if ji h [v,x]=0 then(ji h [x]*4,ji h [])else(ji h [v,x]*10,ji h [v]))else(ji h [u,v,x]*25,ji h [u,v])
def pq(l:List Wd):List Wd:=l.drop (l.length-2)
theorem KF(l:List Wd):(pq l).length<=2:=by simp[pq]; omega
theorem MU(l:List Wd):(l=[]/\pq l=[])\/(l.length=1/\pq l=[l.getD (l.length-1) []])\/(1<l.length/\pq l=[l.getD (l.length-2) [],l.getD (l.length-1) []]):=by
 unfold pq
 match l with
 |[]=>exact Or.inl ⟨rfl,rfl⟩
 |[a]=>exact Or.inr (Or.inl ⟨rfl,rfl⟩)
 |a::b::r=>
  refine Or.inr (Or.inr ⟨by simp,?_⟩);have h:(a::b::r).length=r.length+2:=rfl;rw[h,show r.length+2-2=r.length by omega,show r.length+2-1=r.length+1 by omega];have O:(a::b::r).drop r.length=(a::b::r)[r.length]'(by simp; omega)::(a::b::r).drop (r.length+1):=a9 (by simp; omega);have U:(a::b::r).drop (r.length+1)=(a::b::r)[r.length+1]'(by simp)::(a::b::r).drop (r.length+2):=a9 (by simp);have W:(a::b::r).drop (r.length+2)=[]:=by simp
  rw[O,U,W];simp only[ax];rw[a3 (by simp; omega),a3 (by simp)];rfl
def GG(a p:Fr):Prop:=∃c d:Nat,(a=(c,d)/\p=(c*25,d))\/(a=(4*c,10*d)/\p=(c*10,d))\/(a=(16*c,100*d)/\p=(c*4,d))
theorem GG.three(c d:Nat):GG (c,d) (c*25,d):=⟨c,d,Or.inl ⟨rfl,rfl⟩⟩
theorem GG.two(c d:Nat):GG (4*c,10*d) (c*10,d):=⟨c,d,Or.inr (Or.inl ⟨rfl,rfl⟩)⟩
theorem GG.one(c d:Nat):GG (16*c,100*d) (c*4,d):=⟨c,d,Or.inr (Or.inr ⟨rfl,rfl⟩)⟩
theorem rk(h:List (List Wd))(l:List Wd)(x:Wd):GG (lg h l x) (qI h x (pq l)):=by
 have n3:∀u v:Wd,ji h [u,v,x]=iO h [u,v,x]:=λu v=>by simp[ji]
 have n2:∀u v:Wd,ji h [u,v]=iO h [u,v]:=λu v=>by simp[ji]
 have U:∀u:Wd,ji h [u]=iO h [u]:=λu=>by simp[ji]
 have W:ji h []=qA h:=by simp[ji]
 unfold lg;rcases MU l with⟨rfl,e⟩|⟨h1,e⟩|⟨h2,e⟩
 .rw[e];simp only[aG];rw[if_neg (by omega),if_neg (by omega)];simp only[qI,U,W];exact GG.one _ _
 .rw[e,if_neg (by omega)];simp only[qI,U,n2,W];unfold Sy;by_cases O:iO h [l.getD (l.length-1) [],x]=0
  .rw[if_neg (by omega),if_pos O]; exact GG.one _ _
  .rw[if_pos (by omega),if_neg O]; exact GG.two _ _
 .rw[e];simp only[qI,U,n2,n3,W];unfold SO Sy;by_cases O:iO h [l.getD (l.length-2) [],l.getD (l.length-1) [],x]=0
  .rw[if_neg (by omega),if_pos O];by_cases Y:iO h [l.getD (l.length-1) [],x]=0
   .rw[if_neg (by omega),if_pos Y]; exact GG.one _ _
   .rw[if_pos (by omega),if_neg Y]; exact GG.two _ _
  .rw[if_pos (by omega),if_neg O]; exact GG.three _ _
theorem oL(c g d:Nat):c*g*d=g*(c*d):=by rw[Nat.mul_comm c g,bl]
theorem xw(a b c d:Nat):a*c*(b*d)=a*b*(c*d):=Nat.mul_mul_mul_comm a c b d
theorem Np{b q:Fr}(U:GG a p)(O:GG b q):uW p q=uW a b:=by
 unfold uW;rw[decide_eq_decide];obtain⟨c,d,⟨rfl,rfl⟩|⟨rfl,rfl⟩|⟨rfl,rfl⟩⟩:=U
 .obtain⟨h,d',⟨rfl,rfl⟩|⟨rfl,rfl⟩|⟨rfl,rfl⟩⟩:=O
  .simp only[oL]; generalize c*d'=X; generalize h*d=Y; omega
  .simp only; rw[oL h 10,oL c 25,bl 4,bk c 10]; generalize c*d'=X; generalize h*d=Y; omega
  .simp only; rw[oL h 4,oL c 25,bl 16,bk c 100]; generalize c*d'=X; generalize h*d=Y; omega
 .obtain⟨h,d',⟨rfl,rfl⟩|⟨rfl,rfl⟩|⟨rfl,rfl⟩⟩:=O
  .simp only; rw[oL h 25,oL c 10,bl 4,bk h 10]; generalize c*d'=X; generalize h*d=Y; omega
  .simp only; rw[oL h 10,oL c 10,xw 4 10,xw 4 10]; generalize c*d'=X; generalize h*d=Y; omega
  .simp only; rw[oL h 4,oL c 10,xw 16 10,xw 4 100]; generalize c*d'=X; generalize h*d=Y; omega
 .obtain⟨h,d',⟨rfl,rfl⟩|⟨rfl,rfl⟩|⟨rfl,rfl⟩⟩:=O
  .simp only; rw[oL h 25,oL c 4,bl 16,bk h 100]; generalize c*d'=X; generalize h*d=Y; omega
  .simp only; rw[oL h 10,oL c 4,xw 4 100,xw 16 10]; generalize c*d'=X; generalize h*d=Y; omega
  .simp only; rw[oL h 4,oL c 4,xw 16 100,xw 16 100]; generalize c*d'=X; generalize h*d=Y; omega
theorem QC(h:GG a p):0<p.2↔0<a.2:=by
 obtain⟨c,d,⟨rfl,rfl⟩|⟨rfl,rfl⟩|⟨rfl,rfl⟩⟩:=h<;>simp
theorem NQ(t ws:List Wd)(x:Wd)(k:Nat)(h:kJ t (ws++[x]) k=true):kJ t ws k=true:=by
 unfold kJ rO at *;simp only[decide_eq_true_eq,aK]at *;have:=congrArg (List.take ws.length) h;rw[List.take_take]at this;simpa using this
theorem xO(h:0<nj t ws):∃k,k+ws.length<=t.length/\kJ t ws k=true:=by
 unfold nj iY at h;obtain⟨k,O⟩:=List.exists_mem_of_length_pos h;obtain⟨U,W⟩:=a4.1 O;have:=bf.1 U;exact⟨k,by omega,W⟩
theorem xU{k:Nat}(O:k+ws.length<=t.length)(h:kJ t ws k=true):0<nj t ws:=by
 unfold nj iY;exact aU (a4.2 ⟨bf.2 (by omega),h⟩)
theorem uI{O:Type}(f:O->Nat):∀(l:List O),0<(l.map f).sum↔∃x∈l,0<f x:=by
 intro l
 induction l with
 |nil=>simp
 |cons a l U=>
  simp only[a0,aT,az,exists_eq_or_imp];constructor
  .intro h;by_cases W:0<f a
   .exact Or.inl W
   .exact Or.inr (U.1 (by omega))
  .rintro(h|h)
   .omega
   .have:=U.2 h; omega
theorem AV(O:List (List Wd))(ws:List Wd)(x:Wd)(h:0<iO O (ws++[x])):0<iO O ws:=by
 unfold iO at *;rw[uI]at *;obtain⟨t,U,W⟩:=h;obtain⟨k,Y,h2⟩:=xO W;simp at Y;exact⟨t,U,xU (by omega) (NQ _ _ _ _ h2)⟩
theorem Mu(O:List (List Wd))(x:Wd):0<iO O [x]↔∃t∈O,x∈t:=by
 unfold iO;rw[uI];constructor
 .rintro⟨t,h,U⟩;obtain⟨k,h1,h2⟩:=xO U;refine⟨t,h,?_⟩;unfold kJ rO at h2;simp only[a7,aG,decide_eq_true_eq]at h2;have:x∈(t.drop k).take (0+1):=by rw[h2]; simp
  exact List.mem_of_mem_drop (List.mem_of_mem_take this)
 .rintro⟨t,h,W⟩;obtain⟨k,Y,e⟩:=aX W;refine⟨t,h,xU (k:=k) (by simp; omega) ?_⟩;unfold kJ rO;simp only[a7,aG,decide_eq_true_eq];rw[a9 Y,e];rfl
theorem rl(O:List (List Wd))(l:List Wd)(x:Wd)(W:x∈iA O):0<(lg O l x).2:=by
 unfold lg;split
 .rename_i h; exact AV O [_,_] x h.2
 .split
  .rename_i h;have:=AV O [_] x h.2;simp only;omega
  .obtain⟨t,Y,U⟩:=(lc O x).1 W
   have:0<qA O:=by
    unfold qA;rw[uI];exact⟨t,Y,aU U⟩
   simp only;omega
theorem Q9(h:List (List Wd))(l:List Wd)(x:Wd)(O:x∈iA h):0<(qI h x (pq l)).2:=(QC (rk h l x)).2 (rl h l x O)
theorem Lh(O:List (List Wd))(x:Wd):ji O [x]=0↔x ∉ iA O:=by
 have h:=Mu O x;rw[lc];have e:ji O [x]=iO O [x]:=by simp[ji]
 rw[e];constructor
 .intro U W; have:=h.2 W; omega
 .intro W;rcases bo (iO O [x])with U|U
  .exact U
  .exact absurd (h.1 U) W
theorem RS(O:List (List Wd))(x:Wd)(l:List Wd):(qI O x l).1<=25*jE O/\(qI O x l).2<=jE O:=by
 have h:=qw O
 match l with
 |[]=>have:=h [x]; have:=h []; simp only[qI]; omega
 |[v]=>
  have:=h [x]; have:=h []; have:=h [v,x]; have:=h [v];simp only[qI];split<;>simp only<;>omega
 |u::v::_=>
  have:=h [x]; have:=h []; have:=h [v,x]; have:=h [v]; have:=h [u,v,x]; have:=h [u,v];simp only[qI];split
  .split<;>simp only<;>omega
  .simp only; omega
end
section
open Go.RowKit Go.Sort Go.Shelf
def wX(h:List (List Wd))(l:List Wd)(x:Wd):Fr:=if x∈iA h then qI h x (pq l)else(0,1)
theorem GJ(O:List (List Wd))(l:List Wd)(x:Wd)(h:x∈iA O):wX O l x=qI O x (pq l):=by unfold wX; rw[if_pos h]
theorem tA(O:List (List Wd))(l:List Wd)(x:Wd):0<(wX O l x).2:=by
 unfold wX;split
 .rename_i h; exact Q9 O l x h
 .exact Nat.one_pos
theorem O7(h:List (List Wd))(l:List Wd)(x:Wd):(wX h l x).1<=25*jE h/\(wX h l x).2<=jE h+1:=by
 unfold wX;split
 .have:=RS h x (pq l); omega
 .simp only; omega
def zz(a b:Nat):Int:=if a<b then -1 else if b<a then 1 else 0
def Su(sc:Wd->Fr)(x y:Wd):Int:=if zz ((sc y).1*(sc x).2) ((sc x).1*(sc y).2)≠0 then zz ((sc y).1*(sc x).2) ((sc x).1*(sc y).2)else bJ x y
theorem Qg:∀x y:Wd,(bJ x y<0)↔b9 x y=true:=by
 intro x
 induction x with
 |nil=>intro y; cases y<;>simp[bJ,b9]
 |cons a x W=>
  intro y
  cases y with
  |nil=>simp[bJ,b9]
  |cons b y=>
   unfold bJ b9;by_cases h:a<b
   .simp[h]
   .by_cases O:b<a
    .have U:a≠b:=by
      intro e; subst e;exact h O
     simp[h,O,U]
    .have Y:a=b:=by
      apply bW.1;rw[bU]at h O;omega
     subst Y;simp[h,W]
theorem DU(sc:Wd->Fr)(x y:Wd):ltOf (Su sc) x y=nI sc x y:=by
 unfold ltOf Su nI uW zz;by_cases h:(sc y).1*(sc x).2<(sc x).1*(sc y).2
 .simp[h]
 .by_cases O:(sc x).1*(sc y).2<(sc y).1*(sc x).2
  .simp[h,O]
  .simp only[h,O,if_false,ne_eq,not_true_eq_false,decide_false,bE,bG,Bool.true_and];rw[bC,decide_eq_true_eq];exact Qg x y
theorem P8(O:List (List Wd))(l:List Wd):SWO (ltOf (Su (wX O l))) where
 irrefl x:=by rw[DU]; exact sR _ x
 trans x y z h1 h2:=by rw[DU]at *; exact rH _ (tA O l x) (tA O l y) (tA O l z) h1 h2
 ntrans x y z h1 h2:=by
  rw[DU]at *
  cases U:nI (wX O l) x z with
  |false=>rfl
  |true=>
   rcases rE (wX O l) x y with h|h|h
   .rw[h1]at h; cases h
   .subst h; rw[h2]at U; cases U
   .have:=rH _ (tA O l y) (tA O l x) (tA O l z) h U;rw[h2]at this; cases this
theorem MM(h:List (List Wd))(l:List Wd)(x y:Wd)(O:x∈iA h)(U:y∈iA h):nI (wX h l) x y=nI (lg h l) x y:=by
 unfold nI;rw[GJ h l x O,GJ h l y U,Np (rk h l x) (rk h l y),Np (rk h l y) (rk h l x)]
theorem AK(O:List (List Wd))(l kn:List Wd)(most:Nat)(d':Array Wd)(hk:kn.Perm (iA O))(hp:PermIn 0 kn.toArray.size kn.toArray d')(hs:SortedIn (ltOf (Su (wX O l))) 0 kn.toArray.size d') :
  kQ O l most=d'.toList.take (min most kn.length):=by
 obtain⟨p1,_,p3⟩:=hp
 have iS:d'.toList.Perm (iA O):=by
  have e1:d'.extract 0 kn.toArray.size=d':=by
   rw[<-p1]; simp
  have e2:kn.toArray.extract 0 kn.toArray.size=kn.toArray:=by simp
  rw[e1,e2]at p3;exact p3.trans hk
 rw[sM O l most d'.toList (λx hx=>rl O l x hx) iS ?_,hk.length_eq];rw[aJ];intro i j hi Y W;have ab:d'.toList.length=kn.toArray.size:=by simpa using p1
 have h:=hs i j (bm _) W (by omega);rw[DU]at h
 have gi:d'[i]! = d'.toList[i]:=by
  rw[getElem!_pos d' i (by simpa using hi)]; rfl
 have gj:d'[j]! = d'.toList[j]:=by
  rw[getElem!_pos d' j (by simpa using Y)]; rfl
 rw[gi,gj]at h;have mi:=iS.mem_iff.1 (a8 hi);have mj:=iS.mem_iff.1 (a8 Y);rw[MM O l _ _ mj mi]at h;have aa:d'.toList.Nodup:=iS.nodup_iff.2 (jN O).nodup;rcases rE (lg O l) d'.toList[i] d'.toList[j]with U|U|U
 .exact U
 .exfalso;have:=aJ.1 aa i j hi Y W;exact this U
 .rw[h]at U; cases U
end
section
open Go.RowKit
def Rd(w:World)(v:Value)(xs:List Value):Prop:=
 ∃a cap,v=.slice a xs.length cap/\xs.length<=cap/\cap<=br/\∀j u,xs[j]?=some u->∃b off,a=some ⟨b,off,none⟩/\w.cell? ⟨b,off+j,none⟩=some u
theorem Rd.lr{w:World}{base e n:Nat}{v:Value}{xs:List Value}(h:w.ownsRow base e 1 v n xs):Rd w v xs:=by
 have U:=h;obtain⟨W,h⟩:=h;rcases h with⟨rfl,rfl⟩|⟨g,cap,Y,rfl,_,hg,hn,O,aa,ab⟩
 .have:xs=[]:=by simpa using W
  subst this;exact⟨none,0,rfl,bh _,by unfold br; omega,by simp⟩
 .have e:n=xs.length:=by omega
  refine⟨some ⟨g,0,none⟩,cap,by rw[e],by omega,O,λj u hj=>⟨g,0,rfl,?_⟩⟩;have:=U.cells (g:=g) rfl j u hj
  have e2:(⟨g,0,none⟩:Addr).add j=⟨g,0+j,none⟩:=by
   unfold bY;split
   .rename_i h; rw[h]
   .rfl
  rw[e2]at this;exact this
theorem kW(ws:List Wd)(j:Nat)(h:j<ws.length):(gQ ws)[j]?=some (.string ⟨ws[j].toArray⟩):=by
 simp[gQ,h]
end
section
open Go.RowKit
variable {xs:List Value} {ws:List Wd} {b base cap e n:Nat} {a:Option Addr} {v:Value} {w w':World}
theorem mY{P:Program}(w:World)(t O e:bs)(i:TypeInfo)(U:P.underlying t=some (.slice e))(hi:P.info? e=some i)(b:Option Addr)(n cap c:Nat)(h:n<=cap) :
  (bO #[t,t] O #[.slice b n cap,.slice none 0 c]).run P w=.ok (.slice b n cap) w:=by
 cases b<;>simp[bO,b4 U,sizeOf,typeInfo,hi,bQ,bP,h,b8]
theorem ib(h:w.ownsRow base e 1 v n xs):∃a cap,v=.slice a n cap/\n<=cap:=by
 rcases h.2 with⟨rfl,rfl⟩|⟨g,cap,O,rfl,_,_,U,_⟩
 .exact⟨none,0,rfl,bh _⟩
 .exact⟨_,cap,rfl,U⟩
theorem Bs{P:Program}(w:World)(base:Nat)(t ty e:bs)(i:TypeInfo)(z:Value)(bytes:Nat)(ht:P.underlying t=some (.slice e))(hi:P.info? e=some i)(hz:i.zero=some z)
  (U:i.size=1) (ab:i.bytes=bytes) (ac:z.cells.size=1)
  (v:Value) (n:Nat) (xs:List Value) (h:w.ownsRow base e 1 v n xs)
  (x:Value) (news:List Value) (hx:Rd w x news) (h1:∀u∈news,u.oneCell'=true)
  (O:(n+news.length)*bytes<=140737488355328) (ae:n+news.length<=br) (W:base<=w.heap.size) :
  ∃v' w',(bO #[t,t] ty #[v,x]).run P w=.ok v' w'/\w'.ownsRow base e 1 v' (n+news.length) (xs++news)/\w.grownBy w' v.ownBlock:=by
 obtain⟨a,cap,rfl,hc,hm,hr⟩:=hx
 cases a with
 |none=>
  have hn:news=[]:=by
   cases news with
   |nil=>rfl
   |cons u us=>obtain⟨b,off,Y,_⟩:=hr 0 u rfl; simp at Y
  subst hn;obtain⟨b,c,rfl,af⟩:=ib h;refine⟨_,w,mY w t ty e i ht hi b n c cap af,by simpa using h,World.grownBy.refl _ _⟩
 |some ad=>
  by_cases hn:news=[]
  .subst hn;obtain⟨v',w',h1,h2,h3,_⟩:=bv (P:=P) w base t ty e i z 1 bytes ht hi hz U ab ac (by decide) v n xs h ad 0 cap [] rfl (by simp) (by simp) (by simpa using ae) (by simpa using O) W;exact⟨v',w',h1,h2,h3⟩
  .obtain⟨b,off,Y,_⟩:∃b off,some ad=some ⟨b,off,none⟩/\True:=by
    cases news with
    |nil=>exact absurd rfl hn
    |cons u us=>obtain⟨b,off,Y,_⟩:=hr 0 u rfl; exact⟨b,off,Y,trivial⟩
   simp only[bI]at Y;subst Y
   obtain⟨v',w',h1,h2,h3,_⟩:=bv (P:=P) w base t ty e i z 1 bytes ht hi hz U ab ac (by decide) v n xs h ⟨b,off,none⟩ news.length cap news (by simp) (λj u hj=>by
    obtain⟨b',ag,Y,aa⟩:=hr j u hj;simp only[bI,ci]at Y;obtain⟨rfl,rfl,_⟩:=Y
    rw[bX]; exact aa) h1 ae O W
   exact⟨v',w',h1,h2,h3⟩
theorem s6{P:Program}(w:World)(base:Nat)(t ty e:bs)(i:TypeInfo)(z:Value)(bytes:Nat)(ht:P.underlying t=some (.slice e))(hi:P.info? e=some i)(hz:i.zero=some z)
  (h:i.size=1) (ac:i.bytes=bytes) (ah:z.cells.size=1)
  (v:Value) (n:Nat) (xs:List Value) (O:w.ownsRow base e 1 v n xs)
  (x:Value) (news:List Value) (hx:Rd w x news) (h1:∀u∈news,u.oneCell'=true)
  (U:(n+news.length)*bytes<=140737488355328) (ae:n+news.length<=br) (ab:base<=w.heap.size) :
  ∃v' w',(bO #[t,t] ty #[v,x]).run P w=.ok v' w'/\w'.ownsRow base e 1 v' (n+news.length) (xs++news)/\w.grownBy w' v.ownBlock/\(v'.ownBlock=v.ownBlock\/v'.ownBlock=some w.heap.size):=by
 obtain⟨v',w',Y,h2,h3⟩:=Bs (P:=P) w base t ty e i z bytes ht hi hz h ac ah v n xs O x news hx h1 U ae ab;refine⟨v',w',Y,h2,h3,?_⟩;obtain⟨a,cap,rfl,hc,hm,ai⟩:=hx
 cases a with
 |none=>
  have hn:news=[]:=by
   cases news with
   |nil=>rfl
   |cons u us=>obtain⟨b,off,he,_⟩:=ai 0 u rfl; simp at he
  subst hn;obtain⟨b,c,rfl,aj⟩:=ib O;have:=mY (P:=P) w t ty e i ht hi b n c cap aj;simp only[aG]at Y;rw[this]at Y;simp only[bS]at Y;exact Or.inl (by rw[<-Y.1])
 |some ad=>
  have aa:∀j u,news[j]?=some u->w.cell? (ad.add j)=some u:=by
   intro j u hj;obtain⟨b,off,he,af⟩:=ai j u hj;simp only[bI]at he;subst he;rw[bX]; exact af
  have hl:news.length=news.length*i.size:=by rw[h]; omega
  rcases O.2 with⟨rfl,rfl⟩|⟨g,c,ak,rfl,ap,hg,aj,aq,al,am⟩
  .by_cases an:news.length=0
   .have hn:news=[]:=aD an;subst hn;rcases h2.2 with⟨rfl,_⟩|⟨g',c',ao,rfl,_,ar,_⟩
    .exact Or.inl rfl
    .exfalso;have:=bv (P:=P) w base t ty e i z 1 bytes ht hi hz h ac ah (by decide) (.slice none 0 0) 0 xs O ad 0 cap [] rfl (by simp) (by simp) (by simp) (by simp) ab;obtain⟨v2,w2,W,_,_,h4⟩:=this;simp only[aG]at Y;rw[Y]at W;simp only[bS]at W;have:=h4.2 ⟨rfl,rfl⟩;rw[<-W.1]at this;simp at this
   .have W:=b5 (P:=P) w t ty e i z ht hi hz ad news.length cap news hl aa (by omega) (by simp only[br]at ae; omega) (by rw[ac]; simp only[bp]at U; omega);rw[W]at Y;simp only[bS]at Y;exact Or.inr (by rw[<-Y.1]; rfl)
  .by_cases ag:n+news.length<=c
   .have W:=b0 (P:=P) w t ty e i ht hi g n c ak hg ad news.length cap news hl aa h1 ag (by rw[al,h]; omega);rw[W]at Y;simp only[bS]at Y;exact Or.inl (by rw[<-Y.1]; rfl)
   .have holds:∀j u,xs[j]?=some u->w.cell? ((⟨g,0,none⟩:Addr).add j)=some u:=O.cells (g:=g) rfl;have W:=b3 (P:=P) w t ty e i z ht hi hz ⟨g,0,none⟩ n c xs (by rw[h]; exact O.1) holds ad news.length cap news hl aa (by omega) (by simp only[br]at ae; omega) (by rw[ac]; exact b6 (by omega) U);rw[W]at Y;simp only[bS]at Y;exact Or.inr (by rw[<-Y.1]; rfl)
theorem iQ{P:Program}(w:World){ops:Array Oper}{rest:List Oper}{o:Oper}{a:Act}{Q:Exit->Act->World->Prop}(ab:o.guard=none)(s x:Operand)(t:bs)
  (ho:o.op=.call {callee:=.builtin .append,args:=#[s,x],argTypes:=#[t,t]})
  (base:Nat) (e:bs) (i:TypeInfo) (z:Value) (bytes:Nat) (ht:P.underlying t=some (.slice e)) (hi:P.info? e=some i) (hz:i.zero=some z)
  (U:i.size=1) (ac:i.bytes=bytes) (ad:z.cells.size=1)
  (v:Value) (n:Nat) (xs:List Value) (hs:a.eval s=v) (aa:w.ownsRow base e 1 v n xs)
  (y:Value) (news:List Value) (hx:a.eval x=y) (hy:Rd w y news) (h1:∀u∈news,u.oneCell'=true)
  (O:(n+news.length)*bytes<=140737488355328) (ae:n+news.length<=br) (W:base<=w.heap.size)
  (h:∀Y w',w'.ownsRow base e 1 Y (n+news.length) (xs++news)->w.grownBy w' v.ownBlock->(Y.ownBlock=v.ownBlock\/Y.ownBlock=some w.heap.size)->bt P ops Q rest (a.put o.dst Y) w'):bt P ops Q (o::rest) a w:=by
 refine bu ab λ_ hK=>?_;obtain⟨Y,w',hr,h2,h3,h4⟩:=s6 (P:=P) w base t o.type e i z bytes ht hi hz U ac ad v n xs aa y news hy h1 O ae W;unfold Oper.wp bz;simp only[ho,resolve,invoke,builtin,Sem.run_bind,Sem.run_pure,ca,bd,a0,aC,hs,hx,hr];exact hK _ _ (h Y w' h2 h3 h4)
theorem Rd.one{y:Value}(h:w.cell? ⟨b,0,none⟩=some y):Rd w (.slice (some ⟨b,0,none⟩) 1 1) [y]:=by
 refine⟨some ⟨b,0,none⟩,1,rfl,bh _,by unfold br; omega,λj u O=>⟨b,0,rfl,?_⟩⟩
 match j,O with
 |0,O=>simp at O; subst O; exact h
 |j+1,O=>simp at O
theorem kX:∀u∈gQ ws,u.oneCell'=true:=by
 intro u h;simp only[gQ,aH]at h;obtain⟨b,_,rfl⟩:=h;rfl
theorem Rd.take(h:Rd w (.slice a n cap) xs)(k:Nat)(hk:k<=xs.length):Rd w (.slice a k cap) (xs.take k):=by
 obtain⟨a',U,W,hc,hm,Y⟩:=h;simp only[bT]at W;obtain⟨rfl,rfl,rfl⟩:=W;have hl:(xs.take k).length=k:=by simp; omega
 refine⟨a,cap,by rw[hl],by omega,hm,λj u O=>Y j u ?_⟩;rw[ba]at O;split at O
 .exact O
 .simp at O
theorem Rd.NZ(h:Rd w (.slice a n cap) (gQ ws))(k:Nat)(O:k<=ws.length):Rd w (.slice a k cap) (gQ (ws.take k)):=by
 have:=h.take k (by rw[gY]; exact O);simpa[gQ,List.map_take]using this
theorem Rd.drop(h:Rd w (.slice a n cap) xs)(k:Nat)(hk:k<=xs.length) :
  Rd w (.slice (if cap=k then a else a.map λx=>x.add k) (n-k) (cap-k)) (xs.drop k):=by
 obtain⟨a',W,Y,hc,hm,hr⟩:=h;simp only[bT]at Y;obtain⟨rfl,rfl,rfl⟩:=Y;refine⟨if cap=k then a else a.map λx=>x.add k,cap-k,by rw[List.length_drop],by simp; omega,by omega,λj u U=>?_⟩;rw[bb]at U;obtain⟨b,off,rfl,O⟩:=hr (k+j) u U
 have aa:k+j<xs.length:=by
  by_cases h:k+j<xs.length
  .exact h
  .rw[List.getElem?_eq_none (by omega)]at U; simp at U
 refine⟨b,off+k,?_,by rw[Nat.add_assoc]; exact O⟩;rw[if_neg (by omega)];simp[bX]
theorem Rd.Ar(h:Rd w (.slice a n cap) (gQ ws))(k:Nat)(O:k<=ws.length) :
  Rd w (.slice (if cap=k then a else a.map λx=>x.add k) (n-k) (cap-k)) (gQ (ws.drop k)):=by
 have:=h.drop k (by rw[gY]; exact O);simpa[gQ,List.map_drop]using this
theorem Rd.Gg{off:Nat}(h:Rd w (.slice (some ⟨b,off,none⟩) n cap) (gQ ws))(k:Nat)(O:k<ws.length)(U:n<=cap)(W:n=ws.length) :
  Rd w (.slice (some ⟨b,off+k,none⟩) (n-k) (cap-k)) (gQ (ws.drop k)):=by
 have:=h.Ar k (by omega);rw[if_neg (by omega)]at this;simpa[bX]using this
theorem Rd.Hb{c:Nat}(h:n=0)(O:c<=br):Rd w (.slice a n c) []:=by
 subst h;exact⟨a,c,rfl,bm _,O,by simp⟩
theorem Rd.later(h:Rd w v xs)(U:∀a u,w.cell? a=some u->w'.cell? a=some u):Rd w' v xs:=by
 obtain⟨a,cap,W,Y,h2,hr⟩:=h;refine⟨a,cap,W,Y,h2,λj u hj=>?_⟩;obtain⟨b,off,e,O⟩:=hr j u hj;exact⟨b,off,e,U _ _ O⟩
theorem PQ{a:Addr}{u:Value}(h:w.cell? a=some u):a.block<w.heap.size:=by
 by_cases O:a.block<w.heap.size
 .exact O
 .unfold cd at h;rw[Array.getElem?_eq_none (by omega)]at h;simp at h
theorem Rd.below(h:Rd w v xs)(hb:Below w.heap.size w w'):Rd w' v xs:=
 h.later λ_ _ O=>bw hb O
theorem mH{O size:Nat}(h:w.ownsRow base e size v n xs)(hb:O<=base):w.ownsRow O e size v n xs:=by
 obtain⟨Y,U⟩:=h;refine⟨Y,?_⟩;rcases U with U|⟨g,cap,W,hv,hg,r⟩
 .exact Or.inl U
 .exact Or.inr ⟨g,cap,W,hv,by omega,r⟩
end
section
open Go.RowKit
theorem Ds(ws:List Wd)(j:Nat)(h:j<ws.length):(gQ ws)[j]?=some (.string ⟨(ws.getD j []).toArray⟩):=by
 rw[kW ws j h,ax,a3 h]; rfl
theorem JC(n k:Int)(h:n=k)(O:0<=n)(U:n<=4611686018427387904):IntKind.i64.wrap n=k:=by
 rw[IntWalk.i64_in n (by omega),h]
end
section
open Go.RowKit
variable {xs:List Value} {base c e g m n:Nat} {v:Value} {w:World}
def iK(l:List Nat):List Value:=l.map λ(n:Nat)=>Value.int .i64 (n:Int)
theorem Am(l:List Nat):(iK l).length=l.length:=by simp[iK]
theorem lF(l:List Nat)(j:Nat)(h:j<l.length):(iK l)[j]?=some (.int .i64 (l.getD j 0)):=by
 simp[iK,ax,h]
theorem QR:(prog.info? 3).map (λi=>(i.zero,i.size,i.bytes))=some (some (.int .i64 0),1,8):=by kernel_rfl
theorem GY{w':World}(h:w.ownsRow base e 1 v n xs)(hb:Below w.heap.size w w'):w'.ownsRow base e 1 v n xs:=
 h.kept (row:=none) ⟨hb.os,hb.tape,hb.output,hb.size,λk O _=>hb.block k O⟩ (by cases v.ownBlock<;>simp)
theorem lV{a:Option Addr}(h:w.ownsRow base e 1 (.slice a m c) n xs)(k:Nat)(u:Value)(U:xs[k]?=some u):∃b off,a=some ⟨b,off,none⟩/\w.cell? ⟨b,off+k,none⟩=some u:=by
 obtain⟨Y,c',O,_,_,W⟩:=Rd.lr h;simp only[bT]at O;rw[O.1];exact W k u U
theorem sX(h:w.ownsRow base e 1 (.slice (some ⟨g,0,none⟩) m c) n xs)(o:Nat):w.frozen? ⟨g,o,none⟩=false:=by
 rcases h.2 with⟨h,_⟩|⟨g',cap,U,O,_,W,_⟩
 .simp at h
 .simp only[bT,bI,ci]at O;obtain⟨⟨rfl,_⟩,_⟩:=O;simp[cc,W]
theorem vc(h:w.ownsRow base e 1 (.slice (some ⟨g,0,none⟩) m c) n xs)(k:Nat)(v:Value)(hk:k<n) :
  (w.setCell ⟨g,k,none⟩ v).ownsRow base e 1 (.slice (some ⟨g,0,none⟩) m c) n (xs.set k v):=by
 obtain⟨W,Y⟩:=h;refine⟨by simpa using W,?_⟩;rcases Y with⟨h,_⟩|⟨g',cap,U,he,hb,hg,h3,h4,h5,h6⟩
 .simp at h
 .have O:=he;simp only[bT,bI,ci]at O;obtain⟨⟨rfl,_⟩,rfl,rfl⟩:=O;refine Or.inr ⟨g,c,U.setIfInBounds k v,rfl,hb,?_,h3,h4,by simpa using h5,?_⟩
  .simp only[cb,cj,hg];simp
  .rw[Array.toList_setIfInBounds,List.take_set,h6]
theorem Ld{b:Nat}{t:bs}(hb:b=w.heap.size):(w.alloc (.cells #[v] t)).cell? ⟨b,0,none⟩=some v:=by
 subst hb; exact ki
end
section
open Go.RowKit
variable {cs:Array Value} {xs:List Value} {b base e n:Nat} {fz:Nat×Nat} {F G:Nat->Prop} {t:bs} {v:Value} {w w':World}
structure gV(F:Nat->Prop)(w w':World):Prop where
 os:w'.os=w.os
 tape:w'.tape=w.tape
 output:w'.output=w.output
 size:w.heap.size<=w'.heap.size
 block:∀k,k<w.heap.size->¬F k->w'.heap[k]?=w.heap[k]?
def Q4(F:Nat->Prop)(w w':World):Nat->Prop:=λk=>F k\/(w.heap.size<=k/\k<w'.heap.size)
theorem gV.refl(F:Nat->Prop)(w:World):gV F w w:=⟨rfl,rfl,rfl,bh _,λ_ _ _=>rfl⟩
theorem gV.jk(h:Below w.heap.size w w'):gV F w w':=⟨h.os,h.tape,h.output,h.size,λk O _=>h.block k O⟩
theorem gV.trans{a b c:World}(h:gV F a b)(k:gV G b c)(O:∀i,i<a.heap.size->G i->F i):gV F a c:=
 ⟨k.os.trans h.os,k.tape.trans h.tape,k.output.trans h.output,Nat.le_trans h.size k.size,λi hi hF=>by
   rw[k.block i (Nat.lt_of_lt_of_le hi h.size) (λU=>hF (O i hi U)),h.block i hi hF]⟩
theorem gV.mono(h:gV F w w')(hF:∀k,F k->G k):gV G w w':=⟨h.os,h.tape,h.output,h.size,λk O U=>h.block k O (λW=>U (hF k W))⟩
theorem iB(h:w.ownsRow base e 1 v n xs)(hb:∀k,v.ownBlock=some k->w'.heap[k]?=w.heap[k]?):w'.ownsRow base e 1 v n xs:=by
 obtain⟨Y,O⟩:=h;refine⟨Y,?_⟩;rcases O with O|⟨g,cap,U,rfl,W,hg,r⟩
 .exact Or.inl O
 .exact Or.inr ⟨g,cap,U,rfl,W,by rw[hb g rfl]; exact hg,r⟩
theorem Ps(h:w.heap[b]?=some (.cells cs t fz))(o:Nat):w.cell? ⟨b,o,none⟩=cs[o]?:=by
 simp[cd,h]
theorem Ue(h:w.heap[b]?=some (.cells cs t (0,0)))(o:Nat):w.frozen? ⟨b,o,none⟩=false:=by
 simp[cc,h]
theorem heap_set(h:w.heap[b]?=some (.cells cs t fz))(o:Nat)(v:Value):(w.setCell ⟨b,o,none⟩ v).heap[b]?=some (.cells (cs.setIfInBounds o v) t fz):=by
 simp[cb,cj,h]
theorem nu(h:w.heap[b]?=some (.cells cs t fz))(Y:w.ownsRow base e 1 v n xs)(O:t≠e):v.ownBlock≠some b:=by
 rcases Y.2 with⟨rfl,_⟩|⟨g,cap,aa,rfl,_,U,_⟩
 .simp[ce]
 .intro W;simp only[ce,bI]at W;rw[W,h]at U;simp only[bI,Obj.cells.injEq]at U;exact O U.2.1
end
section
open Go.RowKit
def oT(h:List (List Wd))(s:List UInt8):Nat×List (List Wd):=
 if iX s=true/\s≠[]then
  if 60<(iA (h++[jK (iD s)])).length then(4,h)else(0,h++[jK (iD s)])
 else(2,h)
end
section
open Go.RowKit
def tf(h:List (List Wd))(s:List UInt8)(most:Int):List Wd×Nat:=
 if most<1\/20<most then([],3)else if iX s=true then(kQ h (jK (iD s)) most.toNat,0)else([],2)
def Jd(w:World):Prop:=w.cell? ⟨0,0,none⟩=some (.int .u64 4)/\w.cell? ⟨0,1,none⟩=some (.int .u64 10)/\w.cell? ⟨0,2,none⟩=some (.int .u64 25)
theorem Jd.below{w w':World}(h:Jd w)(hb:Below w.heap.size w w'):Jd w':=⟨bw hb h.1,bw hb h.2.1,bw hb h.2.2⟩
end
section
open Go.RowKit
variable {xs:List Value} {base e n size:Nat} {v:Value} {w:World}
theorem kE{w':World}(h:w.ownsRow base e size v n xs)(hb:∀k,v.ownBlock=some k->w'.heap[k]?=w.heap[k]?):w'.ownsRow base e size v n xs:=by
 obtain⟨Y,O⟩:=h;refine⟨Y,?_⟩;rcases O with O|⟨g,cap,U,rfl,W,hg,r⟩
 .exact Or.inl O
 .exact Or.inr ⟨g,cap,U,rfl,W,by rw[hb g rfl]; exact hg,r⟩
theorem vW{b1 b2 Y e2 s1 s2 n1 n2:Nat}{v1 v2:Value}{x1 x2:List Value}(h1:w.ownsRow b1 Y s1 v1 n1 x1)(h2:w.ownsRow b2 e2 s2 v2 n2 x2)(W:Y≠e2)(k:Nat)(h:v1.ownBlock=some k)(O:v2.ownBlock=some k):False:=by
 rcases h1.2 with⟨rfl,_⟩|⟨g,cap,ac,rfl,_,hg,_⟩
 .simp[ce]at h
 .rcases h2.2 with⟨rfl,_⟩|⟨g2,aa,ab,rfl,_,U,_⟩
  .simp[ce]at O
  .simp only[ce,bI]at h O;rw[h]at hg;rw[O,hg]at U;simp only[bI,Obj.cells.injEq]at U;exact W U.2.1
theorem lS(h:w.ownsRow base e size v n xs):∃a cap,v=.slice a n cap/\n<=cap:=by
 rcases h.2 with⟨rfl,rfl⟩|⟨g,cap,O,rfl,_,_,U,_⟩
 .exact⟨none,0,rfl,bh _⟩
 .exact⟨_,cap,rfl,U⟩
end
section
open Go.RowKit
variable {xs:List Value} {n s:Nat} {v:Value} {w:World}
def pA(w:World)(s:Nat)(v:Value)(n:Nat)(xs:List Value):Prop:=
 ∃a cap,v=.slice a n cap/\n<=cap/\cap<=br/\xs.length=n*s/\∀j u,xs[j]?=some u->∃b off,a=some ⟨b,off,none⟩/\w.cell? ⟨b,off+j,none⟩=some u
theorem pA.lr{base e:Nat}(h:w.ownsRow base e s v n xs):pA w s v n xs:=by
 have W:=h;obtain⟨U,h⟩:=h;rcases h with⟨rfl,rfl⟩|⟨g,cap,Y,rfl,_,hg,hn,O,aa,ab⟩
 .have:xs=[]:=aD (by simpa using U);subst this;exact⟨none,0,rfl,bh _,by unfold br; omega,by simp,by simp⟩
 .refine⟨some ⟨g,0,none⟩,cap,rfl,hn,O,U,λj u hj=>⟨g,0,rfl,?_⟩⟩;have:=W.cells (g:=g) rfl j u hj;rwa [bX]at this
theorem pA.nil(w:World)(s:Nat):pA w s (.slice none 0 0) 0 []:=⟨none,0,rfl,bh _,by unfold br; omega,by simp,by simp⟩
theorem pA.later{w':World}(h:pA w s v n xs)(U:∀a u,w.cell? a=some u->w'.cell? a=some u):pA w' s v n xs:=by
 obtain⟨a,cap,W,Y,h2,hl,hr⟩:=h;refine⟨a,cap,W,Y,h2,hl,λj u hj=>?_⟩;obtain⟨b,off,e,O⟩:=hr j u hj;exact⟨b,off,e,U _ _ O⟩
theorem pA.take{cap:Nat}{a:Option Addr}(h:pA w s (.slice a n cap) n xs)(k:Nat)(Y:k<=n):pA w s (.slice a k cap) k (xs.take (k*s)):=by
 obtain⟨a',U,W,h1,h2,hl,hr⟩:=h;simp only[bT]at W;obtain⟨rfl,_,rfl⟩:=W;have aa:k*s<=n*s:=bj _ Y;refine⟨a,cap,rfl,by omega,h2,by simp; omega,λj u O=>hr j u ?_⟩;rw[ba]at O;split at O
 .exact O
 .simp at O
theorem rJ{P:Program}(w:World)(base:Nat)(t ty e:bs)(i:TypeInfo)(z:Value)(size bytes:Nat)(ht:P.underlying t=some (.slice e))(hi:P.info? e=some i)(hz:i.zero=some z)
  (O:i.size=size) (ae:i.bytes=bytes) (ao:z.cells.size=size) (aj:0<size)
  (v:Value) (n:Nat) (xs:List Value) (h:w.ownsRow base e size v n xs)
  (x:Value) (m:Nat) (news:List Value) (hx:pA w size x m news) (h1:∀u∈news,u.oneCell'=true)
  (U:(n+m)*bytes<=140737488355328) (af:n+m<=br) (ag:base<=w.heap.size) :
  ∃v' w',(bO #[t,t] ty #[v,x]).run P w=.ok v' w'/\w'.ownsRow base e size v' (n+m) (xs++news)/\w.grownBy w' v.ownBlock/\(v'.ownBlock=v.ownBlock\/(v'.ownBlock=some w.heap.size/\Below w.heap.size w w')):=by
 obtain⟨a,cap,rfl,hc,hm,hl,ak⟩:=hx;by_cases ap:m=0
 .subst ap;have hn:news=[]:=aD (by simpa using hl);subst hn;obtain⟨b,c,rfl,ah⟩:=lS h
  have Y:(bO #[t,t] ty #[.slice b n c,.slice a 0 cap]).run P w=.ok (.slice b n c) w:=by
   cases a with
   |none=>exact mY (P:=P) w t ty e i ht hi b n c cap ah
   |some ad=>
    cases b<;>simp[bO,b4 ht,sizeOf,typeInfo,hi,bQ,bP,ah,b8,loadCells,loadCellsFrom]
  exact⟨_,w,Y,by simpa using h,World.grownBy.refl _ _,Or.inl rfl⟩
 .have al:0<news.length:=by rw[hl]; exact bq (by omega) aj
  obtain⟨b,off,ha,_⟩:=ak 0 news[0] (a3 al);subst ha
  have W:∀j u,news[j]?=some u->w.cell? ((⟨b,off,none⟩:Addr).add j)=some u:=by
   intro j u hj;obtain⟨b',au,he,ai⟩:=ak j u hj;simp only[bI,ci]at he;obtain⟨rfl,rfl,_⟩:=he;rw[bX]; exact ai
  obtain⟨v',w',Y,h2,h3,_⟩:=bv (P:=P) w base t ty e i z size bytes ht hi hz O ae ao aj v n xs h ⟨b,off,none⟩ m cap news hl W h1 af U ag;refine⟨v',w',Y,h2,h3,?_⟩;have ac:news.length=m*i.size:=by rw[O]; exact hl
  rcases h.2 with⟨rfl,rfl⟩|⟨g,c,am,rfl,av,hg,ah,aw,aq,ar⟩
  .have aa:=b5 (P:=P) w t ty e i z ht hi hz ⟨b,off,none⟩ m cap news ac W (by omega) (by simp only[br]at af; omega) (by rw[ae]; simp only[bp]at U; omega);rw[aa]at Y;simp only[bS]at Y;exact Or.inr ⟨by rw[<-Y.1]; rfl,by rw[<-Y.2]; exact((Below.refl _ _).drew).alloc (bh _) _⟩
  .by_cases ab:n+m<=c
   .have an:n*i.size+news.length<=am.size:=by rw[ac,aq,O,<-Nat.add_mul]; exact bj _ ab
    have aa:=b0 (P:=P) w t ty e i ht hi g n c am hg ⟨b,off,none⟩ m cap news ac W h1 ab an;rw[aa]at Y;simp only[bS]at Y;exact Or.inl (by rw[<-Y.1]; rfl)
   .have holds:∀j u,xs[j]?=some u->w.cell? ((⟨g,0,none⟩:Addr).add j)=some u:=h.cells (g:=g) rfl;have aa:=b3 (P:=P) w t ty e i z ht hi hz ⟨g,0,none⟩ n c xs (by rw[O]; exact h.1) holds ⟨b,off,none⟩ m cap news ac W (by omega) (by simp only[br]at af; omega) (by rw[ae]; exact b6 (by omega) U);rw[aa]at Y;simp only[bS]at Y;exact Or.inr ⟨by rw[<-Y.1]; rfl,by rw[<-Y.2]; exact((Below.refl _ _).drew).alloc (bh _) _⟩
theorem yj{P:Program}(w:World){ops:Array Oper}{rest:List Oper}{o:Oper}{a:Act}{Q:Exit->Act->World->Prop}(ab:o.guard=none)(s x:Operand)(t:bs)
  (ho:o.op=.call {callee:=.builtin .append,args:=#[s,x],argTypes:=#[t,t]})
  (base:Nat) (e:bs) (i:TypeInfo) (z:Value) (size bytes:Nat) (ht:P.underlying t=some (.slice e)) (hi:P.info? e=some i) (hz:i.zero=some z)
  (U:i.size=size) (ac:i.bytes=bytes) (ad:z.cells.size=size) (ae:0<size)
  (v:Value) (n:Nat) (xs:List Value) (hs:a.eval s=v) (aa:w.ownsRow base e size v n xs)
  (y:Value) (m:Nat) (news:List Value) (hx:a.eval x=y) (hy:pA w size y m news) (h1:∀u∈news,u.oneCell'=true)
  (O:(n+m)*bytes<=140737488355328) (af:n+m<=br) (W:base<=w.heap.size)
  (h:∀Y w',w'.ownsRow base e size Y (n+m) (xs++news)->w.grownBy w' v.ownBlock->(Y.ownBlock=v.ownBlock\/(Y.ownBlock=some w.heap.size/\Below w.heap.size w w'))->bt P ops Q rest (a.put o.dst Y) w'):bt P ops Q (o::rest) a w:=by
 refine bu ab λ_ hK=>?_;obtain⟨Y,w',hr,h2,h3,h4⟩:=rJ (P:=P) w base t o.type e i z size bytes ht hi hz U ac ad ae v n xs aa y m news hy h1 O af W;unfold Oper.wp bz;simp only[ho,resolve,invoke,builtin,Sem.run_bind,Sem.run_pure,ca,bd,a0,aC,hs,hx,hr];exact hK _ _ (h Y w' h2 h3 h4)
end
section
open Go.RowKit Go.Maps
variable {D:DataW Value} {m:List (Wd×Value)} {r:Nat} {row:Option Nat} {e t:bs} {w':World}
def mR(v:Value):Option (DataW Value×List MemPlace):=some (.held v,[])
structure OM(D:DataW Value)(l:List (Wd×Value)):Prop where
 nodup:(l.map cl).Nodup
 short:∀p∈l,p.1.length<=br
 size:cg D=l.length
 has:∀x:Wd,ch D (.string x)=l.any λp=>p.1==x
 at_:∀p∈l,∀z,D.atKey (.string p.1) z=.held p.2
def ir(P:Program)(k:bs)(w:World)(B:Nat)(l:List (Wd×Value)):Prop:=∃D:DataW Value,w.ownsMap P k mR B l.length D/\OM D l
def sJ(l:List (Wd×Value))(x:Wd)(v:Value):List (Wd×Value):=(l.filter λp=>p.1 != x)++[(x,v)]
theorem Gj{W:Type}{l m:List W}(h:l.Perm m)(f:W->Bool):l.any f=m.any f:=by
 rw[bC];simp only[aS];exact⟨λ⟨x,O,U⟩=>⟨x,h.mem_iff.1 O,U⟩,λ⟨x,O,U⟩=>⟨x,h.mem_iff.2 O,U⟩⟩
theorem OM.perm{l:List (Wd×Value)}(h:OM D l)(O:l.Perm m):OM D m where
 nodup:=(O.map cl).nodup_iff.1 h.nodup
 short:=λp hm=>h.short p (O.mem_iff.2 hm);size:=by rw[h.size,O.length_eq]
 has:=λx=>by rw[h.has x,Gj O]
 at_:=λp hm=>h.at_ p (O.mem_iff.2 hm)
theorem zL{P:Program}{k:bs}{w:World}{B n:Nat}{R:Value->Option (DataW Value×List MemPlace)}(h:w.ownsMap P k R B n D):w.ownsMap P k R B (cg D) D:=by
 obtain⟨es,clock,hb,F,_,rfl⟩:=h;exact⟨es,clock,hb,F,by simp[cg,length_sorted],rfl⟩
section
variable {P:Program} {k:bs} {w:World} {B:Nat} {l:List (Wd×Value)}
theorem ir.perm(h:ir P k w B l)(O:l.Perm m):ir P k w B m:=by
 obtain⟨D,U,W⟩:=h;exact⟨D,by rw[<-O.length_eq]; exact U,W.perm O⟩
theorem ir.lt(h:ir P k w B l):B<w.heap.size:=by
 obtain⟨D,O,_⟩:=h;exact O.lt
theorem ir.nodup(h:ir P k w B l):(l.map cl).Nodup:=by
 obtain⟨D,_,O⟩:=h;exact O.nodup
theorem ir.stay(h:ir P k w B l)(hb:w'.heap[B]?=w.heap[B]?):ir P k w' B l:=by
 obtain⟨D,⟨es,clock,O,U⟩,W⟩:=h;exact⟨D,⟨es,clock,hb.trans O,U⟩,W⟩
theorem ir.below(h:ir P k w B l)(hb:Below w.heap.size w w'):ir P k w' B l:=h.stay (hb.block B h.lt)
theorem ir.kept(h:ir P k w B l)(U:w.grownBy w' row)(O:some B≠row):ir P k w' B l:=h.stay (U.block B h.lt O)
theorem ir.made(w:World):ir P k (w.alloc (.map #[] 0)) w.heap.size []:=
 ⟨.map [],World.ownsMap_made _ _ _ _,⟨List.Pairwise.nil,λ_ h=>by simp at h,rfl,λ_=>rfl,λ_ h=>by simp at h⟩⟩
theorem Jn(h:P.underlying k=some .string)(x:Wd)(O:x.length<=br):keyOf P k (.string ⟨x.toArray⟩)=some (.string x):=by
 have:=WideMaps.keyOf_string_mk (P:=P) (k:=k) h (s:=⟨x.toArray⟩) (by show x.toArray.size<=br; simpa using O);simpa using this
def pM(l:List (Wd×Value))(x:Wd)(z:Value):Value:=match l.find? λp=>p.1==x with
 |some p=>p.2
 |none=>z
theorem ir.look{z:Value}(h:ir P k w B l)(hk:P.underlying k=some .string)(ht:P.underlying t=some (.map k e))(hz:(zeroValue e).run P w=.ok z w)(x:Wd)(hx:x.length<=br) :
  (Instr.lookup t (.map (some B)) (.string ⟨x.toArray⟩) false).run P w=.ok (pM l x z) w/\(Instr.lookup t (.map (some B)) (.string ⟨x.toArray⟩) true).run P w=.ok (.tuple #[pM l x z,.bool (l.any λp=>p.1==x)]) w:=by
 obtain⟨D,h1,O⟩:=h;have K:=cf hk;have kh:=Jn hk x hx;obtain⟨v1,p1,r1,U⟩:=h1.lookup K ht hz (zd:=.held z) (zp:=[]) rfl kh;obtain⟨v2,p2,r2,W⟩:=h1.look_ok K ht hz (zd:=.held z) (zp:=[]) rfl kh
 have Y:D.atKey (.string x) (.held z)=.held (pM l x z):=by
  unfold pM
  cases hf:l.find? λp=>p.1==x with
  |none=>
   have:ch D (.string x)=false:=by
    rw[O.has x,aR];intro p hp;simpa using List.find?_eq_none.1 hf p hp
   exact atKey_of_not_has this _
  |some p=>
   have hp:=List.mem_of_find?_eq_some hf;have he:p.1=x:=by simpa using List.find?_some hf
   have:=O.at_ p hp (.held z);rw[he]at this;exact this
 rw[Y]at U W;simp only[mR,bI,Prod.mk.injEq,DataW.held.injEq]at U W;rw[r1,r2,U.1,W.1,O.has x];exact⟨rfl,rfl⟩
theorem ir.len(h:ir P k w B l)(U:P.underlying t=some (.map k e))(O:bs):(bR #[t] O #[.map (some B)]).run P w=.ok (.int .i64 (l.length:Nat)) w:=by
 obtain⟨D,W,Y⟩:=h;rw[W.len U O,Y.size]
theorem Fq(l:List (Wd×Value))(x y:Wd)(O:y≠x):(l.filter λp=>p.1 != x).any (λp=>p.1==y)=l.any λp=>p.1==y:=by
 rw[bC];simp only[aS,a4,beq_iff_eq,bne_iff_ne];constructor
 .rintro⟨p,⟨U,_⟩,h⟩; exact⟨p,U,h⟩
 .rintro⟨p,U,h⟩; exact⟨p,⟨U,by rw[h]; exact O⟩,h⟩
theorem Nf(x:Wd):∀(l:List (Wd×Value)),(l.map cl).Nodup->(l.filter λp=>p.1 != x).length+(if l.any (λp=>p.1==x)then 1 else 0)=l.length:=by
 intro l
 induction l with
 |nil=>intro _; rfl
 |cons p l W=>
  intro U;rw[a0,aF]at U;have h:=W U.2;by_cases e:p.1=x
  .have O:l.any (λp=>p.1==x)=false:=by
    rw[aR];intro q Y;simp only[beq_iff_eq];intro e2;exact U.1 (aH.2 ⟨q,Y,by rw[e2,e]⟩)
   rw[O]at h;rw[be,bg,O];simp[e]at h⊢;exact h
  .rw[be,bg];simp only[bne_iff_ne,ne_eq,e,not_false_eq_true,if_true,a7];have:(p.1==x)=false:=by simpa using e
   rw[this,bE];omega
theorem ir.put(h:ir P k w B l)(hk:P.underlying k=some .string)(ht:P.underlying t=some (.map k e))(hn:l.length<br)(x:Wd)(hx:x.length<=br)(v:Value) :
  ∃w',(Instr.mapUpdate t (.map (some B)) (.string ⟨x.toArray⟩) v).run P w=.ok () w'/\ir P k w' B (sJ l x v)/\w.grownBy w' (some B)/\w'.heap.size=w.heap.size:=by
 obtain⟨D,Y,O⟩:=h;have K:=cf hk;have kh:=Jn hk x hx;obtain⟨w',hr,ho,U⟩:=Y.store K ht hn kh (d:=.held v) (ps:=[]) (val:=v) rfl;have hT:=Y.tidy K
 have W:cg (D.put (.string x) (.held v))=(sJ l x v).length:=by
  rw[size_put hT,O.has x,O.size];have:=Nf x l O.nodup;unfold sJ;rw[aZ,List.length_singleton];split at this<;>rename_i hh
  .rw[if_pos hh]; omega
  .rw[if_neg hh]; omega
 refine⟨w',hr,⟨_,by rw[<-W]; exact zL ho,⟨?_,?_,W,?_,?_⟩⟩,U.grown,?_⟩
 .unfold sJ;rw[aB,a0,aC,aP];refine⟨O.nodup.sublist ((aN).map _),by simp,?_⟩;intro a ha b hb;simp only[a5]at hb;subst hb;obtain⟨p,hp,rfl⟩:=aH.1 ha;have:=(a4.1 hp).2;simpa using this
 .intro p hp;unfold sJ at hp;rcases a6.1 hp with h|h
  .exact O.short p (a4.1 h).1
  .simp only[a5]at h; subst h; exact hx
 .intro y;unfold sJ;rw[List.any_append];by_cases e:y=x
  .subst e;rw[has_put_same Y.isMap (show WideAt.IsKeyLit (.string y)from trivial)];simp
  .rw[has_put_other (by simpa using e),O.has y,Fq l x y e];have:(x==y)=false:=by simpa using λh=>e h.symm
   simp[this]
 .intro p hp z;unfold sJ at hp;rcases a6.1 hp with h|h
  .have hm:=a4.1 h;have ab:p.1≠x:=by simpa using hm.2
   rw[atKey_put_other (by simpa using ab)];exact O.at_ p hm.1 z
  .simp only[a5]at h;subst h;rw[atKey_put_same Y.isMap (show WideAt.IsKeyLit (.string x)from trivial)]
 .obtain⟨es,clock,ac,aa,_,rfl⟩:=U;simp[ChangeMaps.setBlock]
def iP(P:Program)(k:bs)(w:World)(B r:Nat)(l rest:List (Wd×Value)):Prop:=
 (rest.map cl).Nodup/\(∀p∈rest,p∈l)/\∃D left cnt,w.ranges P k mR B r l.length D left cnt/\OM D l/\∀x:Wd,left (.string x)=rest.any λp=>p.1==x
theorem iP.owns{rest:List (Wd×Value)}(h:iP P k w B r l rest):ir P k w B l:=by
 obtain⟨_,_,D,left,cnt,O,U,_⟩:=h;exact⟨D,O.owns,U⟩
theorem iP.lt{rest:List (Wd×Value)}(h:iP P k w B r l rest):r<w.heap.size:=by
 obtain⟨_,_,D,left,cnt,O,U,_⟩:=h;exact O.lt
theorem iP.kept{rest:List (Wd×Value)}(h:iP P k w B r l rest)(O:w.grownBy w' row)(U:some B≠row)(W:some r≠row):iP P k w' B r l rest:=by
 obtain⟨a,b,D,left,cnt,Y,h2,h3⟩:=h;exact⟨a,b,D,left,cnt,Y.kept O U W,h2,h3⟩
theorem iP.mJ(h:w'.heap[B]?=w.heap[B]?)(O:w'.heap[r]?=w.heap[r]?):w'.rangeLeft B r=w.rangeLeft B r:=by
 unfold World.rangeLeft;rw[h,O]
theorem ir.range(h:ir P k w B l)(U:P.underlying k=some .string)(W:P.underlying t=some (.map k e)) :
  ∃w',(Instr.range t (.map (some B))).run P w=.ok (.pointer (some ⟨w.heap.size,0,none⟩)) w'/\iP P k w' B w.heap.size l l/\w.grownBy w' none/\w'.heap.size=w.heap.size+1:=by
 obtain⟨D,Y,O⟩:=h;obtain⟨w',hr,r1,r2,r3⟩:=Y.range (cf U) W;exact⟨w',hr,⟨O.nodup,λ_ h=>h,D,_,_,r1,O,O.has⟩,r2,r3⟩
theorem Jy(U:P.underlying k=some .string){key:Value}{O:Lit}(h:keyOf P k key=some O):∃x:Wd,key=.string ⟨x.toArray⟩/\O=.string x:=by
 cases key<;>simp[keyOf,U,mapKey]at h
 rename_i s;refine⟨s.data.toList,?_,h.2.symm⟩;simp
theorem PH:∀{l:List (Wd×Value)},(l.map cl).Nodup->∀{a b:Wd×Value},a∈l->b∈l->a.1=b.1->a=b:=by
 intro l
 induction l with
 |nil=>intro _ a b h; simp at h
 |cons c l W=>
  intro O a b U hb e;rw[a0,aF]at O;rcases az.1 U with ea|U
  .rcases az.1 hb with eb|hb
   .rw[ea,eb]
   .exact absurd (aH.2 ⟨b,hb,by rw[<-e,ea]⟩) O.1
  .rcases az.1 hb with eb|hb
   .exact absurd (aH.2 ⟨a,U,by rw[e,eb]⟩) O.1
   .exact W O.2 U hb e
theorem iP.next{rest:List (Wd×Value)}(h:iP P k w B r l rest)(hk:P.underlying k=some .string)(ty:bs) :
  (rest=[]/\(Instr.next (.pointer (some ⟨r,0,none⟩)) false ty).run P w=.ok (.tuple #[.bool false]) w)\/
  ∃p O w',rest.Perm (p::O)/\(Instr.next (.pointer (some ⟨r,0,none⟩)) false ty).run P w=.ok (.tuple #[.bool true,.string ⟨p.1.toArray⟩,p.2]) w'/\iP P k w' B r l O/\w'.rangeLeft B r<w.rangeLeft B r/\
   w.grownBy w' (some r)/\w'.heap.size=w.heap.size/\(Instr.entry (.pointer (some ⟨r,0,none⟩))).run P w'=.ok (.tuple #[.string ⟨p.1.toArray⟩,p.2]) w':=by
 obtain⟨hn,U,D,left,cnt,h1,h2,h3⟩:=h;rcases h1.next (cf hk) ty with⟨_,hl,hr⟩|⟨key,v,kl,y,w',aa,kh,ad,hv,ae,hr,ab,af,hg,hs,ag⟩
 .left;refine⟨?_,hr⟩
  cases rest with
  |nil=>rfl
  |cons p rest=>
   have:=hl (.string p.1);rw[h3]at this;simp at this
 .right;obtain⟨x,rfl,rfl⟩:=Jy hk kh;have hx:=ad;rw[h3,aS]at hx;obtain⟨p,hp,Y⟩:=hx;have Y:p.1=x:=by simpa using Y
  subst Y
  have ah:v=p.2:=by
   have e1:=h2.at_ p (U p hp) (.held v);rw[ae]at e1;simp only[mR,bI]at hv;rw[<-hv]at e1;simpa using e1
  subst ah;refine⟨p,rest.filter λq=>q.1 != p.1,w',?_,hr,⟨?_,?_,D,_,aa,ab,h2,λx=>?_⟩,?_,hg,hs,ag⟩
  .have ac:rest.Nodup:=List.Pairwise.of_map _ (λa b ai e=>ai (by rw[e])) hn;rw[List.perm_ext_iff_of_nodup ac]
   .intro q;simp only[az,a4,bne_iff_ne];constructor
    .intro W;by_cases e:q.1=p.1
     .left;exact PH hn W hp e
     .right; exact⟨W,e⟩
    .rintro(rfl|⟨W,_⟩)
     .exact hp
     .exact W
   .rw[aF];refine⟨λh=>?_,ac.sublist aN⟩;have:=(a4.1 h).2;simp at this
  .exact hn.sublist (aN.map _)
  .exact λq W=>U q (a4.1 W).1
  .show(left (.string x) && !(Lit.string x).sameKey (.string p.1))=_;rw[h3];by_cases e:x=p.1
   .subst e;have:(Lit.string p.1).sameKey (.string p.1)=true:=by simp[Lit.sameKey]
    rw[this];simp only[bH,Bool.and_false];symm;rw[aR];intro q W;have:=(a4.1 W).2;simpa using this
   .have:(Lit.string x).sameKey (.string p.1)=false:=by simp[Lit.sameKey,e]
    rw[this,Fq rest p.1 x e];simp
  .rw[ab.left_eq,h1.left_eq];exact af
end
section
variable {P:Program} {k:bs} {B:Nat} {l:List (Wd×Value)} (w:World) {ops:Array Oper} {rest:List Oper} {o:Oper} {a:Act} {Q:Exit->Act->World->Prop}
theorem Bf(Y:o.guard=none)(m:Operand)(t:bs)(U:o.op=Op.range t m)(e:bs)(hk:P.underlying k=some .string)(ht:P.underlying t=some (.map k e))
  (hm:a.eval m=.map (some B)) (h:ir P k w B l)
  (hK:∀w',iP P k w' B w.heap.size l l->w.grownBy w' none->w'.heap.size=w.heap.size+1->bt P ops Q rest (a.put o.dst (.pointer (some ⟨w.heap.size,0,none⟩))) w') :
  bt P ops Q (o::rest) a w:=by
 refine bu Y λK' W=>?_;obtain⟨w',O,r1,r2,r3⟩:=h.range hk ht;unfold Oper.wp;simp[bz,U,hm,O,bZ];exact W _ _ (hK w' r1 r2 r3)
theorem CS(hg:o.guard=none)(it:Operand)(Y:o.op=Op.next it false)(hk:P.underlying k=some .string)(r:Nat)(left:List (Wd×Value))
  (aa:a.eval it=.pointer (some ⟨r,0,none⟩)) (h:iP P k w B r l left)
  (W:left=[]->bt P ops Q rest (a.put o.dst (.tuple #[.bool false])) w)
  (hMore:∀p O w',left.Perm (p::O)->iP P k w' B r l O->w'.rangeLeft B r<w.rangeLeft B r->w.grownBy w' (some r)->w'.heap.size=w.heap.size->(Instr.entry (.pointer (some ⟨r,0,none⟩))).run P w'=.ok (.tuple #[.string ⟨p.1.toArray⟩,p.2]) w'->
    bt P ops Q rest (a.put o.dst (.tuple #[.bool true,.string ⟨p.1.toArray⟩,p.2])) w') :
  bt P ops Q (o::rest) a w:=by
 refine bu hg λK' ab=>?_;unfold Oper.wp;rcases h.next hk o.type with⟨h0,U⟩|⟨p,O,w',hp,U,ac,ad,ae,af,ag⟩
 .simp[bz,Y,aa,U,bZ];exact ab _ _ (W h0)
 .simp[bz,Y,aa,U,bZ];exact ab _ _ (hMore p O w' hp ac ad ae af ag)
theorem m5(Y:o.guard=none)(m x v:Operand)(t:bs)(U:o.op=Op.mapUpdate t m x v)(e:bs)(hk:P.underlying k=some .string)(ht:P.underlying t=some (.map k e))
  (hm:a.eval m=.map (some B)) (h:ir P k w B l) (hn:l.length<br) (y:Wd) (hy:y.length<=br) (hx:a.eval x=.string ⟨y.toArray⟩) (u:Value) (hv:a.eval v=u)
  (hK:∀w',ir P k w' B (sJ l y u)->w.grownBy w' (some B)->w'.heap.size=w.heap.size->bt P ops Q rest (a.put o.dst undef) w') :
  bt P ops Q (o::rest) a w:=by
 refine bu Y λK' W=>?_;obtain⟨w',O,r1,r2,r3⟩:=h.put hk ht hn y hy u;unfold Oper.wp;simp[bz,U,hm,hx,hv,O,bZ];exact W _ _ (hK w' r1 r2 r3)
end
end
section
open Go.RowKit
structure gS where
 name:Wd
 gone:Bool
 text:Wd
 gT:Int
 il:Int
def su(l:List gS)(x:Wd):Option Nat:=l.findIdx? λe=>e.name==x
end
end Go.Proofs.YtocbogeoffeolaaGreatDoor
