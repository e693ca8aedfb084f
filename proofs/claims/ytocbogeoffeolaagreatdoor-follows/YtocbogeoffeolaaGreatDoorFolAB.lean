import Derived.Test.YtocbogeoffeolaaGreatDoorFolAA
import Derived.Shelf.Strings.FieldsFuncAny
import Derived.Shelf.Bits.Mul64
import Derived.Shelf.Small.Strs
import Derived.Shelf.SlSortCmp.WholeK
import Derived.Shelf.SlSortCmp.NoneTotal
import Derived.Shelf.SlGeneric
import Derived.Maps.OwnOps
import Derived.DeepKeys4
import Derived.Laws.IdiomCopy
set_option linter.unusedVariables false
set_option linter.unusedSimpArgs false
set_option maxHeartbeats 8000000
set_option maxRecDepth 1000000
open List renaming getD_eq_getElem?_getD->bb,getElem?_eq_some_iff->bf,mem_singleton->bg,mem_append->bh,getElem_mem->bi,length_append->bj,take_succ_eq_append_getElem->bk,mem_map->bl,pairwise_iff_getElem->bm,getElem?_eq_getElem->bn,take_of_length_le->bo,getElem?_eq_none->bp,mem_cons_of_mem->bq,map_cons->br
open Go renaming run_underlying->bs,maxLen->bt,TypeId->bu,rounds_succ->bv,keyOf->bw,Calls->bx,cell_later->bz,wp_loop_rounds->b0,wpList->b3,wpList_plain->b4,goInt->b5,execOp->b6,deep_law_laid->b7,bodyPost_ret->b8,info_parts->b9
open Go.MapKept renaming run_getObj_map->bA,run_setObj_map->bB,stamped_iff->bC
open Go.Instr renaming mapUpdate->bD,lookup->bE,mapEntry->bF,entryStore->bG,entry->bH,next->bI
open Go.Proofs.Tryz renaming underlying31->bJ,underlying170->bK,underlying143->bL,underlying141->bM,underlying86->bN,underlying9->bO,underlying3->bP,zeroValue9->bQ,zeroValue3->bR,ntmps196->bS,ntmps126->bT,underlying184->bU,zeroValue184->bV,zeroValue141->bW,sizeOf9->bX,sizeOf3->bY,func196->bZ,func136->ca,func126->cb,underlying4->cc,underlying0->cd,zeroValue4->ce,zeroValue0->cf,isAgg9->cg,isAgg3->ch
open Nat renaming le_refl->ci,zero_le->cj,lt_trichotomy->ck,mod_eq_of_lt->cl,div_eq_of_lt->cm,mul_le_mul->cn
open Go.Result renaming andThen->cp
open Option.some renaming injEq->cq
open Array renaming getElem?_modify->cr,getElem?_setIfInBounds->ct,getElem?_eq_some_iff->cw,getElem?_eq_none->cx,ext_getElem?->cy
open Bool renaming and_eq_true->cz
open Go.IntKind renaming signed->c4,bits->c5,min->c6,max->c7,wrap_u8->c8,wrap_u64->c9
open Go.World renaming cell?_alloc_at->c',ownsMap_made->cA,setCells->cB
open Go.Program renaming keyLits->cC
open Go.RowKit renaming intOf->cD,Hid->cE
open Go.Maps renaming has->cF,atKey_put_other->cG,atKey_put_same->cH,size->cI
open Go.Value renaming ownBlock->cJ,formed->cL,cells->cM
open UInt8 renaming ofNat->cN
namespace Go.Proofs.YtocbogeoffeolaaGreatDoor
open Go.Proofs.Tryz
section
open Go.Shelf
def xG:Go.Shelf.Ren:=⟨fun|229=>135|n=>n,fun|9=>9|40=>194|31=>31|152=>244|3=>3|0=>0|4=>4|21=>21|154=>246|n=>n,fun|n=>n⟩
theorem Pq:Go.Proofs.Lays.n229 prog xG:={
 mixed:=by kernel_rfl
 f229:=func135.trans (congrArg some (by kernel_rfl)),t0:=cd,a0:=isAgg0,z0:=sizeOf0,v0:=cf,t3:=bP,a3:=ch,z3:=bY,v3:=bR,t4:=cc,a4:=isAgg4,z4:=sizeOf4,v4:=ce,t9:=bO,a9:=cg,z9:=bX,v9:=bQ,t21:=underlying21,a21:=isAgg21,z21:=sizeOf21,v21:=zeroValue21,t31:=bJ,a31:=isAgg31,z31:=sizeOf31,v31:=zeroValue31,t40:=underlying194,a40:=isAgg194,z40:=sizeOf194,v40:=zeroValue194,t152:=underlying244,a152:=isAgg244,z152:=sizeOf244,v152:=zeroValue244,t154:=underlying246,a154:=isAgg246,z154:=sizeOf246
 v154:=zeroValue246}
def Ex:Go.Shelf.Ren:=⟨fun|264=>195|n=>n,fun|53=>141|46=>184|n=>n,fun|n=>n⟩
theorem Jw:Go.Proofs.Lays.n264 prog Ex:={
 mixed:=by kernel_rfl
 f264:=func195.trans (congrArg some (by kernel_rfl)),t46:=bU,a46:=isAgg184,z46:=sizeOf184,v46:=bV,t53:=bM,a53:=isAgg141,z53:=sizeOf141
 v53:=bW}
def ET:Go.Shelf.Ren:=⟨fun|106=>139|213=>197|265=>232|n=>n,fun|9=>9|3=>3|n=>n,fun|n=>n⟩
theorem P4:Go.Proofs.Lays.n106 prog ET:={
 mixed:=by kernel_rfl
 f106:=func139.trans (congrArg some (by kernel_rfl)),f213:=func197.trans (congrArg some (by kernel_rfl)),f265:=func232.trans (congrArg some (by kernel_rfl)),t3:=bP,a3:=ch,z3:=bY,v3:=bR,t9:=bO,a9:=cg,z9:=bX
 v9:=bQ}
def CM:Go.Shelf.Ren:=⟨fun|6=>96|15=>125|14=>137|28=>172|29=>173|20=>187|21=>188|22=>189|23=>190|24=>191|25=>192|26=>193|27=>194|46=>228|47=>219|48=>220|49=>229|50=>230|57=>265|n=>n,fun|22=>145|24=>150|25=>152|3=>3|39=>184|0=>0|53=>229|55=>141|4=>4|46=>222|45=>221|50=>226|5=>5|9=>9|66=>272|70=>276|76=>292|77=>212|n=>n,fun|n=>n⟩
theorem EW:Go.Proofs.SlLaysF0.n6 prog CM:={
 mixed:=by kernel_rfl
 f6:=⟨f96.name,by decide,func96.trans (congrArg some (by kernel_rfl))⟩,f14:=⟨f137.name,by decide,func137.trans (congrArg some (by kernel_rfl))⟩,f15:=func125.trans (congrArg some (by kernel_rfl)),f20:=⟨f187.name,by decide,func187.trans (congrArg some (by kernel_rfl))⟩,f21:=⟨f188.name,by decide,func188.trans (congrArg some (by kernel_rfl))⟩,f22:=⟨f189.name,by decide,func189.trans (congrArg some (by kernel_rfl))⟩,f23:=⟨Tryz.f190.name,by decide,func190.trans (congrArg some (by kernel_rfl))⟩,f24:=⟨f191.name,by decide,func191.trans (congrArg some (by kernel_rfl))⟩,f25:=⟨f192.name,by decide,func192.trans (congrArg some (by kernel_rfl))⟩,f26:=⟨f193.name,by decide,func193.trans (congrArg some (by kernel_rfl))⟩,f27:=⟨f194.name,by decide,func194.trans (congrArg some (by kernel_rfl))⟩,f28:=func172.trans (congrArg some (by kernel_rfl)),f29:=func173.trans (congrArg some (by kernel_rfl)),f46:=⟨f228.name,by decide,func228.trans (congrArg some (by kernel_rfl))⟩,f47:=func219.trans (congrArg some (by kernel_rfl)),f48:=func220.trans (congrArg some (by kernel_rfl)),f49:=⟨Tryz.f229.name,by decide,func229.trans (congrArg some (by kernel_rfl))⟩,f50:=⟨f230.name,by decide,func230.trans (congrArg some (by kernel_rfl))⟩,f57:=⟨Tryz.f265.name,by decide,func265.trans (congrArg some (by kernel_rfl))⟩,t0:=cd,a0:=isAgg0,z0:=sizeOf0,v0:=cf,t3:=bP,a3:=ch,z3:=bY,v3:=bR,t4:=cc,a4:=isAgg4,z4:=sizeOf4,v4:=ce,t5:=underlying5,a5:=isAgg5,z5:=sizeOf5,v5:=zeroValue5,t9:=bO,a9:=cg,z9:=bX,v9:=bQ,t22:=underlying145,a22:=isAgg145,z22:=sizeOf145,v22:=zeroValue145,t25:=underlying152,a25:=isAgg152,z25:=sizeOf152,v25:=zeroValue152,t39:=bU,a39:=isAgg184,z39:=sizeOf184,v39:=bV,t45:=underlying221,a45:=isAgg221,z45:=sizeOf221,v45:=zeroValue221,t46:=underlying222,a46:=isAgg222,z46:=sizeOf222,v46:=zeroValue222,t50:=underlying226,a50:=isAgg226,z50:=sizeOf226,v50:=zeroValue226,t53:=underlying229,a53:=isAgg229,z53:=sizeOf229,v53:=zeroValue229,t55:=bM,a55:=isAgg141,z55:=sizeOf141,v55:=bW,t66:=underlying272,a66:=isAgg272,z66:=sizeOf272,v66:=zeroValue272,t70:=underlying276,a70:=isAgg276,z70:=sizeOf276,v70:=zeroValue276,t76:=underlying292,a76:=isAgg292,z76:=sizeOf292,v76:=zeroValue292,t77:=underlying212,a77:=isAgg212,z77:=sizeOf212
 v77:=zeroValue212}
end
section
open Go.RowKit
theorem Hk(x:Nat)(h:x<128):((cN x).toNat:Int)=(x:Int):=by
 rw[UInt8.toNat_ofNat']; omega
theorem Kh(x:Nat)(O:x<=1114111)(W:World):FnGives prog 136 #[] #[encR x] (.bool (qC x)) W:=by
 show bx prog 136 #[.int .i32 (x:Int)] W _;by_cases h:x<128
 .have U:(decide (128<=(x:Int)))=false:=by simp; omega
  have D:qC x = !jf (cN x):=by unfold qC; rw[decide_eq_false (by omega)]; rfl
  have Y:IntKind.u8.wrap (x:Int)=((cN x).toNat:Int):=by rw[Hk x h,c8]; omega
  rw[D];generalize cN x=c at *;clear D;go_enter ca,ntmps136;go_wp2_with fail;refine(py c _).mono ?_;rintro e w' ⟨rfl,rfl⟩;go_wp2;go_ret;exact⟨rfl,0,rfl⟩
 .have D:qC x=true:=by unfold qC; rw[decide_eq_true (by omega)]; rfl
  rw[D];clear D;go_enter ca,ntmps136;go_wp2;go_ret;exact⟨rfl,0,rfl⟩
theorem R6:(prog.info? (xG.t 154)).map (λi=>(i.zero,i.size,i.bytes))=some (some (.agg #[.int .i64 0,.int .i64 0]),2,16):=by kernel_rfl
theorem IP(f:ByteArray)(w:World)(U:∀k(h:k<f.size),(f[k]'h).toNat<128)(Y:f.size<=4294967296) :
  bx prog 94 #[.string f] w λe w'=>∃v,e=.returned v/\w'.ownsRow w.heap.size 9 1 v (jK f.data.toList).length (gQ (jK f.data.toList))/\Below w.heap.size w w':=by
 have D:=Any.strings_FieldsFunc_runes Pq 136 #[] (enters_of ca (by kernel_rfl) rfl) qC f w Y (λW x hx _=>Kh x hx W) R6 tW;rw[DS f U,EP,List.length_map]at D;change bx prog 135 _ _ _ at D;go_enter func94,ntmps94;go_wp2_with (go_at_call 135; refine D.mono ?_; rintro e w' ⟨A,rfl,hA,O,hb⟩);go_ret;exact⟨_,rfl,O,hb⟩
theorem Jf(s:ByteArray)(D:iX s.data.toList=true):∀k(h:k<(⟨(iD s.data.toList).toArray⟩:ByteArray).size),((⟨(iD s.data.toList).toArray⟩:ByteArray)[k]'h).toNat<128:=by
 intro k h;have hm:(⟨(iD s.data.toList).toArray⟩:ByteArray)[k]'h∈iD s.data.toList:=Ea _ k h;generalize (⟨(iD s.data.toList).toArray⟩:ByteArray)[k]'h=x at hm⊢;unfold iD at hm;obtain⟨c,O,rfl⟩:=bl.1 hm;simp only[iX,cz]at D;have U:=List.all_eq_true.1 D.2 c O;simp only[uH,decide_eq_true_eq]at U;unfold G3;split
 .rw[UInt8.toNat_add];have:(32:UInt8).toNat=32:=rfl;omega
 .omega
theorem xF(s:ByteArray)(w:World)(O:iX s.data.toList=true) :
  bx prog 67 #[.string s] w λe w'=>∃v,e=.returned v/\w'.ownsRow w.heap.size 9 1 v (jK (iD s.data.toList)).length (gQ (jK (iD s.data.toList)))/\Below w.heap.size w w':=by
 have hs:s.size<=24:=by
  have:s.data.toList.length<=24:=by simp only[iX,cz,decide_eq_true_eq]at O; exact O.1
  simpa using this
 have U:=Jf s O
 have W:(⟨(iD s.data.toList).toArray⟩:ByteArray).size<=4294967296:=by
  show(iD s.data.toList).length<=_;rw[j9];have:s.data.toList.length=s.size:=by simp
  omega
 clear O;go_enter func67,ntmps67;go_wp2_with fail;refine(qV s w (by omega)).mono ?_;rintro e w1 ⟨rfl,h⟩;go_wp2_with fail;refine(IP _ w1 U W).mono ?_;rintro e w2 ⟨v,rfl,D,Y⟩;go_wp2;go_ret;refine⟨_,rfl,mH D h.size,h.trans (Y.mono h.size)⟩
end
section
open Go.RowKit Go.Maps
variable {ws ws':List Wd} {f:List Wd->Nat} {B n:Nat} {w w':World}
def ol(ws:List Wd):Value:=.agg #[.string ⟨(ws.getD 0 []).toArray⟩,.string ⟨(ws.getD 1 []).toArray⟩,.string ⟨(ws.getD 2 []).toArray⟩]
def nG(ws:List Wd):Prop:=ws.length<=3/\∀x∈ws,x≠[]/\x.length<=24
theorem Tryz.vT:laidOutB prog=true:=by kernel_rfl
theorem Qy:(match prog.underlying 143 with|some (.array _ _)|some (.struct _)=>true|_=>false)=true:=by rw[bL]
theorem Nb:143<prog.types.size:=of_decide_eq_true (by kernel_rfl)
theorem rq:Keyed prog 143:=Keyed.of_law (b7 Tryz.vT (m:=2) (by omega) Nb (by kernel_rfl) Qy)
theorem EQ:prog.cellsOf 143=3:=by kernel_rfl
theorem N2:prog.cellsOf 9=1:=by kernel_rfl
theorem Hd:prog.keyType 143=true:=by kernel_rfl
theorem JR(w:World):(zeroValue 141).run prog w=.ok (.int .u64 0) w:=by kernel_rfl
theorem JD:∃d,prog.types.size=d+1:=⟨prog.types.size-1,by have:=Nb; omega⟩
theorem AC(d:Nat)(s:ByteArray)(h:s.size<=bt):prog.keyLits (d+1) 9 [.string s]=some [.string s.data.toList]:=by
 unfold cC;simp[bO,h]
theorem N9(a b c:ByteArray)(h:a.size<=bt)(hb:b.size<=bt)(D:c.size<=bt):∃l,bw prog 143 (.agg #[.string a,.string b,.string c])=some l:=by
 obtain⟨d,O⟩:=JD;unfold bw;rw[bL];simp only;rw[Hd,O];have U:(Value.agg #[.string a,.string b,.string c]).formed prog 143=true:=by simp[cL,bL,EQ]
 rw[U];unfold cC;simp[bL,EQ,N2,cM,List.range,List.range.loop,AC d a h,AC d b hb,AC d c D]
theorem ON(h:nG ws)(j:Nat):(ws.getD j []).length<=24:=by
 by_cases D:j<ws.length
 .rw[bb,bn D];exact(h.2 _ (bi D)).2
 .rw[bb,bp (by omega)];simp
theorem size_le(h:nG ws)(j:Nat):(⟨(ws.getD j []).toArray⟩:ByteArray).size<=bt:=by
 have:=ON h j;show(ws.getD j []).length<=bt;unfold bt;omega
theorem CP(h:nG ws):∃l,bw prog 143 (ol ws)=some l:=N9 _ _ _ (size_le h 0) (size_le h 1) (size_le h 2)
theorem Pa(h:nG ws)(h':nG ws')(e:ol ws=ol ws'):ws=ws':=by
 unfold ol at e;simp only[Value.agg.injEq,Array.mk.injEq,List.cons.injEq,Value.string.injEq,ByteArray.mk.injEq,and_true]at e;obtain⟨D,O,W⟩:=e;obtain⟨h1,Y⟩:=h;obtain⟨aa,U⟩:=h'
 match ws,ws' with
 |[],[]=>rfl
 |[],y::_=>have:=(U y (by simp)).1; simp at D; exact absurd D this
 |x::_,[]=>have:=(Y x (by simp)).1; simp at D; exact absurd D this
 |[x],[y]=>simp at D; rw[D]
 |[_],_::y::_=>have:=(U y (by simp)).1; simp at O; exact absurd O this
 |_::x::_,[_]=>have:=(Y x (by simp)).1; simp at O; exact absurd O this
 |[x,x'],[y,y']=>simp at D O; rw[D,O]
 |[_,_],_::_::y::_=>have:=(U y (by simp)).1; simp at W; exact absurd W this
 |_::_::x::_,[_,_]=>have:=(Y x (by simp)).1; simp at W; exact absurd W this
 |[x,x',x''],[y,y',y'']=>simp at D O W; rw[D,O,W]
 |_::_::_::_::_,_=>simp at h1
 |_,_::_::_::_::_=>simp at aa
theorem Rv{l U:Lit}(h:nG ws)(W:nG ws')(Y:bw prog 143 (ol ws)=some l)(D:bw prog 143 (ol ws')=some U)(O:ws'≠ws):U≠l:=by
 intro e;rw[e]at D;exact O (Pa W h (rq.inj D Y))
def iU(w:World)(B n:Nat)(f:List Wd->Nat):Prop:=
 ∃D:DataW Unit,w.ownsMap prog 143 (plainElem prog 141) B n D/\∀ws l,nG ws->bw prog 143 (ol ws)=some l->D.atKey l (.lit (.int .u64 0))=.lit (.int .u64 (f ws:Nat))
theorem iU.made(w:World):iU (w.alloc (.map #[] 0)) w.heap.size 0 (λ_=>0):=⟨.map [],cA _ _ _ _,λ_ _ _ _=>rfl⟩
theorem iU.stay(h:iU w B n f)(hb:w'.heap[B]?=w.heap[B]?):iU w' B n f:=by
 obtain⟨D,⟨es,clock,O,U⟩,W⟩:=h;exact⟨D,⟨es,clock,hb.trans O,U⟩,W⟩
theorem iU.lt(h:iU w B n f):B<w.heap.size:=by
 obtain⟨D,O,_⟩:=h;exact O.lt
theorem iU.mono{m:Nat}{g:List Wd->Nat}(h:iU w B n f)(U:n<=m)(W:∀ws,nG ws->f ws=g ws):iU w B m g:=by
 obtain⟨D,Y,h2⟩:=h;exact⟨D,Y.mono U,λws l O hl=>by rw[h2 ws l O hl,W ws O]⟩
theorem iU.below(h:iU w B n f)(hb:Below w.heap.size w w'):iU w' B n f:=h.stay (hb.block B h.lt)
theorem iU.look(h:iU w B n f)(W:nG ws):(bE 86 (.map (some B)) (ol ws) false).run prog w=.ok (.int .u64 (f ws:Nat)) w:=by
 obtain⟨D,h1,h2⟩:=h;obtain⟨l,Y⟩:=CP W;obtain⟨c,U,O,_⟩:=h1.lookup_int rq bN bM (JR w) Y;rw[h2 ws l W Y]at O;simp only[DataW.lit.injEq,Lit.int.injEq,true_and]at O;rw[U,<-O]
theorem iU.put(h:iU w B n f)(Y:nG ws)(hn:n<bt)(v:Nat)(hv:v<18446744073709551616) :
  ∃w',(bD 86 (.map (some B)) (ol ws) (.int .u64 (v:Nat))).run prog w=.ok () w'/\iU w' B (n+1) (λx=>if x=ws then v else f x)/\w.grownBy w' (some B):=by
 obtain⟨D,h1,h2⟩:=h;have hw:(Lit.int .u64 (v:Int)).wf=true:=by simp[Lit.wf,c6,c7,c5,c4]; omega
 obtain⟨l,W⟩:=CP Y;obtain⟨w',U,ho,hg⟩:=h1.update rq bN hn W (plainElem_int bM hw);refine⟨w',U,⟨_,ho,λx lx hx O=>?_⟩,hg⟩;show _=DataW.lit (Lit.int .u64 ((if x=ws then v else f x:Nat):Int));by_cases e:x=ws
 .subst e;rw[W]at O;simp only[cq]at O;subst O;rw[if_pos rfl,cH h1.isMap (rq.key W)]
 .rw[if_neg e,cG (Rv Y hx W O e)];exact h2 x lx hx O
end
section
open Go.RowKit Go.Maps Go.ChangeMaps Go.WideElems
variable {ws:List Wd} {f:List Wd->Nat} {kl:Lit} {x y:MapEntry} {B n s:Nat} {key:Value}
def yM(w:World)(B:Nat)(s:Nat)(key:Value):Prop:=∃(es:Array MapEntry)(clock i:Nat)(e:MapEntry),w.heap[B]?=some (.map es clock)/\es[i]?=some e/\e.key=key/\e.born=s
section
variable {H:Type} {P:Program} {k:bu} {R:Value->Option (DataW H×List MemPlace)} {es:Array MapEntry} {clock:Nat} {w:World} {t e:bu} {b:Nat}
theorem xI{es:Array MapEntry}{j:Nat}{D:MapEntry}(O:es[j]?=some D)(f g:MapEntry->MapEntry)(h:f D=g D):es.modify j f=es.modify j g:=by
 apply cy;intro i;rw[cr,cr];by_cases hi:j=i
 .subst hi;rw[if_pos rfl,if_pos rfl,O];simp[h]
 .rw[if_neg hi,if_neg hi]
theorem Dv(K:Keyed P k)(D:P.underlying t=some (.map k e)){z:Value}(W:(zeroValue e).run P w=.ok z w)(hb:w.heap[b]?=some (.map es clock))(F:Fit P k R es clock)(kh:bw P k key=some kl) :
  ∃v s w',(bE t (.map (some b)) key false).run P w=.ok v w/\(bF t (.map (some b)) key).run P w=.ok (.tuple #[v,b5 (s:Nat)]) w'/\(bD t (.map (some b)) key v).run P w=.ok () w'/\yM w' b s key:=by
 rcases K.find w kh es.toList F.keys with⟨h,Y⟩|⟨j,O,h,Y,h3⟩
 .refine⟨z,clock,setBlock w b (.map (es.push ⟨key,z,clock⟩) (clock+1)),?_,?_,?_,?_⟩
  .simp[bE,bs D,bA hb,K.check w _ kh,h,W,cp]
  .simp[bF,bs D,bA hb,K.check w false kh,h,W,bB _ hb,cp,setBlock]
  .simp[bD,bs D,bA hb,K.check w false kh,h,bB _ hb,cp,setBlock]
  .exact⟨_,_,es.size,⟨key,z,clock⟩,heap_setBlock_same hb _,by simp,rfl,rfl⟩
 .have U:es[j]?=some O:=by simpa using Y
  refine⟨O.val,O.born,setBlock w b (.map (es.modify j λe=>{e with key:=key}) clock),?_,?_,?_,?_⟩
  .simp[bE,bs D,bA hb,K.check w _ kh,h,cp]
  .simp[bF,bs D,bA hb,K.check w false kh,h,U,h3,K.stays w kh,bB _ hb,cp,setBlock]
  .rw[xI U (λe=>{e with key:=key}) (λe=>{e with key:=key,val:=O.val}) (by simp)];simp[bD,bs D,bA hb,K.check w false kh,h,U,h3,K.stays w kh,bB _ hb,cp,setBlock]
  .refine⟨_,_,j,{O with key:=key},heap_setBlock_same hb _,?_,rfl,rfl⟩;rw[cr,if_pos rfl,U]
   first|rfl|skip
theorem born_inj{es:Array MapEntry}(W:(es.toList.map (·.born)).Nodup){i j:Nat}(hi:es[i]?=some x)(hj:es[j]?=some y)(h:x.born=y.born):i=j:=by
 have O:es.toList[i]?=some x:=by simpa using hi
 have U:es.toList[j]?=some y:=by simpa using hj
 obtain⟨Y,a2⟩:=bf.1 O;obtain⟨b1,b2⟩:=bf.1 U;rw[List.Nodup,List.pairwise_map]at W;have hp:=bm.1 W;rcases ck i j with D|D|D
 .exact absurd (by rw[a2,b2]; exact h) (hp i j Y b1 D)
 .exact D
 .exact absurd (by rw[a2,b2]; exact h.symm) (hp j i b1 Y D)
theorem key_inj{es:Array MapEntry}(hn:es.toList.Pairwise λx y=>x.key≠y.key){i j:Nat}(hi:es[i]?=some x)(hj:es[j]?=some y)(h:x.key=y.key):i=j:=by
 have O:es.toList[i]?=some x:=by simpa using hi
 have U:es.toList[j]?=some y:=by simpa using hj
 obtain⟨W,Y⟩:=bf.1 O;obtain⟨b1,b2⟩:=bf.1 U;have hp:=bm.1 hn;rcases ck i j with D|D|D
 .exact absurd (by rw[Y,b2]; exact h) (hp i j W b1 D)
 .exact D
 .exact absurd (by rw[Y,b2]; exact h.symm) (hp j i b1 W D)
theorem Ay(K:Keyed P k)(ht:P.underlying t=some (.map k e))(hb:w.heap[b]?=some (.map es clock))(F:Fit P k R es clock){v:Value}(kh:bw P k key=some kl)(hE:yM w b s key) :
  ∃w',(bG t (.map (some b)) (b5 (s:Nat)) v).run P w=.ok () w'/\(bD t (.map (some b)) key v).run P w=.ok () w':=by
 obtain⟨ad,W,i,e0,h,hi,hk,hs⟩:=hE;rw[hb]at h;simp only[cq,Obj.map.injEq]at h;obtain⟨rfl,rfl⟩:=h;have D:=(bC es clock).1 F.stamped
 have O:es.findIdx? (λe=>(e.born:Int)==(s:Int))=some i:=by
  obtain⟨Y,aa⟩:=cw.1 hi;rw[Array.findIdx?_eq_some_iff_getElem];refine⟨Y,by rw[aa]; simp[hs],λj U=>?_⟩;simp only[Bool.not_eq_true,beq_eq_false_iff_ne,ne_eq];intro hh;have ab:j<es.size:=by omega
  have:=born_inj D.2.1 (i:=j) (j:=i) (Array.getElem?_eq_getElem ab) hi (by rw[hs]; omega);omega
 rcases K.find w kh es.toList F.keys with⟨h1,h2⟩|⟨j,e1,h1,h2,h3⟩
 .exact absurd hk (h2 e0 (List.mem_of_getElem? (by simpa using hi:es.toList[i]?=some e0)))
 .have U:es[j]?=some e1:=by simpa using h2
  have ac:i=j:=key_inj D.2.2 hi U (by rw[hk,h3]);subst ac;rw[U]at hi;simp only[cq]at hi;subst hi;refine⟨setBlock w b (.map (es.modify i λe=>{e with val:=v}) clock),?_,?_⟩
  .simp[bG,bA hb,asInt,asIntOf,b5,O,bB _ hb,cp,setBlock]
  .rw[xI U (λe=>{e with val:=v}) (λe=>{e with key:=key,val:=v}) (by simp[h3])];simp[bD,bs ht,bA hb,K.check w false kh,h1,U,h3,K.stays w kh,bB _ hb,cp,setBlock]
end
theorem iU.entry{w:World}(h:iU w B n f)(O:nG ws)(hn:n<bt)(hv:f ws<18446744073709551616) :
  ∃s w',(bF 86 (.map (some B)) (ol ws)).run prog w=.ok (.tuple #[.int .u64 (f ws:Nat),b5 (s:Nat)]) w'/\yM w' B s (ol ws)/\iU w' B (n+1) f/\w.grownBy w' (some B):=by
 have hl:=h.look O;obtain⟨D,⟨es,clock,hb,F,hs,hD⟩,h2⟩:=id h;obtain⟨l,U⟩:=CP O;obtain⟨v,s,w',W,g2,g3,g4⟩:=Dv rq bN (JR w) hb F U;rw[hl]at W;simp only[Result.ok.injEq,and_true]at W;subst W;obtain⟨aa,Y,p2,p3⟩:=h.put O hn (f ws) hv;rw[g3]at Y;simp only[Result.ok.injEq,true_and]at Y;subst Y;refine⟨s,w',g2,g4,p2.mono (ci _) (λx _=>?_),p3⟩;show(if x=ws then f ws else f x)=f x;by_cases e:x=ws
 .subst e; simp
 .rw[if_neg e]
theorem iU.store{w:World}(h:iU w B n f)(W:nG ws)(Y:n<bt)(hE:yM w B s (ol ws))(v:Nat)(hv:v<18446744073709551616) :
  ∃w',(bG 86 (.map (some B)) (b5 (s:Nat)) (.int .u64 (v:Nat))).run prog w=.ok () w'/\iU w' B (n+1) (λx=>if x=ws then v else f x)/\w.grownBy w' (some B):=by
 obtain⟨D,⟨es,clock,hb,F,hs,hD⟩,h2⟩:=id h;obtain⟨l,O⟩:=CP W;obtain⟨w',g1,g2⟩:=Ay (v:=.int .u64 (v:Nat)) rq bN hb F O hE;obtain⟨aa,U,p2,p3⟩:=h.put W Y v hv;rw[g2]at U;simp only[Result.ok.injEq,true_and]at U;subst U;exact⟨w',g1,p2,p3⟩
end
section
open Go.RowKit Go.Maps
theorem F0:(prog.info? 9).map (·.size)=some 1:=by kernel_rfl
def oZ:Obj:=.cells #[.string ⟨#[]⟩,.string ⟨#[]⟩,.string ⟨#[]⟩] 143
def tT(ws:List Wd)(j:Nat):Value:=.string ⟨(ws.getD j []).toArray⟩
theorem Br{b:Nat}{t:bu}{fz:Nat×Nat}:∀(vs:List Value)(o:Nat)(w:World)(cs:Array Value),w.heap[b]?=some (.cells cs t fz)->
  ∃cs',(w.setCells b o vs).heap[b]?=some (.cells cs' t fz)/\cs'.size=cs.size/\(∀j,j<o\/o+vs.length<=j->cs'[j]?=cs[j]?)/\(∀j,o+j<cs.size->j<vs.length->cs'[o+j]?=vs[j]?):=by
 intro vs
 induction vs with
 |nil=>intro o w cs h; exact⟨cs,h,rfl,λ_ _=>rfl,λj _ D=>by simp at D⟩
 |cons v vs W=>
  intro o w cs h;obtain⟨cs',Y,h2,U,h4⟩:=W (o+1) (w.setCell ⟨b,o,none⟩ v) _ (heap_set h o v);refine⟨cs',Y,by simpa using h2,λj D=>?_,λj D O=>?_⟩
  .rw[U j (by simp at D; omega)];simp only[ct];rw[if_neg (by simp at D; omega)]
  .cases j with
   |zero=>
    rw[U (o+0) (by omega)];simp only[ct,Nat.add_zero,if_true,List.getElem?_cons_zero];rw[if_pos (by omega)]
   |succ j=>
    have:=h4 j (by simp; omega) (by simpa using O);rw[show o+(j+1)=o+1+j by omega,this];simp
theorem AA{b:Nat}:∀(vs:List Value)(o:Nat)(w:World)(k:Nat),k≠b->(w.setCells b o vs).heap[k]?=w.heap[k]?:=by
 intro vs
 induction vs with
 |nil=>intro o w k _; rfl
 |cons v vs D=>
  intro o w k h;rw[cB,D (o+1) _ k h,Below.heap_setCell _ _ _ _ h]
theorem zr{b B:Nat}{w0:World}(D:B<=b):∀(vs:List Value)(o:Nat)(w:World),Below B w0 w->Below B w0 (w.setCells b o vs):=by
 intro vs
 induction vs with
 |nil=>intro o w h; exact h
 |cons v vs O=>
  intro o w h;rw[cB];exact O (o+1) _ (h.setCell D _)
theorem pQ(w:World)(o:Obj):(w.alloc o).heap[w.heap.size]?=some o:=by simp[World.alloc,-World.alloc_eq]
theorem H8(w:World)(a:Option Addr)(c:Nat)(ws:List Wd)(hr:∀j u,(gQ ws)[j]?=some u->∃b off,a=some ⟨b,off,none⟩/\w.cell? ⟨b,off+j,none⟩=some u)(h3:ws.length<=3) :
  ∃Y v,(Builtin.copy_ #[31,31] 3 #[.slice (some ⟨w.heap.size+1,0,none⟩) 3 3,.slice a ws.length c]).run prog ((w.alloc oZ).alloc oZ)=.ok v Y/\
   Y.heap[w.heap.size+1]?=some (.cells #[tT ws 0,tT ws 1,tT ws 2] 143 (0,0))/\Y.heap[w.heap.size]?=some (.cells #[.string ⟨#[]⟩,.string ⟨#[]⟩,.string ⟨#[]⟩] 143 (0,0))/\Below w.heap.size w Y:=by
 have hb:Below w.heap.size w ((w.alloc oZ).alloc oZ):=((Below.refl _ _).alloc (ci _) _).alloc (by simp) _
 have D:((w.alloc oZ).alloc oZ).heap[w.heap.size+1]?=some (.cells #[.string ⟨#[]⟩,.string ⟨#[]⟩,.string ⟨#[]⟩] 143 (0,0)):=by
  have e:w.heap.size+1=(w.alloc oZ).heap.size:=by simp
  rw[e];exact pQ _ _
 have U:((w.alloc oZ).alloc oZ).heap[w.heap.size]?=some (.cells #[.string ⟨#[]⟩,.string ⟨#[]⟩,.string ⟨#[]⟩] 143 (0,0)):=by
  rw[Below.heap_alloc _ _ _ (by simp)];exact pQ _ _
 by_cases h0:ws=[]
 .subst h0;exact⟨_,_,run_copy_none (P:=prog) _ _ _ _ 9 _ _ 3 3 0 c bJ F0 rfl,D,U,hb⟩
 .have W:0<ws.length:=List.length_pos_iff.2 h0;obtain⟨b,o,rfl,_⟩:=hr 0 _ (kW ws 0 W)
  have aa:=run_copy_cells (P:=prog) ((w.alloc oZ).alloc oZ) 31 31 3 9 (w.heap.size+1) 0 3 3 ⟨b,o,none⟩ ws.length c (gQ ws) bJ F0 (by rw[gY]; simp[Nat.min_def]; omega)
   (λj v O=>by
     obtain⟨b',o',e,hc⟩:=hr j v O
     simp only[cq,Addr.mk.injEq]at e
     obtain⟨rfl,rfl,_⟩:=e
     have e2:(⟨b,o,none⟩:Addr).add j=⟨b,o+j,none⟩:=by
      unfold Addr.add
      split
      .rename_i h; rw[h]; rfl
      .rfl
     rw[e2]
     exact bz hb hc)
   (λj O=>by
     rw[gY]at O
     rw[Ps D]
     have:j<3:=by omega
     match j,this with
     |0,_=>rfl
     |1,_=>rfl
     |2,_=>rfl)
   (λj _=>Ue D _) kX
  obtain⟨cs',g1,g2,g3,g4⟩:=Br (gQ ws) 0 _ _ D;refine⟨_,_,aa,?_,?_,?_⟩
  .rw[g1];congr 1;congr 1;apply cy;intro j;by_cases O:j<ws.length
   .have:=g4 j (by simp; omega) (by rw[gY]; exact O);rw[Nat.zero_add]at this;rw[this,Ds ws j O];have:j<3:=by omega
    match j,this with
    |0,_=>rfl
    |1,_=>rfl
    |2,_=>rfl
   .rw[g3 j (Or.inr (by rw[gY]; omega))];have hg:ws.getD j []=[]:=by rw[bb,bp (by omega)]; rfl
    by_cases ab:j<3
    .match j,ab with
     |0,_=>show _=some (tT ws 0); unfold tT; rw[hg]; rfl
     |1,_=>show _=some (tT ws 1); unfold tT; rw[hg]; rfl
     |2,_=>show _=some (tT ws 2); unfold tT; rw[hg]; rfl
    .rw[cx (by simp; omega),cx (by simp; omega)]
  .rw[AA _ _ _ _ (by omega)]; exact U
  .exact zr (by omega) _ _ _ hb
theorem tq(v:Value)(ws:List Wd)(w:World)(W:Rd w v (gQ ws))(Y:ws.length<=3) :
  bx prog 93 #[v] w λe w'=>e=.returned (ol ws)/\Below w.heap.size w w':=by
 obtain⟨a,c,rfl,hc,hm,U⟩:=W;rw[gY]at hc⊢;obtain⟨h,v2,hcp,O,D,hb⟩:=H8 w a c ws U Y;unfold oZ at hcp;have c0:h.cell? ⟨w.heap.size+1,0,none⟩=some (tT ws 0):=Ps O 0;have c1:h.cell? ⟨w.heap.size+1,1,none⟩=some (tT ws 1):=Ps O 1;have c2:h.cell? ⟨w.heap.size+1,2,none⟩=some (tT ws 2):=Ps O 2;have d0:h.cell? ⟨w.heap.size,0,none⟩=some (.string ⟨#[]⟩):=Ps D 0;have d1:h.cell? ⟨w.heap.size,1,none⟩=some (.string ⟨#[]⟩):=Ps D 1;have d2:h.cell? ⟨w.heap.size,2,none⟩=some (.string ⟨#[]⟩):=Ps D 2;have f0:h.frozen? ⟨w.heap.size,0,none⟩=false:=Ue D 0;have f1:h.frozen? ⟨w.heap.size,1,none⟩=false:=Ue D 1;have f2:h.frozen? ⟨w.heap.size,2,none⟩=false:=Ue D 2;rw[show ol ws=.agg #[tT ws 0,tT ws 1,tT ws 2]from rfl];unfold tT at *;generalize (⟨(ws.getD 0 []).toArray⟩:ByteArray)=s0 at *;generalize (⟨(ws.getD 1 []).toArray⟩:ByteArray)=s1 at *;generalize (⟨(ws.getD 2 []).toArray⟩:ByteArray)=s2 at *;clear O D U;go_enter func93,ntmps93;go_wp2;refine b8 (v:=.agg #[.string s0,.string s1,.string s2]) (by simp[results,results93,go_sem,d0,d1,d2]) rfl ⟨rfl,?_⟩;exact((hb.setCell (ci _) _).setCell (ci _) _).setCell (ci _) _
end
section
open Go.RowKit Go.Maps
theorem Mh(v:Value)(ws:List Wd)(x:Wd)(w:World)(hv:Rd w v (gQ ws)) :
  bx prog 186 #[v,.string ⟨x.toArray⟩] w λe w'=>(∃z:Int,e=.returned (.int .i64 z)/\(0<=z↔x∈ws))/\w=w':=by
 obtain⟨a,c,rfl,hc,hm,W⟩:=hv;rw[gY]at hc⊢;unfold bt at hm;go_enter func186,ntmps186;go_wp2;go_loop [8] (λi=>∃k:Nat,k<=ws.length/\i=.int .i64 k/\x ∉ ws.take k) (λi=>ws.length-(cD i).toNat)
 case atStart=>exact⟨0,cj _,rfl,by simp⟩
 case round=>
  obtain⟨k,hk,rfl,O⟩:=hrel;have Y:cE _:=O;clear O;by_cases D:k<ws.length
  .obtain⟨b,o,rfl,h0⟩:=W k _ (kW ws k D);have HM:cE (ws[k]∈ws):=bi D;have HT:cE (ws.take (k+1)=ws.take k++[ws[k]]):=bk D;have HR:cE _:=W;clear W;generalize ws[k]=y at *;by_cases U:x=y
   .subst U;go_wp2;go_ret;exact⟨⟨k,rfl,⟨λ_=>HM.out,λ_=>by omega⟩⟩,rfl⟩
   .have hb:(x==y)=false:=by simpa using U
    have HX:cE _:=U;clear U;go_wp2;go_round
    case rel=>exact⟨k+1,by omega,by go_num,by rw[HT.out,bh,bg]; rintro(h|h); exact Y.out h; exact HX.out h⟩
    case measure=>simp[cD]; omega
  .go_wp2;go_ret;refine⟨⟨-1,rfl,⟨λh=>absurd h (by omega),λh=>?_⟩⟩,rfl⟩;have:=Y.out;rw[bo (by omega)]at this;exact absurd h this
theorem DD(v:Value)(ws:List Wd)(x:Wd)(w:World)(Y:Rd w v (gQ ws)) :
  bx prog 134 #[v,.string ⟨x.toArray⟩] w λe w'=>e=.returned (.bool (decide (x∈ws)))/\w=w':=by
 have D:=Mh v ws x w Y;go_enter func134,ntmps134;go_wp2_with fail;refine D.mono ?_;rintro e w' ⟨⟨z,rfl,U⟩,rfl⟩;by_cases O:x∈ws
 .have h0:=U.2 O;have W:cE (decide (x∈ws)=true):=decide_eq_true O;clear D U O;go_wp2;go_ret;exact⟨iR (by rw[W.out]),rfl⟩
 .have h0:¬0<=z:=λh=>O (U.1 h);have W:cE (decide (x∈ws)=false):=decide_eq_false O;clear D U O;go_wp2;go_ret;exact⟨iR (by rw[W.out]; exact decide_eq_false (by omega)),rfl⟩
theorem E9(b o B n:Nat)(f:List Wd->Nat)(kn:List Wd)(v:Value)(ws:List Wd)(w:World)(hB:w.cell? ⟨b,o,none⟩=some (.map (some B)))(hC:iU w B n f)(hv:Rd w v (gQ ws))
  (af:∀x∈ws,x≠[]/\x.length<=24) (hf:∀x∈ws,f [x]=0↔x ∉ kn) (hl:ws.length<=1000) :
  bx prog 92 #[.pointer (some ⟨b,o,none⟩),v] w λe w'=>∃u,e=.returned u/\w'.ownsRow w.heap.size 9 1 u (k8 kn ws ws.length).length (gQ (k8 kn ws ws.length))/\Below w.heap.size w w':=by
 obtain⟨a,c,rfl,hc,hm,hr⟩:=hv;rw[gY]at hc⊢;unfold bt at hm;obtain⟨i0,hi,ag,ah,ai⟩:=b9 tW;go_enter func92,ntmps92;go_wp2;go_loopw [5,10] (λu i wr=>∃k:Nat,k<=ws.length/\i=.int .i64 k/\wr.ownsRow w.heap.size 9 1 u (k8 kn ws k).length (gQ (k8 kn ws k))/\Below w.heap.size w wr) (λ_ i _=>ws.length-(cD i).toNat)
 case atStart=>exact⟨0,cj _,rfl,World.ownsRow_nil _ _ _ _,Below.refl _ _⟩
 case round=>
  obtain⟨k,hk,rfl,D,hb⟩:=hrel;have HS:=hb.size;have ak:=(zo kn ws k hk).2.2;by_cases Y:k<ws.length
  .obtain⟨ba,oa,rfl,h0⟩:=hr k _ (kW ws k Y);have HE:cE (k8 kn ws (k+1)=if ws[k]∈kn\/ws[k]∈k8 kn ws k then k8 kn ws k else k8 kn ws k++[ws[k]]):=zq kn ws k Y;have hx:=af _ (bi Y);have aa:=hf _ (bi Y);generalize ws[k]=x at *;have al:=bz hb h0;have am:=bz hb hB;have O:=(hC.below hb).look (ws:=[x]) ⟨by simp,by simpa using hx⟩;rw[show ol [x]=.agg #[.string ⟨x.toArray⟩,.string ⟨#[]⟩,.string ⟨#[]⟩]from rfl]at O;have HR:cE _:=hr;clear hr h0;obtain⟨au,cu,rfl,an⟩:=ib D;by_cases U:f [x]=0
   .have HK:cE (x ∉ kn):=aa.1 U;rw[U]at O;have ae:(bE 86 (.map (some B)) (.agg #[.string ⟨x.toArray⟩,.string ⟨#[]⟩,.string ⟨#[]⟩]) false).run prog wr=.ok (.int .u64 0) wr:=O;clear O U aa;have ab:=DD _ (k8 kn ws k) x wr (Rd.lr D);go_wp2_with fail;refine ab.mono ?_;rintro e w' ⟨rfl,rfl⟩;clear ab;by_cases W:x∈k8 kn ws k
    .have HE2:cE (k8 kn ws (k+1)=k8 kn ws k):=by show _=_; rw[HE.out,if_pos (Or.inr W)]
     rw[decide_eq_true W];clear W;go_wp2;go_roundw
     case rel=>exact⟨k+1,by omega,by go_num,by rw[HE2.out]; exact D,hb⟩
     case measure=>simp[cD]; omega
    .have HE2:cE (k8 kn ws (k+1)=k8 kn ws k++[x]):=by show _=_; rw[HE.out,if_neg (by rintro(h|h); exact HK.out h; exact W h)]
     rw[decide_eq_false W];clear W
     go_wp2_with (first
      |(at_builtin; refine jp _ rfl _ _ 31 rfl w.heap.size 9 i0 (.string ⟨#[]⟩) 16 bJ hi ag ah ai rfl _ _ _ rfl (D.alloc _) ⟨wr.heap.size,0,none⟩ _ rfl ki rfl ?c1 ?c2 ?c3 ?_))
     case c1=>omega
     case c2=>unfold bt; omega
     case c3=>first|omega|(simp; omega)
     intro v' w1 hown' ac _;rw[<-lH,<-HE2.out]at hown';have hb':=(hb.alloc HS _).grown ac (by simp; omega) (λb hb=>(D.lt b hb).1);have aj:cE ((k8 kn ws k).length+1=(k8 kn ws (k+1)).length):=by show _=_; rw[HE2.out]; simp
     rw[aj.out]at hown';go_wp2;go_roundw
     case rel=>exact⟨k+1,by omega,by go_num,hown',hb'⟩
     case measure=>simp[cD]; omega
   .have ad:x∈kn:=by
     by_cases h:x∈kn
     .exact h
     .exact absurd (aa.2 h) U
    have HE2:cE (k8 kn ws (k+1)=k8 kn ws k):=by show _=_; rw[HE.out,if_pos (Or.inl ad)]
    generalize f [x]=m at *;have ao:((m:Int)==0)=false:=by simpa using U
    clear ad aa U;go_wp2;go_roundw
    case rel=>exact⟨k+1,by omega,by go_num,by rw[HE2.out]; exact D,hb⟩
    case measure=>simp[cD]; omega
  .have ek:k=ws.length:=by omega
   subst ek;go_wp2;go_ret;exact⟨_,rfl,D,hb⟩
end
section
open Go.RowKit Go.Maps
variable {kn':List Wd} {f:List Wd->Nat} {b base n:Nat} {F:Nat->Prop} {v vB vK vK' vS:Value} {w wr:World}
def TY(h:List (List Wd)):Prop:=∀t∈h,∀x∈t,x≠[]/\x.length<=24
structure PW(w:World)(F:Nat->Prop)(b:Nat)(vB vS:Value)(ts:List (List Wd))(B n:Nat)(vK:Value)(kn:List Wd):Prop where
 blk:w.heap[b]?=some (.cells #[vB,vS,.map (some B),vK] 90 (0,0))
 fb:F b
 fB:F B
 cnt:iU w B n (ji ts)
 room:n<=8*jE ts
 row:w.ownsRow 0 9 1 vK kn.length (gQ kn)
 mo:∀k,vK.ownBlock=some k->F k
 perm:kn.Perm (iA ts)
 ok:TY ts
 yE:kn.length<=60
theorem PW.known{D:List (List Wd)}{B:Nat}{kn:List Wd}(h:PW w F b vB vS D B n vK kn)(x:Wd):ji D [x]=0↔x ∉ kn:=by
 rw[Lh,h.perm.mem_iff]
structure LM(w wr:World)(F:Nat->Prop)(b:Nat)(vB vS:Value)(ts:List (List Wd))(B n:Nat)(vK:Value)(kn:List Wd)(base:Nat)(v:Value)(t:List Wd)(P:List (List Wd)):Prop where
 blk:wr.heap[b]?=some (.cells #[vB,vS,.map (some B),vK] 90 (0,0))
 cnt:iU wr B (n+2*P.length) (λws=>ji ts ws+P.count ws)
 row:wr.ownsRow 0 9 1 vK kn.length (gQ kn)
 mo:∀k,vK.ownBlock=some k->Q4 F w wr k
 frame:gV F w wr
 arg:wr.ownsRow base 9 1 v t.length (gQ t)
theorem uv{B:Nat}(h:iU w B n f){e m:Nat}{xs:List Value}(W:w.ownsRow base e 1 v m xs):v.ownBlock≠some B:=by
 obtain⟨D,⟨es,clock,Y,_⟩,_⟩:=h;rcases W.2 with⟨rfl,_⟩|⟨g,cap,aa,rfl,_,O,_⟩
 .simp[cJ]
 .intro U;simp only[cJ,cq]at U;rw[U,Y]at O;cases O
theorem A8{B:Nat}(h:iU w B n f){cs:Array Value}{t:bu}{fz:Nat×Nat}(hb:w.heap[b]?=some (.cells cs t fz)):b≠B:=by
 obtain⟨D,⟨es,clock,O,_⟩,_⟩:=h;intro e;rw[e,O]at hb;cases hb
theorem KD{w1 w2:World}{ts:List (List Wd)}{B:Nat}{kn:List Wd}{t:List Wd}(hF:∀k,F k->k<w.heap.size)(D:PW w F b vB vS ts B n vK kn)
  (hv:w.ownsRow base 9 1 v t.length (gQ t)) (ac:∀k,v.ownBlock=some k->¬F k) (W:Below w.heap.size w w1) (ho:w2.ownsRow 0 9 1 vK' kn'.length (gQ kn')) (hg:w1.grownBy w2 vK.ownBlock) (aa:vK'.ownBlock=vK.ownBlock\/vK'.ownBlock=some w1.heap.size) :
  w2.heap[b]?=some (.cells #[vB,vS,.map (some B),vK] 90 (0,0))/\LM w (w2.setCell ⟨b,3,none⟩ vK') F b vB vS ts B n vK' kn' base v t []:=by
 have ah:=W.size;have ai:=hg.size;have hold:∀k,k<w.heap.size->some k≠vK.ownBlock->w2.heap[k]?=w.heap[k]?:=λk O ad=>by rw[hg.block k (by omega) ad,W.block k O]
 have ae:=hF b D.fb;have af:=hF B D.fB;have Y:w2.heap[b]?=some (.cells #[vB,vS,.map (some B),vK] 90 (0,0)):=by rw[hold b ae (λe=>nu D.blk D.row (by decide) e.symm)]; exact D.blk
 have aj:(w2.setCell ⟨b,3,none⟩ vK').heap.size=w2.heap.size:=by simp[World.setCell]
 have U:∀k,k≠b->(w2.setCell ⟨b,3,none⟩ vK').heap[k]?=w2.heap[k]?:=λk O=>Below.heap_setCell _ _ _ _ O;refine⟨Y,⟨by rw[heap_set Y]; rfl,?_,?_,?_,?_,?_⟩⟩
 .refine(D.cnt.stay ?_).mono (by simp) (λws _=>by simp);rw[U B (λe=>A8 D.cnt D.blk e.symm),hold B af (λe=>uv D.cnt D.row e.symm)]
 .refine iB ho (λk O=>U k (λe=>?_));subst e;exact nu Y ho (by decide) O
 .intro k O;rcases aa with h|h
  .exact Or.inl (D.mo k (by rw[<-h]; exact O))
  .rw[h]at O;simp only[cq]at O;have:=(ho.lt k (by rw[h,O])).2;exact Or.inr ⟨by omega,by omega⟩
 .refine⟨hg.os.trans W.os,hg.tape.trans W.tape,hg.output.trans W.output,by omega,λk O hn=>?_⟩;rw[U k (λe=>hn (by rw[e]; exact D.fb))];exact hold k O (λe=>hn (D.mo k e.symm))
 .refine iB hv (λk O=>?_);have ab:=ac k O;have ag:=(hv.lt k O).2;rw[U k (λe=>ab (by rw[e]; exact D.fb)),hold k ag (λe=>ab (D.mo k e.symm))]
theorem OY{w3 w4:World}{Y:List (List Wd)}{B:Nat}{kn:List Wd}{t:List Wd}{P:List (List Wd)}(D:LM w wr F b vB vS Y B n vK kn base v t P)(aa:F B)
  (O:Below wr.heap.size wr w3) (ws:List Wd) (ab:iU w4 B (n+2*P.length+2) (λx=>if x=ws then ji Y ws+P.count ws+1 else ji Y x+P.count x)) (U:w3.grownBy w4 (some B)) :
  LM w w4 F b vB vS Y B n vK kn base v t (P++[ws]):=by
 have ae:=O.size;have af:=U.size;have hold:∀k,k<wr.heap.size->k≠B->w4.heap[k]?=wr.heap[k]?:=λk W ac=>by rw[U.block k (by omega) (by simpa using ac),O.block k W]
 have ad:b<wr.heap.size:=(cw.1 D.blk).1;refine⟨?_,?_,?_,?_,?_,?_⟩
 .rw[hold b ad (A8 D.cnt D.blk)]; exact D.blk
 .refine ab.mono (by simp; omega) (λx _=>?_);show(if x=ws then ji Y ws+P.count ws+1 else ji Y x+P.count x)=ji Y x+(P++[ws]).count x;rw[List.count_append];by_cases e:x=ws
  .subst e; simp; omega
  .rw[if_neg e,List.count_singleton];have:(ws==x)=false:=by simpa using λh=>e h.symm
   rw[this];simp
 .exact iB D.row (λk W=>hold k (D.row.lt k W).2 (λe=>uv D.cnt D.row (by rw[W,e])))
 .intro k W;rcases D.mo k W with h|h
  .exact Or.inl h
  .exact Or.inr ⟨h.1,by omega⟩
 .refine D.frame.trans (G:=λk=>k=B) ⟨U.os.trans O.os,U.tape.trans O.tape,U.output.trans O.output,by omega,λk W hn=>hold k W hn⟩ (λi _ hi=>by subst hi; exact aa)
 .exact iB D.arg (λk W=>hold k (D.arg.lt k W).2 (λe=>uv D.cnt D.arg (by rw[W,e])))
theorem Oo{D:List (List Wd)}{B:Nat}{kn:List Wd}{t:List Wd}(O:PW w F b vB vS D B n vK kn)(U:LM w wr F b vB vS D B n vK' kn' base v t (lZ t t.length))
  (W:kn'.Perm (iA (D++[t]))) (Y:∀x∈t,x≠[]/\x.length<=24) (aa:¬60<(iA (D++[t])).length):PW wr (Q4 F w wr) b vB vS (D++[t]) B (n+2*(lZ t t.length).length) vK' kn' where
 blk:=U.blk
 fb:=Or.inl O.fb;fB:=Or.inl O.fB
 cnt:=U.cnt.mono (ci _) (λws hr=>by
  show ji D ws+(lZ t t.length).count ws=_
  rw[O9 t ws hr.1,Lb])
 room:=by
  have h1:=O.room;have h2:=zG t t.length;have:jE (D++[t])=jE D+(t.length+1):=by simp[jE]
  omega
 row:=U.row;mo:=U.mo;perm:=W
 ok:=by
  intro x hx;rcases bh.1 hx with h|h
  .exact O.ok x h
  .simp at h; subst h; exact Y
 yE:=by rw[W.length_eq]; omega
theorem J9(F:Nat->Prop)(b:Nat)(vB vS:Value)(D:List (List Wd))(B n:Nat)(vK:Value)(kn:List Wd)(t:List Wd)(base:Nat)(v:Value)(w:World)(hF:∀k,F k->k<w.heap.size)(hP:PW w F b vB vS D B n vK kn)
  (hv:w.ownsRow base 9 1 v t.length (gQ t)) (a8:∀k,v.ownBlock=some k->¬F k) (ht:∀x∈t,x≠[]/\x.length<=24) (hl:t.length<=24) (hB:jE D<=16777216) :
  bx prog 66 #[.pointer (some ⟨b,2,none⟩),v] w λe w'=>
   (60<(iA (D++[t])).length/\e=.returned (.bool false)/\Below w.heap.size w w')\/
   (¬60<(iA (D++[t])).length/\e=.returned (.bool true)/\(∃n' vK' kn',PW w' (Q4 F w w') b vB vS (D++[t]) B n' vK' kn')/\gV F w w'):=by
 obtain⟨av,cv,rfl,aR⟩:=ib hv;obtain⟨aK,cK,rfl,aS⟩:=ib hP.row;have ax:=(AD kn D t hP.perm).length_eq;rw[bj]at ax;have aT:=(zo kn t t.length (ci _)).2.2;have aM:=hP.yE;have a9:w.cell? ⟨b,2,none⟩=some (.map (some B)):=by rw[Ps hP.blk]; rfl
 have ay:w.cell? ⟨b,3,none⟩=some (.slice aK kn.length cK):=by rw[Ps hP.blk]; rfl
 obtain⟨i0,hi,a',aA,aB⟩:=b9 tW;go_enter func66,ntmps66;go_wp2_with fail;refine(E9 b 2 B n (ji D) kn _ t w a9 hP.cnt (Rd.lr hv) ht (λx _=>hP.known x) (by omega)).mono ?_;rintro e w1 ⟨u,rfl,hu,af⟩;obtain⟨au,cu,rfl,aU⟩:=ib hu;have az:=bz af ay;by_cases an:60<(iA (D++[t])).length
 .have HK:cE _:=an;have a0:60<(kn.length:Int)+((k8 kn t t.length).length:Int):=by omega
  clear an ax;go_wp2;go_ret;exact Or.inl ⟨HK.out,rfl,af⟩
 .have HK:cE _:=an;have a0:(kn.length:Int)+((k8 kn t t.length).length:Int)<=60:=by omega
  have aV:w1.frozen? ⟨b,3,none⟩=false:=by
   have:w1.heap[b]?=_:=(af.block b (hF b hP.fb)).trans hP.blk;exact Ue this 3
  have a1:=GY hP.row af;clear an
  go_wp2_with (first
   |(at_builtin; refine iQ _ rfl _ _ 31 rfl 0 9 i0 (.string ⟨#[]⟩) 16 bJ hi a' aA aB rfl _ _ _ rfl a1 _ (gQ (k8 kn t t.length)) rfl (Rd.lr hu) kX ?c1 ?c2 (cj _) ?_))
  case c1=>rw[gY]; omega
  case c2=>rw[gY]; unfold bt; omega
  intro vK' w2 W a2 ag
  have ac:w2.ownsRow 0 9 1 vK' (kn++k8 kn t t.length).length (gQ (kn++k8 kn t t.length)):=by
   rw[gY]at W;have e1:gQ (kn++k8 kn t t.length)=gQ kn++gQ (k8 kn t t.length):=by simp[gQ]
   rw[e1,bj];exact W
  obtain⟨ah,hS0⟩:=KD hF hP hv a8 af ac a2 ag;obtain⟨a3,a4,rfl,aN⟩:=ib ac;have aO:w2.cell? ⟨b,3,none⟩=some (.slice aK kn.length cK):=by rw[Ps ah]; rfl
  have aP:w2.frozen? ⟨b,3,none⟩=false:=Ue ah 3;have aC:=(AD kn D t hP.perm);have HP:cE _:=hP;clear hP ah a1 W a2 ag hu ay az hv;generalize kn++k8 kn t t.length=kn' at *;go_wp2_with fail;go_loopw [6] (λi wr=>∃e:Nat,e<=t.length/\i=.int .i64 ((e:Int)+1)/\LM w wr F b vB vS D B n (.slice a3 kn'.length a4) kn' base (.slice av t.length cv) t (lZ t e)) (λi _=>t.length+1-(cD i).toNat)
  case atStart=>exact⟨0,cj _,by simp,hS0⟩
  case round=>
   obtain⟨e,he,rfl,hS⟩:=hrel;by_cases aW:e<t.length
   .have hd:decide ((e:Int)+1<=(t.length:Int))=true:=by simp; omega
    go_wp2_with fail;go_loopw [7] (λi wx=>∃q:Nat,q<=min (e+1) 3+1/\i=.int .i64 (e+1-min (e+1) 3+q:Nat)/\LM w wx F b vB vS D B n (.slice a3 kn'.length a4) kn' base (.slice av t.length cv) t (lZ t e++(ll t (e+1)).take q)) (λi _=>e+2-(cD i).toNat)
    case atStart=>exact⟨0,cj _,by congr 1; omega,by simpa using hS⟩
    case round=>
     obtain⟨q,hq,rfl,Y⟩:=hrel;obtain⟨O,ai⟩:∃O,O=e+1-min (e+1) 3+q:=⟨_,rfl⟩;have aX:cE _:=ai;rw[<-ai];by_cases aY:O<=e+1
     .have aD:wr.cell? ⟨b,2,none⟩=some (.map (some B)):=by rw[Ps Y.blk]; rfl
      have a5:e+1<=t.length:=by omega
      have aZ:(0:Int)<=(e:Int)+1:=by omega
      have ba:(e:Int)+1<=(cv:Int):=by omega
      have aq:Rd wr (.slice (if cv=O then av else Option.map (λx=>x.add O) av) (e+1-O) (cv-O)) (gQ ((t.take (e+1)).drop O)):=
       ((Rd.lr Y.arg).NZ (e+1) a5).Ar O (by simp; omega)
      obtain⟨ws,aj⟩:∃ws,ws=(t.take (e+1)).drop O:=⟨_,rfl⟩;have h3:ws.length<=3:=by rw[aj]; simp; omega
      have ae:nG ws:=⟨h3,λx hx=>ht x (by rw[aj]at hx; exact List.mem_of_mem_take (List.mem_of_mem_drop hx))⟩
      have HER:cE ((ll t (e+1)).take (q+1)=(ll t (e+1)).take q++[ws]):=by
       show _=_;have aE:q<(ll t (e+1)).length:=by rw[qx]; omega
       rw[bk aE,Fg,<-ai,aj]
      rw[<-aj]at aq;clear aj;obtain⟨P,ao⟩:∃P,P=lZ t e++(ll t (e+1)).take q:=⟨_,rfl⟩;rw[<-ao]at Y
      have bc:P.length<=4*24+4:=by
       rw[ao,bj];have:=zG t e;have:((ll t (e+1)).take q).length<=4:=by have:=qx t (e+1); simp; omega
       omega
      have aF:=List.count_le_length (a:=ws) (l:=P);have HPD:cE _:=ao;obtain⟨c,hc⟩:∃c,c=ji D ws+P.count ws:=⟨_,rfl⟩;have mL:=qw D ws;have bd:c<=16777400:=by omega
      have aG:=HP.out.room;have be:IntKind.u64.wrap ((c:Int)+1)=(c:Int)+1:=by rw[c9]; omega
      have aH:=Y;have ap:=Y.cnt
      have aa:bx prog 93 #[.slice (if cv=O then av else Option.map (λx=>x.add O) av) (e+1-O) (cv-O)] wr.drew λe' w3=>e'=.returned (ol ws)/\Below wr.heap.size wr w3/\w3.cell? ⟨b,2,none⟩=some (.map (some B))/\
        (bE 86 (.map (some B)) (ol ws) false).run prog w3=.ok (.int .u64 (c:Int)) w3/\
        ∃(s:Nat)(w4 w5:World),(bF 86 (.map (some B)) (ol ws)).run prog w3=.ok (.tuple #[.int .u64 (c:Int),.int .i64 (s:Int)]) w4/\(bE 86 (.map (some B)) (ol ws) false).run prog w4=.ok (.int .u64 (c:Int)) w4/\
        (bG 86 (.map (some B)) (.int .i64 (s:Int)) (.int .u64 ((c:Int)+1))).run prog w4=.ok () w5/\
        iU w5 B (n+2*P.length+2) (λx=>if x=ws then ji D ws+P.count ws+1 else ji D x+P.count x)/\w3.grownBy w5 (some B):=by
       refine(tq _ ws wr.drew (by exact aq) h3).mono ?_;rintro e' w3 ⟨rfl,ak⟩;have U:Below wr.heap.size wr w3:=⟨ak.os,ak.tape,ak.output,ak.size,ak.block⟩;have a6:=ap.below U;have ab:=a6.look ae;rw[show ji D ws+P.count ws=c from hc.symm]at ab;obtain⟨s,w4,al,aI,a7,aJ⟩:=a6.entry ae (by unfold bt; omega) (by show ji D ws+P.count ws<_; omega);have h:=a7.look ae;rw[show ji D ws+P.count ws=c from hc.symm]at al h;obtain⟨w5,am,ar,aw⟩:=a7.store ae (by unfold bt; omega) aI (c+1) (by omega);rw[Int.natCast_add,Int.natCast_one]at am;exact⟨rfl,U,bz U aD,ab,s,w4,w5,al,h,am,by rw[<-hc]; exact ar,aJ.trans aw⟩
      have HQ:cE (q+1<=min (e+1) 3+1):=by show _<=_; omega
      have HB1:cE ((O:Int)+1=((e+1-min (e+1) 3+(q+1):Nat):Int)):=by show _=_; omega
      obtain⟨ad,aL⟩:∃ad,(if cv=O then av else Option.map (λx=>x.add O) av)=ad:=⟨_,rfl⟩;rw[aL]at aa;clear ai hS ao aF mL Y ap aq hc;go_wp2_with fail
      go_region_law (first
       |(go_simp
         go_at_call 93
         refine aa.mono ?_
         rintro e' w3 ⟨rfl,U,aQ,ab,s,w4,w5,al,h,am,ar,aw⟩))
      all_goals
       clear aa;go_wp2_with fail;go_roundw
       case rel=>exact⟨q+1,HQ.out,by rw[<-HB1.out],by rw[HER.out,<-List.append_assoc,<-HPD.out]; exact OY aH HP.out.fB U ws ar aw⟩
       case measure=>simp[cD]; omega
     .have HE:cE (lZ t e++(ll t (e+1)).take q=lZ t (e+1)):=by
       show _=_;rw[bo (by rw[qx]; omega)];rfl
      clear ai;go_wp2_with fail;go_roundw
      case rel=>exact⟨e+1,by omega,by go_num,by rw[<-HE.out]; exact Y⟩
      case measure=>simp[cD]; omega
   .have ee:e=t.length:=by omega
    subst ee;go_wp2;go_ret;exact Or.inr ⟨HK.out,rfl,⟨_,_,_,Oo HP.out hS aC ht HK.out⟩,hS.frame⟩
end
section
open Go.RowKit Go.Sort
theorem zx(x y:Nat)(w:World):bx prog 196 #[.int .u64 (x:Int),.int .u64 (y:Int)] w λe w'=>e=.returned (.int .i64 (zz x y))/\w=w':=by
 unfold zz;by_cases h:x<y
 .rw[if_pos h];have O:(x:Int)<(y:Int):=by omega
  clear h;go_enter bZ,bS;go_wp2;go_ret;exact⟨rfl,rfl⟩
 .rw[if_neg h];by_cases D:y<x
  .rw[if_pos D];have U:(y:Int)<(x:Int):=by omega
   have O:¬(x:Int)<(y:Int):=by omega
   clear h D;go_enter bZ,bS;go_wp2;go_ret;exact⟨rfl,rfl⟩
  .rw[if_neg D];obtain rfl:x=y:=by omega
   clear h D;go_enter bZ,bS;go_wp2;go_ret;exact⟨rfl,rfl⟩
theorem CW(x y:Int)(g:Nat)(w:World)(W:w.cell? ⟨g,0,none⟩=some (.int .i64 x))(Y:w.cell? ⟨g,1,none⟩=some (.int .i64 y)):bx prog 126 #[.slice (some ⟨g,0,none⟩) 2 2] w λe w'=>e=.returned (.int .i64 (if x≠0 then x else y))/\w=w':=by
 by_cases h:x=0
 .subst h;rw[if_neg (by simp)];by_cases D:y=0
  .subst D;go_enter cb,bT;go_wp2;refine b0 3 ?_;rw[bv];go_wp2;rw[bv];go_wp2;rw[bv];go_wp2;go_ret;exact⟨rfl,rfl⟩
  .have O:(y==0)=false:=by simpa using D
   go_enter cb,bT;go_wp2;refine b0 2 ?_;rw[bv];go_wp2;rw[bv];go_wp2;go_ret;exact⟨rfl,rfl⟩
 .rw[if_pos h];have U:(x==0)=false:=by simpa using h
  go_enter cb,bT;go_wp2;refine b0 1 ?_;rw[bv];go_wp2;go_ret;exact⟨rfl,rfl⟩
theorem BZ{w:World}{x y:Value}{t:bu}{g:Nat}(h:g=w.heap.size):(w.alloc (.cells #[x,y] t)).cell? ⟨g,0,none⟩=some x/\(w.alloc (.cells #[x,y] t)).cell? ⟨g,1,none⟩=some y:=by
 subst h;constructor
 .rw[c' _ _ _ _ rfl]; rfl
 .rw[c' _ _ _ _ rfl]; rfl
theorem OV(p q r t:Nat)(w:World)(U:p<=419430400)(hq:q<=16777217)(hr:r<=419430400)(ht:t<=16777217) :
  bx prog 138 #[.agg #[.int .u64 (p:Int),.int .u64 (q:Int)],.agg #[.int .u64 (r:Int),.int .u64 (t:Int)]] w λe w'=>e=.returned (.int .i64 (zz (p*t) (r*q)))/\∃k os,w'=grow (w.drewN k) os:=by
 have b1:p*t<=419430400*16777217:=cn U ht;have b2:r*q<=419430400*16777217:=cn hr hq
 have D:∀W:World,bx prog 195 #[.int .u64 (p:Int),.int .u64 (t:Int)] W λe w'=>e=.returned (.tuple #[.int .u64 0,.int .u64 ((p*t:Nat):Int)])/\W=w':=λW=>by
  refine(Any.bits_Mul64 Jw p t (by omega) (by omega) W).mono ?_;rintro e w' ⟨rfl,rfl⟩;rw[cm (by omega),cl (by omega)];exact⟨rfl,rfl⟩
 have O:∀W:World,bx prog 195 #[.int .u64 (r:Int),.int .u64 (q:Int)] W λe w'=>e=.returned (.tuple #[.int .u64 0,.int .u64 ((r*q:Nat):Int)])/\W=w':=λW=>by
  refine(Any.bits_Mul64 Jw r q (by omega) (by omega) W).mono ?_;rintro e w' ⟨rfl,rfl⟩;rw[cm (by omega),cl (by omega)];exact⟨rfl,rfl⟩
 generalize p*t=X at *;generalize r*q=Y at *;have c1:=λW=>zx 0 0 W;have c2:=λW=>zx X Y W;have e0:zz 0 0=0:=rfl;rw[e0]at c1;go_enter func138,ntmps138;go_wp2_with fail;refine(D _).mono ?_;rintro e w' ⟨rfl,rfl⟩;go_wp2_with fail;refine(O _).mono ?_;rintro e w' ⟨rfl,rfl⟩;go_wp2_with fail;refine(c1 _).mono ?_;rintro e w' ⟨rfl,rfl⟩;go_wp2_with fail;refine(c2 _).mono ?_;rintro e w' ⟨rfl,rfl⟩;obtain⟨z,h⟩:∃z,z=zz X Y:=⟨_,rfl⟩;rw[<-h];have HZ:cE _:=h;clear h c1 c2 D O;go_wp2_with fail;refine(CW 0 z _ _ (BZ (by simp)).1 (BZ (by simp)).2).mono ?_;rintro e w' ⟨rfl,rfl⟩;go_wp2;go_ret;exact⟨iJ (by rw[<-HZ.out]),0,_,by rw[alloc_eq_grow,alloc_eq_grow,alloc_eq_grow,grow_grow,grow_grow]; rfl⟩
theorem BW(w:World)(os:Array Obj)(a:Addr)(h:a.block<w.heap.size):(grow w os).cell? a=w.cell? a:=by
 have:(grow w os).heap[a.block]?=w.heap[a.block]?:=by
  unfold grow;simp[Array.getElem?_append,h]
 simp[World.cell?,this]
def mN(sc:Wd->Fr)(x:Wd):List Value:=[.string ⟨x.toArray⟩,.int .u64 ((sc x).1:Int),.int .u64 ((sc x).2:Int)]
theorem drew_drewN(w:World)(k:Nat):w.drew.drewN k=w.drewN (1+k):=by
 unfold World.drewN World.drew;rw[Nat.add_assoc]
end
section
open Go.RowKit Go.Maps
theorem Nj(l:List UInt8):∀x∈jK l,x≠[]/\x.length<=l.length:=by
 intro x hx;unfold jK mg at hx;obtain⟨i,hi,rfl⟩:=bl.1 hx;obtain⟨D,h2⟩:=List.mem_filter.1 hi;have h:=List.mem_range.1 D;unfold jV at h2;simp only[cz]at h2;unfold wN;refine⟨?_,?_⟩
 .rw[List.drop_eq_getElem_cons h,List.takeWhile_cons]
  have:jf l[i]=true:=by
   have:=h2.1;rw[bb,bn h]at this;exact this
  rw[this];simp
 .have:=(List.takeWhile_sublist (p:=jf) (l:=l.drop i)).length_le;simp at this;omega
theorem xH(s:ByteArray)(h:iX s.data.toList=true):(∀x∈jK (iD s.data.toList),x≠[]/\x.length<=24)/\(jK (iD s.data.toList)).length<=24:=by
 have D:s.data.toList.length<=24:=by simp only[iX,cz,decide_eq_true_eq]at h; exact h.1
 constructor
 .intro x O;have:=Nj _ x O;rw[j9]at this;exact⟨this.1,by omega⟩
 .have:=Hq (iD s.data.toList) (iD s.data.toList).length;rw[j9]at this;unfold jK;rw[j9];omega
def PE(w:World)(F:Nat->Prop)(b:Nat)(h:List (List Wd)):Prop:=(∀k,F k->k<w.heap.size)/\∃vB vS B n vK kn,PW w F b vB vS h B n vK kn
theorem PW.stay{w w':World}{F:Nat->Prop}{b:Nat}{vB vS:Value}{D:List (List Wd)}{B n:Nat}{vK:Value}{kn:List Wd}(h:PW w F b vB vS D B n vK kn)(hb:∀k,F k->w'.heap[k]?=w.heap[k]?):PW w' F b vB vS D B n vK kn where
 blk:=by rw[hb b h.fb]; exact h.blk
 fb:=h.fb;fB:=h.fB;cnt:=h.cnt.stay (hb B h.fB);room:=h.room;row:=iB h.row (λk O=>hb k (h.mo k O));mo:=h.mo;perm:=h.perm;ok:=h.ok;yE:=h.yE
theorem MV(w:World):bx prog 64 #[] w λe w'=>∃B:Nat,e=.returned (.agg #[.map (some B),.slice none 0 0])/\w.heap.size<=B/\iU w' B 0 (λ_=>0)/\Below w.heap.size w w':=by
 have D:=@run_makeMap prog;go_enter func64,ntmps64;go_wp2;refine b8 (v:=.agg #[.map (some (w.heap.size+1)),.slice none 0 0]) (by simp[results,results64,go_sem]) rfl ⟨_,rfl,by omega,?_,((Below.refl _ _).alloc (ci _) _).alloc (by simp) _⟩;have h:=iU.made (w.alloc (.cells #[.map (some (w.heap.size+1)),.slice none 0 0] 88));have e:(w.alloc (.cells #[.map (some (w.heap.size+1)),.slice none 0 0] 88)).heap.size=w.heap.size+1:=by simp
 rw[e]at h;exact h
end
section
open Go.RowKit Go.Maps
variable {kl:Lit} {r:Nat} {e t:bu} {key:Value} {w':World}
structure FT(P:Program)(k:bu)(D:DataW Value)(l:List (Value×Value)):Prop where
 nodup:(l.map Prod.fst).Nodup
 ok:∀p∈l,∃kl,bw P k p.1=some kl
 size:cI D=l.length
 has:∀key kl,bw P k key=some kl->(cF D kl=true↔∃p∈l,p.1=key)
 at_:∀p∈l,∀kl,bw P k p.1=some kl->∀z,D.atKey kl z=.held p.2
def mc(P:Program)(k:bu)(w:World)(B:Nat)(l:List (Value×Value)):Prop:=∃D:DataW Value,w.ownsMap P k mR B l.length D/\FT P k D l
def jL(P:Program)(k:bu)(w:World)(B r:Nat)(l rest:List (Value×Value)):Prop:=
 (rest.map Prod.fst).Nodup/\(∀p∈rest,p∈l)/\∃D left cnt,w.ranges P k mR B r l.length D left cnt/\FT P k D l/\∀key kl,bw P k key=some kl->(left kl=true↔∃p∈rest,p.1=key)
section
variable {P:Program} {k:bu} {w:World} {B:Nat} {l:List (Value×Value)}
theorem FT.perm{D:DataW Value}{m:List (Value×Value)}(h:FT P k D l)(O:l.Perm m):FT P k D m where
 nodup:=(O.map Prod.fst).nodup_iff.1 h.nodup
 ok:=λp hm=>h.ok p (O.mem_iff.2 hm);size:=by rw[h.size,O.length_eq]
 has:=λkey kl U=>(h.has key kl U).trans ⟨λ⟨p,a,b⟩=>⟨p,O.mem_iff.1 a,b⟩,λ⟨p,a,b⟩=>⟨p,O.mem_iff.2 a,b⟩⟩;at_:=λp hm=>h.at_ p (O.mem_iff.2 hm)
theorem mc.perm{m:List (Value×Value)}(h:mc P k w B l)(O:l.Perm m):mc P k w B m:=by
 obtain⟨D,U,W⟩:=h;exact⟨D,by rw[<-O.length_eq]; exact U,W.perm O⟩
theorem mc.lt(h:mc P k w B l):B<w.heap.size:=by
 obtain⟨D,O,_⟩:=h;exact O.lt
theorem mc.stay(h:mc P k w B l)(hb:w'.heap[B]?=w.heap[B]?):mc P k w' B l:=by
 obtain⟨D,⟨es,clock,O,U⟩,W⟩:=h;exact⟨D,⟨es,clock,hb.trans O,U⟩,W⟩
theorem mc.below(h:mc P k w B l)(hb:Below w.heap.size w w'):mc P k w' B l:=h.stay (hb.block B h.lt)
theorem mc.made(w:World):mc P k (w.alloc (.map #[] 0)) w.heap.size []:=
 ⟨.map [],cA _ _ _ _,⟨List.Pairwise.nil,λ_ h=>by simp at h,rfl,λ_ _ _=>⟨λh=>(by simp[cF]at h),λ⟨_,h,_⟩=>by simp at h⟩,λ_ h=>by simp at h⟩⟩
theorem mc.put(h:mc P k w B l)(K:Keyed P k)(ht:P.underlying t=some (.map k e))(hn:l.length<bt)(kh:bw P k key=some kl)(O:∀p∈l,p.1≠key)(v:Value) :
  ∃w',(bD t (.map (some B)) key v).run P w=.ok () w'/\mc P k w' B (l++[(key,v)])/\w.grownBy w' (some B)/\w'.heap.size=w.heap.size:=by
 obtain⟨D,h1,Y⟩:=h;obtain⟨w',hr,ho,aa⟩:=h1.store K ht hn kh (d:=.held v) (ps:=[]) (val:=v) rfl;have hT:=h1.tidy K
 have ad:cF D kl=false:=by
  cases hh:cF D kl with
  |false=>rfl
  |true=>
   obtain⟨p,U,e⟩:=(Y.has key kl kh).1 hh;exact absurd e (O p U)
 have ab:cI (D.put kl (.held v))=(l++[(key,v)]).length:=by
  rw[size_put hT,ad,Y.size];simp
 refine⟨w',hr,⟨_,by rw[<-ab]; exact zL ho,⟨?_,?_,ab,?_,?_⟩⟩,aa.grown,?_⟩
 .rw[List.map_append,br,List.map_nil,List.nodup_append];refine⟨Y.nodup,by simp,?_⟩;intro a ha b hb;simp only[bg]at hb;subst hb;obtain⟨p,U,rfl⟩:=bl.1 ha;exact O p U
 .intro p U;rcases bh.1 U with h|h
  .exact Y.ok p h
  .simp only[bg]at h; subst h; exact⟨kl,kh⟩
 .intro y ly hy;by_cases e:ly=kl
  .subst e;rw[has_put_same h1.isMap (K.key kh)];exact⟨λ_=>⟨(key,v),by simp,K.inj kh hy⟩,λ_=>rfl⟩
  .rw[has_put_other e,Y.has y ly hy];constructor
   .rintro⟨p,U,e⟩; exact⟨p,List.mem_append_left _ U,e⟩
   .rintro⟨p,U,e2⟩;rcases bh.1 U with h|h
    .exact⟨p,h,e2⟩
    .simp only[bg]at h;subst h;rw[<-e2,kh]at hy;exact absurd (by simpa using hy.symm) e
 .intro p U lp W z;rcases bh.1 U with h|h
  .have ae:lp≠kl:=λe=>by subst e; exact O p h (K.inj W kh)
   rw[cG ae];exact Y.at_ p h lp W z
  .simp only[bg]at h;subst h;rw[kh]at W;simp only[cq]at W;subst W;rw[cH h1.isMap (K.key kh)]
 .obtain⟨es,clock,af,ac,_,rfl⟩:=aa;simp[ChangeMaps.setBlock]
theorem jL.owns{rest:List (Value×Value)}(h:jL P k w B r l rest):mc P k w B l:=by
 obtain⟨_,_,D,left,cnt,O,U,_⟩:=h;exact⟨D,O.owns,U⟩
theorem jL.lt{rest:List (Value×Value)}(h:jL P k w B r l rest):r<w.heap.size:=by
 obtain⟨_,_,D,left,cnt,O,U,_⟩:=h;exact O.lt
theorem jL.stay{rest:List (Value×Value)}(h:jL P k w B r l rest)(U:w'.heap[B]?=w.heap[B]?)(W:w'.heap[r]?=w.heap[r]?):jL P k w' B r l rest:=by
 obtain⟨a,b,D,left,cnt,⟨es,clock,O,seen,c0,Y,g2,g3,g4,g5,g6⟩,h2,h3⟩:=h;exact⟨a,b,D,left,cnt,⟨es,clock,O,seen,c0,U.trans Y,g2,g3,g4,W.trans g5,g6⟩,h2,h3⟩
theorem mc.range(h:mc P k w B l)(K:Keyed P k)(U:P.underlying t=some (.map k e)) :
  ∃w',(Instr.range t (.map (some B))).run P w=.ok (.pointer (some ⟨w.heap.size,0,none⟩)) w'/\jL P k w' B w.heap.size l l/\w.grownBy w' none/\w'.heap.size=w.heap.size+1:=by
 obtain⟨D,W,O⟩:=h;obtain⟨w',Y,r1,r2,r3⟩:=W.range K U;exact⟨w',Y,⟨O.nodup,λ_ h=>h,D,_,_,r1,O,O.has⟩,r2,r3⟩
theorem jL.next{rest:List (Value×Value)}(h:jL P k w B r l rest)(K:Keyed P k)(ty:bu) :
  (rest=[]/\(bI (.pointer (some ⟨r,0,none⟩)) false ty).run P w=.ok (.tuple #[.bool false]) w)\/
  ∃p O w',rest.Perm (p::O)/\(bI (.pointer (some ⟨r,0,none⟩)) false ty).run P w=.ok (.tuple #[.bool true,p.1,p.2]) w'/\jL P k w' B r l O/\w'.rangeLeft B r<w.rangeLeft B r/\
   w.grownBy w' (some r)/\w'.heap.size=w.heap.size/\(bH (.pointer (some ⟨r,0,none⟩))).run P w'=.ok (.tuple #[p.1,p.2]) w':=by
 obtain⟨hn,U,D,left,cnt,h1,h2,h3⟩:=h;rcases h1.next K ty with⟨_,hl,hr⟩|⟨key,v,kl,y,w',ac,kh,ag,hv,ah,hr,ad,ai,hg,hs,aj⟩
 .left;refine⟨?_,hr⟩
  cases rest with
  |nil=>rfl
  |cons p rest=>
   obtain⟨kl,ak⟩:=h2.ok p (U p (by simp));have:=(h3 p.1 kl ak).2 ⟨p,by simp,rfl⟩;rw[hl kl]at this;cases this
 .right;obtain⟨p,hp,al⟩:=(h3 key kl kh).1 ag;subst al
  have am:v=p.2:=by
   have e1:=h2.at_ p (U p hp) kl kh (.held v);rw[ah]at e1;simp only[mR,cq]at hv;rw[<-hv]at e1;simpa using e1
  subst am;obtain⟨x,z,rfl⟩:=List.append_of_mem hp;have W:(x++p::z).Perm (p::(x++z)):=List.perm_middle;have ab:=(W.map Prod.fst).nodup_iff.1 hn;rw[br,List.nodup_cons]at ab;refine⟨p,x++z,w',W,hr,⟨ab.2,λq hq=>U q (W.mem_iff.2 (bq _ hq)),D,_,ac,ad,h2,λae Y aa=>?_⟩,?_,hg,hs,aj⟩
  .show(left Y && !Y.sameKey kl)=true↔_;rw[cz,h3 ae Y aa];constructor
   .rintro⟨⟨q,hq,e⟩,af⟩;rcases List.mem_cons.1 (W.mem_iff.1 hq)with rfl|hq
    .rw[e,aa]at kh;simp only[cq]at kh;subst kh;rw[WideAt.sameKey_self (K.key aa)]at af;cases af
    .exact⟨q,hq,e⟩
   .rintro⟨q,hq,e⟩;refine⟨⟨q,W.mem_iff.2 (bq _ hq),e⟩,?_⟩
    have:Y≠kl:=λe2=>by
     subst e2;have:=K.inj aa kh;exact ab.1 (bl.2 ⟨q,hq,e.trans this⟩)
    rw[sameKey_ne this];rfl
  .rw[ad.left_eq,h1.left_eq];exact ai
end
section
variable {P:Program} {k:bu} {B:Nat} {l:List (Value×Value)} (w:World) {ops:Array Oper} {rest:List Oper} {o:Oper} {a:Act} {Q:Exit->Act->World->Prop}
theorem B5(W:o.guard=none)(m:Operand)(t:bu)(O:o.op=Op.range t m)(e:bu)(K:Keyed P k)(Y:P.underlying t=some (.map k e))
  (hm:a.eval m=.map (some B)) (h:mc P k w B l)
  (hK:∀w',jL P k w' B w.heap.size l l->w.grownBy w' none->w'.heap.size=w.heap.size+1->b3 P ops Q rest (a.put o.dst (.pointer (some ⟨w.heap.size,0,none⟩))) w') :
  b3 P ops Q (o::rest) a w:=by
 refine b4 W λK' U=>?_;obtain⟨w',D,r1,r2,r3⟩:=h.range K Y;unfold Oper.wp;simp[b6,O,hm,D,cp];exact U _ _ (hK w' r1 r2 r3)
theorem Eb(hg:o.guard=none)(it:Operand)(W:o.op=Op.next it false)(K:Keyed P k)(r:Nat)(left:List (Value×Value))
  (Y:a.eval it=.pointer (some ⟨r,0,none⟩)) (h:jL P k w B r l left)
  (U:left=[]->b3 P ops Q rest (a.put o.dst (.tuple #[.bool false])) w)
  (hMore:∀p D w',left.Perm (p::D)->jL P k w' B r l D->w'.rangeLeft B r<w.rangeLeft B r->w.grownBy w' (some r)->w'.heap.size=w.heap.size->(bH (.pointer (some ⟨r,0,none⟩))).run P w'=.ok (.tuple #[p.1,p.2]) w'->
    b3 P ops Q rest (a.put o.dst (.tuple #[.bool true,p.1,p.2])) w') :
  b3 P ops Q (o::rest) a w:=by
 refine b4 hg λK' aa=>?_;unfold Oper.wp;rcases h.next K o.type with⟨h0,O⟩|⟨p,D,w',hp,O,ab,ac,ad,ae,af⟩
 .simp[b6,W,Y,O,cp];exact aa _ _ (U h0)
 .simp[b6,W,Y,O,cp];exact aa _ _ (hMore p D w' hp ab ac ad ae af)
theorem E7(Y:o.guard=none)(m x v:Operand)(t:bu)(U:o.op=Op.mapUpdate t m x v)(e:bu)(K:Keyed P k)(ht:P.underlying t=some (.map k e))
  (hm:a.eval m=.map (some B)) (h:mc P k w B l) (hn:l.length<bt) (kh:bw P k key=some kl) (D:∀p∈l,p.1≠key) (hx:a.eval x=key) (u:Value) (hv:a.eval v=u)
  (hK:∀w',mc P k w' B (l++[(key,u)])->w.grownBy w' (some B)->w'.heap.size=w.heap.size->b3 P ops Q rest (a.put o.dst undef) w') :
  b3 P ops Q (o::rest) a w:=by
 refine b4 Y λK' W=>?_;obtain⟨w',O,r1,r2,r3⟩:=h.put K ht hn kh D u;unfold Oper.wp;simp[b6,U,hm,hx,hv,O,cp];exact W _ _ (hK w' r1 r2 r3)
end
def Pj(a b:Nat):Value:=.agg #[.int .i64 (a:Int),.int .i64 (b:Int)]
theorem Se:(match prog.underlying 170 with|some (.array _ _)|some (.struct _)=>true|_=>false)=true:=by rw[bK]
theorem SP:170<prog.types.size:=of_decide_eq_true (by kernel_rfl)
theorem Ej:Keyed prog 170:=Keyed.of_law (b7 Tryz.vT (m:=2) (by omega) SP (by kernel_rfl) Se)
theorem JM:prog.cellsOf 170=2:=by kernel_rfl
theorem Ou:prog.cellsOf 3=1:=by kernel_rfl
theorem Mb:prog.keyType 170=true:=by kernel_rfl
theorem GB(d:Nat)(n:Nat)(h:n<4611686018427387904):prog.keyLits (d+1) 3 [.int .i64 (n:Int)]=some [.int .i64 (n:Int)]:=by
 unfold cC;simp[bP,Lit.wf,c6,c7,c5,c4];omega
theorem RZ(a b:Nat)(h:a<4611686018427387904)(hb:b<4611686018427387904):∃l,bw prog 170 (Pj a b)=some l:=by
 obtain⟨d,D⟩:=JD;unfold bw Pj;rw[bK];simp only;rw[Mb,D];have O:(Value.agg #[.int .i64 (a:Int),.int .i64 (b:Int)]).formed prog 170=true:=by simp[cL,bK,JM]
 rw[O];unfold cC;simp[bK,JM,Ou,cM,GB d a h,GB d b hb]
end
end Go.Proofs.YtocbogeoffeolaaGreatDoor
