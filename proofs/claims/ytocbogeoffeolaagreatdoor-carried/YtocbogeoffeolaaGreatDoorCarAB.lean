import Derived.Test.YtocbogeoffeolaaGreatDoorCarAA
import Derived.Shelf.Strings.FieldsFuncAny
import Derived.Shelf.Bits.Mul64
import Derived.Shelf.Small.Strs
import Derived.Shelf.SlSortCmp.WholeK
import Derived.Shelf.SlSortCmp.NoneTotal
import Derived.Shelf.SlGeneric
import Derived.Maps.OwnOps
import Derived.DeepKeys4
import Derived.Laws.IdiomCopy
import Derived.Laws.MakeOwn
set_option linter.all false
set_option maxHeartbeats 8000000
set_option maxRecDepth 1000000
open Go renaming cell_later->bm,maxLen->bn,Calls->bo,run_underlying->bp,TypeId->bq,bodyPost_ret->br,rounds_succ->bs,keyOf->bt,results->bu,wp_loop_rounds->bv,wpList->bw,info_parts->bx,wpList_plain->bz,goInt->b3,execOp->b4,deep_law_laid->b5
open List renaming take_succ_eq_append_getElem->b6,getD_eq_getElem?_getD->b7,getElem?_eq_some_iff->b8,getElem?_eq_getElem->b9,mem_singleton->bA,getElem_mem->bB,mem_append->bC,take_of_length_le->bD,length_append->bE,mem_map->bF,pairwise_iff_getElem->bG,getElem?_eq_none->bH,mem_of_mem_drop->bI,mem_cons_of_mem->bJ,map_cons->bL
open Nat renaming le_refl->bM,zero_le->bN,lt_trichotomy->bO,mod_eq_of_lt->bP,div_eq_of_lt->bQ,mul_le_mul->bR,zero_add->bS
open Go.MapKept renaming run_getObj_map->bT,run_setObj_map->bU,stamped_iff->bV
open Go.Instr renaming mapUpdate->bW,lookup->bX,mapEntry->bY,entryStore->bZ,entry->ca,next->cb
open Go.Proofs.Tryz renaming underlying31->cc,underlying141->cd,underlying86->ce,underlying9->cf,underlying3->cg,underlying170->ch,underlying145->ci,underlying143->cj,results95->ck,zeroValue9->cm,zeroValue3->cn,underlying184->cp,zeroValue184->ct,zeroValue141->cw,sizeOf9->cx,sizeOf3->cy,ntmps35->cz,underlying4->c4,underlying0->c5,zeroValue4->c6,zeroValue0->c7,isAgg9->c8,isAgg3->c9,func35->cA
open Array renaming getElem?_modify->cB,getElem?_eq_some_iff->cC,getElem?_setIfInBounds->cD,getElem?_eq_none->cE,ext_getElem?->cF
open Go.Result renaming andThen->cG
open Go.RowKit.Below renaming refl->cH,heap_alloc->cI,heap_setCell->cJ
open Go.World renaming cell?_alloc_at->cL,ownsRow_nil->cM,ownsMap_made->cN
open Option.some renaming injEq->cO
open Go.Sort renaming alloc_eq_grow->cP,grow_grow->cQ,mapBlock->cR,putRowK->cS,putRow->cT
open Go.IntKind renaming wrap_u64->cU,signed->cV,bits->cW,min->cX,max->cY,wrap_u8->cZ
open Bool renaming and_eq_true->da
open Go.Program renaming keyLits->db
open Go.RowKit renaming Hid->dc
open Go.Maps renaming has->dd,atKey_put_other->de,atKey_put_same->df,size->dg
open Option renaming map->di
open Go.Value renaming ownBlock->dj,formed->dk,cells->dm
open UInt8 renaming ofNat->dq
namespace Go.Proofs.YtocbogeoffeolaaGreatDoor
open Go.Proofs.Tryz
section
open Go.Shelf
def xj:Go.Shelf.Ren:=⟨fun|229=>135|n=>n,fun|9=>9|40=>194|31=>31|152=>244|3=>3|0=>0|4=>4|21=>21|154=>246|n=>n,fun|n=>n⟩
def RF:Go.Proofs.Lays.n229 prog xj:={
 mixed:=by kernel_rfl
 f229:=func135.trans (congrArg some (by kernel_rfl)),t0:=c5,a0:=isAgg0,z0:=sizeOf0,v0:=c7,t3:=cg,a3:=c9,z3:=cy,v3:=cn,t4:=c4,a4:=isAgg4,z4:=sizeOf4,v4:=c6,t9:=cf,a9:=c8,z9:=cx,v9:=cm,t21:=underlying21,a21:=isAgg21,z21:=sizeOf21,v21:=zeroValue21,t31:=cc,a31:=isAgg31,z31:=sizeOf31,v31:=zeroValue31,t40:=underlying194,a40:=isAgg194,z40:=sizeOf194,v40:=zeroValue194,t152:=underlying244,a152:=isAgg244,z152:=sizeOf244,v152:=zeroValue244,t154:=underlying246,a154:=isAgg246,z154:=sizeOf246
 v154:=zeroValue246}
def Fu:Go.Shelf.Ren:=⟨fun|264=>195|n=>n,fun|53=>141|46=>184|n=>n,fun|n=>n⟩
def KP:Go.Proofs.Lays.n264 prog Fu:={
 mixed:=by kernel_rfl
 f264:=func195.trans (congrArg some (by kernel_rfl)),t46:=cp,a46:=isAgg184,z46:=sizeOf184,v46:=ct,t53:=cd,a53:=isAgg141,z53:=sizeOf141
 v53:=cw}
def Fi:Go.Shelf.Ren:=⟨fun|106=>139|213=>197|265=>232|n=>n,fun|9=>9|3=>3|n=>n,fun|n=>n⟩
def Rk:Go.Proofs.Lays.n106 prog Fi:={
 mixed:=by kernel_rfl
 f106:=func139.trans (congrArg some (by kernel_rfl)),f213:=func197.trans (congrArg some (by kernel_rfl)),f265:=func232.trans (congrArg some (by kernel_rfl)),t3:=cg,a3:=c9,z3:=cy,v3:=cn,t9:=cf,a9:=c8,z9:=cx
 v9:=cm}
def DT:Go.Shelf.Ren:=⟨fun|6=>96|15=>125|14=>137|28=>172|29=>173|20=>187|21=>188|22=>189|23=>190|24=>191|25=>192|26=>193|27=>194|46=>228|47=>219|48=>220|49=>229|50=>230|57=>265|n=>n,fun|22=>145|24=>150|25=>152|3=>3|39=>184|0=>0|53=>229|55=>141|4=>4|46=>222|45=>221|50=>226|5=>5|9=>9|66=>272|70=>276|76=>292|77=>212|n=>n,fun|n=>n⟩
def EU:Go.Proofs.SlLaysF0.n6 prog DT:={
 mixed:=by kernel_rfl
 f6:=⟨f96.name,by decide,func96.trans (congrArg some (by kernel_rfl))⟩,f14:=⟨f137.name,by decide,func137.trans (congrArg some (by kernel_rfl))⟩,f15:=func125.trans (congrArg some (by kernel_rfl)),f20:=⟨f187.name,by decide,func187.trans (congrArg some (by kernel_rfl))⟩,f21:=⟨f188.name,by decide,func188.trans (congrArg some (by kernel_rfl))⟩,f22:=⟨f189.name,by decide,func189.trans (congrArg some (by kernel_rfl))⟩,f23:=⟨Tryz.f190.name,by decide,func190.trans (congrArg some (by kernel_rfl))⟩,f24:=⟨f191.name,by decide,func191.trans (congrArg some (by kernel_rfl))⟩,f25:=⟨f192.name,by decide,func192.trans (congrArg some (by kernel_rfl))⟩,f26:=⟨f193.name,by decide,func193.trans (congrArg some (by kernel_rfl))⟩,f27:=⟨f194.name,by decide,func194.trans (congrArg some (by kernel_rfl))⟩,f28:=func172.trans (congrArg some (by kernel_rfl)),f29:=func173.trans (congrArg some (by kernel_rfl)),f46:=⟨f228.name,by decide,func228.trans (congrArg some (by kernel_rfl))⟩,f47:=func219.trans (congrArg some (by kernel_rfl)),f48:=func220.trans (congrArg some (by kernel_rfl)),f49:=⟨Tryz.f229.name,by decide,func229.trans (congrArg some (by kernel_rfl))⟩,f50:=⟨f230.name,by decide,func230.trans (congrArg some (by kernel_rfl))⟩,f57:=⟨Tryz.f265.name,by decide,func265.trans (congrArg some (by kernel_rfl))⟩,t0:=c5,a0:=isAgg0,z0:=sizeOf0,v0:=c7,t3:=cg,a3:=c9,z3:=cy,v3:=cn,t4:=c4,a4:=isAgg4,z4:=sizeOf4,v4:=c6,t5:=underlying5,a5:=isAgg5,z5:=sizeOf5,v5:=zeroValue5,t9:=cf,a9:=c8,z9:=cx,v9:=cm,t22:=ci,a22:=isAgg145,z22:=sizeOf145,v22:=zeroValue145,t25:=underlying152,a25:=isAgg152,z25:=sizeOf152,v25:=zeroValue152,t39:=cp,a39:=isAgg184,z39:=sizeOf184,v39:=ct,t45:=underlying221,a45:=isAgg221,z45:=sizeOf221,v45:=zeroValue221,t46:=underlying222,a46:=isAgg222,z46:=sizeOf222,v46:=zeroValue222,t50:=underlying226,a50:=isAgg226,z50:=sizeOf226,v50:=zeroValue226,t53:=underlying229,a53:=isAgg229,z53:=sizeOf229,v53:=zeroValue229,t55:=cd,a55:=isAgg141,z55:=sizeOf141,v55:=cw,t66:=underlying272,a66:=isAgg272,z66:=sizeOf272,v66:=zeroValue272,t70:=underlying276,a70:=isAgg276,z70:=sizeOf276,v70:=zeroValue276,t76:=underlying292,a76:=isAgg292,z76:=sizeOf292,v76:=zeroValue292,t77:=underlying212,a77:=isAgg212,z77:=sizeOf212
 v77:=zeroValue212}
end
section
open Go.RowKit
def Jb(x:Nat)(h:x<128):((dq x).toNat:Int)=(x:Int):=by
 rw[UInt8.toNat_ofNat'];omega
def MT(x:Nat)(U:x<=1114111)(W:World):FnGives prog 136 #[] #[encR x] (.bool (oR x)) W:=by
 show bo prog 136 #[.int .i32 (x:Int)] W _;by_cases h:x<128
 .have Y:(decide (128<=(x:Int)))=false:=by simp;omega
  have O:oR x = !fu (dq x):=by unfold oR;rw[decide_eq_false (by omega)];rfl
  have hc:IntKind.u8.wrap (x:Int)=((dq x).toNat:Int):=by rw[Jb x h,cZ];omega
  rw[O];generalize dq x=c at *;go_enter func136,ntmps136;go_wp2_with fail;refine(na c _).mono ?_;rintro e w' ⟨rfl,rfl⟩;go_wp2;go_ret;exact⟨rfl,0,rfl⟩
 have O:oR x=true:=by unfold oR;rw[decide_eq_true (by omega)];rfl
 go_wp2;go_ret;exact⟨rfl,0,rfl⟩
def Th:(prog.info? (xj.t 154)).map (λi=>(i.zero,i.size,i.bytes))=some (some (.agg #[.int .i64 0,.int .i64 0]),2,16):=by kernel_rfl
def It(f:ByteArray)(w:World)(Y:∀k(h:k<f.size),(f[k]'h).toNat<128)(hs:f.size<=4294967296) :
  bo prog 94 #[.string f] w λe w'=>∃v,e=.returned v/\w'.ownsRow w.heap.size 9 1 v (iQ f.data.toList).length (dl (iQ f.data.toList))/\Below w.heap.size w w':=by
 have O:=Any.strings_FieldsFunc_runes RF _ _ (enters_of func136 (by kernel_rfl) rfl) oR f w hs (λW x hx _=>MT x hx W) Th uK;rw[E9 f Y,Hs,List.length_map]at O;go_enter func94,ntmps94;go_wp2_with (refine O.mono ?_;rintro e w' ⟨A,rfl,hA,U,hb⟩);go_ret;exact⟨_,rfl,U,hb⟩
def IY(s:ByteArray)(O:eA s.data.toList=true):∀k(h:k<(⟨(dX s.data.toList).toArray⟩:ByteArray).size),((⟨(dX s.data.toList).toArray⟩:ByteArray)[k]'h).toNat<128:=by
 intro k h;have hm:=D1 _ k h;generalize (⟨(dX _).toArray⟩:ByteArray)[k]'h=x at hm⊢;obtain⟨c,U,rfl⟩:=bF.1 hm;simp only[eA,da]at O;have W:=List.all_eq_true.1 O.2 c U;simp only[oP,decide_eq_true_eq]at W;unfold rT;split;rw[UInt8.toNat_add];have:(32:UInt8).toNat=32:=rfl;omega;omega
def xi(s:ByteArray)(w:World)(W:eA s.data.toList=true) :
  bo prog 67 #[.string s] w λe w'=>∃v,e=.returned v/\w'.ownsRow w.heap.size 9 1 v (iQ (dX s.data.toList)).length (dl (iQ (dX s.data.toList)))/\Below w.heap.size w w':=by
 have hs:=by
  have:=by simp only[eA,da,decide_eq_true_eq]at W;exact W.1
  simpa using this
 have Y:=IY s W
 have aa:(⟨(dX s.data.toList).toArray⟩:ByteArray).size<=4294967296:=by
  show(dX _).length<=_;rw[fH];have:s.data.toList.length=s.size:=by simp
  omega
 go_enter func67,ntmps67;go_wp2_with fail;refine(pW s w (by omega)).mono ?_;rintro e w1 ⟨rfl,O⟩;go_wp2_with fail;refine(It _ w1 Y aa).mono ?_;rintro e w2 ⟨v,rfl,U,ab⟩;go_wp2;go_ret;refine⟨_,rfl,jW U O.size,O.trans (ab.mono O.size)⟩
open Go.Maps
variable {ws ws':List Wd} {f:List Wd->Nat} {B n:Nat} {w w':World}
def mY(ws:List Wd):Value:=.agg #[.string ⟨(ws.getD 0 []).toArray⟩,.string ⟨(ws.getD 1 []).toArray⟩,.string ⟨(ws.getD 2 []).toArray⟩]
def mf(ws:List Wd):Prop:=ws.length<=3/\∀x∈ws,x≠[]/\x.length<=24
def Tryz.p9:laidOutB prog=true:=by kernel_rfl
def RZ:(match prog.underlying 143 with|some (.array _ _)|some (.struct _)=>true|_=>false)=true:=by rw[cj]
def PU:143<prog.types.size:=of_decide_eq_true (by kernel_rfl)
def qa:Keyed prog 143:=Keyed.of_law (b5 Tryz.p9 (m:=2) (by omega) PU (by kernel_rfl) RZ)
def Fx:prog.cellsOf 143=3:=by kernel_rfl
def P9:prog.cellsOf 9=1:=by kernel_rfl
def Kb:prog.keyType 143=true:=by kernel_rfl
def Lw(w:World):(zeroValue 141).run prog w=.ok (.int .u64 0) w:=by kernel_rfl
def Lz:∃d,prog.types.size=d+1:=⟨prog.types.size-1,by have:=PU;omega⟩
def AE(d:Nat)(s:ByteArray)(O:s.size<=bn):prog.keyLits (d+1) 9 [.string s]=some [.string s.data.toList]:=by
 unfold db;simp[cf,O]
def Qs(a b c:ByteArray)(O:a.size<=bn)(hb:b.size<=bn)(U:c.size<=bn):∃l,bt prog 143 (.agg #[.string a,.string b,.string c])=some l:=by
 obtain⟨d,W⟩:=Lz;unfold bt;rw[Kb,W];have Y:(Value.agg #[.string a,.string b,.string c]).formed prog 143=true:=by simp[dk,cj,Fx]
 rw[Y];unfold db;simp[cj,Fx,P9,dm,List.range,List.range.loop,AE d a O,AE d b hb,AE d c U]
def QF(h:mf ws)(j:Nat):(ws.getD j []).length<=24:=by
 by_cases O:j<ws.length;rw[b7,b9 O];exact(h.2 _ (bB O)).2;rw[b7,bH (by omega)];simp
def size_le(h:mf ws)(j:Nat):(⟨(ws.getD j []).toArray⟩:ByteArray).size<=bn:=by
 have:=QF h j;show(ws.getD j []).length<=bn;unfold bn;omega
def Dw(h:mf ws):∃l,bt prog 143 (mY ws)=some l:=Qs _ _ _ (size_le h 0) (size_le h 1) (size_le h 2)
def PF(h:mf ws)(h':mf ws')(e:mY ws=mY ws'):ws=ws':=by
 unfold mY at e;simp only[Value.agg.injEq,Array.mk.injEq,List.cons.injEq,Value.string.injEq,ByteArray.mk.injEq,and_true]at e;obtain⟨O,U,Y⟩:=e;obtain⟨h1,h2⟩:=h;obtain⟨aa,W⟩:=h';match ws,ws' with
 |[],[]=>rfl|[],y::_=>have:=(W y (by simp)).1;simp at O;exact absurd O this|x::_,[]=>have:=(h2 x (by simp)).1;exact absurd O this|[x],[y]=>simp at O;rw[O]|[_],_::y::_=>have:=(W y (by simp)).1;simp at U;exact absurd U this|_::x::_,[_]=>have:=(h2 x (by simp)).1;exact absurd U this|[x,x'],[y,y']=>simp at O U;rw[O,U]|[_,_],_::_::y::_=>have:=(W y (by simp)).1;simp at Y;exact absurd Y this|_::_::x::_,[_,_]=>have:=(h2 x (by simp)).1;exact absurd Y this|[x,x',x''],[y,y',y'']=>simp at O U Y;rw[O,U,Y]|_::_::_::_::_,_=>simp at h1|_,_::_::_::_::_=>simp at aa
def Tp{l W:Lit}(h:mf ws)(Y:mf ws')(hl:bt prog 143 (mY ws)=some l)(O:bt prog 143 (mY ws')=some W)(U:ws'≠ws):W≠l:=by
 intro e;rw[e]at O;exact U (PF Y h (qa.inj O hl))
def eJ(w:World)(B n:Nat)(f:List Wd->Nat):Prop:=
 ∃D:DataW Unit,w.ownsMap prog 143 (plainElem prog 141) B n D/\∀ws l,mf ws->bt prog 143 (mY ws)=some l->D.atKey l (.lit (.int .u64 0))=.lit (.int .u64 (f ws:Nat))
def eJ.made(w:World):eJ (w.alloc (.map #[] 0)) w.heap.size 0 (λ_=>0):=⟨.map [],cN ..,λ_ _ _ _=>rfl⟩
def eJ.stay(h:eJ w B n f)(hb:w'.heap[B]?=w.heap[B]?):eJ w' B n f:=by
 obtain⟨D,⟨es,clock,O,U⟩,W⟩:=h;exact⟨D,⟨es,clock,hb.trans O,U⟩,W⟩
def eJ.lt(h:eJ w B n f):B<w.heap.size:=by
 obtain⟨D,O,_⟩:=h;exact O.lt
def eJ.mono{m:Nat}{g:List Wd->Nat}(h:eJ w B n f)(U:n<=m)(W:∀ws,mf ws->f ws=g ws):eJ w B m g:=by
 obtain⟨D,Y,h2⟩:=h;exact⟨D,Y.mono U,λws l O hl=>by rw[h2 ws l O hl,W ws O]⟩
def eJ.below(h:eJ w B n f)(hb:Below w.heap.size w w'):eJ w' B n f:=h.stay (hb.block B h.lt)
def eJ.look(h:eJ w B n f)(W:mf ws):(bX 86 (.map (some B)) (mY ws) false).run prog w=.ok (.int .u64 (f ws:Nat)) w:=by
 obtain⟨D,h1,h2⟩:=h;obtain⟨l,Y⟩:=Dw W;obtain⟨c,U,O,_⟩:=h1.lookup_int qa ce cd (Lw w) Y;rw[h2 ws l W Y]at O;simp only[DataW.lit.injEq,Lit.int.injEq,true_and]at O;rw[U,<-O]
def eJ.put(h:eJ w B n f)(Y:mf ws)(hn:n<bn)(v:Nat)(hv:v<18446744073709551616) :
  ∃w',(bW 86 (.map (some B)) (mY ws) (.int .u64 (v:Nat))).run prog w=.ok () w'/\eJ w' B (n+1) (λx=>if x=ws then v else f x)/\w.grownBy w' (some B):=by
 obtain⟨D,h1,h2⟩:=h;have hw:(Lit.int .u64 v).wf=true:=by simp[Lit.wf,cX,cY,cW,cV];omega
 obtain⟨l,W⟩:=Dw Y;obtain⟨w',U,ho,hg⟩:=h1.update qa ce hn W (plainElem_int cd hw);refine⟨w',U,⟨_,ho,λx lx hx O=>?_⟩,hg⟩;show _=DataW.lit (Lit.int _ ((if x=ws then v else f x:Nat)));by_cases e:x=ws;subst e;rw[W]at O;simp only[cO]at O;subst O;rw[if_pos rfl,df h1.isMap (qa.key W)];rw[if_neg e,de (Tp Y hx W O e)];exact h2 x lx hx O
open Go.ChangeMaps Go.WideElems
variable {kl:Lit} {x y:MapEntry} {s:Nat} {key:Value}
def yb(w:World)(B:Nat)(s:Nat)(key:Value):Prop:=∃(es:Array MapEntry)(clock i:Nat)(e:MapEntry),w.heap[B]?=some (.map es clock)/\es[i]?=some e/\e.key=key/\e.born=s
section
variable {H:Type} {P:Program} {k:bq} {R:Value->Option (DataW H×List MemPlace)} {es:Array MapEntry} {clock:Nat} {w:World} {t e:bq} {b:Nat}
def wG{es:Array MapEntry}{j:Nat}{O:MapEntry}(U:es[j]?=some O)(f g:MapEntry->MapEntry)(h:f O=g O):es.modify j f=es.modify j g:=by
 apply cF;intro i;rw[cB,cB];by_cases hi:j=i;subst hi;rw[U];simp[h];rw[if_neg hi,if_neg hi]
def DK(K:Keyed P k)(U:P.underlying t=some (.map k e)){z:Value}(hz:(zeroValue e).run P w=.ok z w)(hb:w.heap[b]?=some (.map es clock))(F:Fit P k R es clock)(gu:bt P k key=some kl) :
  ∃v s w',(bX t (.map (some b)) key false).run P w=.ok v w/\(bY t (.map (some b)) key).run P w=.ok (.tuple #[v,b3 (s:Nat)]) w'/\(bW t (.map (some b)) key v).run P w=.ok () w'/\yb w' b s key:=by
 rcases K.find w gu es.toList F.keys with⟨O,h2⟩|⟨j,W,O,h2,h3⟩
 refine⟨z,clock,setBlock w b (.map (es.push ⟨key,z,clock⟩) (clock+1)),?_,?_,?_,?_⟩;simp[bX,bp U,bT hb,K.check w _ gu,O,hz,cG];simp[bY,bp U,bT hb,K.check w false gu,O,hz,bU _ hb,cG,setBlock];simp[bW,bp U,bT hb,K.check w false gu,O,bU _ hb,cG,setBlock];exact⟨_,_,es.size,⟨key,z,clock⟩,heap_setBlock_same hb _,by simp,rfl,rfl⟩;have Y:=by simpa using h2
 refine⟨W.val,W.born,setBlock w b (.map (es.modify j λe=>{e with key:=key}) clock),?_,?_,?_,?_⟩;simp[bX,bp U,bT hb,K.check w _ gu,O,cG];simp[bY,bp U,bT hb,K.check w false gu,O,Y,h3,K.stays w gu,bU _ hb,cG,setBlock];rw[wG Y _ (λe=>{e with key:=key,val:=W.val}) (by simp)];simp[bW,bp U,bT hb,K.check w false gu,O,Y,h3,K.stays w gu,bU _ hb,cG,setBlock];refine⟨_,_,j,{W with key:=key},heap_setBlock_same hb _,?_,rfl,rfl⟩;rw[cB,if_pos rfl,Y]
 first|rfl|skip
def born_inj{es:Array MapEntry}(Y:(es.toList.map (·.born)).Nodup){i j:Nat}(hi:es[i]?=some x)(hj:es[j]?=some y)(h:x.born=y.born):i=j:=by
 have U:es.toList[i]?=some x:=by simpa using hi
 have W:es.toList[j]?=some y:=by simpa using hj
 obtain⟨a1,a2⟩:=b8.1 U;obtain⟨b1,b2⟩:=b8.1 W;rw[List.Nodup,List.pairwise_map]at Y;have hp:=bG.1 Y;rcases bO i j with O|O|O
 exact absurd (by rw[a2,b2];exact h) (hp i j a1 b1 O);exact O;exact absurd (by rw[a2,b2];exact h.symm) (hp j i b1 a1 O)
def key_inj{es:Array MapEntry}(hn:es.toList.Pairwise λx y=>x.key≠y.key){i j:Nat}(hi:es[i]?=some x)(hj:es[j]?=some y)(h:x.key=y.key):i=j:=by
 have U:es.toList[i]?=some x:=by simpa using hi
 have W:es.toList[j]?=some y:=by simpa using hj
 obtain⟨a1,a2⟩:=b8.1 U;obtain⟨Y,b2⟩:=b8.1 W;have hp:=bG.1 hn;rcases bO i j with O|O|O
 exact absurd (by rw[a2,b2];exact h) (hp i j a1 Y O);exact O;exact absurd (by rw[a2,b2];exact h.symm) (hp j i Y a1 O)
def yN(K:Keyed P k)(ht:P.underlying t=some (.map k e))(hb:w.heap[b]?=some (.map es clock))(F:Fit P k R es clock){v:Value}(gu:bt P k key=some kl)(hE:yb w b s key) :
  ∃w',(bZ t (.map (some b)) (b3 (s:Nat)) v).run P w=.ok () w'/\(bW t (.map (some b)) key v).run P w=.ok () w':=by
 obtain⟨ae,Y,i,e0,O,hi,hk,hs⟩:=hE;rw[hb]at O;obtain⟨rfl,rfl⟩:=O;have U:=(bV es clock).1 F.stamped
 have W:es.findIdx? (λe=>(e.born:Int)==s)=some i:=by
  obtain⟨aa,ab⟩:=cC.1 hi;rw[Array.findIdx?_eq_some_iff_getElem];refine⟨aa,by rw[ab];simp[hs],λj hj=>?_⟩;simp only[Bool.not_eq_true,beq_eq_false_iff_ne,ne_eq];intro hh;have ac:j<es.size:=by omega
  have:=born_inj U.2.1 (i:=j) (j:=i) (Array.getElem?_eq_getElem ac) hi (by omega);omega
 rcases K.find w gu _ F.keys with⟨h1,h2⟩|⟨j,e1,h1,h2,h3⟩
 exact absurd hk (h2 e0 (List.mem_of_getElem? (by simpa using hi)));have hj:=by simpa using h2
 have ad:=key_inj U.2.2 hi hj (by rw[hk,h3]);subst ad;refine⟨setBlock w b (.map (es.modify i λe=>{e with val:=v}) clock),?_,?_⟩;simp[bZ,bT hb,asInt,asIntOf,b3,W,bU _ hb,cG,setBlock];rw[wG hj _ (λe=>{e with key:=key,val:=v}) (by simp[h3])];simp[bW,bp ht,bT hb,K.check w false gu,h1,hj,h3,K.stays w gu,bU _ hb,cG,setBlock]
end
def eJ.entry{w:World}(h:eJ w B n f)(O:mf ws)(Y:n<bn)(hv:f ws<18446744073709551616) :
  ∃s w',(bY 86 (.map (some B)) (mY ws)).run prog w=.ok (.tuple #[.int .u64 (f ws:Nat),b3 (s:Nat)]) w'/\yb w' B s (mY ws)/\eJ w' B (n+1) f/\w.grownBy w' (some B):=by
 have hl:=h.look O;obtain⟨D,⟨es,clock,hb,F,hs,hD⟩,h2⟩:=id h;obtain⟨l,U⟩:=Dw O;obtain⟨v,s,w',g1,g2,g3,g4⟩:=DK qa ce (Lw w) hb F U;rw[hl]at g1;simp only[Result.ok.injEq,and_true]at g1;subst g1;obtain⟨aa,W,p2,p3⟩:=h.put O Y _ hv;rw[g3]at W;simp only[Result.ok.injEq,true_and]at W;subst W;refine⟨s,w',g2,g4,p2.mono (bM _) (λx _=>?_),p3⟩;by_cases e:x=ws;subst e;simp;rw[if_neg e]
def eJ.store{w:World}(h:eJ w B n f)(W:mf ws)(Y:n<bn)(hE:yb w B s (mY ws))(v:Nat)(hv:v<18446744073709551616) :
  ∃w',(bZ 86 (.map (some B)) (b3 (s:Nat)) (.int .u64 (v:Nat))).run prog w=.ok () w'/\eJ w' B (n+1) (λx=>if x=ws then v else f x)/\w.grownBy w' (some B):=by
 obtain⟨D,⟨es,clock,hb,F,hs,hD⟩,h2⟩:=id h;obtain⟨l,O⟩:=Dw W;obtain⟨w',g1,g2⟩:=yN (v:=.int _ v) qa ce hb F O hE;obtain⟨aa,U,p2,p3⟩:=h.put W Y v hv;rw[g2]at U;simp only[Result.ok.injEq,true_and]at U;subst U;exact⟨w',g1,p2,p3⟩
end
section
open Go.RowKit Go.Maps
def ES:(prog.info? 9).map (·.size)=some 1:=by kernel_rfl
def mN:Obj:=.cells #[.string ⟨#[]⟩,.string ⟨#[]⟩,.string ⟨#[]⟩] 143
def vy(ws:List Wd)(j:Nat):Value:=.string ⟨(ws.getD j []).toArray⟩
def Bp{b:Nat}{t:bq}{fz:Nat×Nat}:∀(vs:List Value)(o:Nat)(w:World)(cs:Array Value),w.heap[b]?=some (.cells cs t fz)->
  ∃cs',(w.setCells b o vs).heap[b]?=some (.cells cs' t fz)/\cs'.size=cs.size/\(∀j,j<o\/o+vs.length<=j->cs'[j]?=cs[j]?)/\(∀j,o+j<cs.size->j<vs.length->cs'[o+j]?=vs[j]?):=by
 intro vs;induction vs with
 |nil=>intro o w cs h;exact⟨cs,h,rfl,λ_ _=>rfl,nofun⟩|cons v vs Y=>
  intro o w cs h;obtain⟨cs',h1,h2,W,h4⟩:=Y _ _ _ (heap_set h o v);refine⟨cs',h1,by simpa using h2,λj O=>?_,λj O U=>?_⟩;rw[W j (by simp at O;omega)];simp only[cD];rw[if_neg (by simp at O;omega)]
  cases j with
  |zero=>
   rw[W _ (by omega)];simp only[cD,Nat.add_zero,if_true,List.getElem?_cons_zero];rw[if_pos (by omega)]
  |succ j=>
   have:=h4 j (by simp;omega) (by simpa using U);rw[show o+(j+1)=o+1+j by omega,this];simp
def zy{b:Nat}:∀(vs:List Value)(o:Nat)(w:World)(k:Nat),k≠b->(w.setCells b o vs).heap[k]?=w.heap[k]?:=by
 intro vs;induction vs with
 |nil=>intro o w k _;rfl|cons v vs U=>
  intro o w k O;rw[World.setCells,U _ _ k O,cJ _ _ _ _ O]
def Ac{b B:Nat}{w0:World}(O:B<=b):∀(vs:List Value)(o:Nat)(w:World),Below B w0 w->Below B w0 (w.setCells b o vs):=by
 intro vs;induction vs with
 |nil=>intro o w h;exact h|cons v vs U=>
  intro o w h;exact U _ _ (h.setCell O _)
def nA(w:World)(o:Obj):(w.alloc o).heap[w.heap.size]?=some o:=by simp[World.alloc,-World.alloc_eq]
def I3(w:World)(a:Option Addr)(c:Nat)(ws:List Wd)(hr:∀j u,(dl ws)[j]?=some u->∃b off,a=some ⟨b,off,none⟩/\w.cell? ⟨b,off+j,none⟩=some u)(h3:ws.length<=3) :
  ∃W2 v,(Builtin.copy_ #[31,31] 3 #[.slice (some ⟨w.heap.size+1,0,none⟩) 3 3,.slice a ws.length c]).run prog ((w.alloc mN).alloc mN)=.ok v W2/\
   W2.heap[w.heap.size+1]?=some (.cells #[vy ws 0,vy ws 1,vy ws 2] 143 (0,0))/\W2.heap[w.heap.size]?=some (.cells #[.string ⟨#[]⟩,.string ⟨#[]⟩,.string ⟨#[]⟩] 143 (0,0))/\Below w.heap.size w W2:=by
 have hb:Below w.heap.size w ((w.alloc mN).alloc mN):=((cH _ _).alloc (bM _) _).alloc (by simp) _
 have O:((w.alloc mN).alloc mN).heap[w.heap.size+1]?=some (.cells #[.string ⟨#[]⟩,.string ⟨#[]⟩,.string ⟨#[]⟩] 143 (0,0)):=by
  have e:w.heap.size+1=(w.alloc mN).heap.size:=by simp
  rw[e];exact nA _ _
 have W:((w.alloc mN).alloc mN).heap[w.heap.size]?=some (.cells #[.string ⟨#[]⟩,.string ⟨#[]⟩,.string ⟨#[]⟩] 143 (0,0)):=by
  rw[cI _ _ _ (by simp)];exact nA _ _
 by_cases h0:ws=[];subst h0;exact⟨_,_,run_copy_none (P:=prog) _ _ _ _ 9 _ _ 3 3 0 c cc ES rfl,O,W,hb⟩;have Y:0<ws.length:=List.length_pos_iff.2 h0;obtain⟨b,o,rfl,_⟩:=hr 0 _ (gV ws 0 Y)
 have aa:=run_copy_cells (P:=prog) ((w.alloc mN).alloc mN) 31 31 3 9 (w.heap.size+1) 0 3 3 ⟨b,o,none⟩ ws.length c (dl ws) cc ES (by rw[dD];simp[Nat.min_def];omega)
  (λj v U=>by
    obtain⟨b',o',e,hc⟩:=hr j v U;simp only[cO,Addr.mk.injEq]at e;obtain⟨rfl,rfl,_⟩:=e
    have e2:(⟨b,o,none⟩:Addr).add j=⟨b,o+j,none⟩:=by
     unfold Addr.add;split;rename_i h;rw[h];rfl;rfl
    rw[e2]
    exact bm hb hc)
  (λj U=>by
    rw[dD]at U;rw[dn O];have:j<3:=by omega
    match j,this with
    |0,_=>rfl|1,_=>rfl|2,_=>rfl)
  (λj _=>dO O _) jJ
 obtain⟨cs',g1,g2,g3,g4⟩:=Bp (dl ws) 0 _ _ O;refine⟨_,_,aa,?_,?_,?_⟩;rw[g1];congr 1;congr 1;apply cF;intro j;by_cases U:j<ws.length;have:=g4 j (by simp;omega) (by rw[dD];exact U);rw[bS]at this;rw[this,Dg ws j U];have:j<3:=by omega
 match j,this with
 |0,_=>rfl|1,_=>rfl|2,_=>rfl
 rw[g3 j (Or.inr (by rw[dD];omega))];have hg:ws.getD j []=[]:=by rw[b7,bH (by omega)];rfl
 by_cases ab:j<3;match j,ab with
 |0,_=>unfold vy;rw[hg];rfl|1,_=>unfold vy;rw[hg];rfl|2,_=>unfold vy;rw[hg];rfl
 rw[cE (by simp;omega),cE (by simp;omega)];rw[zy _ _ _ _ (by omega)];exact W;exact Ac (by omega) _ _ _ hb
def vV(v:Value)(ws:List Wd)(w:World)(hv:Rd w v (dl ws))(h3:ws.length<=3) :
  bo prog 93 #[v] w λe w'=>e=.returned (mY ws)/\Below w.heap.size w w':=by
 obtain⟨a,c,rfl,hc,hm,Y⟩:=hv;rw[dD]at hc⊢;obtain⟨O,v2,hcp,W,U,hb⟩:=I3 w a c ws Y h3;unfold mN at hcp;have c0:O.cell? ⟨w.heap.size+1,0,none⟩=some (vy ws 0):=dn W 0;have c1:O.cell? ⟨w.heap.size+1,1,none⟩=some (vy ws 1):=dn W 1;have c2:O.cell? ⟨w.heap.size+1,2,none⟩=some (vy ws 2):=dn W 2;have d0:O.cell? ⟨w.heap.size,0,none⟩=some (.string ⟨#[]⟩):=dn U 0;have d1:O.cell? ⟨w.heap.size,1,none⟩=some (.string ⟨#[]⟩):=dn U 1;have d2:O.cell? ⟨w.heap.size,2,none⟩=some (.string ⟨#[]⟩):=dn U 2;have f0:=dO U;rw[show mY ws=.agg #[vy ws 0,vy ws 1,vy ws 2]from rfl];unfold vy at *;generalize (⟨(ws.getD 0 []).toArray⟩:ByteArray)=s0 at *;generalize (⟨(ws.getD 1 []).toArray⟩:ByteArray)=s1 at *;generalize (⟨(ws.getD 2 []).toArray⟩:ByteArray)=s2 at *;clear W U Y;go_enter func93,ntmps93;go_wp2;refine br (v:=.agg #[.string s0,.string s1,.string s2]) (by simp[bu,results93,go_sem,d0,d1,d2]) rfl ⟨rfl,?_⟩;exact((hb.setCell (bM _) _).setCell (bM _) _).setCell (bM _) _
def Nc(v:Value)(ws:List Wd)(x:Wd)(w:World)(hv:Rd w v (dl ws)) :
  bo prog 186 #[v,.string ⟨x.toArray⟩] w λe w'=>(∃z:Int,e=.returned (.int .i64 z)/\(0<=z↔x∈ws))/\w=w':=by
 obtain⟨a,c,rfl,hc,hm,W⟩:=hv;rw[dD]at hc⊢;unfold bn at hm;go_enter func186,ntmps186;go_wp2;go_loop [8] (λi=>∃k:Nat,k<=ws.length/\i=.int .i64 k/\x ∉ ws.take k) (λi=>ws.length-(intOf i).toNat)
 case atStart=>exact⟨0,bN _,rfl,by simp⟩
 case round=>
  obtain⟨k,hk,rfl,U⟩:=hrel;have HN:dc _:=U;clear U;by_cases O:k<ws.length
  .obtain⟨b,o,rfl,h0⟩:=W k _ (gV ws k O);have HM:dc (ws[k]∈ws):=bB O;have HT:dc (ws.take (k+1)=ws.take k++[ws[k]]):=b6 O;have HR:dc _:=W;clear W;generalize ws[k]=y at *;by_cases Y:x=y
   .subst Y;go_wp2;go_ret;exact⟨⟨k,rfl,⟨λ_=>HM.out,λ_=>by omega⟩⟩,rfl⟩
   have hb:(x==y)=false:=by simpa using Y
   have HX:dc _:=Y;go_wp2;go_round
   case rel=>exact⟨k+1,by omega,by go_num,by rw[HT.out,bC,bA];rintro(h|h);exact HN.out h;exact HX.out h⟩
   case measure=>simp[intOf];omega
  go_wp2;go_ret;refine⟨⟨-1,rfl,⟨λh=>absurd h (by omega),λh=>?_⟩⟩,rfl⟩;have:=HN.out;rw[bD (by omega)]at this;exact absurd h this
def Dc(v:Value)(ws:List Wd)(x:Wd)(w:World)(hv:Rd w v (dl ws)) :
  bo prog 134 #[v,.string ⟨x.toArray⟩] w λe w'=>e=.returned (.bool (decide (x∈ws)))/\w=w':=by
 have O:=Nc v ws x w hv;go_enter func134,ntmps134;go_wp2_with fail;refine O.mono ?_;rintro e w' ⟨⟨z,rfl,Y⟩,rfl⟩;by_cases U:x∈ws
 .have W:dc _:=decide_eq_true U;go_wp2;go_ret;exact⟨eO (by rw[W.out]),rfl⟩
 have h0:=λh=>U (Y.1 h);have W:dc _:=decide_eq_false U;clear O Y U;go_wp2;go_ret;exact⟨eO (by rw[W.out];exact decide_eq_false (by omega)),rfl⟩
def G4(b o B n:Nat)(f:List Wd->Nat)(kn:List Wd)(v:Value)(ws:List Wd)(w:World)(hB:w.cell? ⟨b,o,none⟩=some (.map (some B)))(hC:eJ w B n f)(hv:Rd w v (dl ws))
  (ag:∀x∈ws,x≠[]/\x.length<=24) (hf:∀x∈ws,f [x]=0↔x ∉ kn) (hl:ws.length<=1000) :
  bo prog 92 #[.pointer (some ⟨b,o,none⟩),v] w λe w'=>∃u,e=.returned u/\w'.ownsRow w.heap.size 9 1 u (gr kn ws ws.length).length (dl (gr kn ws ws.length))/\Below w.heap.size w w':=by
 obtain⟨a,c,rfl,hc,hm,hr⟩:=hv;rw[dD]at hc⊢;unfold bn at hm;obtain⟨i0,hi,ah,ai,aj⟩:=bx uK;go_enter func92,ntmps92;go_wp2;go_loopw [5,10] (λu i wr=>∃k:Nat,k<=ws.length/\i=.int .i64 k/\wr.ownsRow w.heap.size 9 1 u (gr kn ws k).length (dl (gr kn ws k))/\Below w.heap.size w wr) (λ_ i _=>ws.length-(intOf i).toNat)
 case atStart=>exact⟨0,bN _,rfl,cM _ _ _ _,cH _ _⟩
 case round=>
  obtain⟨k,hk,rfl,O,hb⟩:=hrel;have HS:=hb.size;have al:=(A5 kn ws k hk).2.2;by_cases aa:k<ws.length
  .obtain⟨ba,oa,rfl,h0⟩:=hr k _ (gV ws k aa);have HE:dc (gr kn ws (k+1)=if ws[k]∈kn\/ws[k]∈gr kn ws k then gr kn ws k else gr kn ws k++[ws[k]]):=zY kn ws k aa;have hx:=ag _ (bB aa);have ab:=hf _ (bB aa);generalize ws[k]=x at *;have am:=bm hb h0;have an:=bm hb hB;have U:=(hC.below hb).look (ws:=[x]) ⟨by simp,by simpa using hx⟩;rw[show mY [x]=.agg #[.string ⟨x.toArray⟩,.string ⟨#[]⟩,.string ⟨#[]⟩]from rfl]at U;have HR:dc _:=hr;clear hr h0;obtain⟨au,cu,rfl,ao⟩:=dN O;by_cases W:f [x]=0
   .have HK:dc (x ∉ kn):=ab.1 W;rw[W]at U;have af:(bX 86 (.map (some B)) (.agg #[.string ⟨x.toArray⟩,.string ⟨#[]⟩,.string ⟨#[]⟩]) false).run prog wr=.ok (.int .u64 0) wr:=U;clear U W ab;have ac:=Dc _ (gr kn ws k) x wr (Rd.jk O);go_wp2_with fail;refine ac.mono ?_;rintro e w' ⟨rfl,rfl⟩;clear ac;by_cases Y:x∈gr kn ws k
    .have HE2:dc (gr kn ws (k+1)=gr kn ws k):=by show _=_;rw[HE.out,if_pos (Or.inr Y)]
     rw[decide_eq_true Y];clear Y;go_wp2;go_roundw
     case rel=>exact⟨k+1,by omega,by go_num,by rw[HE2.out];exact O,hb⟩
     case measure=>simp[intOf];omega
    have HE2:dc (gr kn ws (k+1)=gr kn ws k++[x]):=by show _=_;rw[HE.out,if_neg (by rintro(h|h);exact HK.out h;exact Y h)]
    rw[decide_eq_false Y];clear Y
    go_wp2_with (first
     |(at_builtin;refine fD _ rfl _ _ 31 rfl w.heap.size 9 i0 (.string ⟨#[]⟩) 16 cc hi ah ai aj rfl _ _ _ rfl (O.alloc _) ⟨wr.heap.size,0,none⟩ _ rfl iH rfl ?c1 ?c2 ?c3 ?_))
    case c1=>omega
    case c2=>unfold bn;omega
    case c3=>first|omega|(simp;omega)
    intro v' w1 hown' ad _;rw[<-nf,<-HE2.out]at hown';have hb':=(hb.alloc HS _).grown ad (by simp;omega) (λb hb=>(O.lt b hb).1);have ak:dc ((gr kn ws k).length+1=(gr kn ws (k+1)).length):=by show _=_;rw[HE2.out];simp
    rw[ak.out]at hown';go_wp2;go_roundw
    case rel=>exact⟨k+1,by omega,by go_num,hown',hb'⟩
    case measure=>simp[intOf];omega
   have ae:x∈kn:=by
    by_cases h:x∈kn;exact h;exact absurd (ab.2 h) W
   have HE2:dc (gr kn ws (k+1)=gr kn ws k):=by show _=_;rw[HE.out,if_pos (Or.inl ae)]
   generalize f [x]=m at *;have ap:((m:Int)==0)=false:=by simpa using W
   clear ae ab W;go_wp2;go_roundw
   case rel=>exact⟨k+1,by omega,by go_num,by rw[HE2.out];exact O,hb⟩
   case measure=>simp[intOf];omega
  have ek:k=ws.length:=by omega
  subst ek;go_wp2;go_ret;exact⟨_,rfl,O,hb⟩
variable {kn':List Wd} {f:List Wd->Nat} {b base n:Nat} {F:Nat->Prop} {v vB vK vK' vS:Value} {w wr:World}
def Wb(O:List (List Wd)):Prop:=∀t∈O,∀x∈t,x≠[]/\x.length<=24
structure PW(w:World)(F:Nat->Prop)(b:Nat)(vB vS:Value)(ts:List (List Wd))(B n:Nat)(vK:Value)(kn:List Wd):Prop where
 blk:w.heap[b]?=some (.cells #[vB,vS,.map (some B),vK] 90 (0,0))
 fb:F b
 fB:F B
 cnt:eJ w B n (fx ts)
 room:n<=8*gG ts
 row:w.ownsRow 0 9 1 vK kn.length (dl kn)
 lr:∀k,vK.ownBlock=some k->F k
 perm:kn.Perm (eV ts)
 ok:Wb ts
 qg:kn.length<=60
def PW.known{O:List (List Wd)}{B:Nat}{kn:List Wd}(h:PW w F b vB vS O B n vK kn)(x:Wd):fx O [x]=0↔x ∉ kn:=by
 rw[MF,h.perm.mem_iff]
structure LO(w wr:World)(F:Nat->Prop)(b:Nat)(vB vS:Value)(ts:List (List Wd))(B n:Nat)(vK:Value)(kn:List Wd)(base:Nat)(v:Value)(t:List Wd)(P:List (List Wd)):Prop where
 blk:wr.heap[b]?=some (.cells #[vB,vS,.map (some B),vK] 90 (0,0))
 cnt:eJ wr B (n+2*P.length) (λws=>fx ts ws+P.count ws)
 row:wr.ownsRow 0 9 1 vK kn.length (dl kn)
 lr:∀k,vK.ownBlock=some k->QW F w wr k
 frame:dw F w wr
 arg:wr.ownsRow base 9 1 v t.length (dl t)
def tS{B:Nat}(h:eJ w B n f){e m:Nat}{xs:List Value}(W:w.ownsRow base e 1 v m xs):v.ownBlock≠some B:=by
 obtain⟨D,⟨es,clock,Y,_⟩,_⟩:=h;rcases W.2 with⟨rfl,_⟩|⟨g,cap,aa,rfl,_,O,_⟩
 simp[dj];intro U;simp only[dj,cO]at U;rw[U,Y]at O;cases O
def zT{B:Nat}(h:eJ w B n f){cs:Array Value}{t:bq}{fz:Nat×Nat}(hb:w.heap[b]?=some (.cells cs t fz)):b≠B:=by
 obtain⟨D,⟨es,clock,O,_⟩,_⟩:=h;intro e;rw[e,O]at hb;cases hb
def MK{w1 w2:World}{ts:List (List Wd)}{B:Nat}{kn:List Wd}{t:List Wd}(hF:∀k,F k->k<w.heap.size)(O:PW w F b vB vS ts B n vK kn)
  (hv:w.ownsRow base 9 1 v t.length (dl t)) (ad:∀k,v.ownBlock=some k->¬F k) (Y:Below w.heap.size w w1) (ho:w2.ownsRow 0 9 1 vK' kn'.length (dl kn')) (hg:w1.grownBy w2 vK.ownBlock) (ab:vK'.ownBlock=vK.ownBlock\/vK'.ownBlock=some w1.heap.size) :
  w2.heap[b]?=some (.cells #[vB,vS,.map (some B),vK] 90 (0,0))/\LO w (w2.setCell ⟨b,3,none⟩ vK') F b vB vS ts B n vK' kn' base v t []:=by
 have ai:=Y.size;have aj:=hg.size;have hold:∀k,k<w.heap.size->some k≠vK.ownBlock->w2.heap[k]?=w.heap[k]?:=λk U ae=>by rw[hg.block k (by omega) ae,Y.block k U]
 have af:=hF b O.fb;have ag:=hF B O.fB;have aa:w2.heap[b]?=some (.cells #[vB,vS,.map (some B),vK] 90 (0,0)):=by rw[hold b af (λe=>oX O.blk O.row (by decide) e.symm)];exact O.blk
 have ak:(w2.setCell ⟨b,3,none⟩ vK').heap.size=w2.heap.size:=by simp[World.setCell]
 have W:∀k,k≠b->(w2.setCell ⟨b,3,none⟩ vK').heap[k]?=w2.heap[k]?:=λk U=>cJ _ _ _ _ U;refine⟨aa,⟨by rw[heap_set aa];rfl,?_,?_,?_,?_,?_⟩⟩;refine(O.cnt.stay ?_).mono (by simp) (λws _=>by simp);rw[W B (λe=>zT O.cnt O.blk e.symm),hold B ag (λe=>tS O.cnt O.row e.symm)];refine eH ho (λk U=>W k (λe=>?_));subst e;exact oX aa ho (by decide) U;intro k U;rcases ab with h|h
 exact Or.inl (O.lr k (by rw[<-h];exact U));rw[h]at U;simp only[cO]at U;have:=(ho.lt k (by rw[h,U])).2;exact Or.inr ⟨by omega,by omega⟩;refine⟨hg.os.trans Y.os,hg.tape.trans Y.tape,hg.output.trans Y.output,by omega,λk U hn=>?_⟩;rw[W k (λe=>hn (by rw[e];exact O.fb))];exact hold k U (λe=>hn (O.lr k e.symm));refine eH hv (λk U=>?_);have ac:=ad k U;have ah:=(hv.lt k U).2;rw[W k (λe=>ac (by rw[e];exact O.fb)),hold k ah (λe=>ac (O.lr k e.symm))]
def OM{w3 w4:World}{ts:List (List Wd)}{B:Nat}{kn:List Wd}{t:List Wd}{P:List (List Wd)}(O:LO w wr F b vB vS ts B n vK kn base v t P)(aa:F B)
  (U:Below wr.heap.size wr w3) (ws:List Wd) (ab:eJ w4 B (n+2*P.length+2) (λx=>if x=ws then fx ts ws+P.count ws+1 else fx ts x+P.count x)) (W:w3.grownBy w4 (some B)) :
  LO w w4 F b vB vS ts B n vK kn base v t (P++[ws]):=by
 have ae:=U.size;have af:=W.size;have hold:∀k,k<wr.heap.size->k≠B->w4.heap[k]?=wr.heap[k]?:=λk Y ac=>by rw[W.block k (by omega) (by simpa using ac),U.block k Y]
 have ad:=(cC.1 O.blk).1;refine⟨?_,?_,?_,?_,?_,?_⟩;rw[hold b ad (zT O.cnt O.blk)];exact O.blk;refine ab.mono (by simp;omega) (λx _=>?_);rw[List.count_append];by_cases e:x=ws;subst e;simp;omega;rw[if_neg e,List.count_singleton];have:(ws==x)=false:=by simpa using λh=>e h.symm
 rw[this];simp;exact eH O.row (λk Y=>hold k (O.row.lt k Y).2 (λe=>tS O.cnt O.row (by rw[Y,e])));intro k Y;rcases O.lr k Y with h|h
 exact Or.inl h;exact Or.inr ⟨h.1,by omega⟩;refine O.frame.trans (G:=λk=>k=B) ⟨W.os.trans U.os,W.tape.trans U.tape,W.output.trans U.output,by omega,λk Y hn=>hold k Y hn⟩ (λi _ hi=>by subst hi;exact aa);exact eH O.arg (λk Y=>hold k (O.arg.lt k Y).2 (λe=>tS O.cnt O.arg (by rw[Y,e])))
def Pl{O:List (List Wd)}{B:Nat}{kn:List Wd}{t:List Wd}(U:PW w F b vB vS O B n vK kn)(W:LO w wr F b vB vS O B n vK' kn' base v t (jz t t.length))
  (Y:kn'.Perm (eV (O++[t]))) (ht:∀x∈t,x≠[]/\x.length<=24) (aa:¬60<(eV (O++[t])).length):PW wr (QW F w wr) b vB vS (O++[t]) B (n+2*(jz t t.length).length) vK' kn' where
 blk:=W.blk
 fb:=Or.inl U.fb;fB:=Or.inl U.fB
 cnt:=W.cnt.mono (bM _) (λws hr=>by
  show fx O ws+(jz t t.length).count ws=_
  rw[PK t ws hr.1,Mi])
 room:=by
  have h1:=U.room;have h2:=zU t t.length;have:gG (O++[t])=gG O+(t.length+1):=by simp[gG]
  omega
 row:=W.row;lr:=W.lr;perm:=Y
 ok:=by
  intro x hx;rcases bC.1 hx with h|h
  exact U.ok x h;simp at h;subst h;exact ht
 qg:=by rw[Y.length_eq];omega
def KB(F:Nat->Prop)(b:Nat)(vB vS:Value)(U:List (List Wd))(B n:Nat)(vK:Value)(kn:List Wd)(t:List Wd)(base:Nat)(v:Value)(w:World)(hF:∀k,F k->k<w.heap.size)(hP:PW w F b vB vS U B n vK kn)
  (hv:w.ownsRow base 9 1 v t.length (dl t)) (aE:∀k,v.ownBlock=some k->¬F k) (ht:∀x∈t,x≠[]/\x.length<=24) (hl:t.length<=24) (hB:gG U<=16777216) :
  bo prog 66 #[.pointer (some ⟨b,2,none⟩),v] w λe w'=>
   (60<(eV (U++[t])).length/\e=.returned (.bool false)/\Below w.heap.size w w')\/
   (¬60<(eV (U++[t])).length/\e=.returned (.bool true)/\(∃n' vK' kn',PW w' (QW F w w') b vB vS (U++[t]) B n' vK' kn')/\dw F w w'):=by
 obtain⟨av,cv,rfl,aX⟩:=dN hv;obtain⟨aK,cK,rfl,aY⟩:=dN hP.row;have az:=(zc kn U t hP.perm).length_eq;rw[bE]at az;have aZ:=(A5 kn t t.length (bM _)).2.2;have aS:=hP.qg;have a5:=dn hP.blk;obtain⟨i0,hi,aF,aG,aH⟩:=bx uK;go_enter func66,ntmps66;go_wp2_with fail;refine(G4 b 2 B n (fx U) kn _ t w (a5 2) hP.cnt (Rd.jk hv) ht (λx _=>hP.known x) (by omega)).mono ?_;rintro e w1 ⟨u,rfl,hu,ah⟩;obtain⟨au,cu,rfl,ba⟩:=dN hu;have a6:=bm ah (a5 3);by_cases ap:60<(eV (U++[t])).length
 .have HK:dc _:=ap;have a7:60<(kn.length:Int)+((gr kn t t.length).length:Int):=by omega
  clear ap az;go_wp2;go_ret;exact Or.inl ⟨HK.out,rfl,ah⟩
 have HK:dc _:=ap;have a7:(kn.length:Int)+((gr kn t t.length).length:Int)<=60:=by omega
 have bc:w1.frozen? ⟨b,3,none⟩=false:=by
  have:w1.heap[b]?=_:=(ah.block b (hF b hP.fb)).trans hP.blk;exact dO this 3
 have a8:=JY hP.row ah;clear ap
 go_wp2_with (first
  |(at_builtin;refine fM _ rfl _ _ 31 rfl 0 9 i0 (.string ⟨#[]⟩) 16 cc hi aF aG aH rfl _ _ _ rfl a8 _ (dl (gr kn t t.length)) rfl (Rd.jk hu) jJ ?c1 ?c2 (bN _) ?_))
 case c1=>rw[dD];omega
 case c2=>rw[dD];unfold bn;omega
 intro vK' w2 aa a9 ai
 have af:w2.ownsRow 0 9 1 vK' (kn++gr kn t t.length).length (dl (kn++gr kn t t.length)):=by
  rw[dD]at aa;have e1:dl (kn++gr kn t t.length)=dl kn++dl (gr kn t t.length):=by simp[dl]
  rw[e1,bE];exact aa
 obtain⟨aj,hS0⟩:=MK hF hP hv aE ah af a9 ai;obtain⟨a',aA,rfl,aT⟩:=dN af;have aU:=dn aj 3;have aV:=dO aj 3;have aI:=(zc kn U t hP.perm);have HP:dc _:=hP;clear hP aj a8 aa a9 ai hu a6 hv;generalize kn++gr kn t t.length=kn' at *;go_wp2_with fail;go_loopw [6] (λi wr=>∃e:Nat,e<=t.length/\i=.int .i64 ((e:Int)+1)/\LO w wr F b vB vS U B n (.slice a' kn'.length aA) kn' base (.slice av t.length cv) t (jz t e)) (λi _=>t.length+1-(intOf i).toNat)
 case atStart=>exact⟨0,bN _,by simp,hS0⟩
 case round=>
  obtain⟨e,he,rfl,hS⟩:=hrel;by_cases bd:e<t.length
  .have hd:decide ((e:Int)+1<=(t.length:Int))=true:=by simp;omega
   go_wp2_with fail;go_loopw [7] (λi wx=>∃q:Nat,q<=min (e+1) 3+1/\i=.int .i64 (e+1-min (e+1) 3+q:Nat)/\LO w wx F b vB vS U B n (.slice a' kn'.length aA) kn' base (.slice av t.length cv) t (jz t e++(jn t (e+1)).take q)) (λi _=>e+2-(intOf i).toNat)
   case atStart=>exact⟨0,bN _,by congr 1;omega,by simpa using hS⟩
   case round=>
    obtain⟨q,hq,rfl,ab⟩:=hrel;obtain⟨W,ak⟩:∃W,W=e+1-min (e+1) 3+q:=⟨_,rfl⟩;have be:dc _:=ak;rw[<-ak];by_cases bf:W<=e+1
    .have aJ:wr.cell? ⟨b,2,none⟩=some (.map (some B)):=by rw[dn ab.blk];rfl
     have aB:e+1<=t.length:=by omega
     have bh:(0:Int)<=(e:Int)+1:=by omega
     have bi:(e:Int)+1<=(cv:Int):=by omega
     have aw:Rd wr (.slice (if cv=W then av else di (λx=>x.add W) av) (e+1-W) (cv-W)) (dl ((t.take (e+1)).drop W)):=
      ((Rd.jk ab.arg).QC (e+1) aB).yI W (by simp;omega)
     obtain⟨ws,al⟩:∃ws,ws=(t.take (e+1)).drop W:=⟨_,rfl⟩;have h3:ws.length<=3:=by rw[al];simp;omega
     have ag:mf ws:=⟨h3,λx hx=>ht x (by rw[al]at hx;exact List.mem_of_mem_take (bI hx))⟩
     have HER:dc ((jn t (e+1)).take (q+1)=(jn t (e+1)).take q++[ws]):=by
      show _=_;have aL:q<(jn t (e+1)).length:=by rw[ox];omega
      rw[b6 aL,Ge,<-ak,al]
     rw[<-al]at aw;clear al;obtain⟨P,aq⟩:∃P,P=jz t e++(jn t (e+1)).take q:=⟨_,rfl⟩;rw[<-aq]at ab
     have bj:P.length<=4*24+4:=by
      rw[aq,bE];have:=zU t e;have:((jn t (e+1)).take q).length<=4:=by have:=ox t (e+1);simp;omega
      omega
     have aM:=List.count_le_length (a:=ws) (l:=P);have HPD:dc _:=aq;obtain⟨c,hc⟩:∃c,c=fx U ws+P.count ws:=⟨_,rfl⟩;have jP:=sE U ws;have bk:c<=16777400:=by omega
     have aN:=HP.out.room;have bl:IntKind.u64.wrap ((c:Int)+1)=(c:Int)+1:=by rw[cU];omega
     have aO:=ab;have ar:=ab.cnt
     have ac:bo prog 93 #[.slice (if cv=W then av else di (λx=>x.add W) av) (e+1-W) (cv-W)] wr.drew λe' w3=>e'=.returned (mY ws)/\Below wr.heap.size wr w3/\w3.cell? ⟨b,2,none⟩=some (.map (some B))/\
       (bX 86 (.map (some B)) (mY ws) false).run prog w3=.ok (.int .u64 (c:Int)) w3/\
       ∃(s:Nat)(w4 w5:World),(bY 86 (.map (some B)) (mY ws)).run prog w3=.ok (.tuple #[.int .u64 (c:Int),.int .i64 (s:Int)]) w4/\(bX 86 (.map (some B)) (mY ws) false).run prog w4=.ok (.int .u64 (c:Int)) w4/\
       (bZ 86 (.map (some B)) (.int .i64 (s:Int)) (.int .u64 ((c:Int)+1))).run prog w4=.ok () w5/\
       eJ w5 B (n+2*P.length+2) (λx=>if x=ws then fx U ws+P.count ws+1 else fx U x+P.count x)/\w3.grownBy w5 (some B):=by
      refine(vV _ ws wr.drew (by exact aw) h3).mono ?_;rintro e' w3 ⟨rfl,am⟩;have Y:Below wr.heap.size wr w3:=⟨am.os,am.tape,am.output,am.size,am.block⟩;have aC:=ar.below Y;have ae:=aC.look ag;rw[show fx U ws+P.count ws=c from hc.symm]at ae;obtain⟨s,w4,an,aP,aD,aQ⟩:=aC.entry ag (by unfold bn;omega) (by show fx U ws+P.count ws<_;omega);have O:=aD.look ag;rw[show fx U ws+P.count ws=c from hc.symm]at an O;obtain⟨w5,ao,ax,ay⟩:=aD.store ag (by unfold bn;omega) aP (c+1) (by omega);rw[Int.natCast_add,Int.natCast_one]at ao;exact⟨rfl,Y,bm Y aJ,ae,s,w4,w5,an,O,ao,by rw[<-hc];exact ax,aQ.trans ay⟩
     have HQ:dc (q+1<=min (e+1) 3+1):=by show _<=_;omega
     have HB1:dc ((W:Int)+1=((e+1-min (e+1) 3+(q+1):Nat):Int)):=by show _=_;omega
     obtain⟨ad,aR⟩:∃ad,(if cv=W then av else di (λx=>x.add W) av)=ad:=⟨_,rfl⟩;rw[aR]at ac;clear ak hS aq aM jP ab ar aw hc;go_wp2_with fail
     go_region_law (first
      |(go_simp
        go_at_call 93;refine ac.mono ?_
        rintro e' w3 ⟨rfl,Y,aW,ae,s,w4,w5,an,O,ao,ax,ay⟩))
     all_goals
      clear ac;go_wp2_with fail;go_roundw
      case rel=>exact⟨q+1,HQ.out,by rw[<-HB1.out],by rw[HER.out,<-List.append_assoc,<-HPD.out];exact OM aO HP.out.fB Y ws ax ay⟩
      case measure=>simp[intOf];omega
    have HE:dc (jz t e++(jn t (e+1)).take q=jz t (e+1)):=by
     show _=_;rw[bD (by rw[ox];omega)];rfl
    clear ak;go_wp2_with fail;go_roundw
    case rel=>exact⟨e+1,by omega,by go_num,by rw[<-HE.out];exact ab⟩
    case measure=>simp[intOf];omega
  have ee:e=t.length:=by omega
  subst ee;go_wp2;go_ret;exact Or.inr ⟨HK.out,rfl,⟨_,_,_,Pl HP.out hS aI ht HK.out⟩,hS.frame⟩
def Gh:Obj:=.cells #[.int .u64 0,.int .u64 0] 147
def Fs(x y z:ByteArray):Obj:=.cells #[.string x,.string y,.string z] 143
def Rd.alloc{w:World}{v:Value}{xs:List Value}(h:Rd w v xs)(o:Obj):Rd (w.alloc o) v xs:=h.below ((cH ..).alloc (bM _) _)
structure VS(w W:World)(b o B n:Nat)(ts:List (List Wd))(r g h:Nat)(x y z x' y' z':ByteArray):Prop where
 base:Below w.heap.size w W
 zw:W.heap[r]?=some Gh
 fst:W.heap[g]?=some (Fs x y z)
 snd:W.heap[h]?=some (Fs x' y' z')
 map:W.cell? ⟨b,o,none⟩=some (.map (some B))
 cnt:eJ W B n (fx ts)
def VN{w O:World}{b o B n:Nat}{ts:List (List Wd)}(hB:w.cell? ⟨b,o,none⟩=some (.map (some B)))(hC:eJ w B n (fx ts))(U:Below (w.alloc Gh).heap.size (w.alloc Gh) O)(x y z W Y z':ByteArray) :
  VS w ((O.alloc (Fs x y z)).alloc (Fs W Y z')) b o B n ts w.heap.size O.heap.size (O.heap.size+1) x y z W Y z':=by
 have hz:(w.alloc Gh).heap.size=w.heap.size+1:=by simp
 have aa:=U.size;have h1:=((cH ..).alloc (bM _) _).trans (U.mono (by omega));have h2:Below _ w ((O.alloc (Fs x y z)).alloc (Fs W Y z')):=(h1.alloc (by omega) _).alloc (by simp;omega) _;refine⟨h2,?_,?_,?_,bm h2 hB,hC.below h2⟩;rw[cI _ _ _ (by simp;omega),cI _ _ _ (by omega),U.block _ (by omega)];exact nA ..;rw[cI _ _ _ (by simp)];exact nA ..;have e:O.heap.size+1=(O.alloc (Fs x y z)).heap.size:=by simp
 rw[e];exact nA ..
def QA(b o B n:Nat)(W:List (List Wd))(vl:Value)(x:Wd)(w:World)(hG:w.cell? ⟨0,0,none⟩=some (.int .u64 4))(hB:w.cell? ⟨b,o,none⟩=some (.map (some B)))(hC:eJ w B n (fx W))(hl:Rd w vl (dl []))(hx:x≠[]/\x.length<=24)(ao:gG W<=16777216) :
  bo prog 95 #[.pointer (some ⟨b,o,none⟩),vl,.string ⟨x.toArray⟩] w λe w'=>e=.returned (.agg #[.int .u64 ((rl W x []).1:Int),.int .u64 ((rl W x []).2:Int)])/\Below w.heap.size w w':=by
 have O:=vV vl [] (w.alloc Gh) (hl.alloc _) (by simp);have HL:dc _:=hl;obtain⟨a,c,rfl,hc,hm,_⟩:=hl;have HR:mf ([]:List Wd):=⟨by simp,by simp⟩;have ag:mf [x]:=⟨by simp,by simpa using hx⟩;have am:=sE W [x];have an:=sE W [];have ah:(dl []).length=0:=rfl;rw[ah]at O hc HL⊢;clear ah;go_enter func95,ntmps95;go_wp2_with fail;refine O.mono ?_;rintro e W1 ⟨rfl,ai⟩;rw[show mY []=.agg #[.string ⟨#[]⟩,.string ⟨#[]⟩,.string ⟨#[]⟩]from rfl];have hS:=VN hB hC ai ⟨#[]⟩ ⟨#[]⟩ ⟨#[]⟩ ⟨x.toArray⟩ ⟨#[]⟩ ⟨#[]⟩;clear O ai;go_wp2_with fail;unfold Fs at hS;generalize (W1.alloc (.cells #[.string ⟨#[]⟩,.string ⟨#[]⟩,.string ⟨#[]⟩] 143)).alloc (.cells #[.string ⟨x.toArray⟩,.string ⟨#[]⟩,.string ⟨#[]⟩] 143)=U at *;generalize W1.heap.size=g at *;have ap:=bm hS.base hG;have aq:=hS.map;have aa:=(hS.cnt.stay (w':=U.drew) rfl).look ag;have ab:=(hS.cnt.stay (w':=U.drew.drew) rfl).look ag;have aj:=(hS.cnt.stay (w':=U.drew.drew) rfl).look HR;rw[show mY []=.agg #[.string ⟨#[]⟩,.string ⟨#[]⟩,.string ⟨#[]⟩]from rfl]at aj;rw[show mY [x]=.agg #[.string ⟨x.toArray⟩,.string ⟨#[]⟩,.string ⟨#[]⟩]from rfl]at aa ab;have f0:U.cell? ⟨g,0,none⟩=some (.string ⟨#[]⟩):=dn hS.fst 0;have f1:U.cell? ⟨g,1,none⟩=some (.string ⟨#[]⟩):=dn hS.fst 1;have f2:U.cell? ⟨g,2,none⟩=some (.string ⟨#[]⟩):=dn hS.fst 2;have s0:U.cell? ⟨g+1,0,none⟩=some (.string ⟨x.toArray⟩):=dn hS.snd 0;have s1:U.cell? ⟨g+1,1,none⟩=some (.string ⟨#[]⟩):=dn hS.snd 1;have s2:U.cell? ⟨g+1,2,none⟩=some (.string ⟨#[]⟩):=dn hS.snd 2;have r0:U.cell? ⟨w.heap.size,0,none⟩=some (.int .u64 0):=dn hS.zw 0;have r1:U.cell? ⟨w.heap.size,1,none⟩=some (.int .u64 0):=dn hS.zw 1;have z0:=dO hS.zw;have ar:=hS;have HS:=hS.base;clear hS;obtain⟨p,ac⟩:∃p,p=fx W [x]:=⟨_,rfl⟩;obtain⟨q,ad⟩:∃q,q=fx W []:=⟨_,rfl⟩;rw[<-ac]at aa ab am;rw[<-ad]at aj an;have ak:dc _:=ac;have al:dc _:=ad;clear ac ad;obtain⟨Y,ae⟩:∃Y:Int,Y=(p:Int):=⟨_,rfl⟩;rw[<-ae]at aa ab;have af:dc _:=ae;have au:0<=Y:=by omega
 have av:Y<=16777216:=by omega
 have aw:IntKind.u64.wrap (Y*4)=Y*4:=by rw[cU];omega
 clear ae;by_cases hz:Y=0
 .subst hz;go_region;go_wp2_with fail;go_region;go_wp2;refine br (v:=.agg #[.int .u64 0,.int .u64 (q:Int)]) (by simp[bu,ck,go_sem,r0,r1]) rfl ⟨?_,?_⟩;have h1:=af.out;have hp:fx W [x]=0:=by rw[<-ak.out];omega
  unfold rl;rw[hp,al.out];rfl;exact(HS.drew.drew.setCell (bM _) _).setCell (bM _) _
 have ax:(Y==0)=false:=by simpa using hz
 go_region;go_wp2_with fail;go_region;go_wp2;refine br (v:=.agg #[.int .u64 (Y*4),.int .u64 (q:Int)]) (by simp[bu,ck,go_sem,r0,r1]) rfl ⟨?_,?_⟩;have h1:=af.out;unfold rl;rw[af.out,ak.out,al.out];rfl;exact(HS.drew.drew.setCell (bM _) _).setCell (bM _) _
def y7(b o B n:Nat)(O:List (List Wd))(vl:Value)(x:Wd)(w:World)(xs Y:List Wd)(k wg:Nat)(wi:Int)(s0 s1 s2 t1 t2:ByteArray)(hG:w.cell? ⟨0,k,none⟩=some (.int .u64 wi))(hB:w.cell? ⟨b,o,none⟩=some (.map (some B)))(hC:eJ w B n (fx O))(hl:Rd w vl (dl xs))(aJ:gG O<=16777216)
  (hk:(k=1/\wg=10/\wi=10/\Y=[]/\⟨x.toArray⟩=t1/\s2=t2)\/(k=2/\wg=25/\wi=25/\Y=xs.drop 1/\s1=t1/\⟨x.toArray⟩=t2)) (aw:mY (xs++[x])=.agg #[.string s0,.string t1,.string t2]) (ab:xs.length=k) (al:mY xs=.agg #[.string s0,.string s1,.string s2]) (HR:mf xs) (ax:mf (xs++[x]))
  (ah:fx O (xs++[x])=0->rl O x xs=rl O x Y) (ai:fx O (xs++[x])≠0->rl O x xs=(fx O (xs++[x])*wg,fx O xs))
  (aj:∀(V:Value)(W:World),Below w.heap.size w W->W.cell? ⟨b,o,none⟩=some (.map (some B))->eJ W B n (fx O)->Rd W V (dl Y)->bo prog 95 #[.pointer (some ⟨b,o,none⟩),V,.string ⟨x.toArray⟩] W λe w'=>e=.returned (.agg #[.int .u64 ((rl O x Y).1:Int),.int .u64 ((rl O x Y).2:Int)])/\Below W.heap.size W w') :
  bo prog 95 #[.pointer (some ⟨b,o,none⟩),vl,.string ⟨x.toArray⟩] w λe w'=>e=.returned (.agg #[.int .u64 ((rl O x xs).1:Int),.int .u64 ((rl O x xs).2:Int)])/\Below w.heap.size w w':=by
 have aa:=vV vl xs (w.alloc Gh) (hl.alloc _) HR.1;have HL:dc (Rd w vl (dl xs)):=hl;obtain⟨a,c,rfl,hc,hm,hr⟩:=hl;obtain⟨ba,oa,rfl,_⟩:=hr 0 _ (b9 (by rw[dD];omega));rename_i a8;clear hr a8;have a9:=sE O (xs++[x]);have a':=sE O xs;have ay:(dl xs).length=k:=by rw[dD,ab]
 rw[ay]at aa hc HL⊢;rw[al]at aa;clear ay;have HQ:dc _:=ai
 have ak:∀pi:Int,0<=pi->pi<=16777216->IntKind.u64.wrap (pi*wi)=pi*wi:=by
  rintro pi h1 h2;rcases hk with⟨_,_,rfl,_⟩|⟨_,_,rfl,_⟩ <;>(rw[cU];omega)
 have az:∀W1,Below (w.alloc Gh).heap.size (w.alloc Gh) W1->∃W2,dc ((W1.alloc (.cells #[.string s0,.string s1,.string s2] 143)).alloc (.cells #[.string s0,.string t1,.string t2] 143)=W2)/\VS w W2 b o B n O w.heap.size W1.heap.size (W1.heap.size+1) s0 s1 s2 s0 t1 t2/\W2.cell? ⟨W1.heap.size+1,1,none⟩=some (.string t1)/\W2.cell? ⟨W1.heap.size+1,2,none⟩=some (.string t2)/\
   dc (fx O (xs++[x])=0->∀V,Rd w V (dl Y)->bo prog 95 #[.pointer (some ⟨b,o,none⟩),V,.string ⟨x.toArray⟩] W2.drew λe w4=>e=.returned (.agg #[.int .u64 ((rl O x xs).1:Int),.int .u64 ((rl O x xs).2:Int)])/\
    Below w.heap.size w w4/\w4.cell? ⟨w.heap.size,0,none⟩=some (.int .u64 0)/\w4.cell? ⟨w.heap.size,1,none⟩=some (.int .u64 0)/\w4.frozen? ⟨w.heap.size,0,none⟩=false/\w4.frozen? ⟨w.heap.size,1,none⟩=false):=by
  intro W1 h;have U:=VN hB hC h s0 s1 s2 s0 t1 t2;refine⟨_,rfl,U,dn U.snd 1,dn U.snd 2,λhz V hV=>?_⟩;rw[ah hz];have af:=U.base.drew;refine(aj V _ af U.map (U.cnt.stay rfl) (hV.below af)).mono ?_;rintro e w4 ⟨rfl,ag⟩;have hh:=(ag.block w.heap.size (cC.1 U.zw).1).trans U.zw;exact⟨rfl,af.trans (ag.mono af.size),dn hh 0,dn hh 1,dO hh 0,dO hh 1⟩
 clear ah ai aj;rcases hk with⟨rfl,rfl,rfl,rfl,rfl,rfl⟩|⟨rfl,rfl,rfl,rfl,rfl,rfl⟩
 case' inl=>
  have aA:(1:Int)<=(c:Int):=by omega
  have am:∀V,(V=.slice (some ⟨ba,oa,none⟩) 0 0\/V=.slice (some ⟨ba,oa+1,none⟩) 0 (c-1))->Rd w V (dl []):=by
   rintro V (rfl|rfl);exact Rd.JI rfl (by unfold bn;omega);exact Rd.JI rfl (by omega)
 case' inr=>
  have aA:(2:Int)<=(c:Int):=by omega
  have am:∀V,V=.slice (some ⟨ba,oa+1,none⟩) 1 (c-1)->Rd w V (dl (xs.drop 1)):=by
   rintro V rfl;have:=HL.out.Fb 1 (by omega) (by omega) ab.symm;exact this
  have aI:c≠1:=by omega
 all_goals
  clear ab;go_enter func95,ntmps95;go_wp2_with fail;refine aa.mono ?_;rintro e W1 ⟨rfl,a5⟩;obtain⟨W2,a6,U,q1,q2,HC⟩:=az W1 a5;clear aa a5 az;go_wp2_with fail;rw[a6.out];clear a6;generalize W1.heap.size=g at *;have aK:=bm U.base hG;have aL:=U.map;have an:=(U.cnt.stay (w':=W2.drew) rfl).look ax;have ao:=(U.cnt.stay (w':=W2.drew.drew) rfl).look ax;have a7:=(U.cnt.stay (w':=W2.drew.drew) rfl).look HR;rw[al]at a7;rw[aw]at an ao;have f0:W2.cell? ⟨g,0,none⟩=some (.string s0):=dn U.fst 0;have f1:W2.cell? ⟨g,1,none⟩=some (.string s1):=dn U.fst 1;have f2:W2.cell? ⟨g,2,none⟩=some (.string s2):=dn U.fst 2;have q0:W2.cell? ⟨g+1,0,none⟩=some (.string s0):=dn U.snd 0;have r0:W2.cell? ⟨w.heap.size,0,none⟩=some (.int .u64 0):=dn U.zw 0;have r1:W2.cell? ⟨w.heap.size,1,none⟩=some (.int .u64 0):=dn U.zw 1;have z0:=dO U.zw;have HS:=U.base;clear U al aw;obtain⟨p,ap⟩:∃p,p=fx O (xs++[x]):=⟨_,rfl⟩;obtain⟨q,aq⟩:∃q,q=fx O xs:=⟨_,rfl⟩;rw[<-ap]at an ao a9;rw[<-aq]at a7 a';have ar:dc _:=ap;have aB:dc _:=aq;clear ap aq;obtain⟨pi,au⟩:∃pi:Int,pi=(p:Int):=⟨_,rfl⟩;rw[<-au]at an ao;have av:dc _:=au;have aC:0<=pi:=by omega
  have aD:pi<=16777216:=by omega
  have aM:=ak pi aC aD;clear ak;clear au;by_cases hz:pi=0
  .have ac:=HC.out (by rw[<-ar.out];have:=av.out;omega);subst hz;obtain⟨p1,ad⟩:∃p1,p1=(rl O x xs).1:=⟨_,rfl⟩;obtain⟨p2,ae⟩:∃p2,p2=(rl O x xs).2:=⟨_,rfl⟩;rw[<-ad,<-ae]at ac;have aE:dc _:=ad;have aF:dc _:=ae;clear ad ae;go_region;go_wp2_with fail
   all_goals
    refine(ac _ (am _ (by simp[*]))).mono ?_;rintro e w4 ⟨rfl,ag,aG,aH,aN,aO⟩;clear ac am;go_wp2;refine br (v:=.agg #[.int .u64 (p1:Int),.int .u64 (p2:Int)]) (by simp[bu,ck,go_sem,aG,aH]) rfl ⟨?_,?_⟩;rw[aE.out,aF.out];exact(ag.setCell (bM _) _).setCell (bM _) _
  have aP:(pi==0)=false:=by simpa using hz
  go_region;go_wp2_with fail;go_region;go_wp2;refine br (v:=.agg #[.int .u64 (pi*_),.int .u64 (q:Int)]) (by simp[bu,ck,go_sem,r0,r1];rfl) rfl ⟨?_,?_⟩;rw[HQ.out (by rw[<-ar.out];have:=av.out;omega),av.out,ar.out,aB.out];rfl;exact(HS.drew.drew.setCell (bM _) _).setCell (bM _) _
def PN(b o B n:Nat)(O:List (List Wd))(Y:Value)(u:Wd)(x:Wd)(w:World)(aa:w.cell? ⟨0,0,none⟩=some (.int .u64 4))(hG:w.cell? ⟨0,1,none⟩=some (.int .u64 10))(hB:w.cell? ⟨b,o,none⟩=some (.map (some B)))(hC:eJ w B n (fx O))(hl:Rd w Y (dl [u]))(hu:u≠[]/\u.length<=24)(hx:x≠[]/\x.length<=24)(U:gG O<=16777216) :
  bo prog 95 #[.pointer (some ⟨b,o,none⟩),Y,.string ⟨x.toArray⟩] w λe w'=>e=.returned (.agg #[.int .u64 ((rl O x [u]).1:Int),.int .u64 ((rl O x [u]).2:Int)])/\Below w.heap.size w w':=
 y7 b o B n O Y x w [u] [] 1 10 10 _ _ _ _ _ hG hB hC hl U (.inl ⟨rfl,rfl,rfl,rfl,rfl,rfl⟩) rfl rfl rfl ⟨by simp,by simpa using hu⟩ ⟨by simp,by simp[hu,hx]⟩ (λh=>by have h:fx O [u,x]=0:=h;simp[rl,h]) (λh=>by have h:fx O [u,x]≠0:=h;simp[rl,h])
  λV W h1 h2 h3 h4=>QA b o B n O V x W (bm h1 aa) h2 h3 h4 hx U
def TK(b o B n:Nat)(O:List (List Wd))(Y:Value)(u:Wd)(v:Wd)(x:Wd)(w:World)(aa:w.cell? ⟨0,0,none⟩=some (.int .u64 4))(ab:w.cell? ⟨0,1,none⟩=some (.int .u64 10))(hG:w.cell? ⟨0,2,none⟩=some (.int .u64 25))(hB:w.cell? ⟨b,o,none⟩=some (.map (some B)))(hC:eJ w B n (fx O))(hl:Rd w Y (dl [u,v]))(hu:u≠[]/\u.length<=24)(hv:v≠[]/\v.length<=24)(hx:x≠[]/\x.length<=24)(U:gG O<=16777216) :
  bo prog 95 #[.pointer (some ⟨b,o,none⟩),Y,.string ⟨x.toArray⟩] w λe w'=>e=.returned (.agg #[.int .u64 ((rl O x [u,v]).1:Int),.int .u64 ((rl O x [u,v]).2:Int)])/\Below w.heap.size w w':=
 y7 b o B n O Y x w [u,v] [v] 2 25 25 _ _ _ _ _ hG hB hC hl U (.inr ⟨rfl,rfl,rfl,rfl,rfl,rfl⟩) rfl rfl rfl ⟨by simp,by simp[hu,hv]⟩ ⟨by simp,by simp[hu,hv,hx]⟩ (λh=>by have h:fx O [u,v,x]=0:=h;simp[rl,h]) (λh=>by have h:fx O [u,v,x]≠0:=h;simp[rl,h])
  λV W h1 h2 h3 h4=>PN b o B n O V v x W (bm h1 aa) (bm h1 ab) h2 h3 h4 hv hx U
end
section
open Go.RowKit Go.Sort
def yx(x y:Nat)(w:World):bo prog 196 #[.int .u64 (x:Int),.int .u64 (y:Int)] w λe w'=>e=.returned (.int .i64 (Ad x y))/\w=w':=by
 unfold Ad;by_cases O:x<y
 .rw[if_pos O];have U:(x:Int)<(y:Int):=by omega
  clear O;go_enter func196,ntmps196;go_wp2;go_ret;exact⟨rfl,rfl⟩
 rw[if_neg O];by_cases W:y<x
 .go_wp2;go_ret;exact⟨rfl,rfl⟩
 go_wp2;go_ret;exact⟨rfl,rfl⟩
def E2(x y:Int)(g:Nat)(w:World)(Y:w.cell? ⟨g,0,none⟩=some (.int .i64 x))(h1:w.cell? ⟨g,1,none⟩=some (.int .i64 y)):bo prog 126 #[.slice (some ⟨g,0,none⟩) 2 2] w λe w'=>e=.returned (.int .i64 (if x≠0 then x else y))/\w=w':=by
 by_cases U:x=0
 .subst U;rw[if_neg (by simp)];by_cases O:y=0
  .subst O;go_enter func126,ntmps126;go_wp2;refine bv 3 ?_;rw[bs];go_wp2;rw[bs];go_wp2;rw[bs];go_wp2;go_ret;exact⟨rfl,rfl⟩
  have W:(y==0)=false:=by simpa using O
  go_enter func126,ntmps126;go_wp2;refine bv 2 ?_;rw[bs];go_wp2;rw[bs];go_wp2;go_ret;exact⟨rfl,rfl⟩
 go_wp2;refine bv 1 ?_;rw[bs];go_wp2;go_ret;exact⟨rfl,rfl⟩
def B9{w:World}{x y:Value}{t:bq}{g:Nat}(O:g=w.heap.size):(w.alloc (.cells #[x,y] t)).cell? ⟨g,0,none⟩=some x/\(w.alloc (.cells #[x,y] t)).cell? ⟨g,1,none⟩=some y:=by
 subst O;constructor;rw[cL _ _ _ _ rfl];rfl;rw[cL _ _ _ _ rfl];rfl
def OD(p q r t:Nat)(w:World)(hp:p<=419430400)(hq:q<=16777217)(hr:r<=419430400)(ht:t<=16777217) :
  bo prog 138 #[.agg #[.int .u64 (p:Int),.int .u64 (q:Int)],.agg #[.int .u64 (r:Int),.int .u64 (t:Int)]] w λe w'=>e=.returned (.int .i64 (Ad (p*t) (r*q)))/\∃k os,w'=grow (w.drewN k) os:=by
 have b1:p*t<=419430400*16777217:=bR hp ht;have b2:r*q<=419430400*16777217:=bR hr hq
 have U:∀W:World,bo prog 195 #[.int .u64 (p:Int),.int .u64 (t:Int)] W λe w'=>e=.returned (.tuple #[.int .u64 0,.int .u64 ((p*t:Nat):Int)])/\W=w':=λW=>by
  refine(Any.bits_Mul64 KP p t (by omega) (by omega) W).mono ?_;rintro e w' ⟨rfl,rfl⟩;rw[bQ (by omega),bP (by omega)];exact⟨rfl,rfl⟩
 have m2:∀W:World,bo prog 195 #[.int .u64 (r:Int),.int .u64 (q:Int)] W λe w'=>e=.returned (.tuple #[.int .u64 0,.int .u64 ((r*q:Nat):Int)])/\W=w':=λW=>by
  refine(Any.bits_Mul64 KP r q (by omega) (by omega) W).mono ?_;rintro e w' ⟨rfl,rfl⟩;rw[bQ (by omega),bP (by omega)];exact⟨rfl,rfl⟩
 generalize p*t=X at *;generalize r*q=Y at *;have c1:=λW=>yx 0 0 W;have c2:=λW=>yx X Y W;have e0:Ad 0 0=0:=rfl;rw[e0]at c1;go_enter func138,ntmps138;go_wp2_with fail;refine(U _).mono ?_;rintro e w' ⟨rfl,rfl⟩;go_wp2_with fail;refine(m2 _).mono ?_;rintro e w' ⟨rfl,rfl⟩;go_wp2_with fail;refine(c1 _).mono ?_;rintro e w' ⟨rfl,rfl⟩;go_wp2_with fail;refine(c2 _).mono ?_;rintro e w' ⟨rfl,rfl⟩;obtain⟨z,O⟩:∃z,z=Ad X Y:=⟨_,rfl⟩;rw[<-O];have HZ:dc _:=O;clear O c1 c2 U m2;go_wp2_with fail;refine(E2 0 z _ _ (B9 (by simp)).1 (B9 (by simp)).2).mono ?_;rintro e w' ⟨rfl,rfl⟩;go_wp2;go_ret;exact⟨eI (by rw[<-HZ.out]),0,_,by rw[cP,cP,cP,cQ,cQ];rfl⟩
def CL(w:World)(os:Array Obj)(a:Addr)(h:a.block<w.heap.size):(grow w os).cell? a=w.cell? a:=by
 have:(grow w os).heap[a.block]?=w.heap[a.block]?:=by
  unfold grow;simp[Array.getElem?_append,h]
 simp[World.cell?,this]
def kX(sc:Wd->Fr)(x:Wd):List Value:=[.string ⟨x.toArray⟩,.int .u64 ((sc x).1:Int),.int .u64 ((sc x).2:Int)]
def drew_drewN(w:World)(k:Nat):w.drew.drewN k=w.drewN (1+k):=by
 unfold World.drewN World.drew;rw[Nat.add_assoc]
open Go.Maps
def JO(b o B n:Nat)(O:List (List Wd))(vl:Value)(Y:List Wd)(x:Wd)(w:World)(hW:NL w)(hB:w.cell? ⟨b,o,none⟩=some (.map (some B)))(hC:eJ w B n (fx O))(hl:Rd w vl (dl Y))(ha:Y.length<=2)(U:∀y∈Y,y≠[]/\y.length<=24)(hx:x≠[]/\x.length<=24)(W:gG O<=16777216) :
  bo prog 95 #[.pointer (some ⟨b,o,none⟩),vl,.string ⟨x.toArray⟩] w λe w'=>e=.returned (.agg #[.int .u64 ((rl O x Y).1:Int),.int .u64 ((rl O x Y).2:Int)])/\Below w.heap.size w w':=by
 match Y,ha with
 |[],_=>exact QA b o B n O vl x w hW.1 hB hC hl hx W|[u],_=>exact PN b o B n O vl u x w hW.1 hW.2.1 hB hC hl (U u (by simp)) hx W|[u,v],_=>exact TK b o B n O vl u v x w hW.1 hW.2.1 hW.2.2 hB hC hl (U u (by simp)) (U v (by simp)) hx W|_::_::_::_,h=>simp at h
def jD(sc:Wd->Fr)(ws:List Wd):List Value:=ws.flatMap (kX sc)
def Ba(sc:Wd->Fr)(ws:List Wd)(x:Wd):jD sc (ws++[x])=jD sc ws++kX sc x:=by simp[jD]
def Ek(sc:Wd->Fr):∀(ws:List Wd)(i c:Nat)(h:i<ws.length),c<3->(jD sc ws)[i*3+c]?=(kX sc ws[i])[c]?:=by
 intro ws;induction ws with
 |nil=>intro i c h;simp at h|cons a l O=>
  intro i c h U;have e:jD sc (a::l)=kX sc a++jD sc l:=by simp[jD]
  rw[e]
  cases i with
  |zero=>rw[List.getElem?_append_left (by simp[kX];omega)];simp|succ i=>
   rw[List.getElem?_append_right (by simp[kX];omega)];have W:(kX sc a).length=3:=rfl;rw[W,show(i+1)*3+c-3=i*3+c by omega,O i c (by simpa using h) U];simp
def LD(sc:Wd->Fr)(x:Wd):∀v∈kX sc x,v.oneCell'=true:=by
 intro v O;simp[kX]at O;rcases O with rfl|rfl|rfl<;>rfl
def zS{w:World}{base e n m cap g:Nat}(sc:Wd->Fr){ws:List Wd}(h:w.ownsRow base e 3 (.slice (some ⟨g,0,none⟩) m cap) n (jD sc ws))(hn:n=ws.length):HoldsK (kX sc) 3 w g 0 ws.toArray:=by
 intro j hj;have U:=by simpa using hj
 have Y:j / 3<ws.length:=by omega
 have O:(jD sc ws)[j]?=some ((flatK (kX sc) 3 ws.toArray)[j]!):=by
  rw[get_flatK _ _ _ _ (by simpa using U)];have:=Ek sc ws _ (j % 3) Y (by omega);rw[show j / 3*3+j % 3=j by omega]at this;rw[this];have e1:ws.toArray[j / 3]! = ws[j / 3]:=by rw[getElem!_pos _ _ (by simpa using Y)];simp
  rw[e1];have hc:j % 3<(kX sc ws[j / 3]).length:=by simp[kX];omega
  rw[b9 hc,getElem!_pos (kX sc _) _ hc]
 rcases h.2 with⟨h0,_⟩|⟨g',aa,ab,he,_,hg,_,_,ac,W⟩
 simp at h0;obtain⟨⟨rfl,_⟩,_,rfl⟩:=he;refine⟨?_,?_⟩;rw[dn hg];rw[<-W,List.getElem?_take,if_pos (by omega)]at O;simpa using O;simp[World.frozen?,hg]
def EO{w0 w:World}{k blk off m:Nat}{enc:Wd->List Value}{d:Array Wd}{os:Array Obj}(h:Below w0.heap.size w0 w)(hb:w0.heap.size<=blk):Below w0.heap.size w0 (sortWorldK enc k w blk off m d os):=by
 have U:=h.size;refine⟨h.os,h.tape,h.output,?_,λj O=>?_⟩;unfold sortWorldK cS cT grow cR;simp;omega;rw[<-h.block j O];unfold sortWorldK cS cT grow cR;simp;rw[Array.getElem?_append_left (by simp;omega),cB,if_neg (by omega)]
end
section
open Go.RowKit Go.Sort
def ON(a b:Wd)(p q r t:Nat)(w:World)(hp:p<=419430400)(hq:q<=16777217)(hr:r<=419430400)(ht:t<=16777217) :
  bo prog 97 #[.agg #[.string ⟨a.toArray⟩,.int .u64 (p:Int),.int .u64 (q:Int)],.agg #[.string ⟨b.toArray⟩,.int .u64 (r:Int),.int .u64 (t:Int)]] w λe w'=>e=.returned (.int .i64 (if Ad (r*q) (p*t)≠0 then Ad (r*q) (p*t)else Lib.compareBytes a b))/\∃k os,w'=grow (w.drewN k) os:=by
 have h1:=λW=>OD r t p q W hr ht hp hq
 have h2:∀W:World,bo prog 139 #[.string ⟨a.toArray⟩,.string ⟨b.toArray⟩] W λe w'=>e=.returned (.int .i64 (Lib.compareBytes a b))/\W=w':=λW=>by
  refine(Any.strings_Compare Rk ⟨a.toArray⟩ ⟨b.toArray⟩ W).mono ?_;rintro e w' ⟨rfl,rfl⟩;exact⟨rfl,rfl⟩
 obtain⟨z,hz⟩:∃z,z=Ad (r*q) (p*t):=⟨_,rfl⟩;obtain⟨y,hy⟩:∃y,y=Lib.compareBytes a b:=⟨_,rfl⟩;rw[<-hz]at h1⊢;rw[<-hy]at h2⊢;obtain⟨zw,Y⟩:∃zw,zw=if z≠0 then z else y:=⟨_,rfl⟩
 rw[<-Y]
 have ac:∀(g:Nat)(W:World),W.cell? ⟨g,0,none⟩=some (.int .i64 z)->W.cell? ⟨g,1,none⟩=some (.int .i64 y)->bo prog 126 #[.slice (some ⟨g,0,none⟩) 2 2] W λe w'=>e=.returned (.int .i64 zw)/\W=w':=λg W k1 k2=>by
  rw[Y];exact E2 z y g W k1 k2
 clear hz hy Y;obtain⟨O,U⟩:∃O,O=(w.alloc (.cells #[.string ⟨a.toArray⟩,.int .u64 (p:Int),.int .u64 (q:Int)] 150)).alloc (.cells #[.string ⟨b.toArray⟩,.int .u64 (r:Int),.int .u64 (t:Int)] 150):=⟨_,rfl⟩
 have hA:∀j,O.cell? ⟨w.heap.size,j,none⟩=(#[Value.string ⟨a.toArray⟩,.int .u64 (p:Int),.int .u64 (q:Int)]:Array Value)[j]?:=λj=>by
  rw[U,World.cell?_alloc_past _ _ _ (by simp),cL _ _ _ _ rfl]
 have aa:∀j,O.cell? ⟨w.heap.size+1,j,none⟩=(#[Value.string ⟨b.toArray⟩,.int .u64 (r:Int),.int .u64 (t:Int)]:Array Value)[j]?:=λj=>by
  rw[U,cL _ _ _ _ (by simp)]
 have ad:O.heap.size=w.heap.size+2:=by rw[U];simp
 have ab:∃os,O=grow w os:=⟨_,by rw[U,cP,cP,cQ]⟩
 have ae:bo prog 138 #[.agg #[.int .u64 (r:Int),.int .u64 (t:Int)],.agg #[.int .u64 (p:Int),.int .u64 (q:Int)]] O.drew λe w1=>e=.returned (.int .i64 z)/\(∃k os,w1=grow (w.drewN k) os)/\w1.cell? ⟨w.heap.size,0,none⟩=some (.string ⟨a.toArray⟩)/\w1.cell? ⟨w.heap.size+1,0,none⟩=some (.string ⟨b.toArray⟩):=by
  refine(h1 O.drew).mono ?_;rintro e w1 ⟨rfl,k,os,rfl⟩;refine⟨rfl,?_,?_,?_⟩;obtain⟨af,ag⟩:=ab;refine⟨1+k,af++os,?_⟩;rw[ag,<-cQ,<-drew_drewN];rfl;rw[CL _ _ _ (by show w.heap.size<O.heap.size;omega)];exact hA 0;rw[CL _ _ _ (by show w.heap.size+1<O.heap.size;omega)];exact aa 0
 have a0:O.cell? ⟨w.heap.size,0,none⟩=some (.string ⟨a.toArray⟩):=hA 0;have a1:O.cell? ⟨w.heap.size,1,none⟩=some (.int .u64 (p:Int)):=hA 1;have a2:O.cell? ⟨w.heap.size,2,none⟩=some (.int .u64 (q:Int)):=hA 2;have b0:O.cell? ⟨w.heap.size+1,0,none⟩=some (.string ⟨b.toArray⟩):=aa 0;have b1:O.cell? ⟨w.heap.size+1,1,none⟩=some (.int .u64 (r:Int)):=aa 1;have b2:O.cell? ⟨w.heap.size+1,2,none⟩=some (.int .u64 (t:Int)):=aa 2;clear h1 hA aa ad ab;go_enter func97,ntmps97;go_wp2_with fail;rw[<-U];clear U
 go_region_law (first
  |(go_simp
    go_at_call 138;refine ae.mono ?_
    rintro e w1 ⟨rfl,ah,ai,aj⟩)
  |(go_simp
    go_at_call 139;refine(h2 _).mono ?_
    rintro e w' ⟨rfl,rfl⟩)
  |(go_simp
    go_at_call 126;refine(ac _ _ (B9 (by rfl)).1 (B9 (by rfl)).2).mono ?_
    rintro e w' ⟨rfl,rfl⟩))
 all_goals
  go_wp2;go_ret;obtain⟨k,os,rfl⟩:=ah;exact⟨rfl,k,_,by rw[cP,cQ]⟩
open Go.Maps
def Pp:(prog.info? 150).map (λi=>(i.zero,i.size,i.bytes))=some (some (.agg #[.string ⟨#[]⟩,.int .u64 0,.int .u64 0]),3,32):=by kernel_rfl
def LN(O:List (List Wd))(l:List Wd)(U:gG O<=16777216)(blk off size:Nat)(w:World):CmpLays prog 97 #[] (kX (AP O l)) 3 (Uz (AP O l)) blk off size w:=by
 intro m os W _ x y;have Y:=PM O l x;have hy:=PM O l y;exact ON x y _ _ _ _ _ (by omega) (by omega) (by omega) (by omega)
def LL(W:List (List Wd))(l:List Wd)(most:Nat)(kn:List Wd)(hk:kn.Perm (eV W))(ab:gG W<=16777216)(au:Option Addr)(cu:Nat)(w wr:World)
  (O:wr.ownsRow w.heap.size 150 3 (.slice au kn.length cu) kn.length (jD (AP W l) kn)) (hb:Below w.heap.size w wr) :
  bo prog 96 #[.slice au kn.length cu,.func (.func 97) #[] #[]] wr λe w2=>e=.returned (.tuple #[])/\Below w.heap.size w w2/\
   ∃d:List Wd,js W l most=d.take (min most kn.length)/\d.length=kn.length/\∀i(h:i<d.length),∃g,au=some ⟨g,0,none⟩/\w2.cell? ⟨g,i*3,none⟩=some (.string ⟨d[i].toArray⟩)/\(∃a,w2.cell? ⟨g,i*3+1,none⟩=some (.int .u64 a))/\(∃a,w2.cell? ⟨g,i*3+2,none⟩=some (.int .u64 a)):=by
 by_cases h0:kn=[];subst h0;have U:=AnyF.slices_SortFunc_none EU au cu (.func (.func 97) #[] #[]) wr;refine U.mono ?_;rintro e w2 ⟨rfl,rfl⟩;refine⟨rfl,hb,[],?_,rfl,nofun⟩;have ac:=List.Perm.eq_nil hk.symm;unfold js;rw[ac];simp[yZ]
 obtain⟨g,rfl⟩:∃g,au=some _:=by
  rcases O.2 with⟨he,hn⟩|⟨g,cap,ae,he,_⟩
  exact absurd (List.length_eq_zero_iff.1 (by simpa using hn)) h0;simp only[Value.slice.injEq]at he;exact⟨g,he.1⟩
 have aa:=O.lt g rfl
 have U:=AnyQ.slices_SortFunc EU 3 isAgg150 sizeOf150 _ (λ_=>rfl) (LD _) _ (RN W l) 97 _ g 0 cu _ wr
  (enters_of func97 (by kernel_rfl) rfl) (LN W l ab g 0 _ wr) (zS _ O rfl) aa.2 (by have h2:=hk.length_eq;have h3:=IX W _ (bM _);rw[List.take_length]at h3;simp;omega)
 refine U.mono ?_;rintro e w2 ⟨rfl,d',nq,os,hp,hs,rfl⟩;have ad:d'.size=kn.length:=by rw[hp.1];simp
 have hH:HoldsK (kX (AP W l)) 3 (sortWorldK (kX (AP W l)) 3 wr g 0 nq d' os) g 0 d':=by
  refine holdsK_grow _ _ _ _ _ _ _ ?_ (holdsK_putRowK _ _ _ _ _ _ _ (holdsK_ahead _ _ _ _ _ _ _ (zS _ O rfl)) hp.1);unfold cS cT cR;simp[Sort.ahead];exact aa.2
 refine⟨rfl,EO hb aa.1,d'.toList,?_,by simpa using ad,λi hi=>?_⟩;exact yT W l kn most d' hk hp hs;have Y:=by simpa using hi
 have g0:=(HoldsK.cell hH Y (c:=0) (by decide)).1;have g1:=(HoldsK.cell hH Y (c:=1) (by decide)).1;have g2:=(HoldsK.cell hH Y (c:=2) (by decide)).1;have e2:d'[i]! = d'.toList[i]:=by rw[getElem!_pos d' i Y];rfl
 rw[e2]at g0 g1 g2;rw[bS]at g0 g1 g2;exact⟨g,rfl,g0,⟨_,g1⟩,⟨_,g2⟩⟩
def QV{w:World}{x y z:Value}{t:bq}{g:Nat}(U:g=w.heap.size):uc (w.alloc (.cells #[x,y,z] t)) 3 (.slice (some ⟨g,0,none⟩) 1 1) 1 [x,y,z]:=by
 subst U;refine⟨some _,1,rfl,bM _,by unfold bn;omega,rfl,λj u O=>⟨w.heap.size,0,rfl,?_⟩⟩;match j,O with
 |0,O=>simpa using O|1,O=>simpa using O|2,O=>simpa using O|j+3,O=>simp at O
def O3(F:Nat->Prop)(b:Nat)(vB vS:Value)(Y:List (List Wd))(B n:Nat)(vK:Value)(kn l:List Wd)(vl:Value)(most:Nat)(w:World)(hW:NL w)(hP:PW w F b vB vS Y B n vK kn)
  (hl:Rd w vl (dl l)) (aC:∀y∈l,y≠[]/\y.length<=24) (aU:l.length<=24) (h1:1<=most) (aV:most<=20) (aw:gG Y<=16777216) :
  bo prog 68 #[.pointer (some ⟨b,2,none⟩),vl,.int .i64 (most:Int)] w λe w'=>∃v,e=.returned v/\w'.ownsRow w.heap.size 9 1 v (js Y l most).length (dl (js Y l most))/\Below w.heap.size w w':=by
 obtain⟨i0,hi,ax,ay,az⟩:=bx Pp;obtain⟨i9,aD,aE,aF,aG⟩:=bx uK;obtain⟨al,cl,rfl,jP,hml,_⟩:=id hl;rw[dD]at hl jP⊢;unfold bn at hml;obtain⟨aK,cK,rfl,aW⟩:=dN hP.row;have aQ:=hP.qg
 have aH:dc (∀i u,(dl kn)[i]?=some u->∃b off,aK=some ⟨b,off,none⟩/\w.cell? ⟨b,off+i,none⟩=some u):=by
  obtain⟨aX,aY,a5,_,_,aI⟩:=Rd.jk hP.row;simp only[Value.slice.injEq]at a5;obtain⟨rfl,_,rfl⟩:=a5;exact aI
 have ak:=dn hP.blk;obtain⟨k,hk⟩:∃k,k=l.length-2:=⟨_,rfl⟩;have aZ:max (0:Int) ((l.length:Int)-3+1)=(k:Int):=by omega
 have ba:(k:Int)<=(l.length:Int):=by omega
 have am:Rd w (.slice (if cl=k then al else di (λx=>x.add k) al) (l.length-k) (cl-k)) (dl (mU l)):=by
  unfold mU;rw[<-hk];exact hl.yI k (by omega)
 have aR:(mU l).length=l.length-k:=by unfold mU;rw[<-hk];simp
 generalize bc:(if cl=k then al else di (λx=>x.add k) al)=aa at am;obtain⟨W0,aJ,hown0,an⟩:=run_make_own (P:=prog) w w.heap.size 145 150 i0 _ 3 ci hi ax ay .i64 .i64 kn.length (by rw[az];omega) (by unfold bn;omega) (bM _);have hb0:Below w.heap.size w W0:=(cH _ w).grown an (bM _) (λk hk=>by cases hk);have a6:=bm hb0 (ak 3);have HP:dc _:=hP;clear hP hl hk;go_enter func68,ntmps68;go_wp2_with fail;go_loopw [7,31] (λu i wr=>∃j:Nat,j<=kn.length/\i=.int .i64 j/\wr.ownsRow w.heap.size 150 3 u j (jD (AP Y l) (kn.take j))/\Below w.heap.size w wr) (λ_ i _=>kn.length-(intOf i).toNat)
 case atStart=>exact⟨0,bN _,rfl,hown0,hb0⟩
 case round=>
  obtain⟨j,hj,rfl,O,hb⟩:=hrel;have HS:=hb.size;obtain⟨au,cu,rfl,bd⟩:=jo O;by_cases ao:j<kn.length
  .obtain⟨bK,oK,rfl,ac⟩:=aH.out j _ (gV kn j ao);have aB:=bm hb ac;have ad:kn[j]∈eV Y:=HP.out.perm.mem_iff.1 (bB ao)
   have hx:kn[j]≠[]/\kn[j].length<=24:=by
    obtain⟨t,ht,aL⟩:=(kR Y _).1 ad;exact HP.out.ok t ht _ aL
   have HE:dc (kn.take (j+1)=kn.take j++[kn[j]]):=b6 ao;have af:=JO b 2 B n Y _ (mU l) kn[j] wr (hW.below hb) (bm hb (ak 2)) (HP.out.cnt.below hb) (am.below hb) (MZ l) (λy hy=>aC y (bI hy)) hx aw;rw[<-IV Y l kn[j] ad]at af;clear ad ac;generalize kn[j]=x at *;obtain⟨p1,ap⟩:∃p1:Int,p1=((AP Y l x).1:Int):=⟨_,rfl⟩;obtain⟨p2,ar⟩:∃p2:Int,p2=((AP Y l x).2:Int):=⟨_,rfl⟩;rw[<-ap,<-ar]at af
   have HC:dc (kX (AP Y l) x=[.string ⟨x.toArray⟩,.int .u64 p1,.int .u64 p2]):=by
    show kX (AP Y l) x=_;unfold kX;rw[ap,ar]
   clear ap ar;go_wp2_with fail;refine af.mono ?_;rintro e w1 ⟨rfl,av⟩;clear af;have aS:=av.size;have a7:Below w.heap.size w w1:=hb.trans (av.mono HS);have ae:=ii O (λk hk=>av.block k (O.lt k hk).2);go_wp2_with (at_builtin;go_must (refine xC _ rfl _ _ 145 rfl w.heap.size 150 i0 _ 3 32 ci hi ax ay az rfl (by decide) _ _ _ rfl (ae.alloc _) _ 1 [.string ⟨x.toArray⟩,.int .u64 p1,.int .u64 p2] rfl ?cr ?c0 ?c1 ?c2 ?c3 ?_))
   case cr=>exact QV rfl
   case c0=>intro u hu;simp at hu;rcases hu with rfl|rfl|rfl<;>rfl
   case c1=>omega
   case c2=>unfold bn;omega
   case c3=>first|omega|(simp;omega)
   intro v' w2 hown2 a8 _;rw[<-HC.out,<-Ba,<-HE.out]at hown2;have hb2:Below w.heap.size w w2:=(a7.alloc (by omega) _).grown a8 (by simp;omega) (λk hk=>(ae.lt k hk).1);go_wp2_with fail;go_roundw
   case rel=>exact⟨j+1,by omega,by go_num,hown2,hb2⟩
   case measure=>simp[intOf];omega
  have ej:j=kn.length:=by omega
  subst ej;rw[bD (bM _)]at O;have W:=LL Y l most kn HP.out.perm aw au cu w wr O hb;clear ak a6 aJ hown0 an hb0 O hb am;obtain⟨m,hm⟩:∃m,m=min most kn.length:=⟨_,rfl⟩;have be:min (most:Int) (kn.length:Int)=(m:Int):=by omega
  have bf:(m:Int)<=(cu:Int):=by omega
  have bg:m<=20:=by omega
  rw[<-hm]at W;clear hm;go_wp2_with fail;refine W.mono ?_;rintro e w2 ⟨rfl,hb2,d,a9,bh,a'⟩;clear W;have aM:dc _:=a9;have aN:dc _:=a';have bi:m<=d.length:=by omega
  clear a9 a';have ag:=hb2.size;go_wp2_with fail;go_loopw [10,54] (λu i wx=>∃q:Nat,q<=m/\i=.int .i64 q/\wx.ownsRow w2.heap.size 9 1 u q (dl (d.take q))/\Below w2.heap.size w2 wx) (λ_ i _=>m-(intOf i).toNat)
  case atStart=>exact⟨0,bN _,rfl,cM _ _ _ _,cH _ _⟩
  case round=>
   obtain⟨q,hq,rfl,U,ab⟩:=hrel;have aO:=ab.size;have aA:Below w.heap.size w wr:=hb2.trans (ab.mono ag);obtain⟨aq,cq,rfl,bj⟩:=dN U;by_cases aT:q<m
   .obtain⟨g,rfl,ah,⟨y1,ai⟩,⟨y2,aj⟩⟩:=aN.out q (by omega);have an:=bm ab ah;have bk:=bm ab ai;have a8:=bm ab aj;have HE:dc (d.take (q+1)=d.take q++[d[q]'(by omega)]):=b6 (by omega);clear ah ai aj;generalize d[q]'(by omega)=x at *;go_wp2_with (at_builtin;go_must (refine fD _ rfl _ _ 31 rfl w2.heap.size 9 i9 (.string ⟨#[]⟩) 16 cc aD aE aF aG rfl _ _ _ rfl ((U.alloc _).alloc _) ⟨wr.heap.size+1,0,none⟩ (.string ⟨x.toArray⟩) rfl ?c0 rfl ?c1 ?c2 ?c3 ?_))
    case c0=>exact LB (by simp)
    case c1=>omega
    case c2=>unfold bn;omega
    case c3=>first|omega|(simp;omega)
    intro v' w4 hown4 aP _;rw[<-nf,<-HE.out]at hown4;have hb4:Below w2.heap.size w2 w4:=((ab.alloc aO _).alloc (by simp;omega) _).grown aP (by simp;omega) (λk hk=>(U.lt k hk).1);go_wp2_with fail;go_roundw
    case rel=>exact⟨q+1,by omega,by go_num,hown4,hb4⟩
    case measure=>simp[intOf];omega
   have eq:q=m:=by omega
   subst eq;go_wp2;go_ret;refine⟨_,rfl,?_,aA⟩;rw[aM.out];have:(d.take q).length=q:=by simp;omega
   rw[this];exact jW U ag
end
section
open Go.RowKit Go.Maps
def OG(l:List UInt8):∀x∈iQ l,x≠[]/\x.length<=l.length:=by
 intro x U;obtain⟨i,hi,rfl⟩:=bF.1 U;obtain⟨W,h2⟩:=List.mem_filter.1 hi;have O:=List.mem_range.1 W;unfold gI at h2;simp only[da]at h2;unfold vo;refine⟨?_,?_⟩;rw[List.drop_eq_getElem_cons O,List.takeWhile_cons]
 have:fu l[i]=true:=by
  have:=h2.1;rw[b7,b9 O]at this;exact this
 rw[this];simp;have:=(List.takeWhile_sublist (p:=fu) (l:=l.drop i)).length_le;simp at this;omega
def wJ(s:ByteArray)(O:eA s.data.toList=true):(∀x∈iQ (dX s.data.toList),x≠[]/\x.length<=24)/\(iQ (dX s.data.toList)).length<=24:=by
 have U:=by simp only[eA,da,decide_eq_true_eq]at O;exact O.1
 constructor;intro x W;have:=OG _ x W;rw[fH]at this;exact⟨this.1,by omega⟩;have:=Ko (dX s.data.toList) (dX s.data.toList).length;rw[fH]at this;unfold iQ;rw[fH];omega
def PE(w:World)(F:Nat->Prop)(b:Nat)(O:List (List Wd)):Prop:=(∀k,F k->k<w.heap.size)/\∃vB vS B n vK kn,PW w F b vB vS O B n vK kn
def PW.stay{w w':World}{F:Nat->Prop}{b:Nat}{vB vS:Value}{O:List (List Wd)}{B n:Nat}{vK:Value}{kn:List Wd}(h:PW w F b vB vS O B n vK kn)(hb:∀k,F k->w'.heap[k]?=w.heap[k]?):PW w' F b vB vS O B n vK kn where
 blk:=by rw[hb b h.fb];exact h.blk
 fb:=h.fb;fB:=h.fB;cnt:=h.cnt.stay (hb B h.fB);room:=h.room;row:=eH h.row (λk U=>hb k (h.lr k U));lr:=h.lr;perm:=h.perm;ok:=h.ok;qg:=h.qg
def Q6(w:World):bo prog 64 #[] w λe w'=>∃B:Nat,e=.returned (.agg #[.map (some B),.slice none 0 0])/\w.heap.size<=B/\eJ w' B 0 (λ_=>0)/\Below w.heap.size w w':=by
 have O:=@run_makeMap prog;go_enter func64,ntmps64;go_wp2;refine br (v:=.agg #[.map (some (w.heap.size+1)),.slice none 0 0]) (by simp[bu,results64,go_sem]) rfl ⟨_,rfl,by omega,?_,((cH ..).alloc (bM _) _).alloc (by simp) _⟩;have h:=eJ.made (w.alloc (.cells #[.map (some (w.heap.size+1)),.slice none 0 0] 88));have e:(w.alloc (.cells #[.map (some (w.heap.size+1)),.slice none 0 0] 88)).heap.size=w.heap.size+1:=by simp
 rw[e]at h;exact h
def Gy(most:Int)(w:World):bo prog 47 #[.int .i64 most] w λe w'=>e=.returned (.bool (decide (1<=most/\most<=20)))/\w=w':=by
 by_cases O:1<=most
 .by_cases U:most<=20
  .rw[decide_eq_true ⟨O,U⟩];go_wp2;go_ret;exact⟨eO (by simp),rfl⟩
  rw[decide_eq_false _];go_wp2;go_ret;exact⟨eO (by simp),rfl⟩
 rw[decide_eq_false (λh=>O h.1)];go_wp2;go_ret;exact⟨eO (by simp),rfl⟩
def F0(w:World)(F:Nat->Prop)(b:Nat)(Y:List (List Wd))(s:ByteArray)(most:Int)(hW:NL w)(hP:PE w F b Y)(hB:gG Y<=16777216)(hs:s.size<=bn) :
  bo prog 35 #[.pointer (some ⟨b,0,none⟩),.string s,.int .i64 most] w λe w'=>∃v,e=.returned (.tuple #[v,.int .i64 (vr Y s.data.toList most).2])/\
   w'.ownsRow w.heap.size 9 1 v (vr Y s.data.toList most).1.length (dl (vr Y s.data.toList most).1)/\Below w.heap.size w w':=by
 have hT:=Gy most w;by_cases h:most<1\/20<most
 .have e:vr Y s.data.toList most=([],3):=by unfold vr;rw[if_pos h]
  rw[e];rw[decide_eq_false (by omega)]at hT;clear h e;go_enter cA,cz;go_wp2_with fail;refine hT.mono ?_;rintro e w' ⟨rfl,rfl⟩;go_wp2;go_ret2;exact⟨_,rfl,cM _ _ _ _,cH _ _⟩
 rw[decide_eq_true (by omega)]at hT;have hY:=rI s w hs;by_cases hq:eA s.data.toList=true
 .rw[hq]at hY;obtain⟨m,rfl⟩:∃m:Nat,most=(m:Int):=⟨most.toNat,by omega⟩;have e:vr Y s.data.toList (m:Int)=(js Y (iQ (dX s.data.toList)) m,0):=by unfold vr;rw[if_neg h,if_pos hq];rfl
  rw[e];obtain⟨ae,af⟩:=wJ s hq;have ag:=xi s w.drew hq;have aj:1<=m:=by omega
  have ak:m<=20:=by omega
  clear h e hq;generalize iQ (dX s.data.toList)=l at *;obtain⟨hF,vB,vS,B,n,vK,kn,ah⟩:=hP
  have ai:bo prog 67 #[.string s] w.drew λe w1=>∃a c,e=.returned (.slice a l.length c)/\Below w.heap.size w w1/\
    bo prog 68 #[.pointer (some ⟨b,2,none⟩),.slice a l.length c,.int .i64 (m:Int)] w1 λe w2=>∃a' c',e=.returned (.slice a' (js Y l m).length c')/\w2.ownsRow w.heap.size 9 1 (.slice a' (js Y l m).length c') (js Y l m).length (dl (js Y l m))/\Below w.heap.size w w2:=by
   refine ag.mono ?_;rintro e w1 ⟨v,rfl,aa,O⟩;have ab:w1.ownsRow w.heap.size 9 1 v l.length (dl l):=aa;have W:Below w.heap.size w w1:=⟨O.os,O.tape,O.output,O.size,O.block⟩;clear aa O;obtain⟨a,c,rfl,_⟩:=dN ab;refine⟨a,c,rfl,W,?_⟩;refine(O3 F b vB vS Y B n vK kn l _ m w1 (hW.below W) (ah.stay (λk hk=>W.block k (hF k hk))) (Rd.jk ab) ae af aj ak hB).mono ?_;rintro e w2 ⟨v2,rfl,U,ac⟩;obtain⟨a',c',rfl,_⟩:=dN U;exact⟨a',c',rfl,jW U W.size,W.trans (ac.mono W.size)⟩
  clear ag ae af ah;go_enter cA,cz;go_wp2_with fail;refine hT.mono ?_;rintro e w' ⟨rfl,rfl⟩;go_wp2_with fail;refine hY.mono ?_;rintro e w' ⟨rfl,rfl⟩;clear hT hY;go_wp2_with fail
  go_region_law (first
   |(go_simp
     go_at_call 67;refine ai.mono ?_
     rintro e w1 ⟨a,c,rfl,W,ad⟩)
   |(go_simp
     go_at_call 68;refine ad.mono ?_
     rintro e w2 ⟨a',c',rfl,U,ac⟩))
  all_goals
   go_wp2;go_ret2;exact⟨_,rfl,U,ac⟩
 have al:eA s.data.toList=false:=by simpa using hq
 rw[al]at hY;have e:vr Y s.data.toList most=([],2):=by unfold vr;rw[if_neg h,if_neg hq]
 rw[e];clear h e hq;go_enter cA,cz;go_wp2_with fail;refine hT.mono ?_;rintro e w' ⟨rfl,rfl⟩;go_wp2_with fail;refine hY.mono ?_;rintro e w' ⟨rfl,rfl⟩;go_wp2;go_ret2;exact⟨_,rfl,cM _ _ _ _,cH _ _⟩
variable {kl:Lit} {r:Nat} {e t:bq} {key:Value} {w':World}
structure FN(P:Program)(k:bq)(D:DataW Value)(l:List (Value×Value)):Prop where
 nodup:(l.map Prod.fst).Nodup
 ok:∀p∈l,∃kl,bt P k p.1=some kl
 size:dg D=l.length
 has:∀key kl,bt P k key=some kl->(dd D kl=true↔∃p∈l,p.1=key)
 at_:∀p∈l,∀kl,bt P k p.1=some kl->∀z,D.atKey kl z=.held p.2
def jl(P:Program)(k:bq)(w:World)(B:Nat)(l:List (Value×Value)):Prop:=∃D:DataW Value,w.ownsMap P k lF B l.length D/\FN P k D l
def gp(P:Program)(k:bq)(w:World)(B r:Nat)(l rest:List (Value×Value)):Prop:=
 (rest.map Prod.fst).Nodup/\(∀p∈rest,p∈l)/\∃D left cnt,w.ranges P k lF B r l.length D left cnt/\FN P k D l/\∀key kl,bt P k key=some kl->(left kl=true↔∃p∈rest,p.1=key)
section
variable {P:Program} {k:bq} {w:World} {B:Nat} {l:List (Value×Value)}
def FN.perm{D:DataW Value}{m:List (Value×Value)}(h:FN P k D l)(O:l.Perm m):FN P k D m where
 nodup:=(O.map Prod.fst).nodup_iff.1 h.nodup
 ok:=λp hm=>h.ok p (O.mem_iff.2 hm);size:=by rw[h.size,O.length_eq]
 has:=λkey kl U=>(h.has key kl U).trans ⟨λ⟨p,a,b⟩=>⟨p,O.mem_iff.1 a,b⟩,λ⟨p,a,b⟩=>⟨p,O.mem_iff.2 a,b⟩⟩;at_:=λp hm=>h.at_ p (O.mem_iff.2 hm)
def jl.perm{m:List (Value×Value)}(h:jl P k w B l)(O:l.Perm m):jl P k w B m:=by
 obtain⟨D,U,W⟩:=h;exact⟨D,by rw[<-O.length_eq];exact U,W.perm O⟩
def jl.lt(h:jl P k w B l):B<w.heap.size:=by
 obtain⟨D,O,_⟩:=h;exact O.lt
def jl.stay(h:jl P k w B l)(hb:w'.heap[B]?=w.heap[B]?):jl P k w' B l:=by
 obtain⟨D,⟨es,clock,O,U⟩,W⟩:=h;exact⟨D,⟨es,clock,hb.trans O,U⟩,W⟩
def jl.below(h:jl P k w B l)(hb:Below w.heap.size w w'):jl P k w' B l:=h.stay (hb.block B h.lt)
def jl.made(w:World):jl P k (w.alloc (.map #[] 0)) w.heap.size []:=
 ⟨.map [],cN ..,⟨List.Pairwise.nil,nofun,rfl,λ_ _ _=>⟨λh=>(by simp[dd]at h),nofun⟩,nofun⟩⟩
def jl.put(h:jl P k w B l)(K:Keyed P k)(ht:P.underlying t=some (.map k e))(hn:l.length<bn)(gu:bt P k key=some kl)(O:∀p∈l,p.1≠key)(v:Value) :
  ∃w',(bW t (.map (some B)) key v).run P w=.ok () w'/\jl P k w' B (l++[(key,v)])/\w.grownBy w' (some B)/\w'.heap.size=w.heap.size:=by
 obtain⟨D,h1,Y⟩:=h;obtain⟨w',hr,ho,aa⟩:=h1.store K ht hn gu (d:=.held v) (ps:=[]) (val:=v) rfl;have hT:=h1.tidy K
 have ad:dd D kl=false:=by
  cases hh:dd D kl with
  |false=>rfl|true=>
   obtain⟨p,U,e⟩:=(Y.has key kl gu).1 hh;exact absurd e (O p U)
 have ab:dg (D.put kl (.held v))=(l++[(key,v)]).length:=by
  rw[size_put hT,ad,Y.size];simp
 refine⟨w',hr,⟨_,by rw[<-ab];exact Ak ho,⟨?_,?_,ab,?_,?_⟩⟩,aa.grown,?_⟩;rw[List.map_append,bL,List.map_nil,List.nodup_append];refine⟨Y.nodup,by simp,?_⟩;intro a ha b hb;simp only[bA]at hb;subst hb;obtain⟨p,U,rfl⟩:=bF.1 ha;exact O p U;intro p U;rcases bC.1 U with h|h
 exact Y.ok p h;simp only[bA]at h;subst h;exact⟨kl,gu⟩;intro y ly hy;by_cases e:ly=kl;subst e;rw[has_put_same h1.isMap (K.key gu)];exact⟨λ_=>⟨(key,v),by simp,K.inj gu hy⟩,λ_=>rfl⟩;rw[has_put_other e,Y.has y ly hy];constructor;rintro⟨p,U,e⟩;exact⟨p,List.mem_append_left _ U,e⟩;rintro⟨p,U,e2⟩;rcases bC.1 U with h|h
 exact⟨p,h,e2⟩;simp only[bA]at h;subst h;rw[<-e2,gu]at hy;exact absurd (by simpa using hy.symm) e;intro p U lp W z;rcases bC.1 U with h|h
 have ae:lp≠kl:=λe=>by subst e;exact O p h (K.inj W gu)
 rw[de ae];exact Y.at_ p h lp W z;simp only[bA]at h;subst h;rw[gu]at W;simp only[cO]at W;subst W;rw[df h1.isMap (K.key gu)];obtain⟨es,clock,af,ac,_,rfl⟩:=aa;simp[ChangeMaps.setBlock]
def gp.owns{rest:List (Value×Value)}(h:gp P k w B r l rest):jl P k w B l:=by
 obtain⟨_,_,D,left,cnt,O,U,_⟩:=h;exact⟨D,O.owns,U⟩
def gp.lt{rest:List (Value×Value)}(h:gp P k w B r l rest):r<w.heap.size:=by
 obtain⟨_,_,D,left,cnt,O,U,_⟩:=h;exact O.lt
def gp.stay{rest:List (Value×Value)}(h:gp P k w B r l rest)(U:w'.heap[B]?=w.heap[B]?)(W:w'.heap[r]?=w.heap[r]?):gp P k w' B r l rest:=by
 obtain⟨a,b,D,left,cnt,⟨es,clock,O,seen,c0,g1,Y,g3,g4,g5,g6⟩,h2,h3⟩:=h;exact⟨a,b,D,left,cnt,⟨es,clock,O,seen,c0,U.trans g1,Y,g3,g4,W.trans g5,g6⟩,h2,h3⟩
def jl.range(h:jl P k w B l)(K:Keyed P k)(U:P.underlying t=some (.map k e)) :
  ∃w',(Instr.range t (.map (some B))).run P w=.ok (.pointer (some ⟨w.heap.size,0,none⟩)) w'/\gp P k w' B w.heap.size l l/\w.grownBy w' none/\w'.heap.size=w.heap.size+1:=by
 obtain⟨D,W,O⟩:=h;obtain⟨w',Y,r1,r2,r3⟩:=W.range K U;exact⟨w',Y,⟨O.nodup,λ_ h=>h,D,_,_,r1,O,O.has⟩,r2,r3⟩
def gp.next{rest:List (Value×Value)}(h:gp P k w B r l rest)(K:Keyed P k)(ty:bq) :
  (rest=[]/\(cb (.pointer (some ⟨r,0,none⟩)) false ty).run P w=.ok (.tuple #[.bool false]) w)\/
  ∃p O w',rest.Perm (p::O)/\(cb (.pointer (some ⟨r,0,none⟩)) false ty).run P w=.ok (.tuple #[.bool true,p.1,p.2]) w'/\gp P k w' B r l O/\w'.rangeLeft B r<w.rangeLeft B r/\
   w.grownBy w' (some r)/\w'.heap.size=w.heap.size/\(ca (.pointer (some ⟨r,0,none⟩))).run P w'=.ok (.tuple #[p.1,p.2]) w':=by
 obtain⟨hn,U,D,left,cnt,h1,h2,h3⟩:=h;rcases h1.next K ty with⟨_,hl,hr⟩|⟨key,v,kl,y,w',ab,gu,ag,hv,ah,hr,ac,ai,hg,hs,aj⟩
 left;refine⟨?_,hr⟩
 cases rest with
 |nil=>rfl|cons p rest=>
  obtain⟨kl,ak⟩:=h2.ok p (U p (by simp));have:=(h3 _ kl ak).2 ⟨p,by simp,rfl⟩;rw[hl kl]at this;cases this
 right;obtain⟨p,hp,al⟩:=(h3 key kl gu).1 ag;subst al
 have am:=by
  have e1:=h2.at_ p (U p hp) kl gu (.held v);rw[ah]at e1;simp only[lF,cO]at hv;rw[<-hv]at e1;simpa using e1
 subst am;obtain⟨x,z,rfl⟩:=List.append_of_mem hp;have W:(x++p::z).Perm _:=List.perm_middle;have aa:=(W.map _).nodup_iff.1 hn;rw[bL,List.nodup_cons]at aa;refine⟨p,x++z,w',W,hr,⟨aa.2,λq hq=>U q (W.mem_iff.2 (bJ _ hq)),D,_,ab,ac,h2,λad ae Y=>?_⟩,?_,hg,hs,aj⟩;rw[da,h3 ad ae Y];constructor;rintro⟨⟨q,hq,e⟩,af⟩;rcases List.mem_cons.1 (W.mem_iff.1 hq)with rfl|hq
 rw[e,Y]at gu;simp only[cO]at gu;subst gu;rw[WideAt.sameKey_self (K.key Y)]at af;cases af;exact⟨q,hq,e⟩;rintro⟨q,hq,e⟩;refine⟨⟨q,W.mem_iff.2 (bJ _ hq),e⟩,?_⟩
 have:ae≠kl:=λe2=>by
  subst e2;have:=K.inj Y gu;exact aa.1 (bF.2 ⟨q,hq,e.trans this⟩)
 rw[sameKey_ne this];rfl;rw[ac.left_eq,h1.left_eq];exact ai
end
section
variable {P:Program} {k:bq} {B:Nat} {l:List (Value×Value)} (w:World) {ops:Array Oper} {rest:List Oper} {o:Oper} {a:Act} {Q:Exit->Act->World->Prop}
def B5(Y:o.guard=none)(m:Operand)(t:bq)(U:o.op=Op.range t m)(e:bq)(K:Keyed P k)(ht:P.underlying t=some (.map k e))
  (hm:a.eval m=.map (some B)) (h:jl P k w B l)
  (hK:∀w',gp P k w' B w.heap.size l l->w.grownBy w' none->w'.heap.size=w.heap.size+1->bw P ops Q rest (a.put o.dst (.pointer (some ⟨w.heap.size,0,none⟩))) w') :
  bw P ops Q (o::rest) a w:=by
 refine bz Y λK' W=>?_;obtain⟨w',O,r1,r2,r3⟩:=h.range K ht;unfold Oper.wp;simp[b4,U,hm,O,cG];exact W _ _ (hK w' r1 r2 r3)
def E5(hg:o.guard=none)(it:Operand)(Y:o.op=Op.next it false)(K:Keyed P k)(r:Nat)(left:List (Value×Value))
  (aa:a.eval it=.pointer (some ⟨r,0,none⟩)) (h:gp P k w B r l left)
  (W:left=[]->bw P ops Q rest (a.put o.dst (.tuple #[.bool false])) w)
  (hMore:∀p O w',left.Perm (p::O)->gp P k w' B r l O->w'.rangeLeft B r<w.rangeLeft B r->w.grownBy w' (some r)->w'.heap.size=w.heap.size->(ca (.pointer (some ⟨r,0,none⟩))).run P w'=.ok (.tuple #[p.1,p.2]) w'->
    bw P ops Q rest (a.put o.dst (.tuple #[.bool true,p.1,p.2])) w') :
  bw P ops Q (o::rest) a w:=by
 refine bz hg λK' ab=>?_;unfold Oper.wp;rcases h.next K o.type with⟨h0,U⟩|⟨p,O,w',hp,U,ac,ad,ae,af,ag⟩
 simp[b4,Y,aa,U,cG];exact ab _ _ (W h0);simp[b4,Y,aa,U,cG];exact ab _ _ (hMore p O w' hp ac ad ae af ag)
def EL(hg:o.guard=none)(m x v:Operand)(t:bq)(W:o.op=Op.mapUpdate t m x v)(e:bq)(K:Keyed P k)(ht:P.underlying t=some (.map k e))
  (hm:a.eval m=.map (some B)) (h:jl P k w B l) (hn:l.length<bn) (gu:bt P k key=some kl) (O:∀p∈l,p.1≠key) (hx:a.eval x=key) (u:Value) (hv:a.eval v=u)
  (hK:∀w',jl P k w' B (l++[(key,u)])->w.grownBy w' (some B)->w'.heap.size=w.heap.size->bw P ops Q rest (a.put o.dst undef) w') :
  bw P ops Q (o::rest) a w:=by
 refine bz hg λK' Y=>?_;obtain⟨w',U,r1,r2,r3⟩:=h.put K ht hn gu O u;unfold Oper.wp;simp[b4,W,hm,hx,hv,U,cG];exact Y _ _ (hK w' r1 r2 r3)
end
def QQ(a b:Nat):Value:=.agg #[.int .i64 (a:Int),.int .i64 (b:Int)]
def TH:(match prog.underlying 170 with|some (.array _ _)|some (.struct _)=>true|_=>false)=true:=by rw[ch]
def UM:170<prog.types.size:=of_decide_eq_true (by kernel_rfl)
def D5:Keyed prog 170:=Keyed.of_law (b5 Tryz.p9 (m:=2) (by omega) UM (by kernel_rfl) TH)
def Li:prog.cellsOf 170=2:=by kernel_rfl
def PY:prog.cellsOf 3=1:=by kernel_rfl
def N3:prog.keyType 170=true:=by kernel_rfl
def Gq(d:Nat)(n:Nat)(O:n<4611686018427387904):prog.keyLits (d+1) 3 [.int .i64 (n:Int)]=some [.int .i64 (n:Int)]:=by
 unfold db;simp[cg,Lit.wf,cX,cY,cW,cV];omega
def T3(a b:Nat)(O:a<4611686018427387904)(hb:b<4611686018427387904):∃l,bt prog 170 (QQ a b)=some l:=by
 obtain⟨d,U⟩:=Lz;unfold bt QQ;rw[N3,U];have W:(Value.agg #[.int .i64 a,.int .i64 b]).formed prog 170=true:=by simp[dk,ch,Li]
 rw[W];unfold db;simp[ch,Li,PY,dm,Gq d a O,Gq d b hb]
end
end Go.Proofs.YtocbogeoffeolaaGreatDoor
