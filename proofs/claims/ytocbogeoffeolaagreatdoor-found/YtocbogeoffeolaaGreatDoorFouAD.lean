import Derived.Test.YtocbogeoffeolaaGreatDoorFouAC
import Derived.Shelf.Strconv.Clone
import Derived.Shelf.Sort.Plain
import Derived.Shelf.Slices.In.SortNone
import Derived.Lib.AppendStr
import Derived.Sort.OwnSorted
import Derived.Laws.CopyOwn
set_option linter.all false
set_option maxHeartbeats 8000000
set_option maxRecDepth 1000000
open List renaming length_append->cc,getElem_mem->ch,length_take->cp,getElem?_append_left->cx,getElem?_eq_getElem->dd,take_succ_eq_append_getElem->de,getElem?_append_right->df,getElem?_take->dg,length_drop->di,length_map->dj,getD_eq_getElem?_getD->dk,append_assoc->dm,mem_map->dr,append_nil->dt,getElem?_map->ee,flatMap_cons->ef,mem_of_mem_drop->eg,flatMap_append->ei,map_cons->ej,map_toArray->ek,flatMap_nil->eq,take_of_length_le->er,map_nil->et,getElem_cons_zero->ev,getElem?_toArray->ex,take_succ_cons->ez,filter_sublist->e0,mem_nil_iff->e6,length_nil->e8,pairwise_iff_getElem->fa,mem_cons->fd,length_eq_zero_iff->ff,getElem_cons_succ->fk,drop_eq_nil_of_le->fm,take_append_drop->fs,drop_succ_cons->ft,mem_cons_self->f',getElem?_drop->ga,pairwise_map->gc,take_prefix->gd,length_cons->ge,nil_prefix->gg,mem_filter->gl,length->go
open Go renaming cell_later->gt,maxLen->gv,Calls->g5,wp_region_held->g6,TypeId->g7,info_parts->g8,wpAnyH_done->g9,setRow_heap->ha,wpOp_step->hw,resolve->h7,wpList->h8,heap_alloc_new->h9,execOp->hI,wpList_plain->hJ,setRow_self->hQ,wpAnyH_all->hU
open Nat renaming lt_of_lt_of_le->hV,le_refl->hX,zero_le->hY,min_eq_left->hZ,le_trans->ie,add_sub_cancel_left->ip,add_zero->iv,zero_mul->i6,zero_add->i7
open Go.Proofs.Tryz renaming underlying60->i8,underlying31->i',underlying9->jt,zeroValue9->j1,underlying85->j2,underlying5->j3,underlying4->j4,underlying3->j',underlying0->ka,zeroValue5->kb,zeroValue4->kc,zeroValue3->kd,zeroValue0->ke,ntmps38->kf,ntmps29->kj,ntmps128->kk,func38->kl,func29->ko,underlying292->kr,underlying276->ks,underlying272->kt,underlying239->kv,underlying229->k0,underlying226->k3,underlying222->k4,underlying221->k5,underlying212->kB,underlying190->kG,underlying184->kN,underlying141->kT,zeroValue292->kW,zeroValue276->la,zeroValue272->lc,zeroValue229->ld,zeroValue226->lf,zeroValue222->lk,zeroValue221->lo,zeroValue212->lp,zeroValue184->ls,zeroValue141->lv,sizeOf9->lw,sizeOf5->lx,sizeOf4->ly,sizeOf3->l0,sizeOf0->l4,ntmps39->mb,func128->md,isAgg9->mi,isAgg5->mj,isAgg4->mp,isAgg3->mr,isAgg0->ms,func39->mv
open Go.RowKit renaming Hid->mx
open Go.RowKit.Below renaming refl->m0,heap_setCell->m1,heap_alloc->m2
open Array renaming getElem?_eq_some_iff->m3,getElem?_toList->m4,getElem?_modify->m5
open Go.Oper renaming wp->m6
open Go.Value.slice renaming injEq->m7
open Option.some renaming injEq->m8
open Go.World renaming ownsRow_nil->m9,cell?_alloc_at->m',setCell->nc,cell?->ne
open Go.IntKind renaming wrap_i64->ng
open Go.Value renaming oneCell'->nl,ownBlock->no
open Go.Builtin renaming zeroCells->nr,append_->nv,clear_->nw,copy_->n0
open Go.Op renaming bytesLess->n3
open Go.Sort renaming ahead->n7,alloc_eq_grow->n8,mapBlock->oa,putRowK->od,putRow->oi
open Go.Sem renaming run_pure->oj,run_bind->on
open Go.Result renaming andThen_ok->oo
open Go.Proofs renaming sortWorldK->ot
open Go.Sort.HoldsK renaming cell->ov
open Go.Addr.mk renaming injEq->o0
open List.Pairwise renaming sublist->o1,imp->o2
open List.Perm renaming refl->o3,eq_of_pairwise->o4
namespace Go.Proofs.YtocbogeoffeolaaGreatDoor
open Go.Proofs.Tryz
section
open Go.Shelf
def Et:Go.Shelf.Ren:=⟨fun|316=>90|n=>n,fun|9=>9|3=>3|4=>4|37=>60|0=>0|127=>187|5=>5|n=>n,fun|n=>n⟩
theorem Q':Go.Proofs.LaysM.n316 prog Et:={
 mixed:=by kernel_rfl
 f316:=func90.trans (congrArg some (by kernel_rfl)),t0:=ka,a0:=ms,z0:=l4,v0:=ke,t3:=j',a3:=mr,z3:=l0,v3:=kd,t4:=j4,a4:=mp,z4:=ly,v4:=kc,t9:=jt,a9:=mi,z9:=lw,v9:=j1,t37:=i8,a37:=isAgg60,z37:=sizeOf60,v37:=zeroValue60,t127:=underlying187,a127:=isAgg187,z127:=sizeOf187,v127:=zeroValue187,t5:=j3,a5:=mj,z5:=lx,v5:=kb,i0:=by kernel_rfl
 i3:=by kernel_rfl
 i4:=by kernel_rfl
 i5:=by kernel_rfl
 i9:=by kernel_rfl
 i37:=by kernel_rfl
 i127:=by kernel_rfl}
def Ew:Go.Shelf.Ren:=⟨fun|190=>162|125=>125|258=>217|128=>172|129=>173|302=>243|303=>244|304=>245|305=>246|306=>247|307=>248|308=>249|309=>250|310=>251|333=>271|329=>219|330=>220|334=>272|335=>273|336=>175|344=>279|n=>n,fun|31=>31|9=>9|3=>3|46=>184|0=>0|51=>229|53=>141|4=>4|183=>222|182=>221|131=>226|5=>5|218=>272|222=>276|228=>292|229=>212|n=>n,fun|n=>n⟩
theorem xu:Go.Proofs.Lays.n190 prog Ew:={
 mixed:=by kernel_rfl
 f125:=func125.trans (congrArg some (by kernel_rfl)),f128:=func172.trans (congrArg some (by kernel_rfl)),f129:=func173.trans (congrArg some (by kernel_rfl)),f190:=func162.trans (congrArg some (by kernel_rfl)),f258:=func217.trans (congrArg some (by kernel_rfl)),f302:=func243.trans (congrArg some (by kernel_rfl)),f303:=func244.trans (congrArg some (by kernel_rfl)),f304:=func245.trans (congrArg some (by kernel_rfl)),f305:=func246.trans (congrArg some (by kernel_rfl)),f306:=func247.trans (congrArg some (by kernel_rfl)),f307:=func248.trans (congrArg some (by kernel_rfl)),f308:=func249.trans (congrArg some (by kernel_rfl)),f309:=func250.trans (congrArg some (by kernel_rfl)),f310:=func251.trans (congrArg some (by kernel_rfl)),f329:=func219.trans (congrArg some (by kernel_rfl)),f330:=func220.trans (congrArg some (by kernel_rfl)),f333:=func271.trans (congrArg some (by kernel_rfl)),f334:=func272.trans (congrArg some (by kernel_rfl)),f335:=func273.trans (congrArg some (by kernel_rfl)),f336:=func175.trans (congrArg some (by kernel_rfl)),f344:=func279.trans (congrArg some (by kernel_rfl)),t0:=ka,a0:=ms,z0:=l4,v0:=ke,t3:=j',a3:=mr,z3:=l0,v3:=kd,t4:=j4,a4:=mp,z4:=ly,v4:=kc,t5:=j3,a5:=mj,z5:=lx,v5:=kb,t9:=jt,a9:=mi,z9:=lw,v9:=j1,t31:=i',a31:=isAgg31,z31:=sizeOf31,v31:=zeroValue31,t46:=kN,a46:=isAgg184,z46:=sizeOf184,v46:=ls,t51:=k0,a51:=isAgg229,z51:=sizeOf229,v51:=ld,t53:=kT,a53:=isAgg141,z53:=sizeOf141,v53:=lv,t131:=k3,a131:=isAgg226,z131:=sizeOf226,v131:=lf,t182:=k5,a182:=isAgg221,z182:=sizeOf221,v182:=lo,t183:=k4,a183:=isAgg222,z183:=sizeOf222,v183:=lk,t218:=kt,a218:=isAgg272,z218:=sizeOf272,v218:=lc,t222:=ks,a222:=isAgg276,z222:=sizeOf276,v222:=la,t228:=kr,a228:=isAgg292,z228:=sizeOf292,v228:=kW,t229:=kB,a229:=isAgg212,z229:=sizeOf212
 v229:=lp}
def Cr:Go.Shelf.Ren:=⟨fun|6=>184|15=>125|14=>227|28=>172|29=>173|20=>257|21=>258|22=>259|23=>260|24=>261|25=>262|26=>263|27=>264|46=>276|47=>219|48=>220|49=>277|50=>278|57=>280|n=>n,fun|22=>190|24=>237|25=>242|3=>3|39=>184|0=>0|53=>229|55=>141|4=>4|46=>222|45=>221|50=>226|5=>5|9=>9|66=>272|70=>276|76=>292|77=>212|n=>n,fun|n=>n⟩
theorem Fw:Go.Proofs.SlLaysF0.n6 prog Cr:={
 mixed:=by kernel_rfl
 f6:=⟨f184.name,by decide,func184.trans (congrArg some (by kernel_rfl))⟩,f14:=⟨f227.name,by decide,func227.trans (congrArg some (by kernel_rfl))⟩,f15:=func125.trans (congrArg some (by kernel_rfl)),f20:=⟨f257.name,by decide,func257.trans (congrArg some (by kernel_rfl))⟩,f21:=⟨Tryz.f258.name,by decide,func258.trans (congrArg some (by kernel_rfl))⟩,f22:=⟨f259.name,by decide,func259.trans (congrArg some (by kernel_rfl))⟩,f23:=⟨f260.name,by decide,func260.trans (congrArg some (by kernel_rfl))⟩,f24:=⟨f261.name,by decide,func261.trans (congrArg some (by kernel_rfl))⟩,f25:=⟨f262.name,by decide,func262.trans (congrArg some (by kernel_rfl))⟩,f26:=⟨f263.name,by decide,func263.trans (congrArg some (by kernel_rfl))⟩,f27:=⟨Tryz.f264.name,by decide,func264.trans (congrArg some (by kernel_rfl))⟩,f28:=func172.trans (congrArg some (by kernel_rfl)),f29:=func173.trans (congrArg some (by kernel_rfl)),f46:=⟨f276.name,by decide,func276.trans (congrArg some (by kernel_rfl))⟩,f47:=func219.trans (congrArg some (by kernel_rfl)),f48:=func220.trans (congrArg some (by kernel_rfl)),f49:=⟨f277.name,by decide,func277.trans (congrArg some (by kernel_rfl))⟩,f50:=⟨f278.name,by decide,func278.trans (congrArg some (by kernel_rfl))⟩,f57:=⟨f280.name,by decide,func280.trans (congrArg some (by kernel_rfl))⟩,t0:=ka,a0:=ms,z0:=l4,v0:=ke,t3:=j',a3:=mr,z3:=l0,v3:=kd,t4:=j4,a4:=mp,z4:=ly,v4:=kc,t5:=j3,a5:=mj,z5:=lx,v5:=kb,t9:=jt,a9:=mi,z9:=lw,v9:=j1,t22:=kG,a22:=isAgg190,z22:=sizeOf190,v22:=zeroValue190,t25:=underlying242,a25:=isAgg242,z25:=sizeOf242,v25:=zeroValue242,t39:=kN,a39:=isAgg184,z39:=sizeOf184,v39:=ls,t45:=k5,a45:=isAgg221,z45:=sizeOf221,v45:=lo,t46:=k4,a46:=isAgg222,z46:=sizeOf222,v46:=lk,t50:=k3,a50:=isAgg226,z50:=sizeOf226,v50:=lf,t53:=k0,a53:=isAgg229,z53:=sizeOf229,v53:=ld,t55:=kT,a55:=isAgg141,z55:=sizeOf141,v55:=lv,t66:=kt,a66:=isAgg272,z66:=sizeOf272,v66:=lc,t70:=ks,a70:=isAgg276,z70:=sizeOf276,v70:=la,t76:=kr,a76:=isAgg292,z76:=sizeOf292,v76:=kW,t77:=kB,a77:=isAgg212,z77:=sizeOf212
 v77:=lp}
end
section
open Go.RowKit Go.Maps
variable {ss:List (List dq)} {buf:List dq} {Bb b:Nat} {F:Nat->Prop} {vK vM vS:Value} {w w':World}
theorem vr(s:ByteArray)(w:World)(B:s.size<=281474976710656) :
  g5 prog 61 #[.string s] w λe w'=>e=.returned (.string s)/\Below w.heap.size w w':=by
 have y:=Any.stringslite_Clone Q' s w B;go_enter func61,ntmps61;go_wp2_with fail;refine y.mono ?_;rintro e w1 ⟨rfl,hb⟩;have O:mx _:=hb;go_wp2;go_ret;exact⟨rfl,O.out⟩
def tk(vM vK:Value)(w:World)(F:Nat->Prop)(b:Nat)(buf:List dq)(ss:List (List dq)):Prop:=(∀k,F k->k<w.heap.size)/\∃Bb vS,Ak w F b buf ss Bb vS vM vK
theorem Ak.stay(h:Ak w F b buf ss Bb vS vM vK)(hb:∀k,F k->w'.heap[k]?=w.heap[k]?):Ak w' F b buf ss Bb vS vM vK where
 blk:=by rw[hb b h.fb];exact h.blk
 fb:=h.fb;fB:=h.fB;say:=dL.stay h.say (hb Bb h.fB);row:=eh h.row (λk y=>hb k (h.lq k y));lq:=h.lq;inv:=h.inv
theorem tk.below(h:tk vM vK w F b buf ss)(hb:Below w.heap.size w w'):tk vM vK w' F b buf ss:=by
 obtain⟨hF,Bb,vS,B⟩:=h;exact⟨λk y=>hV (hF k y) hb.size,Bb,vS,B.stay (λk y=>hb.block k (hF k y))⟩
theorem Ak.buffer{y:List dq}(h:Ak w F b buf ss Bb vS vM vK)(hF:∀k,F k->k<w.heap.size)(B:du (· = Bb) w w')(U:e9 w' Bb y)(hi:Inv y ss):Ak w' F b y ss Bb vS vM vK where
 blk:=by rw[B.block b (hF b h.fb) (λe=>dL.nH h.say h.blk e.symm)];exact h.blk
 fb:=h.fb;fB:=h.fB;say:=U;row:=eh h.row (λk O=>B.block k (hF k (h.lq k O)) (λe=>pR h.row h.say (by rw[O,e])));lq:=h.lq;inv:=hi
theorem J9(w:World):(zeroValue 111).run prog w=.ok (.agg #[.bool false,.string ⟨#[]⟩,.string ⟨#[]⟩,.int .i64 0,.int .i64 0]) w:=by kernel_rfl
theorem DX{B:Nat}{es:List dq}(h:e9 w B es)(x:Wd)(U:x.length<=gv):∃g a t n m,(Instr.lookup 85 (.map (some B)) (.string ⟨x.toArray⟩) true).run prog w=.ok (.tuple #[.agg #[.bool g,.string a,.string t,.int .i64 n,.int .i64 m],.bool (decide (x∈es.map dq.name))]) w:=by
 have hl:=(dL.look h jt j2 (J9 w) x U).2
 have W:((es.map jl).any λp=>p.1==x)=decide (x∈es.map dq.name):=by
  rw[Bool.eq_iff_iff,decide_eq_true_eq,List.any_eq_true,dr];constructor;rintro⟨p,Y,h⟩;obtain⟨e,y,rfl⟩:=dr.1 Y;exact⟨e,y,by simpa[jl]using h⟩;rintro⟨e,y,rfl⟩;exact⟨jl e,dr.2 ⟨e,y,rfl⟩,by simp[jl]⟩
 rw[W]at hl;unfold mF at hl
 cases O:(es.map jl).find? _ with
 |none=>rw[O]at hl;exact⟨_,_,_,_,_,hl⟩|some p=>
  rw[O]at hl;obtain⟨e,_,rfl⟩:=dr.1 (List.mem_of_find?_eq_some O);exact⟨_,_,_,_,_,hl⟩
theorem yw{l:List dq}{x:Wd}:qk l x=none↔x ∉ l.map dq.name:=⟨vv,pK⟩
theorem Qk(w:World)(F:Nat->Prop)(b:Nat)(buf:List dq)(ss:List (List dq))(name text:ByteArray)(dp dA:Int)(hP:tk vM vK w F b buf ss)(hn:name.size<=gv)(ht:text.size<=gv) :
  g5 prog 38 #[.pointer (some ⟨b,0,none⟩),.string name,.string text,.int .i64 dp,.int .i64 dA] w λe w'=>e=.returned (.int .i64 (js buf ss name.data.toList text.data.toList dp dA).1)/\
   tk vM vK w' F b (js buf ss name.data.toList text.data.toList dp dA).2 ss/\du F w w':=by
 have HP:mx (tk _ _ _ _ _ _ _):=hP;have Y:=qM name w hn;have ad:=pD text w ht;clear hP;by_cases y:iU name.data.toList=true
 .rw[y]at Y;by_cases O:eu text.data.toList=true/\text.data.toList≠[]
  .rw[decide_eq_true O]at ad;by_cases ac:dp<0\/1000000<dp\/dA<0\/255<dA
   .have HU:mx (js buf ss name.data.toList text.data.toList dp dA=(3,buf)):=by show js _ _ _ _ _ _=_;unfold js;rw[if_pos y,if_pos O,if_pos ac]
    have a4:dp<0\/(0<=dp/\1000000<dp)\/(0<=dp/\dp<=1000000/\dA<0)\/(0<=dp/\dp<=1000000/\0<=dA/\255<dA):=by omega
    clear ac O y;rcases a4 with c1|⟨c1,c2⟩|⟨c1,c2,c3⟩|⟨c1,c2,c3,c4⟩
    all_goals
     go_enter kl,kf;go_wp2_with fail;refine Y.mono ?_;rintro e w' ⟨rfl,rfl⟩;go_wp2_with fail;refine ad.mono ?_;rintro e w' ⟨rfl,rfl⟩;go_wp2;go_ret;refine⟨eR (by rw[HU.out];rfl),?_,du.refl _ _⟩;rw[HU.out];exact HP.out
   have aB:0<=dp:=by omega
   have aC:dp<=1000000:=by omega
   have aD:0<=dA:=by omega
   have aE:dA<=255:=by omega
   obtain⟨hF,Bb,vS,hE⟩:=id HP.out;have HE:mx (Ak _ _ _ _ _ _ _ _ _):=hE;have HF:mx (∀k,F k->k<w.heap.size):=hF;have ag:=xJ F b buf ss Bb vS vM vK w hE
   have HU:mx (js buf ss name.data.toList text.data.toList dp dA=if 30<=(eO ss buf).length/\qk (eO ss buf) name.data.toList=none then(4,buf)else(0,dH buf [⟨name.data.toList,false,text.data.toList,dp,dA⟩])):=by
    show js _ _ _ _ _ _=_;unfold js;rw[if_pos y,if_pos O,if_neg ac]
   have HI:mx (Inv (js buf ss name.data.toList text.data.toList dp dA).2 ss):=JY hE.inv _ _ _ _;have aA:=(gN y).2
   have a5:name.size<=281474976710656:=by have:name.data.toList.length=name.size:=by simp
                                          omega
   have a6:text.size<=281474976710656:=by
    have h1:=jI O.1;have:text.data.toList.length=text.size:=by simp
    omega
   have aq:name.data.toList.length<=gv:=by unfold gv;omega
   clear ac O y hF hE;go_enter kl,kf;go_wp2_with fail;refine Y.mono ?_;rintro e w' ⟨rfl,rfl⟩;go_wp2_with fail;refine ad.mono ?_;rintro e w' ⟨rfl,rfl⟩;clear Y ad;go_wp2_with fail;refine ag.mono ?_;rintro e w1 ⟨C,rfl,hC,hs,ae⟩;have ar:=ae.size;obtain⟨g,aa,tt,nn,mm,ah⟩:=DX hs name.data.toList aq;rw[<-bytes_eta name]at ah;have au:mx (Below _ _ _):=ae;have aj:=λ(ty:g7) (o:Obj)=>dL.len (dL.kept hs (World.grownBy_alloc w1 o none) (by simp)) j2 ty;rw[dj]at aj;have af:=yw (l:=eO ss buf) (x:=name.data.toList);by_cases hk:name.data.toList∈(eO ss buf).map dq.name
   case' pos=>
    rw[decide_eq_true hk]at ah;have ab:mx (js buf ss name.data.toList text.data.toList dp dA=(0,dH buf [⟨name.data.toList,false,text.data.toList,dp,dA⟩])):=by show js _ _ _ _ _ _=_;rw[HU.out,if_neg (λh=>af.1 h.2 hk)]
    clear af hk hs ae ag HU
   case' neg=>
    rw[decide_eq_false hk]at ah;by_cases av:30<=(eO ss buf).length
    .have ab:mx (js buf ss name.data.toList text.data.toList dp dA=(4,buf)):=by show js _ _ _ _ _ _=_;rw[HU.out,if_pos ⟨av,af.2 hk⟩]
     have aw:(30:Int)<=((eO ss buf).length:Int):=by omega
     clear af hk hs ae ag HU;go_wp2;go_ret;have B:=au.out.alloc ar (.cells #[.bool g,.string aa,.string tt,.int .i64 nn,.int .i64 mm] 111);refine⟨eR (by rw[ab.out];rfl),?_,du.fE B⟩;rw[ab.out];exact tk.below HP.out B
    have ab:mx (js buf ss name.data.toList text.data.toList dp dA=(0,dH buf [⟨name.data.toList,false,text.data.toList,dp,dA⟩])):=by show js _ _ _ _ _ _=_;rw[HU.out,if_neg (λh=>av h.1)]
    have aw:decide ((30:Int)<=((eO ss buf).length:Int))=false:=decide_eq_false (by omega);clear af hk hs ae ag HU
   all_goals
    go_wp2_with fail;have B:=au.out.alloc ar (.cells #[.bool g,.string aa,.string tt,.int .i64 nn,.int .i64 mm] 111);clear aj ah;generalize w1.alloc (.cells #[.bool g,.string aa,.string tt,.int .i64 nn,.int .i64 mm] 111)=w2 at B⊢
    have U:w2.drew.cell? ⟨b,0,none⟩=some (.map (some Bb)):=by
     have:w2.cell? ⟨b,0,none⟩=some (.map (some Bb)):=gt B (by rw[dh HE.out.blk];rfl);exact this
    have ax:mx (Below w.heap.size w w2.drew):=⟨B.os,B.tape,B.output,B.size,B.block⟩;clear B;refine g6 (S:=λw'=>w'.cell? ⟨b,0,none⟩=some (.map (some Bb))) (by kernel_rfl) ?_;refine fU 0 ?_ U ?_<|fU 1 ?_ U ?_<|fU 2 ?_ U ?_<|fU 3 ?_ U ?_<|fU 4 ?_ U ?_<|fU 6 ?_ U ?_<|fU 8 ?_ U ?_<|fU 9 ?_ U ?_ ?_
    any_goals(rintro w' a7;go_simp;first|done|with_reducible rfl)
    refine l5 5 λK' W=>?_;unfold m6;go_simp;refine(vr name w2.drew a5).mono ?_;rintro e w3 ⟨rfl,al⟩;have ay:mx (Below w.heap.size w w3):=ax.out.trans (al.mono ax.out.size);have az:w3.cell? ⟨b,0,none⟩=some (.map (some Bb)):=gt al U;clear al;refine W _ _ ⟨az,?_⟩;clear W;refine l5 7 λK' W=>?_;unfold m6;go_simp;refine(vr text w3 a6).mono ?_;rintro e w4 ⟨rfl,am⟩;have ai:mx (Below w.heap.size w w4):=ay.out.trans (am.mono ay.out.size);have a0:w4.cell? ⟨b,0,none⟩=some (.map (some Bb)):=gt am az;clear am;refine W _ _ ⟨a0,?_⟩;clear W;refine fU 10 ?_ a0 ?_ ?_;rotate_left
    .rintro w' a7;go_simp;first|done|with_reducible rfl
    refine l5 11 λK' W=>?_;unfold m6;go_simp;have an:=Rn Bb buf ⟨name.data.toList,false,text.data.toList,dp,dA⟩ w4 (dL.below HE.out.say ai.out) rfl (by have:=rF HE.out.inv;omega) aq;rw[show xW ⟨name.data.toList,false,text.data.toList,dp,dA⟩=.agg #[.string name,.string text,.int .i64 dp,.int .i64 dA] by unfold xW;simp only[<-bytes_eta]]at an;refine an.mono ?_;rintro e w5 ⟨rfl,q1,q2⟩;clear an;have a3:Ak w4 F b buf ss Bb vS vM vK:=HE.out.stay (λk hk=>ai.out.block k (HF.out k hk));have ao:∀k,F k->k<w4.heap.size:=λk hk=>hV (HF.out k hk) ai.out.size
    have hi:Inv (dH buf [⟨name.data.toList,false,text.data.toList,dp,dA⟩]) ss:=by
     have:=HI.out;rw[ab.out]at this;exact this
    have ap:=a3.buffer ao q2 q1 hi;have a8:mx (Ak _ _ _ _ _ _ _ _ _):=ap;have a9:mx (du F w w5):=(du.fE ai.out).then (q2.mono (λk hk=>by subst hk;exact HE.out.fB));have a':mx (∀k,F k->k<w5.heap.size):=λk hk=>hV (ao k hk) q2.size;refine W _ _ ⟨by rw[dh ap.blk];rfl,g9 (by kernel_rfl) ?_ _⟩;clear W q1 q2 a3 ao hi ap;go_wp2;go_ret;refine⟨eR (by rw[ab.out];rfl),?_,a9.out⟩;rw[ab.out];exact⟨a'.out,Bb,vS,a8.out⟩
  rw[decide_eq_false O]at ad;have HU:mx (js buf ss name.data.toList text.data.toList dp dA=(2,buf)):=by show js _ _ _ _ _ _=_;unfold js;rw[if_pos y,if_neg O]
  clear O y;go_enter kl,kf;go_wp2_with fail;refine Y.mono ?_;rintro e w' ⟨rfl,rfl⟩;go_wp2_with fail;refine ad.mono ?_;rintro e w' ⟨rfl,rfl⟩;go_wp2;go_ret;refine⟨eR (by rw[HU.out];rfl),?_,du.refl _ _⟩;rw[HU.out];exact HP.out
 have ak:iU name.data.toList=false:=by simpa using y
 rw[ak]at Y;have HU:mx (js buf ss name.data.toList text.data.toList dp dA=(1,buf)):=by show js _ _ _ _ _ _=_;unfold js;rw[if_neg y]
 clear y ak;go_enter kl,kf;go_wp2_with fail;refine Y.mono ?_;rintro e w' ⟨rfl,rfl⟩;go_wp2;go_ret;refine⟨eR (by rw[HU.out];rfl),?_,du.refl _ _⟩;rw[HU.out];exact HP.out
theorem Rv(w:World)(F:Nat->Prop)(b:Nat)(buf:List dq)(ss:List (List dq))(name:ByteArray)(hP:tk vM vK w F b buf ss)(hn:name.size<=gv) :
  g5 prog 37 #[.pointer (some ⟨b,0,none⟩),.string name] w λe w'=>e=.returned (.int .i64 (kH buf ss name.data.toList).1)/\
   tk vM vK w' F b (kH buf ss name.data.toList).2 ss/\du F w w':=by
 have HP:mx (tk _ _ _ _ _ _ _):=hP;have ac:=qM name w hn;clear hP;by_cases O:iU name.data.toList=true
 .rw[O]at ac;obtain⟨hF,Bb,vS,hE⟩:=id HP.out;have HE:mx (Ak _ _ _ _ _ _ _ _ _):=hE;have HF:mx (∀k,F k->k<w.heap.size):=hF;have al:=xJ F b buf ss Bb vS vM vK w hE
  have HU:mx (kH buf ss name.data.toList=if qk (eO ss buf) name.data.toList=none then(5,buf)else if 100<=je buf then(4,buf)else(0,dH buf [⟨name.data.toList,true,[],0,0⟩])):=by
   show kH _ _ _=_;unfold kH;rw[if_pos O,jB];rfl
  have HI:mx (Inv (kH buf ss name.data.toList).2 ss):=K3 hE.inv _;have a6:=(gN O).2
  have ay:name.size<=281474976710656:=by
   have:name.data.toList.length=name.size:=by simp
   omega
  have aq:name.data.toList.length<=gv:=by unfold gv;omega
  clear O hF hE;go_enter func37,ntmps37;go_wp2_with fail;refine ac.mono ?_;rintro e w' ⟨rfl,rfl⟩;clear ac;go_wp2_with fail;refine al.mono ?_;rintro e w1 ⟨C,rfl,hC,hs,ah⟩;have ar:=ah.size;obtain⟨g,aa,tt,nn,mm,ai⟩:=DX hs name.data.toList aq;rw[<-bytes_eta name]at ai;have aj:=yw (l:=eO ss buf) (x:=name.data.toList);have U:mx (Below w.heap.size w (w1.alloc (.cells #[.bool g,.string aa,.string tt,.int .i64 nn,.int .i64 mm] 111))):=ah.alloc ar _;by_cases W:name.data.toList∈(eO ss buf).map dq.name
  .rw[decide_eq_true W]at ai;have am:mx (kH buf ss name.data.toList=if 100<=je buf then(4,buf)else(0,dH buf [⟨name.data.toList,true,[],0,0⟩])):=by show kH _ _ _=_;rw[HU.out,if_neg (λh=>aj.1 h W)]
   clear aj W hs ah al HU;have ad:=U.out;obtain⟨w2,au⟩:∃w2,w1.alloc (.cells #[.bool g,.string aa,.string tt,.int .i64 nn,.int .i64 mm] 111)=w2:=⟨_,rfl⟩;rw[au]at ad;have az:w2.cell? ⟨b,0,none⟩=some (.map (some Bb)):=gt ad (by rw[dh HE.out.blk];rfl);have av:=B7 Bb buf w2 (dL.below HE.out.say ad) (by have:=rF HE.out.inv;omega);have aw:mx (Below _ _ _):=ad;clear U ad;go_wp2_with fail;refine av.mono ?_;rintro e w3 ⟨rfl,Y⟩;have y:mx (Below w.heap.size w w3):=aw.out.trans (Y.mono aw.out.size);clear av Y au ai az;by_cases ae:100<=je buf
   .have B:mx (kH buf ss name.data.toList=(4,buf)):=by show kH _ _ _=_;rw[am.out,if_pos ae]
    have af:(100:Int)<=(je buf:Int):=by omega
    go_wp2;go_ret;refine⟨eR (by rw[B.out];rfl),?_,du.fE y.out⟩;rw[B.out];exact tk.below HP.out y.out
   have B:mx (kH buf ss name.data.toList=(0,dH buf [⟨name.data.toList,true,[],0,0⟩])):=by show kH _ _ _=_;rw[am.out,if_neg ae]
   have af:¬(100:Int)<=(je buf:Int):=by omega
   clear am ae ar;go_wp2_with fail;clear af;generalize w3=w2 at *
   have ab:w2.drew.cell? ⟨b,0,none⟩=some (.map (some Bb)):=by
    have:w2.cell? ⟨b,0,none⟩=some (.map (some Bb)):=gt y.out (by rw[dh HE.out.blk];rfl);exact this
   have U:mx (Below w.heap.size w w2.drew):=⟨y.out.os,y.out.tape,y.out.output,y.out.size,y.out.block⟩;clear y;refine g6 (S:=λw'=>w'.cell? ⟨b,0,none⟩=some (.map (some Bb))) (by kernel_rfl) ?_;refine fU 0 ?_ ab ?_<|fU 1 ?_ ab ?_<|fU 2 ?_ ab ?_<|fU 3 ?_ ab ?_<|fU 4 ?_ ab ?_ ?_
   any_goals(rintro w' a7;go_simp;first|done|with_reducible rfl)
   refine l5 5 λK' ag=>?_;unfold m6;go_simp;refine(vr name w2.drew ay).mono ?_;rintro e w3 ⟨rfl,Y⟩;have y:mx (Below w.heap.size w w3):=U.out.trans (Y.mono U.out.size);have a0:w3.cell? ⟨b,0,none⟩=some (.map (some Bb)):=gt Y ab;clear Y;refine ag _ _ ⟨a0,?_⟩;clear ag;refine l5 6 λK' ag=>?_;unfold m6;go_simp;have an:=Df Bb buf name.data.toList w3 (dL.below HE.out.say y.out) (by have:=rF HE.out.inv;omega) aq;rw[<-bytes_eta name]at an;refine an.mono ?_;rintro e w5 ⟨rfl,q1,q2⟩;clear an;have ax:Ak w3 F b buf ss Bb vS vM vK:=HE.out.stay (λk W=>y.out.block k (HF.out k W));have ao:∀k,F k->k<w3.heap.size:=λk W=>hV (HF.out k W) y.out.size
   have hi:Inv (dH buf [⟨name.data.toList,true,[],0,0⟩]) ss:=by
    have:=HI.out;rw[B.out]at this;exact this
   have ap:=ax.buffer ao q2 q1 hi;have a3:mx (Ak _ _ _ _ _ _ _ _ _):=ap;have a4:mx (du F w w5):=(du.fE y.out).then (q2.mono (λk W=>by subst W;exact HE.out.fB));have a5:mx (∀k,F k->k<w5.heap.size):=λk W=>hV (ao k W) q2.size;refine ag _ _ ⟨by rw[dh ap.blk];rfl,g9 (by kernel_rfl) ?_ _⟩;clear ag q1 q2 ax ao hi ap;go_wp2;go_ret;refine⟨eR (by rw[B.out];rfl),?_,a4.out⟩;rw[B.out];exact⟨a5.out,Bb,vS,a3.out⟩
  rw[decide_eq_false W]at ai;have B:mx (kH buf ss name.data.toList=(5,buf)):=by show kH _ _ _=_;rw[HU.out,if_pos (aj.2 W)]
  clear aj W hs ah al HU;go_wp2;go_ret;refine⟨eR (by rw[B.out];rfl),?_,du.fE U.out⟩;rw[B.out];exact tk.below HP.out U.out
 have ak:iU name.data.toList=false:=by simpa using O
 rw[ak]at ac;have HU:mx (kH buf ss name.data.toList=(1,buf)):=by show kH _ _ _=_;unfold kH;rw[if_neg O]
 clear O ak;go_enter func37,ntmps37;go_wp2_with fail;refine ac.mono ?_;rintro e w' ⟨rfl,rfl⟩;go_wp2;go_ret;refine⟨eR (by rw[HU.out];rfl),?_,du.refl _ _⟩;rw[HU.out];exact HP.out
theorem BP(w:World)(F:Nat->Prop)(b:Nat)(buf:List dq)(ss:List (List dq))(B:tk vM vK w F b buf ss) :
  g5 prog 30 #[.pointer (some ⟨b,0,none⟩)] w λe w'=>e=.returned (.int .i64 ss.length)/\w=w':=by
 obtain⟨hF,Bb,vS,y⟩:=B;obtain⟨O,U,rfl,W⟩:=dK y.row;have Y:w.cell? ⟨b,1,none⟩=some (.slice O ss.length U):=by rw[dh y.blk];rfl
 go_wp2;go_ret;exact⟨rfl,rfl⟩
def ru(ss:List (List dq))(n:Int):Wd×Nat:=if n<0\/(ss.length:Int)<=n then([],6)else(dW (ss.getD n.toNat []),0)
theorem Uc(w:World)(F:Nat->Prop)(b:Nat)(buf:List dq)(ss:List (List dq))(n:Int)(hP:tk vM vK w F b buf ss) :
  g5 prog 26 #[.pointer (some ⟨b,0,none⟩),.int .i64 n] w λe w'=>e=.returned (.tuple #[.string ⟨(ru ss n).1.toArray⟩,.int .i64 (ru ss n).2])/\w=w':=by
 obtain⟨hF,Bb,vS,y⟩:=hP;obtain⟨U,cS,rfl,aa⟩:=dK y.row;have ab:w.cell? ⟨b,1,none⟩=some (.slice U ss.length cS):=by rw[dh y.blk];rfl
 have h6:=y.inv.ql
 have HR:mx (∀j(W:j<ss.length),∃bb off,U=some ⟨bb,off,none⟩/\w.cell? ⟨bb,off+j,none⟩=some (.string ⟨(dW ss[j]).toArray⟩)):=by
  intro j W;obtain⟨a',c',Y,_,_,hr⟩:=Rd.jb y.row;simp only[m7]at Y;obtain⟨rfl,_,rfl⟩:=Y;exact hr j _ (by simp[dn,W])
 clear y;by_cases h0:n<0
 .have B:mx (ru ss n=([],6)):=by show ru _ _=_;unfold ru;rw[if_pos (Or.inl h0)]
  go_enter func26,ntmps26;go_wp2;go_ret2;rw[B.out];exact⟨rfl,rfl⟩
 have ac:0<=n:=by omega
 by_cases h1:(ss.length:Int)<=n
 .have B:mx (ru ss n=([],6)):=by show ru _ _=_;unfold ru;rw[if_pos (Or.inr h1)]
  go_enter func26,ntmps26;go_wp2;go_ret2;rw[B.out];exact⟨rfl,rfl⟩
 obtain⟨m,rfl⟩:∃m:Nat,n=(m:Int):=⟨n.toNat,by omega⟩;have hm:m<ss.length:=by omega
 have ad:(m:Int)<(ss.length:Int):=by omega
 have B:mx (ru ss m=(dW ss[m],0)):=by
  unfold ru;rw[if_neg (by omega),Int.toNat_natCast,dk,dd hm];rfl
 obtain⟨bb,off,rfl,O⟩:=HR.out m hm;go_wp2;go_ret2;rw[B.out];exact⟨rfl,rfl⟩
variable {base:Nat} {v v' x:Value} {l:Wd}
theorem zc{P:Program}(w:World)(base:Nat)(t u ty e:g7)(i:TypeInfo)(ht:P.underlying t=some (.slice e))(hu:P.underlying u=some .string)(hi:P.info? e=some i)(hz:i.zero=some (.int .u8 0))
  (y:i.size=1) (aa:i.bytes=1) (v:Value) (n:Nat) (xs:List Value) (B:w.ownsRow base e 1 v n xs) (hn:0<n) (s:ByteArray) (hb:(n+s.size)*1<=140737488355328) (O:base<=w.heap.size) :
  ∃v' w',(nv #[t,u] ty #[v,.string s]).run P w=.ok v' w'/\w'.ownsRow base e 1 v' (n+s.size) (xs++fD s.data.toList)/\w.grownBy w' v.ownBlock/\(v'.ownBlock=v.ownBlock\/v'.ownBlock=some w.heap.size):=by
 obtain⟨v',w',U,h2,h3,_⟩:=Lib.run_append_own_string (P:=P) w base t u ty e i ht hu hi hz y aa v n xs B s (by unfold gv;omega) (by omega) O;refine⟨v',w',U,h2,h3,?_⟩;rcases B.2 with⟨rfl,rfl⟩|⟨g,c,ab,rfl,ad,hg,ae,af,ag,ac⟩
 omega;by_cases W:n+s.size<=c;have Y:=Lib.run_append_room_string (P:=P) w t u ty e i ht hu hi y g n c ab hg s W (by omega);rw[Y]at U;simp only[Result.ok.injEq]at U;exact Or.inl (by rw[<-U.1];rfl);have holds:=B.cells (g:=g) rfl;have Y:=Lib.run_append_grow_string (P:=P) w t u ty e i _ ht hu hi hz _ n c xs (by rw[y];exact B.1) holds s (by omega) (by omega) (by rw[aa];exact growslice_fits (by omega) hb);rw[Y]at U;simp only[Result.ok.injEq]at U;exact Or.inr (by rw[<-U.1];rfl)
theorem tG{P:Program}(w:World){ops:Array Oper}{rest:List Oper}{o:Oper}{a:Act}{Q:Exit->Act->World->Prop}(U:o.guard=none)(sl x:Operand)(t u:g7)
  (Y:o.op=.call {callee:=.builtin .append,args:=#[sl,x],argTypes:=#[t,u]})
  (base:Nat) (e:g7) (i:TypeInfo) (ht:P.underlying t=some (.slice e)) (hu:P.underlying u=some .string) (hi:P.info? e=some i) (hz:i.zero=some (.int .u8 0))
  (y:i.size=1) (W:i.bytes=1) (v:Value) (n:Nat) (xs:List Value) (hs:a.eval sl=v) (O:w.ownsRow base e 1 v n xs) (hn:0<n) (s:ByteArray) (hx:a.eval x=.string s) (hb:(n+s.size)*1<=140737488355328) (B:base<=w.heap.size)
  (h:∀v' w',w'.ownsRow base e 1 v' (n+s.size) (xs++fD s.data.toList)->w.grownBy w' v.ownBlock->(v'.ownBlock=v.ownBlock\/v'.ownBlock=some w.heap.size)->h8 P ops Q rest (a.put o.dst v') w'):h8 P ops Q (o::rest) a w:=by
 refine hJ U λ_ hK=>?_;obtain⟨v',w',hr,h2,h3,h4⟩:=zc (P:=P) w base t u o.type e i ht hu hi hz y W v n xs O hn s hb B;unfold m6 hI;simp only[Y,h7,invoke,builtin,on,oj,oo,ek,ej,et,hs,hx,hr];exact hK _ _ (h v' w' h2 h3 h4)
def fv(w:World)(base:Nat)(v:Value)(l:Wd):Prop:=w.ownsRow base 5 1 v l.length (fD l)
def eH(w w':World)(v v':Value):Prop:=du (λk=>v.ownBlock=some k) w w'/\∀k,v'.ownBlock=some k->v.ownBlock=some k\/w.heap.size<=k
theorem eH.trans{a b c:World}{u:Value}(h:eH a b u v)(k:eH b c v x):eH a c u x:=by
 refine⟨h.1.trans k.1 (λi hi B=>?_),λi hi=>?_⟩;rcases h.2 i B with y|y
 exact y;omega;rcases k.2 i hi with y|y
 exact h.2 i y;exact Or.inr (ie h.1.size y)
theorem eH.below(h:Below w.heap.size w w')(v:Value):eH w w' v v:=⟨du.fE h,λ_ h=>Or.inl h⟩
theorem eH.of{o:Obj}(y:(w.alloc o).grownBy w' v.ownBlock)(O:v'.ownBlock=v.ownBlock\/v'.ownBlock=some (w.heap.size+1)):eH w w' v v':=by
 have U:=y.size;simp at U;refine⟨⟨y.os,y.tape,y.output,by omega,λk B W=>?_⟩,λk B=>?_⟩;rw[y.block k (by simp;omega) (λe=>W e.symm),m2 _ _ _ B];rcases O with h|h
 exact Or.inl (by rw[<-h];exact B);rw[h]at B;simp at B;exact Or.inr (by omega)
theorem eH.Vj(y:w.grownBy w' v.ownBlock)(O:v'.ownBlock=v.ownBlock\/v'.ownBlock=some w.heap.size):eH w w' v v':=by
 refine⟨⟨y.os,y.tape,y.output,y.size,λk B U=>y.block k B (λe=>U e.symm)⟩,λk B=>?_⟩;rcases O with h|h
 exact Or.inl (by rw[<-h];exact B);rw[h]at B;simp at B;exact Or.inr (by omega)
def Py(base:Nat)(w:World)(v:Value)(l new:Wd)(e:Ending)(w':World):Prop:=∃v',e=.returned v'/\fv w' base v' (l++new)/\eH w w' v v'
theorem fv.below(h:fv w base v l)(hb:Below w.heap.size w w'):fv w' base v l:=eh h (λk y=>hb.block k (h.lt k y).2)
theorem io(a b:Wd):fD (a++b)=fD a++fD b:=by simp[fD]
theorem jG(base:Nat)(v:Value)(l:Wd)(s:ByteArray)(w:World)(h:fv w base v l)(hl:l.length<=1099511627776)(hs:s.size<=1099511627776)(ad:base<=w.heap.size) :
  g5 prog 177 #[v,.string s] w (Py base w v l (dJ s.data.toList)):=by
 obtain⟨i0,hi,U,W,Y⟩:=g8 FJ;obtain⟨a,c,rfl,hc⟩:=dK h;have HO:mx (fv _ _ _ _):=h;clear h;go_enter func177,ntmps177
 go_wp2_with (first
  |(at_builtin;refine fc _ rfl _ _ 60 rfl base 5 i0 (.int .u8 0) 1 i8 hi U W Y rfl _ _ _ rfl (HO.out.alloc _) _ [.int .u8 ((s.size:Int) % 256)] rfl (Rd.one iz) (by simp[nl]) ?c1 ?c2 ?c3 ?_))
 case c1=>simp;omega
 case c2=>unfold gv;simp;omega
 case c3=>simp;omega
 intro v1 w1 y aa ab
 have hO1:fv w1 base v1 (l++[u8 s.size]):=by
  unfold fv;rw[io,mh,cc];exact y
 have ac:mx (eH w w1 (.slice a l.length c) v1):=eH.of aa ab
 have B:w1.ownsRow base 5 1 v1 (l.length+1) (fD (l++[u8 s.size])):=by
  unfold fv at hO1;rw[cc]at hO1;exact hO1
 obtain⟨a1,c1,rfl,ak⟩:=dK B;have ae:mx (w1.ownsRow base 5 1 (.slice a1 (l.length+1) c1) (l.length+1) (fD (l++[u8 s.size]))):=B;have aj:=ac.out.1.size;clear y aa ab hO1 B
 go_wp2_with (first
  |(at_builtin;refine tG _ rfl _ _ 60 9 rfl base 5 i0 i8 jt hi U W Y _ _ _ rfl ae.out ?d1 s rfl ?d2 ?d3 ?_))
 case d1=>omega
 case d2=>omega
 case d3=>omega
 intro v2 w2 O af ag
 have ah:mx (fv w2 base v2 (l++dJ s.data.toList)):=by
  show fv _ _ _ _;unfold fv dJ;have e:l++u8 s.data.toList.length::s.data.toList=(l++[u8 s.size])++s.data.toList:=by simp
  rw[e,io,cc];have e3:(l++[u8 s.size]).length=l.length+1:=by simp
  rw[e3];exact O
 have ai:mx _:=ac.out.trans (eH.Vj af ag);go_wp2;go_ret;exact⟨v2,rfl,ah.out,ai.out⟩
theorem Rd.three{y z:Value}{t:g7}:Rd (w.alloc (.cells #[x,y,z] t)) (.slice (some ⟨w.heap.size,0,none⟩) 3 3) [x,y,z]:=by
 refine⟨some _,3,rfl,hX _,by unfold gv;omega,λj u B=>⟨w.heap.size,0,rfl,?_⟩⟩;match j,B with
 |0,B=>simpa using B|1,B=>simpa using B|2,B=>simpa using B|j+3,B=>simp at B
theorem oV(base:Nat)(v:Value)(l:Wd)(n:Int)(w:World)(h:fv w base v l)(hl:l.length<=1099511627776)(ad:0<=n)(hn:n<=1000000)(U:base<=w.heap.size) :
  g5 prog 178 #[v,.int .i64 n] w (Py base w v l (ik n)):=by
 obtain⟨i0,hi,W,Y,aa⟩:=g8 FJ;obtain⟨a,c,rfl,hc⟩:=dK h;have HO:mx (fv _ _ _ _):=h;clear h;go_enter func178,ntmps178
 go_wp2_with (first
  |(at_builtin;refine fc _ rfl _ _ 60 rfl base 5 i0 (.int .u8 0) 1 i8 hi W Y aa rfl _ _ _ rfl (HO.out.alloc _) _ [.int .u8 (n / 65536),.int .u8 (n / 256 % 256),.int .u8 (n % 256)] rfl Rd.three (by simp[nl]) ?c1 ?c2 ?c3 ?_))
 case c1=>simp;omega
 case c2=>unfold gv;simp;omega
 case c3=>simp;omega
 intro v1 w1 y B O
 have ab:mx (fv w1 base v1 (l++ik n)):=by
  show fv _ _ _ _;unfold fv;rw[io,cc]
  have e:fD (ik n)=[.int .u8 (n / 65536),.int .u8 (n / 256 % 256),.int .u8 (n % 256)]:=by
   obtain⟨m,rfl⟩:∃m:Nat,n=(m:Int):=⟨n.toNat,by omega⟩;rw[vj m (by omega)];simp only[fD,ej,et];rw[sX _ (by omega),sX _ (by omega),sX _ (by omega)];simp
  rw[e];exact y
 have ac:mx (eH w w1 (.slice a l.length c) v1):=eH.of B O;clear y B O;go_wp2;go_ret;exact⟨v1,rfl,ab.out,ac.out⟩
theorem fv.form(h:fv w base v l):∃a c,v=.slice a l.length c:=by
 obtain⟨a,c,e,_⟩:=dK h;exact⟨a,c,e⟩
theorem xl(base:Nat)(v:Value)(l:Wd)(e:dq)(w:World)(h:fv w base v l)(hl:l.length<=549755813888)(ai:Ke e)(a6:base<=w.heap.size) :
  g5 prog 181 #[v,xW e] w (Py base w v l (nE e)):=by
 obtain⟨i0,hi,a7,a8,a9⟩:=g8 FJ;obtain⟨y,gn,tx,wt,tg⟩:=e;have h1:=(gN ai.2.1).2;have h2:=jI ai.2.2.1;obtain⟨_,_,_,_,h3,h4,h5,h6⟩:=ai;simp only at h1 h2 h3 h4 h5 h6;obtain⟨a,c,rfl⟩:=h.form;obtain⟨w0,aj⟩:∃w0,w.alloc (.cells #[.string ⟨y.toArray⟩,.string ⟨tx.toArray⟩,.int .i64 wt,.int .i64 tg] 96)=w0:=⟨_,rfl⟩;have ab:Below w.heap.size w w0:=by rw[<-aj];exact(m0 _ _).alloc (hX _) _
 have aU:=ab.size;have ak:w0.heap[w.heap.size]?=some (.cells #[.string ⟨y.toArray⟩,.string ⟨tx.toArray⟩,.int .i64 wt,.int .i64 tg] 96 (0,0)):=by rw[<-aj];exact h9 w _
 have B:∀W:World,W.heap[w.heap.size]?=some (.cells #[.string ⟨y.toArray⟩,.string ⟨tx.toArray⟩,.int .i64 wt,.int .i64 tg] 96 (0,0))->W.cell? ⟨w.heap.size,0,none⟩=some (.string ⟨y.toArray⟩)/\W.cell? ⟨w.heap.size,1,none⟩=some (.string ⟨tx.toArray⟩)/\W.cell? ⟨w.heap.size,2,none⟩=some (.int .i64 wt)/\W.cell? ⟨w.heap.size,3,none⟩=some (.int .i64 tg):=by
  intro W hW;exact⟨by rw[dh hW];rfl,by rw[dh hW];rfl,by rw[dh hW];rfl,by rw[dh hW];rfl⟩
 have HC:mx (∀W:World,W.heap[w.heap.size]?=some (.cells #[.string ⟨y.toArray⟩,.string ⟨tx.toArray⟩,.int .i64 wt,.int .i64 tg] 96 (0,0))->W.cell? ⟨w.heap.size,0,none⟩=some (.string ⟨y.toArray⟩)/\W.cell? ⟨w.heap.size,1,none⟩=some (.string ⟨tx.toArray⟩)/\W.cell? ⟨w.heap.size,2,none⟩=some (.int .i64 wt)/\W.cell? ⟨w.heap.size,3,none⟩=some (.int .i64 tg)):=B;obtain⟨d0,_,_,_⟩:=B w0 ak;have al:=h.below ab;have a':(⟨y.toArray⟩:ByteArray).size<=1099511627776:=by show y.toArray.size<=_;simp;omega
 have aA:(⟨tx.toArray⟩:ByteArray).size<=1099511627776:=by show tx.toArray.size<=_;simp;omega
 have av:=jG base _ l ⟨y.toArray⟩ w0 al (by omega) a' (by omega);have aB:mx (eH w w0 (.slice a l.length c) (.slice a l.length c)):=eH.below ab _;have am:mx (w0.heap[w.heap.size]?=some (.cells #[.string ⟨y.toArray⟩,.string ⟨tx.toArray⟩,.int .i64 wt,.int .i64 tg] 96 (0,0))):=ak;have aw:∀(W:World)(v:Value)(k:Wd),fv W base v k->W.heap[w.heap.size]?=some (.cells #[.string ⟨y.toArray⟩,.string ⟨tx.toArray⟩,.int .i64 wt,.int .i64 tg] 96 (0,0))->v.ownBlock≠some w.heap.size:=λW v k ho hh=>pE hh ho (by decide);have an:mx (∀(W:World)(v:Value)(k:Wd),fv W base v k->W.heap[w.heap.size]?=some (.cells #[.string ⟨y.toArray⟩,.string ⟨tx.toArray⟩,.int .i64 wt,.int .i64 tg] 96 (0,0))->v.ownBlock≠some w.heap.size):=aw;have aC:mx (fv _ _ _ _):=al;clear h ab ak B aw al;unfold xW;go_enter func181,ntmps181;go_wp2_with fail;refine av.mono ?_;rintro e1 w1 ⟨v1,rfl,O,ac⟩;obtain⟨L1,ad⟩:∃L1,L1=l++dJ y:=⟨_,rfl⟩;have aY:L1.length<=l.length+30:=by rw[ad];simp[dJ];omega
 have aD:mx (L1=l++dJ y):=ad;change fv w1 base v1 (l++dJ y)at O;rw[<-ad]at O;have ao:w1.heap[w.heap.size]?=some (.cells #[.string ⟨y.toArray⟩,.string ⟨tx.toArray⟩,.int .i64 wt,.int .i64 tg] 96 (0,0)):=by rw[ac.1.block _ (eS am.out) (an.out w0 _ _ aC.out am.out)];exact am.out
 have aE:mx (eH w w1 (.slice a l.length c) v1):=aB.out.trans ac;obtain⟨a1,c1,rfl⟩:=O.form;have ax:mx (fv _ _ _ _):=O;have ap:mx (w1.heap[w.heap.size]?=some (.cells #[.string ⟨y.toArray⟩,.string ⟨tx.toArray⟩,.int .i64 wt,.int .i64 tg] 96 (0,0))):=ao;obtain⟨aF,aG,aH,aI⟩:=HC.out w1 ao;have aV:=ac.1.size;clear av O ac ao ad;clear aj d0;have ay:=jG base _ L1 ⟨tx.toArray⟩ w1 ax.out (by omega) aA (by omega);go_wp2_with fail;refine ay.mono ?_;rintro e2 w2 ⟨v2,rfl,U,ae⟩;obtain⟨L2,af⟩:∃L2,L2=L1++dJ tx:=⟨_,rfl⟩;have aZ:L2.length<=L1.length+30:=by rw[af];simp[dJ];omega
 have aJ:mx (L2=L1++dJ tx):=af;change fv w2 base v2 (L1++dJ tx)at U;rw[<-af]at U;have aq:w2.heap[w.heap.size]?=some (.cells #[.string ⟨y.toArray⟩,.string ⟨tx.toArray⟩,.int .i64 wt,.int .i64 tg] 96 (0,0)):=by rw[ae.1.block _ (eS ap.out) (an.out w1 _ _ ax.out ap.out)];exact ap.out
 have aK:mx (eH w w2 (.slice a l.length c) v2):=aE.out.trans ae;obtain⟨a2,c2,rfl⟩:=U.form;have az:mx (fv _ _ _ _):=U;have ar:mx (w2.heap[w.heap.size]?=some (.cells #[.string ⟨y.toArray⟩,.string ⟨tx.toArray⟩,.int .i64 wt,.int .i64 tg] 96 (0,0))):=aq;obtain⟨aL,aM,aN,aO⟩:=HC.out w2 aq;have aW:=ae.1.size;clear ay U ae aq af;have a0:=oV base _ L2 wt w2 az.out (by omega) h3 h4 (by omega);clear aF aG aH aI;go_wp2_with fail;refine a0.mono ?_;rintro e3 w3 ⟨v3,rfl,Y,ag⟩;obtain⟨L3,ah⟩:∃L3,L3=L2++ik wt:=⟨_,rfl⟩;have ba:L3.length<=L2.length+30:=by rw[ah];simp[ik]
 have aP:mx (L3=L2++ik wt):=ah;change fv w3 base v3 (L2++ik wt)at Y;rw[<-ah]at Y;have au:w3.heap[w.heap.size]?=some (.cells #[.string ⟨y.toArray⟩,.string ⟨tx.toArray⟩,.int .i64 wt,.int .i64 tg] 96 (0,0)):=by rw[ag.1.block _ (eS ar.out) (an.out w2 _ _ az.out ar.out)];exact ar.out
 have aQ:mx (eH w w3 (.slice a l.length c) v3):=aK.out.trans ag;obtain⟨a3,c3,rfl⟩:=Y.form;have aR:mx (fv _ _ _ _):=Y;have bc:mx (w3.heap[w.heap.size]?=some (.cells #[.string ⟨y.toArray⟩,.string ⟨tx.toArray⟩,.int .i64 wt,.int .i64 tg] 96 (0,0))):=au;obtain⟨bd,be,bf,bg⟩:=HC.out w3 au;have aX:=ag.1.size;clear a0 Y ag au ah;clear aL aM aN aO
 go_wp2_with (first
  |(at_builtin;refine fc _ rfl _ _ 60 rfl base 5 i0 (.int .u8 0) 1 i8 hi a7 a8 a9 rfl _ _ _ rfl (aR.out.alloc _) _ [.int .u8 tg] rfl (Rd.one iz) (by simp[nl]) ?c1 ?c2 ?c3 ?_))
 case c1=>simp;omega
 case c2=>unfold gv;simp;omega
 case c3=>simp;omega
 intro v4 w4 aa a4 a5
 have aS:mx (fv w4 base v4 (l++nE ⟨y,gn,tx,wt,tg⟩)):=by
  show fv _ _ _ _;have e:l++nE ⟨y,gn,tx,wt,tg⟩=L3++[u8 tg]:=by rw[aP.out,aJ.out,aD.out];simp[nE]
  rw[e];unfold fv;rw[io,mh,cc,show tg % 256=tg by omega];exact aa
 have aT:mx (eH w w4 (.slice a l.length c) v4):=aQ.out.trans (eH.of a4 a5);clear aa a4 a5;go_wp2;go_ret;exact⟨v4,rfl,aS.out,aT.out⟩
variable {L:List dq} {n o:Nat} {a:Wd}
structure qi(w:World)(b o:Nat)(e:dq):Prop where
 path:w.cell? ⟨b,o,none⟩=some (.string ⟨(dE e).toArray⟩)
 name:w.cell? ⟨b,o+1,none⟩=some (.string ⟨e.name.toArray⟩)
 text:w.cell? ⟨b,o+2,none⟩=some (.string ⟨e.text.toArray⟩)
 dp:w.cell? ⟨b,o+3,none⟩=some (.int .i64 e.dp)
 dA:w.cell? ⟨b,o+4,none⟩=some (.int .i64 e.dA)
 blk:∃cs fz,w.heap[b]?=some (.cells cs 237 fz)
def oz(w:World)(v:Value)(L:List dq):Prop:=∃a cap,v=.slice a L.length cap/\L.length<=cap/\cap<=gv/\∀i(h:i<L.length),∃b off,a=some ⟨b,off,none⟩/\qi w b (off+i*5) L[i]
theorem qi.stay{e:dq}(h:qi w b o e)(hb:w'.heap[b]?=w.heap[b]?):qi w' b o e:=by
 have y:∀(o:Nat)(u:Value),w.cell? ⟨b,o,none⟩=some u->w'.cell? ⟨b,o,none⟩=some u:=λo u B=>by
  simp only[ne]at B⊢;rw[hb];exact B
 exact⟨y _ _ h.path,y _ _ h.name,y _ _ h.text,y _ _ h.dp,y _ _ h.dA,by rw[hb];exact h.blk⟩
theorem qi.lt{e:dq}(h:qi w b o e):b<w.heap.size:=by
 obtain⟨cs,fz,y⟩:=h.blk;exact(m3.1 y).1
theorem oz.below(h:oz w v L)(hb:Below w.heap.size w w'):oz w' v L:=by
 obtain⟨a,cap,B,O,U,W⟩:=h;refine⟨a,cap,B,O,U,λi hi=>?_⟩;obtain⟨b,off,Y,y⟩:=W i hi;exact⟨b,off,Y,y.stay (hb.block b y.lt)⟩
theorem oz.wrote{u B:Value}{base:Nat}{l:Wd}(h:oz w v L)(O:fv w base u l)(U:eH w w' u B):oz w' v L:=by
 obtain⟨a,cap,W,Y,h3,h4⟩:=h;refine⟨a,cap,W,Y,h3,λi hi=>?_⟩;obtain⟨b,off,e1,y⟩:=h4 i hi;refine⟨b,off,e1,y.stay (U.1.block b y.lt (λe=>?_))⟩;obtain⟨cs,fz,hh⟩:=y.blk;exact pE hh O (by decide) e
theorem Dq(v:Value)(L:List dq)(w:World)(h:oz w v L) :
  g5 prog 179 #[v] w λe w'=>e=.returned (.int .i64 (gP L))/\Below w.heap.size w w':=by
 obtain⟨a,cap,rfl,W,hm,O⟩:=h;have U:mx (∀i(h:i<L.length),∃b off,a=some ⟨b,off,none⟩/\qi w b (off+i*5) L[i]):=O;unfold gv at hm;clear O;go_enter func179,ntmps179;go_wp2;go_loopw [3,8] (λg i wr=>∃k:Nat,k<=L.length/\i=.int .i64 k/\g=.int .i64 (gP (L.take k))/\Below w.heap.size w wr) (λ_ i _=>L.length-(intOf i).toNat)
 case atStart=>exact⟨0,hY _,rfl,rfl,m0 _ _⟩
 case round=>
  obtain⟨k,Y,rfl,rfl,hb⟩:=hrel;have HB:mx (Below _ _ _):=hb;have hz:=hb.size;clear hb;by_cases y:k<L.length
  .obtain⟨b,off,rfl,B⟩:=U.out k y;have q0:=gt HB.out B.path;have q1:=gt HB.out B.name;have q2:=gt HB.out B.text;have q3:=gt HB.out B.dp;have q4:=gt HB.out B.dA
   have HE:mx (gP (L.take (k+1))=max (gP (L.take k)) L[k].dp):=by
    show _=_;rw[de y,ol,kF,show gP []=0 from rfl];have:=nM (L.take k);omega
   go_wp2;go_roundw
   case rel=>exact⟨k+1,by omega,by go_num,by rw[HE.out],HB.out.alloc hz _⟩
   case measure=>simp[intOf];omega
  have HE:mx (L.take k=L):=er (by omega);go_wp2;go_ret;exact⟨eR (by rw[HE.out]),HB.out⟩
theorem Qy(L:List dq)(d:Nat):iQ L d<=L.length:=by
 exact(List.takeWhile_sublist _).length_le
theorem E8{d k:Nat}(y:k<=L.length)(B:∀j(h:j<k),(dE (L[j]'(by omega))).length=d)(O:∀h:k<L.length,(dE L[k]).length≠d):iQ L d=k:=by
 exact Ao _ _ k y (λj U=>by simpa using B j U) (λh=>by simpa using O h)
theorem xc(v:Value)(L:List dq)(d:Nat)(w:World)(h:oz w v L) :
  g5 prog 180 #[v,.int .i64 d] w λe w'=>e=.returned (.int .i64 (iQ L d))/\Below w.heap.size w w':=by
 obtain⟨a,cap,rfl,hc,hm,hr⟩:=h;have HR:mx (∀i(h:i<L.length),∃b off,a=some ⟨b,off,none⟩/\qi w b (off+i*5) L[i]):=hr;unfold gv at hm;clear hr;go_enter func180,ntmps180;go_wp2;go_loopw [5] (λi wr=>∃k:Nat,k<=L.length/\i=.int .i64 k/\(∀j(h:j<k)(h':j<L.length),(dE L[j]).length=d)/\Below w.heap.size w wr) (λi _=>L.length-(intOf i).toNat)
 case atStart=>exact⟨0,hY _,rfl,λj h=>by omega,m0 _ _⟩
 case round=>
  obtain⟨k,hk,rfl,fy,hb⟩:=hrel;have O:mx (Below _ _ _):=hb;have U:mx (∀j(h:j<k)(h':j<L.length),(dE L[j]).length=d):=fy;clear hb fy;by_cases B:k<L.length
  .obtain⟨b,off,rfl,hL⟩:=HR.out k B;have q0:=gt O.out hL.path;have aa:(k:Int)<(L.length:Int):=by omega
   clear hL;by_cases y:(dE L[k]).length=d
   .have HD:mx ((dE L[k]).length=d):=y;have W:(((dE L[k]).length:Int)==(d:Int))=true:=beq_iff_eq.2 (by omega);clear y;go_wp2;go_roundw
    case rel=>exact⟨k+1,by omega,by go_num,λj h h'=>by
     by_cases e:j=k;subst e;exact HD.out
     exact U.out j (by omega) h',O.out⟩
    case measure=>simp[intOf];omega
   have Y:mx (iQ L d=k):=E8 hk (λj h=>U.out j h (by omega)) (λ_=>y);have W:(((dE L[k]).length:Int)==d)=false:=beq_eq_false_iff_ne.2 (by omega);go_wp2;go_ret;exact⟨eR (by rw[Y.out]),O.out⟩
  have Y:mx _:=E8 hk (λj h=>U.out j h _) (λh=>absurd h B);go_wp2;go_ret;exact⟨eR (by rw[Y.out]),O.out⟩
theorem xD{y:Type}{L:List y}(h:L≠[]):0<L.length:=List.length_pos_iff.2 h
theorem Ac{b:Wd}(h1:n<=a.length)(O:a.take n=b.take n)(U:n=a.length\/n=b.length\/a.getD n 0≠b.getD n 0):(sY a b).length=n:=by
 have W:=rP a b _ (gd ..) (by rw[O];exact gd ..);have Y:=W.length_le;rw[cp]at Y;have B:=rI a b;have hb:=pY a b;rcases Nat.lt_or_ge n _ with y|aa
 have e1:=EU B n y;have e2:=EU hb n y;have:=B.length_le;have:=hb.length_le;rcases U with h|h|h
 omega;omega;exact absurd (e1.trans e2.symm) h;omega
theorem K8{b:Wd}(B:n<a.length)(O:n<b.length)(U:a.take n=b.take n)(y:a.getD n 0=b.getD n 0):a.take (n+1)=b.take (n+1):=by
 rw[de B,de O,U];rw[dk,dd B,dk,dd O]at y;simp only[Option.getD_some]at y;rw[y]
theorem O'(h:L≠[]):iB L=sY (dE (L[0]'(xD h))) (dE (L[L.length-1]'(by have:=xD h;omega))):=by
 cases L with
 |nil=>exact absurd rfl h|cons e C=>
  unfold iB;simp only[ev];rw[List.getLast_eq_getElem]
theorem Hv(v:Value)(L:List dq)(w:World)(h:oz w v L)(W:L≠[])(O:∀e∈L,(dE e).length<=24) :
  g5 prog 183 #[v] w λe w'=>e=.returned (.int .i64 (iB L).length)/\Below w.heap.size w w':=by
 obtain⟨a,cap,rfl,hc,hm,hr⟩:=h;unfold gv at hm;have y:=xD W;obtain⟨b,off,rfl,h0⟩:=hr 0 y;obtain⟨b',aj,e',h1⟩:=hr (L.length-1) (by omega);simp only[m8,o0,and_true]at e';obtain⟨rfl,rfl⟩:=e';have HC:mx (iB L=sY (dE (L[0]'y)) (dE (L[L.length-1]'(by omega)))):=O' W;have hA:(dE (L[0]'y)).length<=24:=O _ (ch _);have hB:(dE (L[L.length-1]'(by omega))).length<=24:=O _ (ch _);have c0:=h0.path;have c1:=h1.path;rw[i6,iv]at c0;obtain⟨m,ab⟩:∃m,L.length=m+1:=⟨L.length-1,by omega⟩;have U:L.length-1=m:=by omega
 rw[show off+(L.length-1)*5=off+m*5 by rw[U]]at c1;clear h0 h1 hr O;generalize ac:dE (L[0]'y)=A at *;generalize ad:dE (L[L.length-1]'(by omega))=B at *;clear ac ad W U y;rw[ab]at hc⊢;have al:IntKind.i64.wrap (((m+1:Nat):Int)-1)=(m:Int):=by simp only[ng];omega
 have ak:IntKind.i64.wrap ((m:Int)+1-1)=(m:Int):=by simp only[ng];omega
 have i0:(0:Int)<(m:Int)+1:=by omega
 have i1:(m:Int)<(m:Int)+1:=by omega
 have i2:(0:Int)<=(m:Int):=by omega
 have am:(⟨A.toArray⟩:ByteArray).size=A.length:=by show A.toArray.size=_;simp
 have an:(⟨B.toArray⟩:ByteArray).size=B.length:=by show B.toArray.size=_;simp
 have ae:mx (∀(n:Nat)(h:n<(⟨A.toArray⟩:ByteArray).size),(⟨A.toArray⟩:ByteArray)[n]=A.getD n 0):=λn h=>(j6 ⟨A.toArray⟩ n h).symm;have af:mx (∀(n:Nat)(h:n<(⟨B.toArray⟩:ByteArray).size),(⟨B.toArray⟩:ByteArray)[n]=B.getD n 0):=λn h=>(j6 ⟨B.toArray⟩ n h).symm;generalize (⟨A.toArray⟩:ByteArray)=bA at *;generalize (⟨B.toArray⟩:ByteArray)=bB at *;go_enter func183,ntmps183;go_wp2_with fail;go_quiet (fail);go_wp2;go_loopw [5] (λi wr=>∃n:Nat,n<=A.length/\n<=B.length/\i=.int .i64 n/\A.take n=B.take n/\Below w.heap.size w wr) (λi _=>A.length-(intOf i).toNat)
 case atStart=>exact⟨0,hY _,hY _,rfl,by simp,ib (m0 _ _) _⟩
 case round=>
  obtain⟨n,Y,ao,rfl,aa,hb⟩:=hrel;have HB:mx (Below _ _ _):=hb;have HE:mx (A.take n=B.take n):=aa;clear hb aa;by_cases h1:n<A.length
  .have ag:(n:Int)<(A.length:Int):=by omega
   by_cases h2:n<B.length
   .have ah:(n:Int)<(B.length:Int):=by omega
    have gA:=ae.out n (by omega);have gB:=af.out n (by omega);by_cases h3:A.getD n 0=B.getD n 0
    .have HT:mx (A.take (n+1)=B.take (n+1)):=K8 h1 h2 HE.out h3;have ai:(((bA[n]'(by omega)).toNat:Int)==((bB[n]'(by omega)).toNat:Int))=true:=beq_iff_eq.2 (by rw[gA,gB,h3]);clear h3 gA gB;go_wp2_with fail;go_quiet (fail);go_wp2;go_roundw
     case rel=>exact⟨n+1,by omega,by omega,by go_num,HT.out,ib HB.out _⟩
     case measure=>simp[intOf];omega
    have HT:mx ((iB L).length=n):=by show _=_;rw[HC.out];exact Ac Y HE.out (Or.inr (Or.inr h3))
    have ai:(((bA[n]'(by omega)).toNat:Int)==((bB[n]'(by omega)).toNat:Int))=false:=beq_eq_false_iff_ne.2 (by
     rw[gA,gB];intro hh
     exact h3 (UInt8.toNat_inj.1 (by omega)))
    clear h3 gA gB;go_wp2_with fail;go_quiet (fail);go_wp2;go_ret;exact⟨eR (by rw[HT.out]),ib HB.out _⟩
   have HT:mx ((iB L).length=n):=by show _=_;rw[HC.out];exact Ac Y HE.out (Or.inr (Or.inl (by omega)))
   have ah:decide ((n:Int)<(B.length:Int))=false:=decide_eq_false (by omega);go_wp2_with fail;go_quiet (fail);go_wp2;go_ret;exact⟨eR (by rw[HT.out]),ib HB.out _⟩
  have HT:mx ((iB L).length=n):=by show _=_;rw[HC.out];exact Ac Y HE.out (Or.inl (by omega))
  have ag:decide ((n:Int)<(A.length:Int))=false:=decide_eq_false (by omega);go_wp2_with fail;go_quiet (fail);go_wp2;go_ret;exact⟨eR (by rw[HT.out]),ib HB.out _⟩
variable {Cs:List (List dq)}
theorem LU(d:Nat)(e:dq)(l:List dq):∃g gs,runs d (e::l)=(e::g)::gs:=by
 unfold runs;split;exact⟨[],[],rfl⟩;exact⟨[],_,rfl⟩;split;exact⟨_,_,rfl⟩;exact⟨[],_,rfl⟩
theorem Nt(d:Nat):∀(X:List dq)(j:Nat),j<X.length->(∀i,i<j->∀(U:i+1<X.length),eW d (X[i]'(by omega))=eW d X[i+1])->(∀h:j+1<X.length,eW d (X[j]'(by omega))≠eW d X[j+1])->
  runs d X=X.take (j+1)::runs d (X.drop (j+1)):=by
 intro X;induction X with
 |nil=>intro j h;simp at h|cons e l ih=>
  intro j hj W Y
  cases j with
  |zero=>
   cases l with
   |nil=>simp[runs]|cons x l'=>
    obtain⟨g,gs,hg⟩:=LU d x l';have y:=Y (by simp);simp only[ev,fk]at y;simp only[ez,List.take_zero,ft,List.drop_zero];rw[runs,hg];simp only;rw[if_neg y]
  |succ j=>
   have B:=by simpa using hj
   have h1:=ih j B (λi h U=>by have:=W (i+1) (by omega) (by simpa using U);simpa using this) (λh=>by have:=Y (by simpa using h);simpa using this)
   cases l with
   |nil=>simp at B|cons x l'=>
    have O:=W 0 (by omega) (by simp);simp only[ev,fk]at O;rw[ez,ft,runs,h1,ez];simp only;rw[if_pos O]
theorem zF{d:Nat}{st k:Nat}(B:st<=k)(Y:k<L.length)(O:∀i,st<=i->i<k->∀(y:i+1<L.length),eW d (L[i]'(by omega))=eW d L[i+1])(U:∀h:k+1<L.length,eW d (L[k]'(by omega))≠eW d L[k+1]) :
  runs d (L.drop st)=(L.drop st).take (k+1-st)::runs d (L.drop (k+1)):=by
 have h:=Nt d (L.drop st) (k-st) (by simp;omega) (λi hi y=>by
  have:=O (st+i) (by omega) (by omega) (by omega)
  simpa[Nat.add_assoc]using this) (λy=>by
  rw[di]at y;have:=U (by omega);have e:st+(k-st)=k:=by omega
  have W:st+(k-st+1)=k+1:=by omega
  simpa[e,W]using this)
 rw[h,List.drop_drop,show st+(k-st+1)=k+1 by omega,show k-st+1=k+1-st by omega]
theorem oz.sub{b off n cap:Nat}(h:oz w (.slice (some ⟨b,off,none⟩) n cap) L)(s t:Nat)(O:s<=t)(ht:t<=L.length):oz w (.slice (some ⟨b,off+s*5,none⟩) (t-s) (cap-s)) ((L.drop s).take (t-s)):=by
 obtain⟨a,c,e,h1,h2,U⟩:=h;obtain⟨rfl,_,rfl⟩:=e;have y:((L.drop s).take (t-s)).length=t-s:=by simp;omega
 refine⟨some _,cap-s,by rw[y],by omega,by omega,λi hi=>?_⟩;rw[y]at hi;obtain⟨b',B,W,Y⟩:=U ..;obtain⟨rfl,rfl⟩:=W;refine⟨b,off+s*5,rfl,?_⟩;have e2:((L.drop s).take _)[i]'(by rw[y];exact hi)=L[s+i]'(by omega):=by simp
 rw[e2,show off+s*5+i*5=off+(s+i)*5 by omega];exact Y
def kJ(w:World)(v:Value)(Cs:List (List dq)):Prop:=∃vs:List Value,w.ownsRow 0 190 1 v Cs.length vs/\Zip (oz w) vs Cs
theorem kJ.below(h:kJ w v Cs)(hb:Below w.heap.size w w'):kJ w' v Cs:=by
 obtain⟨vs,y,B⟩:=h;exact⟨vs,eh y (λk O=>hb.block k (y.lt k O).2),B.mono (λu l U=>U.below hb)⟩
theorem kJ.wrote{u W:Value}{base:Nat}{l:Wd}(h:kJ w v Cs)(B:fv w base u l)(O:eH w w' u W):kJ w' v Cs:=by
 obtain⟨vs,y,Y⟩:=h;exact⟨vs,eh y (λk U=>O.1.block k (y.lt k U).2 (λe=>ub y B (by decide) k U e)),Y.mono (λu l hu=>hu.wrote B O)⟩
theorem Ti:(prog.info? 190).map (λi=>(i.zero,i.size,i.bytes))=some (some (.slice none 0 0),1,24):=by kernel_rfl
theorem KG(v:Value)(L:List dq)(d:Nat)(w:World)(h:oz w v L)(hk:∀e∈L,d<(dE e).length)(au:∀e∈L,(dE e).length<=24)(hl:L.length<=1048576) :
  g5 prog 182 #[v,.int .i64 d] w λe w'=>∃v',e=.returned v'/\kJ w' v' (runs d L)/\Below w.heap.size w w':=by
 obtain⟨i0,hi,av,aw,ax⟩:=g8 Ti;obtain⟨a,cap,rfl,hc,hm,hr⟩:=id h;have HL:mx (oz _ _ _):=h;have HR:mx (∀i(h:i<L.length),∃b off,a=some ⟨b,off,none⟩/\qi w b (off+i*5) L[i]):=hr;have HK:mx (∀e∈L,d<(dE e).length):=hk;have ay:mx (∀e∈L,(dE e).length<=24):=au;unfold gv at hm;clear hr h hk au;go_enter func182,ntmps182;go_wp2;go_loopw [5,6,11] (λv s i wr=>∃(k st:Nat)(O:List (List dq))(vs:List Value),k<=L.length/\st<=k/\i=.int .i64 k/\s=.int .i64 st/\O.length<=k/\wr.ownsRow w.heap.size 190 1 v O.length vs/\Zip (oz w) vs O/\runs d L=O++runs d (L.drop st)/\(∀i(h:st<=i)(h2:i<k)(h':i+1<L.length),eW d (L[i]'(by omega))=eW d L[i+1])/\(k=L.length->st=k)/\Below w.heap.size w wr) (λ_ _ i _=>L.length-(intOf i).toNat)
 case atStart=>exact⟨0,0,[],[],hY _,hX _,rfl,rfl,hX _,m9 _ _ _ _,Zip.nil _,by simp,λi h h2=>by omega,λ_=>rfl,m0 _ _⟩
 case round=>
  obtain⟨k,st,O,vs,aJ,az,rfl,rfl,aK,W,aj,Y,aa,ab,hb⟩:=hrel;have HB:mx (Below _ _ _):=hb;have HO:mx (wr.ownsRow w.heap.size 190 1 _ O.length vs):=W;have HZ:mx (Zip _ _ _):=aj;have af:mx (runs d L=O++runs d (L.drop st)):=Y;have HS:mx (∀i(h:st<=i)(h2:i<k)(h':i+1<L.length),eW d (L[i]'(by omega))=eW d L[i+1]):=aa;obtain⟨aP,cP,rfl,aL⟩:=dK W;have hz:=hb.size;clear hb W aj Y aa;by_cases ac:k<L.length
  .obtain⟨b,off,rfl,hL⟩:=HR.out k ac;have q0:=gt HB.out hL.path;have aA:(k:Int)<(L.length:Int):=by omega
   have a0:mx (oz w (.slice (some ⟨b,off+st*5,none⟩) (k+1-st) (cap-st)) ((L.drop st).take (k+1-st))):=HL.out.sub st (k+1) (by omega) (by omega);have aM:=HK.out _ (ch ac);clear hL ab;by_cases ad:k+1=L.length
   .have a5:(((k:Int)+1)==(L.length:Int))=true:=beq_iff_eq.2 (by omega);have HC:mx (runs d (L.drop st)=(L.drop st).take (k+1-st)::runs d (L.drop (k+1))):=zF az ac (λi h h2 h'=>HS.out i h h2 h') (λh=>by omega);have a3:st<cap:=by omega
    have ag:(k:Int)+1<=(cap:Int):=by omega
    clear ad;go_wp2_with fail;go_quiet (fail);have ae:mx ((wr.drewN nq).ownsRow w.heap.size 190 1 (.slice aP O.length cP) O.length vs):=HO.out;have al:mx (Below w.heap.size w (wr.drewN nq)):=ib HB.out nq;have am:w.heap.size<=(wr.drewN nq).heap.size:=hz;clear HO;generalize wr.drewN nq=wd at *
    go_wp2_with (first
     |(at_builtin;refine fp _ rfl _ _ 239 rfl w.heap.size 190 i0 (.slice none 0 0) 24 kv hi av aw ax rfl _ _ _ rfl (ae.out.alloc _) ⟨wd.heap.size,0,none⟩ _ rfl iz rfl ?c1 ?c2 ?c3 ?_))
    case c1=>omega
    case c2=>unfold gv;omega
    case c3=>first|omega|(simp;omega)
    intro v' w1 y B _
    have an:mx (w1.ownsRow w.heap.size 190 1 v' (O++[(L.drop st).take (k+1-st)]).length (vs++[.slice (some ⟨b,off+st*5,none⟩) (k+1-st) (cap-st)])):=by
     show w1.ownsRow _ _ _ _ _ _;rw[cc];exact y
    have ao:mx (Below w.heap.size w w1):=(al.out.alloc am _).grown B (by simp;omega) (λb hb=>(ae.out.lt b hb).1);have ap:mx (Zip (oz w) (vs++[.slice (some ⟨b,off+st*5,none⟩) (k+1-st) (cap-st)]) (O++[(L.drop st).take (k+1-st)])):=HZ.out.append (Zip.one a0.out);clear y B;go_wp2;go_roundw
    case rel=>
     refine⟨k+1,k+1,_,_,by omega,hX _,by go_num,by go_num,by simp;omega,an.out,ap.out,?_,λi h h2=>by omega,λ_=>rfl,ao.out⟩;rw[af.out,HC.out];simp
    case measure=>simp[intOf];omega
   have a5:(((k:Int)+1)==(L.length:Int))=false:=beq_eq_false_iff_ne.2 (by omega);have ag:k+1<L.length:=by omega
   have aB:(k:Int)+1<(L.length:Int):=by omega
   obtain⟨b',aC,e',a4⟩:=HR.out (k+1) ag;simp only[m8,o0,and_true]at e';obtain⟨rfl,rfl⟩:=e';have q1:=gt HB.out a4.path;have aD:=HK.out _ (ch ag);have aE:=ay.out _ (ch ac);have aF:=ay.out _ (ch ag);have a6:(⟨(dE L[k]).toArray⟩:ByteArray).size=(dE L[k]).length:=by show(dE L[k]).toArray.size=_;simp
   have a7:(⟨(dE L[k+1]).toArray⟩:ByteArray).size=(dE L[k+1]).length:=by show(dE L[k+1]).toArray.size=_;simp
   have gA:∀h:d<(⟨(dE L[k]).toArray⟩:ByteArray).size,(⟨(dE L[k]).toArray⟩:ByteArray)[d]=eW d L[k]:=λh=>(j6 ⟨(dE L[k]).toArray⟩ d h).symm;have gB:∀h:d<(⟨(dE L[k+1]).toArray⟩:ByteArray).size,(⟨(dE L[k+1]).toArray⟩:ByteArray)[d]=eW d L[k+1]:=λh=>(j6 ⟨(dE L[k+1]).toArray⟩ d h).symm;generalize (⟨(dE L[k]).toArray⟩:ByteArray)=bA at *;generalize (⟨(dE L[k+1]).toArray⟩:ByteArray)=bB at *;have aq:d<bA.size:=by omega
   have ar:d<bB.size:=by omega
   have aG:(d:Int)<(bA.size:Int):=by omega
   have aH:(d:Int)<(bB.size:Int):=by omega
   have ah:=gA aq;have ai:=gB ar;have aN:IntKind.i64.wrap ((k:Int)+1)=((k+1:Nat):Int):=by simp only[ng];omega
   have aI:((k+1:Nat):Int)<(L.length:Int):=by omega
   have a3:st<cap:=by omega
   have aO:(k:Int)+1<=(cap:Int):=by omega
   clear a4 a6 a7 ad gA gB;by_cases U:eW d L[k]=eW d L[k+1]
   .have a8:(((bA[d]'aq).toNat:Int) != ((bB[d]'ar).toNat:Int))=false:=by rw[ah,ai,U];simp
    have a9:mx (eW d L[k]=eW d L[k+1]):=U;clear U ah ai;go_wp2_with fail;go_quiet (fail);go_wp2;go_roundw
    case rel=>
     refine⟨k+1,st,O,vs,by omega,by omega,by go_num,rfl,by omega,HO.out,HZ.out,af.out,λi h h2 h'=>?_,λh=>by omega,ib HB.out _⟩;by_cases e:i=k;subst e;exact a9.out;exact HS.out i h (by omega) h'
    case measure=>simp[intOf];omega
   have a8:(((bA[d]'aq).toNat:Int) != ((bB[d]'ar).toNat:Int))=true:=by
    rw[ah,ai,bne_iff_ne];intro hh;exact U (UInt8.toNat_inj.1 (by omega))
   have HC:mx (runs d (L.drop st)=(L.drop st).take (k+1-st)::runs d (L.drop (k+1))):=zF az ac (λi h h2 h'=>HS.out i h h2 h') (λ_=>U);clear U ah ai;go_wp2_with fail;go_quiet (fail);have ae:mx ((wr.drewN nq).ownsRow w.heap.size 190 1 (.slice aP O.length cP) O.length vs):=HO.out;have al:mx (Below w.heap.size w (wr.drewN nq)):=ib HB.out nq;have am:w.heap.size<=(wr.drewN nq).heap.size:=hz;clear HO;generalize wr.drewN nq=wd at *
   go_wp2_with (first
    |(at_builtin;refine fp _ rfl _ _ 239 rfl w.heap.size 190 i0 (.slice none 0 0) 24 kv hi av aw ax rfl _ _ _ rfl (ae.out.alloc _) ⟨wd.heap.size,0,none⟩ _ rfl iz rfl ?c1 ?c2 ?c3 ?_))
   case c1=>omega
   case c2=>unfold gv;omega
   case c3=>first|omega|(simp;omega)
   intro v' w1 y B _
   have an:mx (w1.ownsRow w.heap.size 190 1 v' (O++[(L.drop st).take (k+1-st)]).length (vs++[.slice (some ⟨b,off+st*5,none⟩) (k+1-st) (cap-st)])):=by
    show w1.ownsRow _ _ _ _ _ _;rw[cc];exact y
   have ao:mx (Below w.heap.size w w1):=(al.out.alloc am _).grown B (by simp;omega) (λb hb=>(ae.out.lt b hb).1);have ap:mx (Zip (oz w) (vs++[.slice (some ⟨b,off+st*5,none⟩) (k+1-st) (cap-st)]) (O++[(L.drop st).take (k+1-st)])):=HZ.out.append (Zip.one a0.out);clear y B;go_wp2;go_roundw
   case rel=>
    refine⟨k+1,k+1,_,_,by omega,hX _,by go_num,by go_num,by simp;omega,an.out,ap.out,?_,λi h h2=>by omega,λ_=>rfl,ao.out⟩;rw[af.out,HC.out];simp
   case measure=>simp[intOf];omega
  have ak:k=L.length:=by omega
  have a':=ab ak
  have HE:mx (runs d L=O):=by
   show _=_;rw[af.out,a',ak,List.drop_length];simp[runs]
  clear ab;go_wp2;go_ret;refine⟨_,rfl,?_,HB.out⟩;rw[HE.out];exact⟨vs,jH HO.out (hY _),HZ.out.mono (λu l hu=>hu.below HB.out)⟩
variable {a:Option Addr} {p:Wd}
def Vb(f:Nat):Prop:=∀(base:Nat)(v:Value)(l:Wd)(label:ByteArray)(p:Wd)(y:Value)(L:List dq)(w:World),fv w base v l->oz w y L->base<=w.heap.size->(∀e∈L,Ke e/\p <+: dE e)->gE L->L.length<=255->p.length<=24->25<=f+p.length->
  l.length+(dJ label.data.toList++ic f p.length L).length<=549755813888->label.size<=1099511627776->
  g5 prog 132 #[v,.string label,.int .i64 p.length,y] w (Py base w v l (dJ label.data.toList++ic f p.length L))
theorem oz.tail{cap:Nat}(h:oz w (.slice a n cap) L)(k:Nat)(O:k<=L.length):oz w (.slice (a.map λx=>x.add (k*5)) (L.length-k) (cap-k)) (L.drop k):=by
 obtain⟨U,W,e,Y,h2,y⟩:=h;simp only[m7]at e;refine⟨_,cap-k,by rw[di],by rw[di];omega,by omega,λi hi=>?_⟩;obtain⟨b,off,e,B⟩:=y ..;refine⟨b,off+k*5,by simp only[Option.map_some,Addr.add];split<;>simp_all,?_⟩;rw[List.getElem_drop,show off+k*5+i*5=off+(k+i)*5 by omega];exact B
theorem oz.Ul{c k:Nat}(h:oz w (.slice a n c) L)(y:c=k)(O:k<=L.length):oz w (.slice a (L.length-k) 0) (L.drop k):=by
 obtain⟨U,W,e,Y,h2,h3⟩:=h;simp only[m7]at e;have B:L.drop k=[]:=fm (by omega);rw[B];exact⟨a,0,by simp;omega,hX _,hY _,nofun⟩
theorem Vm{hn:Nat}{C:List dq}(hL:gE L)(hp:∀e∈L,p <+: dE e)(hS:∀e∈L.drop hn,dE e≠p)(hC:C∈runs p.length (L.drop hn)) :
  C≠[]/\gE C/\(∀e∈C,e∈L/\iB C <+: dE e)/\p <+: iB C/\p.length<(iB C).length/\C.length<=L.length:=by
 obtain⟨hs,r1,r2,r3,r4,r5,r6⟩:=yy p _ (o1 (List.drop_sublist hn L) hL) (λe U=>⟨hp e (eg U),hS e U⟩);rw[r1]at hC;obtain⟨x,W,rfl⟩:=dr.1 hC;have y:=(r3 x W).1;have Y:=OV _ y (r5 x W)
 have B:p++[x.1] <+: iB x.2:=by
  rw[<-Y];refine(qg y).2 _ (λs hs=>?_);obtain⟨e,U,rfl⟩:=dr.1 hs;exact(r3 x W).2 e U
 have O:x.2.Sublist (L.drop hn):=by
  rw[<-r4];exact List.sublist_flatten_of_mem (dr.2 ⟨x,W,rfl⟩)
 refine⟨y,r5 x W,λe U=>⟨eg (O.subset U),?_⟩,(List.prefix_append ..).trans B,?_,?_⟩;rw[<-Y];exact(qg y).1 _ (dr.2 ⟨e,U,rfl⟩);have:=B.length_le;simp at this;omega;have h1:=O.length_le;rw[di]at h1;omega
theorem N3{s:Wd}(h:p <+: s)(y:s≠p):p.length<s.length:=by
 have B:=h.length_le;by_cases e:p.length=s.length;exact absurd (h.eq_of_length e).symm y;omega
theorem O7(d:Nat):∀L:List dq,(runs d L).length<=L.length:=by
 intro L;induction L with
 |nil=>simp[runs]|cons e l y=>
  unfold runs;split;simp
  next h=>rw[h]at y;simp at y⊢;omega
  next h=>
  rw[h]at y;split;simp at y⊢;omega;simp at y⊢;omega
theorem Gu(f d:Nat)(L:List dq):ic (f+1) d L=ik (gP L)++(u8 (iQ L d)::((L.take (iQ L d)).flatMap nE++(u8 (runs d (L.drop (iQ L d))).length::(runs d (L.drop (iQ L d))).flatMap λC=>dJ ((iB C).drop d)++ic f (iB C).length C))):=rfl
theorem SZ:∀f,Vb f:=by
 intro f;induction f with
 |zero=>intro base v l label p vL L w _ _ _ _ _ _ cb cd;omega|succ f ih=>
  intro base v l label p vL L w hO hL aS aU b0 cw cb cd aJ b1;obtain⟨i0,hi,b2,b3,b4⟩:=g8 FJ;obtain⟨a,c,rfl⟩:=hO.form;obtain⟨aL,cL,rfl,cI,hmL,ce⟩:=id hL;have cf:mx (Vb f):=ih;have ad:mx (∀e∈L,Ke e/\p <+: dE e):=aU;have b5:mx (gE L):=b0;have b6:mx (oz _ _ _):=hL;have b8:mx (fv _ _ _ _):=hO;obtain⟨N,hN⟩:∃N,N=l++(dJ label.data.toList++ic (f+1) p.length L):=⟨_,rfl⟩;have HN:mx (N=l++(dJ label.data.toList++ic (f+1) p.length L)):=hN;have cJ:N.length<=549755813888:=by rw[hN,cc];exact aJ
  have cg:0<=gP L:=nM L;have ci:gP L<=1000000:=JJ (λe he=>(aU e he).1.2.2.2.2.2.1);have aV:=Qy L p.length;have b9:=jG base _ l label w hO (by have:=congrArg go hN;simp at this;omega) b1 aS;unfold gv at hmL;clear ih aU b0 hL hO aJ hN ce;go_enter func132,ntmps132;go_wp2_with fail;refine b9.mono ?_;rintro e1 w1 ⟨v1,rfl,aw,ax⟩;obtain⟨L1,aW⟩:∃L1,L1=l++dJ label.data.toList:=⟨_,rfl⟩;have b':mx (L1=l++dJ label.data.toList):=aW;rw[<-aW]at aw;have ag:mx (oz w1 (.slice aL L.length cL) L):=b6.out.wrote b8.out ax;have bA:mx (eH _ _ _ _):=ax;obtain⟨a1,c1,rfl⟩:=aw.form;have bB:mx (fv _ _ _ _):=aw;have cy:=ax.1.size;have hG:=Dq _ L w1 ag.out;clear b9 aw ax aW b6 b8;go_wp2_with fail;refine hG.mono ?_;rintro e2 w2 ⟨rfl,ah⟩;have aX:mx (fv w2 base (.slice a1 L1.length c1) L1):=bB.out.below ah;have aK:mx (oz w2 (.slice aL L.length cL) L):=ag.out.below ah;have bD:mx (eH w w2 (.slice a l.length c) (.slice a1 L1.length c1)):=bA.out.trans (eH.below ah _);have cz:=ah.size;have cK:L1.length<=N.length:=by rw[HN.out,b'.out];simp
  have bE:=oV base _ L1 (gP L) w2 aX.out (by omega) cg ci (by omega);clear hG ah bB ag bA;go_wp2_with fail;refine bE.mono ?_;rintro e3 w3 ⟨v3,rfl,ay,az⟩;obtain⟨L3,aY⟩:∃L3,L3=L1++ik (gP L):=⟨_,rfl⟩;have cj:mx (L3=L1++ik (gP L)):=aY;rw[<-aY]at ay;have ai:mx (oz w3 (.slice aL L.length cL) L):=aK.out.wrote aX.out az;have bF:mx (eH w w3 (.slice a l.length c) v3):=bD.out.trans az;obtain⟨a3,c3,rfl⟩:=ay.form;have bG:mx (fv _ _ _ _):=ay;have c':=az.1.size;have hC:=xc _ L p.length w3 ai.out;clear bE ay az aY aX aK bD;go_wp2_with fail;refine hC.mono ?_;rintro e4 w4 ⟨rfl,aj⟩;have aZ:mx (fv w4 base (.slice a3 L3.length c3) L3):=bG.out.below aj;have aM:mx (oz w4 (.slice aL L.length cL) L):=ai.out.below aj;have bH:mx (eH w w4 (.slice a l.length c) (.slice a3 L3.length c3)):=bF.out.trans (eH.below aj _);have cA:=aj.size;obtain⟨U,a0⟩:∃U,iQ L p.length=U:=⟨_,rfl⟩;have HH:mx (iQ L p.length=U):=a0;rw[a0]at aV⊢;obtain⟨Cs,ba⟩:∃Cs,Cs=runs p.length (L.drop U):=⟨_,rfl⟩;have bc:mx (Cs=runs p.length (L.drop U)):=ba
  have bI:mx (N=L3++[u8 U]++((L.take U).flatMap nE++(u8 Cs.length::Cs.flatMap λC=>dJ ((iB C).drop p.length)++ic f (iB C).length C))):=by
   show _=_;rw[HN.out,cj.out,b'.out,Gu,ba,a0];simp
  clear ba;have cM:L3.length+1<=N.length:=by rw[bI.out];simp
  clear hC aj bG ai bF a0
  go_wp2_with (first
   |(at_builtin;refine fc _ rfl _ _ 60 rfl base 5 i0 (.int .u8 0) 1 i8 hi b2 b3 b4 rfl _ _ _ rfl (aZ.out.alloc _) _ [.int .u8 (U:Int)] rfl (Rd.one iz) (by simp[nl]) ?c1 ?c2 ?c3 ?_))
  case c1=>simp;omega
  case c2=>unfold gv;simp;omega
  case c3=>simp;omega
  intro v5 w5 ak bd be;obtain⟨L5,a4⟩:∃L5,L5=L3++[u8 U]:=⟨_,rfl⟩;have cN:mx (L5=L3++[u8 U]):=a4
  have bf:mx (N=L5++((L.take U).flatMap nE++(u8 Cs.length::Cs.flatMap λC=>dJ ((iB C).drop p.length)++ic f (iB C).length C))):=by
   show _=_;rw[bI.out,<-a4]
  have HO5:mx (fv w5 base v5 L5):=by
   show fv _ _ _ _;unfold fv;rw[a4,io,mh,cc,show(U:Int) % 256=U by omega];exact ak
  have HW5:mx (eH w w5 (.slice a l.length c) v5):=bH.out.trans (eH.of bd be);have HLv5:mx (oz w5 (.slice aL L.length cL) L):=aM.out.wrote aZ.out (eH.of bd be);obtain⟨a5,c5,rfl⟩:=HO5.out.form;have cB:=HW5.out.1.size;clear ak bd be a4 aZ aM bH;go_wp2_with fail;go_loopw [0,35] (λu i wr=>∃k:Nat,k<=U/\i=.int .i64 k/\fv wr base u (L5++(L.take k).flatMap nE)/\eH w wr (.slice a l.length c) u/\oz wr (.slice aL L.length cL) L) (λ_ i _=>U-(intOf i).toNat)
  case atStart=>exact⟨0,hY _,rfl,by simpa using HO5.out,HW5.out,HLv5.out⟩
  case round=>
   obtain⟨k,hk,rfl,a',bg,aN⟩:=hrel;obtain⟨L6,bh⟩:∃L6,L6=L5++(L.take k).flatMap nE:=⟨_,rfl⟩;have aA:mx (L6=L5++(L.take k).flatMap nE):=bh;rw[<-bh]at a';obtain⟨a6,c6,rfl⟩:=a'.form;have bi:mx (fv _ _ _ _):=a';have bj:mx (eH _ _ _ _):=bg;have aa:mx (oz _ _ _):=aN;have cD:=bg.1.size;clear a' bg aN bh HO5 HW5 HLv5;by_cases aB:k<U
   .obtain⟨_,_,e',_,_,hr⟩:=aa.out;simp only[m7,true_and]at e';obtain⟨rfl,rfl⟩:=e';obtain⟨b,off,rfl,W⟩:=hr k (by omega);have q0:=W.path;have q1:=W.name;have q2:=W.text;have q3:=W.dp;have q4:=W.dA;clear W hr;obtain⟨wa,bk⟩:∃wa,wr.alloc (.cells #[.string ⟨(dE L[k]).toArray⟩,.string ⟨L[k].name.toArray⟩,.string ⟨L[k].text.toArray⟩,.int .i64 L[k].dp,.int .i64 L[k].dA] 237)=wa:=⟨_,rfl⟩;have al:Below wr.heap.size wr wa:=by rw[<-bk];exact(m0 _ _).alloc (hX _) _
    have ck:mx (wr.alloc (.cells #[.string ⟨(dE L[k]).toArray⟩,.string ⟨L[k].name.toArray⟩,.string ⟨L[k].text.toArray⟩,.int .i64 L[k].dp,.int .i64 L[k].dA] 237)=wa):=bk;have bJ:mx (fv wa base (.slice a6 L6.length c6) L6):=bi.out.below al;have cl:mx (eH w wa (.slice a l.length c) (.slice a6 L6.length c6)):=bj.out.trans (eH.below al _);have bK:mx (oz wa (.slice (some ⟨b,off,none⟩) L.length cL) L):=aa.out.below al;have cO:=al.size;have HT:mx (L.take (k+1)=L.take k++[L[k]]):=de (by omega)
    have cm:L6.length<=N.length:=by
     have e:L.take U=L.take k++(L.take U).drop k:=by
      conv=>lhs;rw[<-fs k (L.take U)]
      rw[List.take_take,hZ hk]
     rw[bf.out,aA.out,e];simp
    have hA:=xl base _ L6 L[k] wa bJ.out (by omega) (ad.out _ (ch _)).1 (by omega);unfold xW at hA;clear al bk;go_wp2_with fail;rw[ck.out];refine hA.mono ?_;rintro e7 w7 ⟨v7,rfl,bL,bl⟩;have am:mx (fv _ _ _ _):=bL;have aD:mx (eH w w7 (.slice a l.length c) v7):=cl.out.trans bl;have bM:mx (oz w7 (.slice (some ⟨b,off,none⟩) L.length cL) L):=bK.out.wrote bJ.out bl;clear hA bL bl q0 q1 q2 q3 q4;go_wp2;go_roundw
    case rel=>
     refine⟨k+1,by omega,by go_num,?_,aD.out,bM.out⟩;have e:L5++(L.take (k+1)).flatMap nE=L6++nE L[k]:=by rw[HT.out,aA.out,ei,dm];simp only[ef,eq,dt]
     rw[e];exact am.out
    case measure=>simp[intOf];omega
   have cn:k=U:=by omega
   subst cn
   have HS:mx (∀e∈L.drop k,dE e≠p):=by
    have:=(xH b5.out (λe he=>(ad.out e he).2)).2;rw[HH.out]at this;exact this
   have an:mx (∀e∈L,(dE e).length<=24):=λe he=>(tu (ad.out e he).1).1;have bN:mx (∀(aT:Option Addr)(cT:Nat),oz wr (.slice aT (L.length-k) cT) (L.drop k)->g5 prog 182 #[.slice aT (L.length-k) cT,.int .i64 p.length] wr λe w'=>∃v',e=.returned v'/\kJ w' v' (runs p.length (L.drop k))/\Below wr.heap.size wr w'):=λaT cT h=>KG _ (L.drop k) p.length wr h (λe he=>N3 (ad.out e (eg he)).2 (HS.out e he)) (λe he=>an.out e (eg he)) (by rw[di];omega);go_wp2_with fail
   all_goals(
    refine(bN.out _ _ (by first|exact aa.out.tail k aV|exact aa.out.Ul (by omega) aV)).mono ?_;rintro e7 w7 ⟨v7,rfl,aE,aF⟩;rw[<-bc.out]at aE;obtain⟨vs,ao,ab⟩:=id aE;obtain⟨a7,c7,rfl,cP⟩:=dK ao;have bO:mx (kJ _ _ _):=aE;have am:mx (fv w7 base (.slice a6 L6.length c6) L6):=bi.out.below aF;have aD:mx (eH w w7 (.slice a l.length c) (.slice a6 L6.length c6)):=bj.out.trans (eH.below aF _);have cE:=aF.size
    have cQ:Cs.length<=255:=by
     rw[bc.out];have:=O7 p.length (L.drop k);rw[di]at this;omega
    have cm:L6.length+1<=N.length:=by
     rw[bf.out,aA.out];simp;omega
    clear bN aE ao ab aF bi bj aa
    go_wp2_with (first
     |(at_builtin;refine fc _ rfl _ _ 60 rfl base 5 i0 (.int .u8 0) 1 i8 hi b2 b3 b4 rfl _ _ _ rfl (am.out.alloc _) _ [.int .u8 (Cs.length:Int)] rfl (Rd.one iz) (by simp[nl]) ?c1 ?c2 ?c3 ?_))
    case c1=>simp;omega
    case c2=>unfold gv;simp;omega
    case c3=>simp;omega
    intro v8 w8 ap bm bn;obtain⟨L8,aG⟩:∃L8,L8=L6++[u8 Cs.length]:=⟨_,rfl⟩;have cR:mx (L8=L6++[u8 Cs.length]):=aG
    have bP:mx (N=L8++Cs.flatMap λC=>dJ ((iB C).drop p.length)++ic f (iB C).length C):=by
     show _=_;rw[bf.out,aG,aA.out];simp
    have HO8:mx (fv w8 base v8 L8):=by
     show fv _ _ _ _;unfold fv;rw[aG,io,mh,cc,show(Cs.length:Int) % 256=Cs.length by omega];exact ap
    have HW8:mx (eH w w8 (.slice a l.length c) v8):=aD.out.trans (eH.of bm bn);have HP8:mx (kJ w8 (.slice a7 Cs.length c7) Cs):=bO.out.wrote am.out (eH.of bm bn);obtain⟨a8,c8,rfl⟩:=HO8.out.form;have cF:=HW8.out.1.size;clear ap bm bn aG am bO aD;go_wp2_with fail;go_loopw [0,57] (λu i wx=>∃k:Nat,k<=Cs.length/\i=.int .i64 k/\fv wx base u (L8++(Cs.take k).flatMap λC=>dJ ((iB C).drop p.length)++ic f (iB C).length C)/\eH w wx (.slice a l.length c) u/\kJ wx (.slice a7 Cs.length c7) Cs) (λ_ i _=>Cs.length-(intOf i).toNat)
    case atStart=>exact⟨0,hY _,rfl,by simpa using HO8.out,HW8.out,HP8.out⟩
    case round=>
     obtain⟨j,hj,rfl,aH,bo,bQ⟩:=hrel;obtain⟨L9,bp⟩:∃L9,L9=L8++(Cs.take j).flatMap λC=>dJ ((iB C).drop p.length)++ic f (iB C).length C:=⟨_,rfl⟩;have bq:mx (L9=L8++(Cs.take j).flatMap λC=>dJ ((iB C).drop p.length)++ic f (iB C).length C):=bp;rw[<-bp]at aH;obtain⟨a9,c9,rfl⟩:=aH.form;have br:mx (fv _ _ _ _):=aH;have bs:mx (eH _ _ _ _):=bo;have bt:mx (kJ _ _ _):=bQ;have cG:=bo.1.size;clear aH bo bQ bp HO8 HW8 HP8;by_cases aB:j<Cs.length
     .obtain⟨vs,ao,ab⟩:=id bt.out;have bu:j<vs.length:=by rw[ab.1];exact aB
      obtain⟨b7,o7,rfl,aq⟩:=jh ao j vs[j] (dd bu)
      have bv:mx (oz wr vs[j] Cs[j]):=by
       obtain⟨u,bR,cq⟩:=ab.2 j aB;rw[dd bu]at bR;cases bR;exact cq
      have HT:mx (Cs.take (j+1)=Cs.take j++[Cs[j]]):=de aB;obtain⟨bw,aO,B,aP,cH,cS⟩:=Vm (C:=Cs[j]) b5.out (λe he=>(ad.out e he).2) HS.out (by rw[<-bc.out];exact ch _)
      have cU:L9.length+(dJ ((iB Cs[j]).drop p.length)++ic f (iB Cs[j]).length Cs[j]).length<=N.length:=by
       have e:Cs=Cs.take (j+1)++Cs.drop (j+1):=(fs _ _).symm;rw[HT.out]at e;rw[bP.out,bq.out];conv=>rhs;rw[e]
       simp only[ei,ef,eq,cc,dt];omega
      obtain⟨aC,cC,eC,cV,cW,bS⟩:=id bv.out;have ar:mx (oz wr (.slice aC Cs[j].length cC) Cs[j]):=by have h:=bv.out;rw[eC]at h;exact h
      rw[eC]at aq;have y:=xD bw;obtain⟨bC,oC,rfl,W⟩:=bS 0 y;have q0:=W.path;rw[i6,iv]at q0;clear W bS bv ab ao eC bu;have aI:(iB Cs[j]).length<=24:=ie (B _ (ch y)).2.length_le (tu (ad.out _ (B _ (ch y)).1).1).1;have ae:mx (∀e∈Cs[j],e∈L/\iB Cs[j] <+: dE e):=B;have cX:(iB Cs[j]).length<=(dE Cs[j][0]).length:=(B _ (ch y)).2.length_le;have cr:(dE Cs[j][0]).length<=24:=an.out _ (B _ (ch y)).1;have ct:mx (gE _):=aO;have cY:mx (p <+: iB Cs[j]):=aP;have bT:=Hv _ Cs[j] wr ar.out bw (λe he=>an.out e (B e he).1);have cZ:(⟨(dE Cs[j][0]).toArray⟩:ByteArray).size=(dE Cs[j][0]).length:=by show(dE Cs[j][0]).toArray.size=_;simp
      clear B aO aP bw;go_wp2_with fail;refine bT.mono ?_;rintro da au ⟨rfl,O⟩;have cu:=gt O q0;have aQ:mx (fv au base (.slice a9 L9.length c9) L9):=br.out.below O;have bx:mx (oz au (.slice (some ⟨bC,oC,none⟩) Cs[j].length cC) Cs[j]):=ar.out.below O;have bU:mx (kJ au (.slice (some ⟨b7,o7,none⟩) Cs.length c7) Cs):=bt.out.below O;have bV:mx (eH w au (.slice a l.length c) (.slice a9 L9.length c9)):=bs.out.trans (eH.below O _);have cv:=O.size;clear bT O br ar bt bs q0 aq;obtain⟨ac,af⟩:∃ac,(⟨(dE Cs[j][0]).toArray⟩:ByteArray).extract p.length (iB Cs[j]).length=ac:=⟨_,rfl⟩
      have Y:ac.data.toList=(iB Cs[j]).drop p.length:=by
       have h:=(ae.out _ (ch y)).2;rw[<-af,show(iB Cs[j]).length=p.length+((iB Cs[j]).length-p.length) by omega,Kq];show(((dE Cs[j][0]).drop p.length).take _)=_;rw[<-List.drop_take,<-List.prefix_iff_eq_take.1 h]
      have bW:mx ((⟨(dE Cs[j][0]).toArray⟩:ByteArray).extract p.length (iB Cs[j]).length=ac):=af
      have bz:ac.size<=1099511627776:=by
       have:ac.size=ac.data.toList.length:=by simp
       rw[this,Y];simp;omega
      have hR:=cf.out base _ L9 ac (iB Cs[j]) _ Cs[j] au aQ.out bx.out (by omega) (λe he=>⟨(ad.out e (ae.out e he).1).1,(ae.out e he).2⟩) ct.out (by omega) aI (by omega) (by rw[Y];omega) bz;rw[Y]at hR;clear af Y;go_wp2_with fail;rw[bW.out];refine hR.mono ?_;rintro db bX ⟨v11,rfl,aR,av⟩;have bY:mx (fv _ _ _ _):=aR;have bZ:mx (eH w bX (.slice a l.length c) v11):=bV.out.trans av;have ca:mx (kJ bX (.slice (some ⟨b7,o7,none⟩) Cs.length c7) Cs):=bU.out.wrote aQ.out av;clear hR aR av cu;go_wp2;go_roundw
      case rel=>
       refine⟨j+1,by omega,by go_num,?_,bZ.out,ca.out⟩
       have e:(L8++(Cs.take (j+1)).flatMap λC=>dJ ((iB C).drop p.length)++ic f (iB C).length C)=L9++(dJ ((iB Cs[j]).drop p.length)++ic f (iB Cs[j]).length Cs[j]):=by
        rw[HT.out,bq.out,ei,dm];simp only[ef,eq,dt]
       rw[e];exact bY.out
      case measure=>simp[intOf];omega
     have HE:mx (L9=l++(dJ label.data.toList++ic (f+1) p.length L)):=by
      show _=_;rw[<-HN.out,bP.out,bq.out,er (by omega)]
     go_wp2;go_ret;refine⟨_,rfl,?_,bs.out⟩;rw[<-HE.out]
     exact br.out)
def eI(es:List dq):List Wd:=(es.filter λe=>e.gone).map dq.name
theorem Hy(l:List dq)(e:dq):eI (l++[e])=eI l++(if e.gone then [e.name]else []):=by
 unfold eI;cases h:e.gone<;>simp[h]
theorem Oa(l:List dq):(eI l).length<=l.length:=by unfold eI;rw[dj];exact List.length_filter_le ..
theorem pG{l m:List dq}(h:l.Perm m):(eI l).Perm (eI m):=(h.filter _).map _
theorem Dk{B es:List dq}(O:(es.map dq.name).Nodup)(h:B.Perm es):(eI B).mergeSort (λx y=>decide (x<=y))=eI (fo es):=by
 have Y:((eI B).mergeSort (λx y=>decide (x<=y))).Perm _:=(List.mergeSort_perm ..).trans (pG (h.trans (fW es).symm));refine o4 (le:=λa b=>a<=b) (λa b _ _ U W=>List.le_antisymm U W) ?_ ?_ Y
 have:=List.pairwise_mergeSort (le:=λx y=>decide (x<=y)) (by
  intro a b c U W;simp only[decide_eq_true_eq]at *
  exact List.le_trans U W) (by
  intro a b;simp only[Bool.or_eq_true,decide_eq_true_eq]
  exact List.le_total a b) (eI B)
 exact this.imp (λh=>by simpa using h);unfold eI;rw[gc];refine o2 ?_ (o1 e0 (mN es O));intro a b hab;unfold D5 at hab;rw[bytesLess_eq,decide_eq_true_eq]at hab;exact List.le_of_lt hab
theorem Ln(base:Nat)(a:Option Addr)(c:Nat)(G:List Wd)(w:World)(U:w.ownsRow base 9 1 (.slice a G.length c) G.length (dn G))(hl:G.length<=1099511627776) :
  g5 prog 162 #[.slice a G.length c] w λe w'=>e=.returned (.tuple #[])/\w'.ownsRow base 9 1 (.slice a G.length c) G.length (dn (G.mergeSort λx y=>decide (x<=y)))/\Below base w w':=by
 rcases U.2 with⟨Y,hn⟩|⟨g,cap,aa,Y,W,hb,h1,h2,h3,h4⟩
 have hG:=ff.1 (by simpa using hn);subst hG;have B:=Any.slices_Sort_string_none xu a c w;refine B.mono ?_;rintro e w' ⟨rfl,rfl⟩;exact⟨rfl,by simpa using U,m0 ..⟩;obtain⟨rfl,_,rfl⟩:=Y;have B:=Any.slices_Sort_string xu g 0 c G w (holds_of_block hb (by simpa[dn]using h4)) (m3.1 hb).1 (by omega);refine B.mono ?_;rintro e w' ⟨rfl,n,os,rfl⟩;refine⟨rfl,?_,?_⟩;exact ownsRow_sorted (by simp) W hb h1 h2 h3;have O:=grownBy_sorted (w:=w) (g:=g) (n:=n) (os:=os) (G.mergeSort λx y=>decide (x<=y)).toArray;exact⟨O.os,O.tape,O.output,O.size,λk hk=>O.block k (hV hk (by have:=(m3.1 hb).1;omega)) (by intro e;cases e;omega)⟩
theorem vT{w:World}{v:Value}{t:g7}{g:Nat}(y:g=w.heap.size):(w.alloc (.cells #[v] t)).cell? ⟨g,0,none⟩=some v:=by subst y;exact iz
theorem Ll:∀S:List Wd,(∀x∈S,x.length<=255)->(S.flatMap dJ).length<=S.length*256:=by
 intro S;induction S with
 |nil=>simp|cons x S B=>
  intro h;have U:=B (λy O=>h y (List.mem_cons_of_mem _ O));have W:=h x (f' ..);rw[ef,cc,ge];have:(dJ x).length=x.length+1:=by simp[dJ]
  omega
theorem eH.low{w0 w w':World}{v:Value}{base:Nat}{l:Wd}(h:eH w w' v v')(hb:Below w0.heap.size w0 w)(y:fv w base v l)(O:w0.heap.size<=base):Below w0.heap.size w0 w':=by
 refine hb.trans ⟨h.1.os,h.1.tape,h.1.output,h.1.size,λk B=>h.1.block k (hV B hb.size) (λe=>?_)⟩;have:=(y.lt k e).1;omega
def sC(es:List dq):Wd:=u8 (eI (fo es)).length::(eI (fo es)).flatMap dJ
theorem ya(B:Nat)(es:List dq)(w:World)(hs:e9 w B es)(hl:es.length<1099511627776)(hg:je es<=255)(a0:∀e∈es,e.gone=true->e.name.length<=255) :
  g5 prog 131 #[.slice none 0 0,.map (some B)] w λen w'=>∃v,en=.returned v/\fv w' w.heap.size v (sC es)/\Below w.heap.size w w':=by
 obtain⟨i0,hi,aL,aM,aN⟩:=g8 FJ;obtain⟨i9,aO,aP,aQ,aR⟩:=g8 tW;have a5:=hs.nodup;have HS:mx (e9 _ _ _):=hs;have aS:mx ((es.map dq.name).Nodup):=a5;have aT:mx (∀e∈es,e.gone=true->e.name.length<=255):=a0;have bh:=dL.lt hs;clear hs a5 a0;go_enter func131,ntmps131;go_wp2_with (first|(at_range;refine jU _ rfl _ rfl rfl HS.out ?_;intro w1 hrg0 hg0 bi));go_frame;go_loopw [5] (λg wr=>∃(y aa:List dq),(y++aa).Perm es/\lR wr B w.heap.size es aa/\wr.ownsRow (w.heap.size+1) 9 1 g (eI y).length (dn (eI y))/\Below w.heap.size w wr/\w.heap.size+1<=wr.heap.size) (λ_ wr=>wr.rangeLeft B w.heap.size)
 case atStart=>exact⟨[],es,o3 _,hrg0,m9 _ _ _ _,(m0 _ _).grown hg0 (hX _) (λk hk=>by cases hk),by omega⟩
 case round=>
  obtain⟨y,aa,eF,hr,ac,hb,hz⟩:=hrel;have HP:mx ((y++aa).Perm es):=eF;have HR:mx (lR _ _ _ _ _):=hr;obtain⟨ag,cg,rfl,aU⟩:=dK ac;have HO:mx (wr.ownsRow (w.heap.size+1) 9 1 (.slice ag (eI y).length cg) (eI y).length (dn (eI y))):=ac;have HB:mx (Below _ _ _):=hb
  have aV:(eI y).length<=es.length:=by
   have h1:=Oa y;have h2:=eF.length_eq;rw[cc]at h2;omega
  clear eF hr hb ac;go_wp2_with (first|(at_next;refine kY _ rfl _ rfl w.heap.size aa rfl HR.out ?_ ?_))
  .intro h0
   have hE:y.Perm es:=by
    have:=HP.out;rw[h0,dt]at this;exact this
   obtain⟨S,hS⟩:∃S,S=eI (fo es):=⟨_,rfl⟩;have ao:=Ln (w.heap.size+1) ag cg (eI y) wr HO.out (by omega);rw[Dk aS.out hE,<-hS]at ao;have ap:mx (S.length=(eI y).length):=by show _=_;rw[hS];exact(pG (hE.trans (fW es).symm)).length_eq.symm
   have bj:S.length<=255:=by
    rw[hS];have h1:=(pG (fW es)).length_eq;have h2:(eI es).length=je es:=by simp[eI,je]
    omega
   have a6:mx (∀x∈S,x.length<=255):=by
    intro x hx;rw[hS]at hx;have hx2:=(pG (fW es)).mem_iff.1 hx;unfold eI at hx2;obtain⟨e,he,rfl⟩:=dr.1 hx2;rw[gl]at he;exact aT.out e he.1 (by simpa using he.2)
   have aW:mx (S=eI (fo es)):=hS;clear h0 hE hS;go_wp2_with fail;refine ao.mono ?_;rintro e2 w2 ⟨rfl,aq,ar⟩;have a7:=ar.size;have ae:mx (Below w.heap.size w w2):=HB.out.trans (ar.mono (by omega));have aX:(eI y).length<=255:=by have:=ap.out;omega
   rw[<-ap.out]at aq⊢;have ad:mx (w2.ownsRow (w.heap.size+1) 9 1 (.slice ag S.length cg) S.length (dn S)):=aq;have a8:mx (w2.ownsRow w.heap.size 5 1 (.slice none 0 0) 0 []):=m9 _ _ _ _;clear ao aq ar HO HR aX aV;clear aU ap
   go_wp2_with (first
    |(at_builtin;refine fc _ rfl _ _ 60 rfl w.heap.size 5 i0 (.int .u8 0) 1 i8 hi aL aM aN rfl _ _ _ rfl (a8.out.alloc _) _ [.int .u8 (S.length:Int)] rfl (Rd.one iz) (by simp[nl]) ?c1 ?c2 ?c3 ?_))
   case c1=>simp
   case c2=>unfold gv;simp
   case c3=>simp;omega
   intro v3 w3 O U a9
   have HO3:mx (fv w3 w.heap.size v3 [u8 S.length]):=by
    show fv _ _ _ _;unfold fv;rw[mh,show(S.length:Int) % 256=S.length by omega];simpa using O
   have ab:eH w2 w3 (.slice none 0 0) v3:=eH.of U a9;have af:Below w2.heap.size w2 w3:=⟨ab.1.os,ab.1.tape,ab.1.output,ab.1.size,λk hk=>ab.1.block k hk (by simp[no])⟩;have HB3:mx (Below w.heap.size w w3):=ae.out.trans (af.mono (by omega));have HG3:mx (w3.ownsRow (w.heap.size+1) 9 1 (.slice ag S.length cg) S.length (dn S)):=eh ad.out (λk hk=>af.block k (ad.out.lt k hk).2);obtain⟨a3,c3,rfl⟩:=HO3.out.form;have bk:=af.size;clear O U a9 ab af a8 ad ae
   have aY:mx (∀k,k<=S.length->(u8 S.length::(S.take k).flatMap dJ).length<=65536):=by
    intro k hk;have h1:=Ll (S.take k) (λx hx=>a6.out x (List.mem_of_mem_take hx));rw[cp,hZ hk]at h1;rw[ge];omega
   go_wp2_with fail;go_loopw [0,33] (λu i wx=>∃k:Nat,k<=S.length/\i=.int .i64 k/\fv wx w.heap.size u (u8 S.length::(S.take k).flatMap dJ)/\wx.ownsRow (w.heap.size+1) 9 1 (.slice ag S.length cg) S.length (dn S)/\Below w.heap.size w wx) (λ_ i _=>S.length-(intOf i).toNat)
   case atStart=>exact⟨0,hY _,rfl,by simpa using HO3.out,HG3.out,HB3.out⟩
   case round=>
    obtain⟨k,hk,rfl,ah,a',au⟩:=hrel;obtain⟨L4,ai⟩:∃L4,L4=u8 S.length::(S.take k).flatMap dJ:=⟨_,rfl⟩;have aA:mx (L4=u8 S.length::(S.take k).flatMap dJ):=ai;have bl:L4.length<=65536:=by rw[ai];exact aY.out k hk
    rw[<-ai]at ah;obtain⟨a4,c4,rfl⟩:=ah.form;have aj:mx (fv _ _ _ _):=ah;have ak:mx (wr.ownsRow (w.heap.size+1) 9 1 (.slice ag S.length cg) S.length (dn S)):=a';have aB:mx (Below _ _ _):=au;have aZ:=au.size;clear ah a' au ai HO3 HG3 HB3;by_cases av:k<S.length
    .obtain⟨bg,og,rfl,aw⟩:=jh ak.out k _ (gU S k av);have hx:=a6.out _ (ch av);have HT:mx (S.take (k+1)=S.take k++[S[k]]):=de av;have hA:=jG w.heap.size _ L4 ⟨S[k].toArray⟩ wr aj.out (by omega) (by show S[k].toArray.size<=_;simp;omega) aZ;go_wp2_with fail;refine hA.mono ?_;rintro e5 w5 ⟨v5,rfl,aC,ax⟩;have ba:mx (fv _ _ _ _):=aC;have bc:mx (Below w.heap.size w w5):=ax.low aB.out aj.out (hX _);have bd:mx (w5.ownsRow (w.heap.size+1) 9 1 (.slice (some ⟨bg,og,none⟩) S.length cg) S.length (dn S)):=eh ak.out (λj hj=>ax.1.block j (ak.out.lt j hj).2 (λe=>ub ak.out aj.out (by decide) j hj e));clear hA aC ax aw;go_wp2;go_roundw
     case rel=>
      refine⟨_,_,_,_,_,_,_,_,_,_,⟨k+1,by omega,by go_num,?_,bd.out,bc.out⟩,rfl⟩
      have e:(u8 S.length::(S.take (k+1)).flatMap dJ)=L4++dJ S[k]:=by
       rw[HT.out,aA.out,ei,List.cons_append];simp only[ef,eq,dt]
      rw[e];exact ba.out
     case measure=>simp[intOf];omega
    have HE:mx (L4=sC es):=by
     show _=_;unfold sC;rw[aA.out,er (by omega),aW.out]
    go_wp2;go_ret;refine⟨_,rfl,?_,aB.out⟩;rw[<-HE.out];exact aj.out
  intro e Y w2 aD al an ay be bm;have aE:=ew.lt al;have aF:=dL.lt (ew.owns al);have aG:mx (Below w.heap.size w w2):=lM HB.out ay (hX _);have aH:mx (lR _ _ _ _ _):=al;have aI:mx (w2.rangeLeft B w.heap.size<wr.rangeLeft B w.heap.size):=an;have aJ:mx (aa.Perm (e::Y)):=aD;have W:mx (w2.ownsRow (w.heap.size+1) 9 1 (.slice ag (eI y).length cg) (eI y).length (dn (eI y))):=eh HO.out (λk hk=>ay.block k (HO.out.lt k hk).2 (by have:=(HO.out.lt k hk).1;intro e;cases e;omega));have am:=Hy y e;have a7:w.heap.size+1<=w2.heap.size:=by omega
  clear aD al an ay be;obtain⟨nm,gn,tx,wt,tg⟩:=e
  cases gn with
  |false=>
   have az:mx (eI (y++[⟨nm,false,tx,wt,tg⟩])=eI y):=by show _=_;rw[am];simp
   clear am;go_wp2;go_roundw
   case rel=>
    exact⟨y++[⟨nm,false,tx,wt,tg⟩],Y,ji HP.out aJ.out,aH.out.alloc _,by rw[az.out];exact W.out.alloc _,aG.out.alloc (by omega) _,by simp;omega⟩
   case measure=>
    rw[iY aF aE];exact aI.out
  |true=>
   have az:mx (eI (y++[⟨nm,true,tx,wt,tg⟩])=eI y++[nm]):=by show _=_;rw[am];simp
   clear am
   go_wp2_with (first
     |(at_builtin;refine fp _ rfl _ _ 31 rfl (w.heap.size+1) 9 i9 (.string ⟨#[]⟩) 16 i' aO aP aQ aR rfl _ _ _ rfl ((W.out.alloc _).alloc _) ⟨w2.heap.size+1,0,none⟩ _ rfl (vT (by simp)) rfl ?c1 ?c2 ?c3 ?_))
   case c1=>omega
   case c2=>unfold gv;omega
   case c3=>first|omega|(simp;omega)
   intro v3 w3 O U _;have aK:Below w.heap.size w w3:=((aG.out.alloc (by omega) _).alloc (by simp;omega) _).grown U (by simp;omega) (λb hb=>by have:=(W.out.lt b hb).1;omega);have ae:mx (Below _ _ _):=aK;have bn:w2.heap.size<=w3.heap.size:=by have:=U.size;simp at this;omega
   have bf:mx (lR w3 B w.heap.size es Y):=ew.kept ((aH.out.alloc _).alloc _) U (λe=>by have:=(W.out.lt B e.symm).1;omega) (λe=>by have:=(W.out.lt _ e.symm).1;omega)
   have ad:mx (w3.ownsRow (w.heap.size+1) 9 1 v3 (eI (y++[⟨nm,true,tx,wt,tg⟩])).length (dn (eI (y++[⟨nm,true,tx,wt,tg⟩])))):=by
    show w3.ownsRow _ _ _ _ _ _;rw[az.out,kZ];rw[cc];exact O
   have HL2:mx (w3.rangeLeft B w.heap.size<wr.rangeLeft B w.heap.size):=by
    show _<_;rw[ew.jJ (U.block B (by simp;omega) (λe=>by have:=(W.out.lt B e.symm).1;omega)) (U.block w.heap.size (by simp;omega) (λe=>by have:=(W.out.lt _ e.symm).1;omega)),iY (by simp;omega) (by simp;omega),iY aF aE];exact aI.out
   clear O U aK;go_wp2;go_roundw
   case rel=>
    exact⟨y++[⟨nm,true,tx,wt,tg⟩],Y,ji HP.out aJ.out,bf.out,ad.out,ae.out,by omega⟩
   case measure=>exact HL2.out
open Go.Sort
def rT(x y:Wd):Int:=if n3 x y=true then -1 else if n3 y x=true then 1 else 0
theorem BH(x:ByteArray)(w:World):g5 prog 175 #[.string x] w λe w'=>e=.returned (.bool false)/\w=w':=by
 go_wp2;go_ret;exact⟨rfl,rfl⟩
theorem qa(x y:Wd)(w:World):g5 prog 128 #[.string ⟨x.toArray⟩,.string ⟨y.toArray⟩] w λe w'=>e=.returned (.int .i64 (rT x y))/\w=w':=by
 have W:=BH ⟨x.toArray⟩ w;have Y:=BH ⟨y.toArray⟩ w;unfold rT;by_cases U:n3 x y=true
 .rw[if_pos U];go_enter md,kk;go_wp2_with fail;refine W.mono ?_;rintro e w' ⟨rfl,rfl⟩;go_wp2_with fail;refine Y.mono ?_;rintro e w' ⟨rfl,rfl⟩;go_wp2;go_ret;exact⟨rfl,rfl⟩
 rw[if_neg U];have B:n3 x y=false:=by simpa using U
 clear U;by_cases O:n3 y x=true
 .rw[if_pos O];have aa:(x==y)=false:=beq_eq_false_iff_ne.2 (λe=>by subst e;rw[B]at O;cases O);clear O;go_enter md,kk;go_wp2_with fail;refine W.mono ?_;rintro e w' ⟨rfl,rfl⟩;go_wp2_with fail;refine Y.mono ?_;rintro e w' ⟨rfl,rfl⟩;go_wp2;go_ret;exact⟨rfl,rfl⟩
 obtain rfl:x=y:=by
  rcases iC x y with h|h|h
  rw[B]at h;cases h;exact h;exact absurd h O
 go_enter md,kk;go_wp2_with fail;refine W.mono ?_;rintro e w' ⟨rfl,rfl⟩;go_wp2_with fail;refine Y.mono ?_;rintro e w' ⟨rfl,rfl⟩;go_wp2;go_ret;exact⟨rfl,rfl⟩
def kC(e:dq):List Value:=[.string ⟨(dE e).toArray⟩,.string ⟨e.name.toArray⟩,.string ⟨e.text.toArray⟩,.int .i64 e.dp,.int .i64 e.dA]
def Sc(x y:dq):Int:=if rT (dE x) (dE y)≠0 then rT (dE x) (dE y)else rT x.name y.name
theorem OD(x y:dq)(w:World):g5 prog 185 #[.agg #[.string ⟨(dE x).toArray⟩,.string ⟨x.name.toArray⟩,.string ⟨x.text.toArray⟩,.int .i64 x.dp,.int .i64 x.dA],.agg #[.string ⟨(dE y).toArray⟩,.string ⟨y.name.toArray⟩,.string ⟨y.text.toArray⟩,.int .i64 y.dp,.int .i64 y.dA]] w λe w'=>e=.returned (.int .i64 (Sc x y))/\∃k os,w'=grow (w.drewN k) os:=by
 have h1:=λW=>qa (dE x) (dE y) W;have h2:=λW=>qa x.name y.name W;unfold Sc;obtain⟨z,hz⟩:∃z,z=rT (dE x) (dE y):=⟨_,rfl⟩;obtain⟨t,ht⟩:∃t,t=rT x.name y.name:=⟨_,rfl⟩;rw[<-hz]at h1⊢;rw[<-ht]at h2⊢;obtain⟨wT,aa⟩:∃wT,wT=if z≠0 then z else t:=⟨_,rfl⟩
 rw[<-aa]
 have ad:∀(g:Nat)(W:World),W.cell? ⟨g,0,none⟩=some (.int .i64 z)->W.cell? ⟨g,1,none⟩=some (.int .i64 t)->g5 prog 126 #[.slice (some ⟨g,0,none⟩) 2 2] W λe w'=>e=.returned (.int .i64 wT)/\W=w':=λg W k1 k2=>by
  rw[aa];exact C0 z t g W k1 k2
 clear hz ht aa;generalize dE x=kx at *;generalize dE y=ky at *;obtain⟨nx,_,tx,wx,gx⟩:=x;obtain⟨ny,_,ty,wy,gy⟩:=y;simp only at h2⊢;obtain⟨Y,ab⟩:∃Y,Y=(w.alloc (.cells #[.string ⟨kx.toArray⟩,.string ⟨nx.toArray⟩,.string ⟨tx.toArray⟩,.int .i64 wx,.int .i64 gx] 237)).alloc (.cells #[.string ⟨ky.toArray⟩,.string ⟨ny.toArray⟩,.string ⟨ty.toArray⟩,.int .i64 wy,.int .i64 gy] 237):=⟨_,rfl⟩
 have hA:∀j,Y.cell? ⟨w.heap.size,j,none⟩=(#[Value.string ⟨kx.toArray⟩,.string ⟨nx.toArray⟩,.string ⟨tx.toArray⟩,.int .i64 wx,.int .i64 gx]:Array Value)[j]?:=λj=>by
  rw[ab,World.cell?_alloc_past _ _ _ (by simp),m' _ _ _ _ rfl]
 have ac:∀j,Y.cell? ⟨w.heap.size+1,j,none⟩=(#[Value.string ⟨ky.toArray⟩,.string ⟨ny.toArray⟩,.string ⟨ty.toArray⟩,.int .i64 wy,.int .i64 gy]:Array Value)[j]?:=λj=>by
  rw[ab,m' _ _ _ _ (by simp)]
 have ae:∃os,Y=grow w os:=⟨_,by rw[ab,n8,n8,grow_grow]⟩;have a0:Y.cell? ⟨w.heap.size,0,none⟩=some (.string ⟨kx.toArray⟩):=hA 0;have a1:Y.cell? ⟨w.heap.size,1,none⟩=some (.string ⟨nx.toArray⟩):=hA 1;have b0:Y.cell? ⟨w.heap.size+1,0,none⟩=some (.string ⟨ky.toArray⟩):=ac 0;have b1:Y.cell? ⟨w.heap.size+1,1,none⟩=some (.string ⟨ny.toArray⟩):=ac 1;clear hA ac;go_enter func185,ntmps185;go_wp2_with fail;rw[<-ab];clear ab;have O:(λw':World=>w'.cell? ⟨w.heap.size,0,none⟩=some (.string ⟨kx.toArray⟩)/\w'.cell? ⟨w.heap.size,1,none⟩=some (.string ⟨nx.toArray⟩)/\w'.cell? ⟨w.heap.size+1,0,none⟩=some (.string ⟨ky.toArray⟩)/\w'.cell? ⟨w.heap.size+1,1,none⟩=some (.string ⟨ny.toArray⟩)) Y.drew:=⟨a0,a1,b0,b1⟩;clear a0 a1 b0 b1;refine g6 (S:=λw'=>w'.cell? ⟨w.heap.size,0,none⟩=some (.string ⟨kx.toArray⟩)/\w'.cell? ⟨w.heap.size,1,none⟩=some (.string ⟨nx.toArray⟩)/\w'.cell? ⟨w.heap.size+1,0,none⟩=some (.string ⟨ky.toArray⟩)/\w'.cell? ⟨w.heap.size+1,1,none⟩=some (.string ⟨ny.toArray⟩)) (by kernel_rfl) ?_;refine fU 0 ?_ O ?_<|fU 1 ?_ O ?_<|fU 2 ?_ O ?_<|fU 3 ?_ O ?_<|fU 5 ?_ O ?_<|fU 6 ?_ O ?_<|fU 7 ?_ O ?_<|fU 8 ?_ O ?_<|fU 9 ?_ O ?_<|fU 10 ?_ O ?_ ?_
 any_goals(rintro w' ⟨s0,s1,s2,s3⟩;go_simp;first|done|with_reducible rfl)
 refine l5 4 λK' U=>?_;unfold m6;go_simp;refine(h1 _).mono ?_;rintro e w' ⟨rfl,rfl⟩;refine U _ _ ⟨O,?_⟩;clear U;refine l5 11 λK' U=>?_;unfold m6;go_simp;refine(h2 _).mono ?_;rintro e w' ⟨rfl,rfl⟩;refine U _ _ ⟨O,?_⟩;clear U;refine l5 12 λK' U=>?_;unfold m6;go_simp
 have B:Below Y.heap.size Y (Y.alloc (.cells #[.int .i64 z,.int .i64 t] 3)).drew:=by
  have h:Below Y.heap.size Y (Y.alloc (.cells #[.int .i64 z,.int .i64 t] 3)):=(m0 _ _).alloc (hX _) _;exact⟨h.os,h.tape,h.output,h.size,h.block⟩
 refine U _ _ ⟨⟨gt B O.1,gt B O.2.1,gt B O.2.2.1,gt B O.2.2.2⟩,?_⟩;clear U;refine l5 13 λK' U=>?_;unfold m6;go_simp;refine(ad Y.heap.size (Y.alloc (.cells #[.int .i64 z,.int .i64 t] 3)).drew (BG (w:=Y) (by rfl)).1 (BG (w:=Y) (by rfl)).2).mono ?_;rintro e w' ⟨rfl,rfl⟩;refine U _ _ ⟨⟨gt B O.1,gt B O.2.1,gt B O.2.2.1,gt B O.2.2.2⟩,?_⟩;clear U;have af:(λw':World=>w'.cell? ⟨w.heap.size,0,none⟩=some (.string ⟨kx.toArray⟩)/\w'.cell? ⟨w.heap.size,1,none⟩=some (.string ⟨nx.toArray⟩)/\w'.cell? ⟨w.heap.size+1,0,none⟩=some (.string ⟨ky.toArray⟩)/\w'.cell? ⟨w.heap.size+1,1,none⟩=some (.string ⟨ny.toArray⟩)) (Y.alloc (.cells #[.int .i64 z,.int .i64 t] 3)).drew:=⟨gt B O.1,gt B O.2.1,gt B O.2.2.1,gt B O.2.2.2⟩;refine fU 14 ?_ af ?_ ?_;rotate_left
 .rintro w' ⟨s0,s1,s2,s3⟩;go_simp;first|done|with_reducible rfl
 refine g9 (by kernel_rfl) ?_ _;go_wp2;go_ret;obtain⟨os,rfl⟩:=ae;exact⟨rfl,1,_,by rw[n8,grow_grow];rfl⟩
variable {a b:dq} {g:Nat}
theorem x9(x y:Wd):rT x y<0↔n3 x y=true:=by
 unfold rT;by_cases B:n3 x y=true;simp[B];by_cases O:n3 y x=true;simp[B,O];simp[B,O]
theorem ry(x y:Wd):rT x y=0↔x=y:=by
 unfold rT;constructor;intro h;rcases iC x y with B|B|B
 rw[if_pos B]at h;cases h;exact B;rw[if_neg (by rw[pF B];simp),if_pos B]at h;cases h;rintro rfl;simp[im]
theorem uS(x y:dq):ltOf Sc x y=true↔DJ x y:=by
 unfold ltOf Sc DJ;rw[decide_eq_true_eq];by_cases h:dE x=dE y;rw[if_neg (by rw[Classical.not_not];exact(ry ..).2 h),x9,h,im];simp;rw[if_pos (λe=>h ((ry ..).1 e)),x9];simp[h]
theorem Ca{c:dq}(B:DJ a b)(y:DJ b c):DJ a c:=by
 rcases B with B|⟨B,O⟩
 rcases y with y|⟨y,_⟩
 exact Or.inl (me _ _ _ B y);exact Or.inl (by rw[<-y];exact B);rcases y with y|⟨y,U⟩
 exact Or.inl (by rw[B];exact y);exact Or.inr ⟨B.trans y,me _ _ _ O U⟩
theorem Cf(a b:dq):DJ a b\/(dE a=dE b/\a.name=b.name)\/DJ b a:=by
 rcases iC .. with h|h|h
 exact Or.inl (Or.inl h);rcases iC .. with y|y|y
 exact Or.inl (Or.inr ⟨h,y⟩);exact Or.inr (Or.inl ⟨h,y⟩);exact Or.inr (Or.inr (Or.inr ⟨h.symm,y⟩));exact Or.inr (Or.inr (Or.inl h))
theorem Hi(a:dq):¬DJ a a:=by
 unfold DJ;simp[im]
theorem O0{c:dq}(h:dE a=dE b/\a.name=b.name)(y:DJ a c):DJ b c:=by
 unfold DJ at *;rw[<-h.1,<-h.2];exact y
theorem Q2:SWO (ltOf Sc) where
 irrefl x:=by
  have:=Hi x;rw[<-uS]at this;simpa using this
 trans x y z h1 h2:=by rw[uS]at *;exact Ca h1 h2
 ntrans x y z h1 h2:=by
  cases B:ltOf Sc x z with
  |false=>rfl|true=>
   rw[uS]at B;have n1:¬DJ x y:=by rw[<-uS,h1];simp
   have n2:¬DJ y z:=by rw[<-uS,h2];simp
   rcases Cf x y with h|h|h
   exact absurd h n1;exact absurd (O0 h B) n2;exact absurd (Ca h B) n2
def gX(es:List dq):List Value:=es.flatMap kC
theorem AH(es:List dq)(x:dq):gX (es++[x])=gX es++kC x:=by simp[gX]
theorem CI:∀(ws:List dq)(i c:Nat)(h:i<ws.length),c<5->(gX ws)[i*5+c]?=(kC ws[i])[c]?:=by
 intro ws;induction ws with
 |nil=>intro i c h;simp at h|cons a l y=>
  intro i c h B;have e:gX (a::l)=kC a++gX l:=by simp[gX]
  rw[e]
  cases i with
  |zero=>rw[cx (by simp[kC];omega)];simp|succ i=>
   rw[df (by simp[kC];omega)];have O:(kC a).length=5:=rfl;rw[O,show(i+1)*5+c-5=i*5+c by omega,y i c (by simpa using h) B];simp
theorem Bs(x:dq):∀v∈kC x,v.oneCell'=true:=by
 intro v y;simp[kC]at y;rcases y with rfl|rfl|rfl|rfl|rfl<;>rfl
instance:Inhabited dq:=⟨⟨[],false,[],0,0⟩⟩
theorem xS{e n m cap:Nat}{ws:List dq}(h:w.ownsRow base e 5 (.slice (some ⟨g,0,none⟩) m cap) n (gX ws))(hn:n=ws.length):HoldsK kC 5 w g 0 ws.toArray:=by
 intro j hj;have B:=by simpa using hj
 have U:j / 5<ws.length:=by omega
 have y:(gX ws)[j]?=some ((flatK kC 5 ws.toArray)[j]!):=by
  rw[get_flatK _ _ _ _ (by simpa using B)];have:=CI ws _ (j % 5) U (by omega);rw[show j / 5*5+j % 5=j by omega]at this;rw[this];have e1:ws.toArray[j / 5]! = ws[j / 5]:=by rw[getElem!_pos _ _ (by simpa using U)];simp
  rw[e1];have W:j % 5<(kC ws[j / 5]).length:=by simp[kC];omega
  rw[dd W,getElem!_pos (kC _) _ W]
 rcases h.2 with⟨h0,_⟩|⟨g',Y,aa,he,_,hg,_,_,ab,O⟩
 simp at h0;obtain⟨⟨rfl,_⟩,_,rfl⟩:=he;refine⟨?_,?_⟩;rw[dh hg];rw[<-O,dg,if_pos (by omega)]at y;simpa using y;simp[World.frozen?,hg]
theorem wD{k blk off m:Nat}{enc:dq->List Value}{d:Array dq}{os:Array Obj}(hb:base<=blk)(y:blk<w.heap.size):Below base w (ot enc k w blk off m d os):=by
 refine⟨rfl,rfl,rfl,?_,λj B=>?_⟩;unfold ot od oi grow oa;simp[n7];unfold ot od oi grow oa;simp[n7];rw[Array.getElem?_append_left (by simp;omega),m5,if_neg (by omega)]
theorem F7{k m:Nat}{enc:dq->List Value}{d:Array dq}{os:Array Obj}{y:Array Value}{e:g7}{fr:Nat×Nat}(hb:w.heap[g]?=some (.cells y e fr)):∃cs,(ot enc k w g 0 m d os).heap[g]?=some (.cells cs e fr):=by
 have B:=(m3.1 hb).1;unfold ot od;rw[heap_grow_old _ _ (by simpa using B)];simp[oi,oa,n7,m5,hb,onCells]
theorem LZ(blk off size:Nat)(w:World):CmpLays prog 185 #[] kC 5 Sc blk off size w:=by
 intro m os B _ x y;exact OD x y _
theorem KM(base:Nat)(au:Option Addr)(W:Nat)(es:List dq)(w:World)(O:w.ownsRow base 237 5 (.slice au es.length W) es.length (gX es))(ad:(es.map dq.name).Nodup)(hl:es.length<=1048576) :
  g5 prog 184 #[.slice au es.length W,.func (.func 185) #[] #[]] w λe w2=>e=.returned (.tuple #[])/\Below base w w2/\
   ∃L:List dq,L.Perm es/\gE L/\oz w2 (.slice au es.length W) L:=by
 rcases O.2 with⟨he,hn⟩|⟨g,cap,ah,he,Y,hb,h1,h2,h3,h4⟩
 have hG:es=[]:=ff.1 (by simpa using hn);subst hG;have y:=AnyF.slices_SortFunc_none Fw au W (.func (.func 185) #[] #[]) w;change g5 prog 184 _ _ _ at y;simp only[m7]at he;refine y.mono ?_;rintro e w2 ⟨rfl,rfl⟩;exact⟨rfl,m0 _ _,[],o3 _,List.Pairwise.nil,au,W,rfl,hY _,by rw[he.2.2];exact hY _,λi h=>by simp at h⟩;simp only[m7]at he;obtain⟨rfl,_,rfl⟩:=he;have aa:g<w.heap.size:=(m3.1 hb).1
 have y:=AnyQ.slices_SortFunc Fw 5 isAgg237 sizeOf237 kC (λ_=>rfl) Bs Sc Q2 185 #[] g 0 W es.toArray w
  (enters_of func185 (by kernel_rfl) rfl) (LZ g 0 _ w) (xS O rfl) aa (by simp;omega)
 change g5 prog 184 _ _ _ at y;refine y.mono ?_;rintro e w2 ⟨rfl,d',nq,os,hp,hs,rfl⟩;have ab:d'.size=es.length:=by rw[hp.1];simp
 have hH:HoldsK kC 5 (ot kC 5 w g 0 nq d' os) g 0 d':=by
  unfold ot;refine holdsK_grow _ _ _ _ _ _ _ ?_ (holdsK_putRowK _ _ _ _ _ _ _ (holdsK_ahead _ _ _ _ _ _ _ (xS O rfl)) hp.1);unfold od oi oa;simp[n7];exact aa
 obtain⟨cs,ae⟩:=F7 (enc:=kC) (k:=5) (m:=nq) (d:=d') (os:=os) hb
 have eF:=by
  have e1:d'.extract 0 es.toArray.size=d':=by rw[<-hp.1];simp
  have e2:es.toArray.extract 0 es.toArray.size=es.toArray:=by simp
  have p3:=hp.2.2;rw[e1,e2]at p3;exact p3
 have af:gE d'.toList:=by
  have U:=(eF.map _).nodup_iff.2 ad;unfold gE;rw[fa];intro i j hi hj ac;have ag:d'.toList.length=es.toArray.size:=by simpa using ab
  have h:=hs i j (hY _) ac (by omega);have gi:d'[i]! = d'.toList[i]:=by rw[getElem!_pos d' i _];rfl
  have gj:d'[j]! = d'.toList[j]:=by rw[getElem!_pos d' j _];rfl
  rw[gi,gj]at h;rcases Cf _ _ with h'|h'|h'
  exact h';rw[List.Nodup,gc,fa]at U;exact absurd h'.2 (U i j hi hj ac);rw[<-uS,h]at h';cases h'
 refine⟨rfl,wD Y aa,d'.toList,eF,af,some _,W,by rw[show d'.toList.length=es.length by simpa using ab],by rw[show d'.toList.length=es.length by simpa using ab];exact h1,h2,λi hi=>?_⟩;have B:=by simpa using hi
 have g0:=(ov hH B (c:=0) (by decide)).1;have g1:=(ov hH B (c:=1) (by decide)).1;have g2:=(ov hH B (c:=2) (by decide)).1;have g3:=(ov hH B (c:=3) (by decide)).1;have g4:=(ov hH B (c:=4) (by decide)).1;have e2:d'[i]! = d'.toList[i]:=by rw[getElem!_pos d' i B];rfl
 rw[e2]at g0 g1 g2 g3 g4;refine⟨g,0,rfl,g0,?_,?_,?_,?_,cs,(0,0),ae⟩;exact g1;exact g2;exact g3;exact g4
variable {u:Value}
theorem Ar{P:Program}(w:World){o:Oper}{a:Act}{K:Act->World->Prop}{Q:Exit->Act->World->Prop}(s x:Operand)(t:g7)
  (ho:o.op=.call {callee:=.builtin .append,args:=#[s,x],argTypes:=#[t,t]})
  (base:Nat) (e:g7) (i:TypeInfo) (z:Value) (size bytes:Nat) (ht:P.underlying t=some (.slice e)) (hi:P.info? e=some i) (hz:i.zero=some z)
  (O:i.size=size) (Y:i.bytes=bytes) (aa:z.cells.size=size) (ab:0<size)
  (v:Value) (n:Nat) (xs:List Value) (hs:a.eval s=v) (W:w.ownsRow base e size v n xs)
  (y:Value) (m:Nat) (news:List Value) (hx:a.eval x=y) (hy:tj w size y m news) (h1:∀u∈news,u.oneCell'=true)
  (B:(n+m)*bytes<=140737488355328) (ac:n+m<=gv) (U:base<=w.heap.size)
  (h:∀v' w',w'.ownsRow base e size v' (n+m) (xs++news)->w.grownBy w' v.ownBlock->(v'.ownBlock=v.ownBlock\/(v'.ownBlock=some w.heap.size/\Below w.heap.size w w'))->K (a.put o.dst v') w'):m6 P o a w K Q:=by
 obtain⟨v',w',hr,h2,h3,h4⟩:=pT (P:=P) w base t o.type e i z size bytes ht hi hz O Y aa ab v n xs W y m news hy h1 B ac U;unfold m6 hI;simp only[ho,h7,invoke,builtin,on,oj,oo,ek,ej,et,hs,hx,hr];exact h v' w' h2 h3 h4
theorem OP:(prog.info? 237).map (λi=>(i.zero,i.size,i.bytes))=some (some (.agg #[.string ⟨#[]⟩,.string ⟨#[]⟩,.string ⟨#[]⟩,.int .i64 0,.int .i64 0]),5,64):=by kernel_rfl
theorem N1{x y z v:Value}{t:g7}{g:Nat}(O:g=w.heap.size):tj (w.alloc (.cells #[x,y,z,u,v] t)) 5 (.slice (some ⟨g,0,none⟩) 1 1) 1 [x,y,z,u,v]:=by
 subst O;refine⟨some _,1,rfl,hX _,by unfold gv;omega,rfl,λj u B=>⟨w.heap.size,0,rfl,?_⟩⟩;match j,B with
 |0,B=>simpa using B|1,B=>simpa using B|2,B=>simpa using B|3,B=>simpa using B|4,B=>simpa using B|j+5,B=>simp at B
theorem cell_grown{row:Option Nat}{k o:Nat}(B:w.grownBy w' row)(h:w.cell? ⟨k,o,none⟩=some u)(y:some k≠row):w'.cell? ⟨k,o,none⟩=some u:=by
 have hb:=B.block k (QB h) y;simp only[ne]at h⊢;rw[hb];exact h
theorem lR.SF{B r:Nat}{es y:List dq}(h:lR w B r es y)(hb:Below w.heap.size w w'):lR w' B r es y:=ew.kept (row:=none) h ⟨hb.os,hb.tape,hb.output,hb.size,λk O _=>hb.block k O⟩ (by simp) (by simp)
theorem Jk(B:Nat)(es:List dq)(w:World)(hs:e9 w B es)(hl:es.length<=1048576)(ay:∀e∈es,e.text.length<=1099511627776) :
  g5 prog 133 #[.map (some B)] w λen w'=>∃v L,en=.returned v/\L.Perm (dw es)/\gE L/\oz w' v L/\Below w.heap.size w w':=by
 obtain⟨i0,hi,aG,aH,aI⟩:=g8 OP;have az:=hs.nodup;have HS:mx (e9 _ _ _):=hs;have aJ:mx ((es.map dq.name).Nodup):=az;have aK:mx (∀e∈es,e.text.length<=1099511627776):=ay;have aW:=dL.lt hs;clear hs az ay;go_enter func133,ntmps133;go_wp2_with (first|(at_range;refine jU _ rfl _ rfl rfl HS.out ?_;intro w1 hrg0 hg0 aX));go_frame;go_loopw [3] (λg wr=>∃(y ae:List dq),(y++ae).Perm es/\lR wr B w.heap.size es ae/\wr.ownsRow (w.heap.size+1) 237 5 g (dw y).length (gX (dw y))/\Below w.heap.size w wr/\w.heap.size+1<=wr.heap.size) (λ_ wr=>wr.rangeLeft B w.heap.size)
 case atStart=>exact⟨[],es,o3 _,hrg0,m9 _ _ _ _,(m0 _ _).grown hg0 (hX _) (λk hk=>by cases hk),by omega⟩
 case round=>
  obtain⟨y,ae,eF,hr,ah,hb,hz⟩:=hrel;have HP:mx ((y++ae).Perm es):=eF;have HR:mx (lR _ _ _ _ _):=hr;obtain⟨ag,cg,rfl,aY⟩:=jf ah;have HO:mx (wr.ownsRow (w.heap.size+1) 237 5 (.slice ag (dw y).length cg) (dw y).length (gX (dw y))):=ah;have HB:mx (Below _ _ _):=hb
  have aZ:(dw y).length<=es.length:=by
   have h1:=oT y;have h2:=eF.length_eq;rw[cc]at h2;omega
  clear eF hr hb ah;go_wp2_with (first|(at_next;refine kY _ rfl _ rfl w.heap.size ae rfl HR.out ?_ ?_))
  .intro h0
   have hE:y.Perm es:=by
    have:=HP.out;rw[h0,dt]at this;exact this
   have a0:=KM (w.heap.size+1) ag cg (dw y) wr HO.out (by
    have h1:(y.map dq.name).Nodup:=(hE.map _).nodup_iff.2 aJ.out
    exact h1.sublist (e0.map _)) (by omega)
   have HE:mx ((dw y).Perm (dw es)):=vF hE;clear h0 hE;go_wp2_with fail;refine a0.mono ?_;rintro e2 w2 ⟨rfl,a3,L,a4,a5,a6⟩;have aL:mx (Below w.heap.size w w2):=HB.out.trans (a3.mono (by omega));have HL:mx (L.Perm (dw es)):=a4.trans HE.out;have aM:mx (gE L):=a5;have aN:mx (oz _ _ _):=a6;clear a0 a3 a4 a5 a6;go_wp2;go_ret;exact⟨_,L,rfl,HL.out,aM.out,aN.out,aL.out⟩
  intro e aa w2 aq aj ao ar aO ba;have a7:=ew.lt aj;have a8:=dL.lt (ew.owns aj);have a9:mx (Below w.heap.size w w2):=lM HB.out ar (hX _);have a':mx (lR _ _ _ _ _):=aj;have aA:mx (w2.rangeLeft B w.heap.size<wr.rangeLeft B w.heap.size):=ao;have aB:mx (ae.Perm (e::aa)):=aq;have Y:mx (w2.ownsRow (w.heap.size+1) 237 5 (.slice ag (dw y).length cg) (dw y).length (gX (dw y))):=ig HO.out (λk hk=>ar.block k (HO.out.lt k hk).2 (by have:=(HO.out.lt k hk).1;intro e;cases e;omega));have ak:=vG y e;have aP:e.text.length<=1099511627776:=aK.out e (HP.out.mem_iff.1 (List.mem_append_right _ (aq.mem_iff.2 (f' ..))));have aV:w.heap.size+1<=w2.heap.size:=by omega
  clear aq aj ao ar aO;obtain⟨nm,gn,tx,wt,tg⟩:=e
  cases gn with
  |true=>
   have au:mx (dw (y++[⟨nm,true,tx,wt,tg⟩])=dw y):=by show _=_;rw[ak];simp
   clear ak;go_wp2;go_roundw
   case rel=>
    exact⟨y++[⟨nm,true,tx,wt,tg⟩],aa,ji HP.out aB.out,a'.out.alloc _,by rw[au.out];exact Y.out.alloc _,a9.out.alloc (by omega) _,by simp;omega⟩
   case measure=>
    rw[iY a8 a7];exact aA.out
  |false=>
   have au:mx (dw (y++[⟨nm,false,tx,wt,tg⟩])=dw y++[⟨nm,false,tx,wt,tg⟩]):=by show _=_;rw[ak];simp
   clear ak;go_wp2_with fail;rw[show uz ⟨nm,false,tx,wt,tg⟩=nm from rfl];obtain⟨wa,al⟩:∃wa,wa=w2.alloc (.cells #[.bool false,.string ⟨nm.toArray⟩,.string ⟨tx.toArray⟩,.int .i64 wt,.int .i64 tg] 111):=⟨_,rfl⟩;rw[<-al];obtain⟨k,hk⟩:∃k,k=w2.heap.size:=⟨_,rfl⟩;rw[<-hk];have av:Below w2.heap.size w2 wa:=by rw[al];exact(m0 _ _).alloc (hX _) _
   have ai:wa.heap[k]?=some (.cells #[.bool false,.string ⟨nm.toArray⟩,.string ⟨tx.toArray⟩,.int .i64 wt,.int .i64 tg] 111 (0,0)):=by rw[al,hk];exact h9 w2 _
   have hS:(λw':World=>w'.cell? ⟨k,1,none⟩=some (.string ⟨nm.toArray⟩)/\w'.cell? ⟨k,2,none⟩=some (.string ⟨tx.toArray⟩)/\w'.cell? ⟨k,3,none⟩=some (.int .i64 wt)/\w'.cell? ⟨k,4,none⟩=some (.int .i64 tg)) wa.drew:=⟨by show wa.cell? _=_;rw[dh ai];rfl,by show wa.cell? _=_;rw[dh ai];rfl,by show wa.cell? _=_;rw[dh ai];rfl,by show wa.cell? _=_;rw[dh ai];rfl⟩;have aw:=oL ⟨tx.toArray⟩ wa.drew (by show tx.toArray.size<=_;simpa using aP);change g5 _ _ _ _ (λe w'=>e=.returned (.string ⟨(dO tx).toArray⟩)/\Below wa.heap.size wa.drew w')at aw;have aQ:mx (k=w2.heap.size):=hk;clear al ai hk;refine g6 (S:=λw'=>w'.cell? ⟨k,1,none⟩=some (.string ⟨nm.toArray⟩)/\w'.cell? ⟨k,2,none⟩=some (.string ⟨tx.toArray⟩)/\w'.cell? ⟨k,3,none⟩=some (.int .i64 wt)/\w'.cell? ⟨k,4,none⟩=some (.int .i64 tg)) (by kernel_rfl) ?_;refine fU 0 ?_ hS ?_<|fU 1 ?_ hS ?_<|fU 2 ?_ hS ?_<|fU 3 ?_ hS ?_<|fU 5 ?_ hS ?_<|fU 6 ?_ hS ?_ ?_
   any_goals(rintro w' ⟨s0,s1,s2,s3⟩;go_simp;first|done|with_reducible rfl)
   refine l5 4 λK' ab=>?_;unfold m6;go_simp;refine aw.mono ?_;rintro e w3 ⟨rfl,O⟩;have ac:(λw':World=>w'.cell? ⟨k,1,none⟩=some (.string ⟨nm.toArray⟩)/\w'.cell? ⟨k,2,none⟩=some (.string ⟨tx.toArray⟩)/\w'.cell? ⟨k,3,none⟩=some (.int .i64 wt)/\w'.cell? ⟨k,4,none⟩=some (.int .i64 tg)) w3:=⟨gt O hS.1,gt O hS.2.1,gt O hS.2.2.1,gt O hS.2.2.2⟩;refine ab _ _ ⟨ac,?_⟩;clear ab;refine fU 7 ?_ ac ?_ ?_;rotate_left
   .rintro w' ⟨s0,s1,s2,s3⟩;go_simp;first|done|with_reducible rfl
   refine l5 8 λK' ab=>?_;unfold m6;go_simp;obtain⟨w4,am⟩:∃w4,w4=w3.alloc (.cells #[.string ⟨(dO tx).toArray⟩,.string ⟨nm.toArray⟩,.string ⟨tx.toArray⟩,.int .i64 wt,.int .i64 tg] 237):=⟨_,rfl⟩;rw[<-am];have ad:Below w3.heap.size w3 w4:=by rw[am];exact(m0 _ _).alloc (hX _) _
   have aC:tj w4 5 (.slice (some ⟨w3.heap.size,0,none⟩) 1 1) 1 (kC ⟨nm,false,tx,wt,tg⟩):=by rw[am];exact N1 rfl
   have af:(λw':World=>w'.cell? ⟨k,1,none⟩=some (.string ⟨nm.toArray⟩)/\w'.cell? ⟨k,2,none⟩=some (.string ⟨tx.toArray⟩)/\w'.cell? ⟨k,3,none⟩=some (.int .i64 wt)/\w'.cell? ⟨k,4,none⟩=some (.int .i64 tg)) w4:=⟨gt ad ac.1,gt ad ac.2.1,gt ad ac.2.2.1,gt ad ac.2.2.2⟩;refine ab _ _ ⟨af,?_⟩;clear ab;have bc:wa.heap.size<=w3.heap.size:=O.size;have bd:=ad.size;have aR:=av.size
   have W:Below w2.heap.size w2 w4:=by
    have h1:Below wa.heap.size wa w3:=⟨O.os,O.tape,O.output,O.size,O.block⟩;exact(av.trans (h1.mono aR)).trans (ad.mono (by omega))
   have aD:w4.ownsRow (w.heap.size+1) 237 5 (.slice ag (dw y).length cg) (dw y).length (gX (dw y)):=ig Y.out (λj hj=>W.block j (Y.out.lt j hj).2);have ap:Below w.heap.size w w4:=a9.out.trans (W.mono (by omega));clear am ad O;refine l5 9 λK' ab=>?_;refine Ar _ _ _ 190 rfl (w.heap.size+1) 237 i0 _ 5 64 kG hi aG aH aI rfl (by decide) _ _ _ rfl aD _ 1 _ rfl aC (Bs _) (by omega) (by unfold gv;omega) (by omega) ?_;intro v5 w5 aE U _;have an:some k≠(Value.slice ag (dw y).length cg).ownBlock:=λe=>by have:=(Y.out.lt k e.symm).2;have:=aQ.out;omega
   have ax:(λw':World=>w'.cell? ⟨k,1,none⟩=some (.string ⟨nm.toArray⟩)/\w'.cell? ⟨k,2,none⟩=some (.string ⟨tx.toArray⟩)/\w'.cell? ⟨k,3,none⟩=some (.int .i64 wt)/\w'.cell? ⟨k,4,none⟩=some (.int .i64 tg)) w5:=⟨cell_grown U af.1 an,cell_grown U af.2.1 an,cell_grown U af.2.2.1 an,cell_grown U af.2.2.2 an⟩;refine ab _ _ ⟨ax,?_⟩;clear ab;refine fU 10 ?_ ax ?_ ?_;rotate_left
   .rintro w' ⟨s0,s1,s2,s3⟩;go_simp;first|done|with_reducible rfl
   refine g9 (by kernel_rfl) ?_ _;have be:=U.size;have aS:mx (Below w.heap.size w w5):=ap.grown U (by omega) (λb hb=>by have:=(Y.out.lt b hb).1;omega);have aF:lR w4 B w.heap.size es aa:=a'.out.SF W;have aT:mx (lR w5 B w.heap.size es aa):=ew.kept aF U (λe=>by have:=(Y.out.lt B e.symm).1;omega) (λe=>by have:=(Y.out.lt _ e.symm).1;omega)
   have aU:mx (w5.ownsRow (w.heap.size+1) 237 5 v5 (dw (y++[⟨nm,false,tx,wt,tg⟩])).length (gX (dw (y++[⟨nm,false,tx,wt,tg⟩])))):=by
    show w5.ownsRow _ _ _ _ _ _;rw[au.out,AH,cc];exact aE
   have HL5:mx (w5.rangeLeft B w.heap.size<wr.rangeLeft B w.heap.size):=by
    show _<_;rw[ew.jJ (U.block B (by omega) (λe=>by have:=(Y.out.lt B e.symm).1;omega)) (U.block w.heap.size (by omega) (λe=>by have:=(Y.out.lt _ e.symm).1;omega)),ew.jJ (W.block B a8) (W.block _ a7)];exact aA.out
   clear aE U ap aD aF aC hS ac af ax aw av W;go_wp2;go_roundw
   case rel=>
    exact⟨_,_,_,_,_,_,_,_,_,_,_,_,_,_,_,_,_,_,_,⟨y++[⟨nm,false,tx,wt,tg⟩],aa,ji HP.out aB.out,aT.out,aU.out,aS.out,by omega⟩,rfl⟩
   case measure=>exact HL5.out
end
section
open Go.RowKit Go.Maps
theorem Jh{es L:List dq}(B:(es.map dq.name).Nodup)(O:L.Perm (dw es))(W:gE L):dW es=sC es++(dJ []++ic 26 0 L):=by
 have U:=Qh 26 [] L W (λe _=>gg)
 have y:=by
  have:((dw es).map _).Nodup:=B.sublist (e0.map _);exact(O.map _).nodup_iff.2 this
 have Y:fo L=(fo es).filter λe=>!e.gone:=by
  rw[pL,Ek y O];rfl
 rw[e8]at U;rw[U,Y];unfold dW sC eI;rw[List.flatMap_map];simp
theorem Ox(B:Nat)(es:List dq)(w:World)(hs:e9 w B es)(y:n5 es) :
  g5 prog 91 #[.map (some B)] w λen w'=>en=.returned (.string ⟨(dW es).toArray⟩)/\Below w.heap.size w w':=by
 have ao:=rB y
 have ap:es.length<=130:=by
  have h1:=y.gone;have h2:=y.there;have h3:=jB es;have h4:(dw es).length<=30:=h2;omega
 have af:=y.nodup;have HS:mx (e9 _ _ _):=hs;have aa:mx (n5 _):=y
 have hG:=ya B es w hs (by omega) (by have:=y.gone;unfold je;omega) (λe he hg=>by
  rcases y.each e he with h|h
  rw[h.1]at hg;cases hg
  have:=(gN h.2).2;omega)
 clear hs y;go_enter func91,ntmps91;go_wp2_with fail;refine hG.mono ?_;rintro e1 w1 ⟨v1,rfl,U,O⟩;obtain⟨a1,c1,rfl⟩:=U.form;have ag:mx (fv _ _ _ _):=U;have ah:mx (Below _ _ _):=O;have ai:=O.size
 have hL:=Jk B es w1 (dL.below HS.out O) (by omega) (λe he=>by
  rcases aa.out.each e he with h|h
  have:=jI h.2.2.1;omega
  rw[h.1];simp)
 clear hG U O;go_wp2_with fail;refine hL.mono ?_;rintro e2 w2 ⟨v2,L,rfl,W,ab,aj,Y⟩;have ak:mx (Below w.heap.size w w2):=ah.out.trans (Y.mono ai);have ac:mx (fv w2 w.heap.size (.slice a1 (sC es).length c1) (sC es)):=ag.out.below Y;have aq:=Y.size;have ad:mx (dW es=sC es++(dJ []++ic 26 0 L)):=Jh af W ab
 have hN:=SZ 26 w.heap.size _ (sC es) ⟨#[]⟩ [] _ L w2 ac.out aj (by omega) (λe he=>⟨by
   have hm:=W.mem_iff.1 he;unfold dw at hm;rw[gl]at hm;rcases aa.out.each e hm.1 with h|h
   exact h
   .have:=hm.2;rw[h.1]at this
    simp at this,gg⟩) ab (by
   have h1:=W.length_eq;have h2:=oT es
   omega) (by simp) (by simp) (by
   have h1:=congrArg go ad.out;rw[cc]at h1;change (sC es).length+(dJ []++ic 26 0 L).length<=_
   omega) (hY _)
 change g5 _ _ _ _ (Py _ w2 _ _ (dJ []++ic 26 0 L))at hN;go_wp2_with fail;refine hN.mono ?_;rintro e3 w3 ⟨v3,rfl,ae,al⟩;have am:mx _:=al.low ak.out ac.out (hX _);rw[<-ad.out]at ae;have an:=zK ae i8 j3 jt;go_wp2;go_ret;exact⟨rfl,am.out⟩
theorem u9{P:Program}(w:World){o:Oper}{a:Act}{K:Act->World->Prop}{Q:Exit->Act->World->Prop}(s x:Operand)(t:g7)
  (ho:o.op=.call {callee:=.builtin .append,args:=#[s,x],argTypes:=#[t,t]})
  (base:Nat) (e:g7) (i:TypeInfo) (z:Value) (bytes:Nat) (ht:P.underlying t=some (.slice e)) (hi:P.info? e=some i) (hz:i.zero=some z)
  (O:i.size=1) (Y:i.bytes=bytes) (aa:z.cells.size=1)
  (v:Value) (n:Nat) (xs:List Value) (hs:a.eval s=v) (W:w.ownsRow base e 1 v n xs)
  (y:Value) (news:List Value) (hx:a.eval x=y) (hy:Rd w y news) (h1:∀u∈news,u.oneCell'=true)
  (B:(n+news.length)*bytes<=140737488355328) (ab:n+news.length<=gv) (U:base<=w.heap.size)
  (h:∀v' w',w'.ownsRow base e 1 v' (n+news.length) (xs++news)->w.grownBy w' v.ownBlock->(v'.ownBlock=v.ownBlock\/v'.ownBlock=some w.heap.size)->K (a.put o.dst v') w'):m6 P o a w K Q:=by
 obtain⟨v',w',hr,h2,h3,h4⟩:=qn (P:=P) w base t o.type e i z bytes ht hi hz O Y aa v n xs W y news hy h1 B ab U;unfold m6 hI;simp only[ho,h7,invoke,builtin,on,oj,oo,ek,ej,et,hs,hx,hr];exact h v' w' h2 h3 h4
def iD(es:List dq):List Wd:=if 0<es.length then [dW es]else []
theorem D8(B:Nat)(es:List dq)(w:World)(Y:e9 w B es)(O:0<es.length->n5 es) :
  g5 prog 63 #[.map (some B)] w λen w'=>∃v,en=.returned v/\Rd w' v (dn (iD es))/\Below w.heap.size w w':=by
 have y:=λ(ty:g7)=>dL.len Y j2 ty;rw[dj]at y;by_cases U:0<es.length
 .have W:mx (iD es=[dW es]):=by show iD es=_;unfold iD;rw[if_pos U]
  have hp:=Ox B es w Y (O U);go_enter func63,ntmps63;go_wp2_with fail;refine hp.mono ?_;rintro e w1 ⟨rfl,hb⟩;have HB:mx _:=hb;have hz:=hb.size;go_wp2;go_ret;refine⟨_,rfl,?_,HB.out.alloc hz _⟩;rw[W.out];exact Rd.one iz
 have W:mx (iD es=[]):=by show iD es=_;unfold iD;rw[if_neg U]
 go_wp2;go_ret;refine⟨_,rfl,?_,m0 ..⟩;rw[W.out];exact Rd.Hw rfl (by omega)
variable {ss':List (List dq)} {Bb b:Nat} {F:Nat->Prop} {v' vK vM:Value} {w:World}
theorem Ak.jp{w2 w3:World}{buf:List dq}{ss:List (List dq)}{vS:Value}(W:Ak w F b buf ss Bb vS vM vK)(hF:∀k,F k->k<w.heap.size)(hb:Below w.heap.size w w2)
  (hg:du (λk=>vS.ownBlock=some k) w2 w3) (y:w3.ownsRow 0 9 1 v' ss'.length (dn (ss'.map dW))) (hv:∀k,v'.ownBlock=some k->vS.ownBlock=some k\/w2.heap.size<=k) :
  (w3.setCell ⟨b,1,none⟩ v').heap[b]?=some (.cells #[.map (some Bb),v',vM,vK] 90 (0,0))/\e9 (w3.setCell ⟨b,1,none⟩ v') Bb buf/\(w3.setCell ⟨b,1,none⟩ v').ownsRow 0 9 1 v' ss'.length (dn (ss'.map dW))/\
   du F w (w3.setCell ⟨b,1,none⟩ v')/\(∀k,v'.ownBlock=some k->(F k\/w.heap.size<=k)/\k<w3.heap.size):=by
 have aa:w2.heap[b]?=some (.cells #[.map (some Bb),vS,vM,vK] 90 (0,0)):=by rw[hb.block b (hF b W.fb)];exact W.blk
 have ad:=eS aa;have ae:=hV (hF Bb W.fB) hb.size;have B:=eh W.row (λk Y=>hb.block k (hF k (W.lq k Y)));have O:=dL.stay W.say (hb.block Bb (hF Bb W.fB));have ab:w3.heap[b]?=some (.cells #[.map (some Bb),vS,vM,vK] 90 (0,0)):=by rw[hg.block b ad (pE aa B (by decide))];exact aa
 have U:=dL.stay O (hg.block Bb ae (λe=>pR B O e.symm));have ac:∀k,k≠b->(w3.setCell ⟨b,1,none⟩ v').heap[k]?=w3.heap[k]?:=λk Y=>m1 _ _ _ _ (λe=>Y e);refine⟨by rw[heap_set ab];rfl,dL.stay U (ac Bb (λe=>dL.nH U ab e)),eh y (λk Y=>ac k (λe=>pE ab y (by decide) (by rw[Y,e]))),?_,λk Y=>⟨?_,(y.lt k Y).2⟩⟩;exact((du.fE hb).trans hg (λi _ hi=>W.lq i hi)).then (k8 W.fb);rcases hv k Y with h|h
 exact Or.inl (W.lq k h);exact Or.inr (ie hb.size h)
def pQ(ss:List (List dq))(l:List dq):List (List dq):=if 0<l.length then ss++[l]else ss
theorem Hz(ss:List (List dq))(l:List dq):(pQ ss l).length=ss.length+(dn (iD l)).length:=by
 unfold pQ iD;split<;>simp[dn]
theorem Fj(ss:List (List dq))(l:List dq):dn ((pQ ss l).map dW)=dn (ss.map dW)++dn (iD l):=by
 unfold pQ iD;split<;>simp[dn]
theorem vu(es:List dq):(iD es).length<=1:=by unfold iD;split<;>simp
theorem du.MG{w':World}{o:Option Nat}(h:w.grownBy w' o):du (λk=>o=some k) w w':=⟨h.os,h.tape,h.output,h.size,λk y B=>h.block k y (λe=>B e.symm)⟩
theorem Iy{w4:World}(fb:F b)(W:w4.heap[b]?=some (.cells #[.map (some Bb),v',vM,vK] 90 (0,0)))
  (p3:w4.ownsRow 0 9 1 v' ss'.length (dn (ss'.map dW))) (p4:du F w w4) (Y:∀k,v'.ownBlock=some k->(F k\/w.heap.size<=k)/\k<w4.heap.size) (hi:Inv [] ss') :
  ∃F':Nat->Prop,tk vM vK ((w4.alloc (.map #[] 0)).setCell ⟨b,0,none⟩ (.map (some w4.heap.size))) F' b [] ss'/\(∀k,F' k->F k\/w.heap.size<=k)/\du F w ((w4.alloc (.map #[] 0)).setCell ⟨b,0,none⟩ (.map (some w4.heap.size))):=by
 have B:Below _ w4 (w4.alloc (.map #[] 0)):=(m0 ..).alloc (hX _) _;have aa:e9 _ _ []:=dL.made w4;have ab:(w4.alloc (.map #[] 0)).heap.size=w4.heap.size+1:=by simp
 generalize (w4.alloc _)=O at *;have ac:=eS W;have ad:O.heap[b]?=some (.cells #[.map (some Bb),v',vM,vK] 90 (0,0)):=by rw[B.block b ac];exact W
 have U:∀k,k≠b->(O.setCell ⟨b,0,none⟩ (.map (some w4.heap.size))).heap[k]?=O.heap[k]?:=λk y=>m1 _ _ _ _ (λe=>y e);have ae:(O.setCell ⟨b,0,none⟩ (.map (some w4.heap.size))).heap.size=O.heap.size:=by simp[nc]
 refine⟨λk=>(F k\/w.heap.size<=k)/\k<w4.heap.size+1,⟨λk y=>by rw[ae,ab];exact y.2,w4.heap.size,v',?_⟩,λk y=>y.1,?_⟩
 exact {
  blk:=by rw[heap_set ad];rfl
  fb:=⟨Or.inl fb,by omega⟩,fB:=⟨Or.inr p4.size,by omega⟩,say:=dL.stay aa (U _ (by omega)),row:=eh p3 (λk y=>by rw[U k (λe=>pE W p3 (by decide) (by rw[y,e])),B.block k (Y k y).2]),lq:=λk y=>⟨(Y k y).1,by have:=(Y k y).2;omega⟩
  inv:=hi}
 exact(p4.then (du.fE B)).then (k8 fb)
theorem SX(w:World)(F:Nat->Prop)(b:Nat)(buf:List dq)(ss:List (List dq))(hP:tk vM vK w F b buf ss) :
  g5 prog 29 #[.pointer (some ⟨b,0,none⟩)] w λe w'=>e=.returned (.int .i64 (eX buf ss).1)/\
   ∃F':Nat->Prop,tk vM vK w' F' b (eX buf ss).2.1 (eX buf ss).2.2/\(∀k,F' k->F k\/w.heap.size<=k)/\du F w w':=by
 have HP:mx (tk _ _ _ _ _ _ _):=hP;obtain⟨i9,a5,a6,a7,a8⟩:=g8 tW;have aE:=@run_makeMap prog;obtain⟨hF,Bb,vS,O⟩:=hP;obtain⟨aS,cS,rfl,aF⟩:=dK O.row;have HE:mx (Ak _ _ _ _ _ _ _ _ _):=O;have HF:mx (∀k,F k->k<w.heap.size):=hF;have aG:w.cell? ⟨b,0,none⟩=some (.map (some Bb)):=by rw[dh O.blk];rfl
 have a9:w.cell? ⟨b,1,none⟩=some (.slice aS ss.length cS):=by rw[dh O.blk];rfl
 have aH:w.frozen? ⟨b,1,none⟩=false:=dI O.blk 1;have U:=λ(ty:g7)=>dL.len O.say j2 ty;rw[dj]at U;have h6:=O.inv.ql;have HI:mx (Inv (eX buf ss).2.1 (eX buf ss).2.2):=Ci O.inv;have aI:=rF O.inv;have a':=hF b O.fb;clear hF O;by_cases h0:buf.length=0
 .have HU:mx (eX buf ss=(5,buf,ss)):=by show eX _ _=_;unfold eX;rw[if_pos h0]
  rw[h0]at U;clear h0;go_enter ko,kj;go_wp2;go_ret;refine⟨eR (by rw[HU.out];rfl),F,?_,λk hk=>Or.inl hk,du.refl _ _⟩;rw[HU.out];exact HP.out
 have aA:((buf.length:Int)==0)=false:=beq_eq_false_iff_ne.2 (by omega);by_cases W:6<=ss.length
 .have HU:mx (eX buf ss=(4,buf,ss)):=by show eX _ _=_;unfold eX;rw[if_neg h0,if_pos W]
  have au:(6:Int)<=(ss.length:Int):=by omega
  clear h0 W;go_enter ko,kj;go_wp2;go_ret;refine⟨eR (by rw[HU.out];rfl),F,?_,λk hk=>Or.inl hk,du.refl _ _⟩;rw[HU.out];exact HP.out
 have HU:mx (eX buf ss=(0,[],if 0<(eZ buf ss).length then ss++[eZ buf ss]else ss)):=by show eX _ _=_;unfold eX;rw[if_neg h0,if_neg W]
 have au:¬(6:Int)<=(ss.length:Int):=by omega
 have ag:mx (0<(eZ buf ss).length->n5 (eZ buf ss)):=by
  intro hp;have hi:=HI.out;rw[HU.out]at hi;simp only[if_pos hp]at hi;exact hi.jp _ (by simp)
 clear h0;have ah:mx (eX buf ss=(0,[],pQ ss (eZ buf ss))):=HU.out;have av:mx (Inv [] (pQ ss (eZ buf ss))):=by have:=HI.out;rw[ah.out]at this;exact this
 by_cases ai:ss.length=0
 case' pos=>
  have ac:mx (eZ buf ss=dw buf):=by show eZ _ _=_;unfold eZ;rw[if_pos ai]
  have ad:((ss.length:Int)==0)=true:=beq_iff_eq.2 (by omega);have aw:=qL Bb buf w HE.out.say (by omega) (λe he=>BF HE.out.inv buf (by simp) e he);clear W ai;go_enter ko,kj;go_wp2_with fail;refine aw.mono ?_;rintro e w1 ⟨C,rfl,hC,ax,B⟩;have aj:mx (Below w.heap.size w w1.drew):=⟨B.os,B.tape,B.output,B.size,B.block⟩;have aJ:w1.cell? ⟨b,1,none⟩=some (.slice aS ss.length cS):=gt B a9;have ak:=D8 C (eZ buf ss) w1.drew (by rw[ac.out];exact ax) ag.out;clear aw ax B
 case' neg=>
  have ac:mx (eZ buf ss=buf):=by show eZ _ _=_;unfold eZ;rw[if_neg ai]
  have ad:((ss.length:Int)==0)=false:=beq_eq_false_iff_ne.2 (by omega);have ak:=D8 Bb (eZ buf ss) w.drew (by rw[ac.out];exact HE.out.say) ag.out;have aj:mx (Below w.heap.size w w.drew):=⟨rfl,rfl,rfl,hX _,λ_ _=>rfl⟩;clear W;go_enter ko,kj
 all_goals
  go_wp2_with fail;clear U aA au ad ac HU ag;generalize eZ buf ss=X at *;refine g6 (S:=λw'=>True) (by kernel_rfl) ?_;refine fU 0 ?_ trivial ?_<|fU 1 ?_ trivial ?_<|fU 2 ?_ trivial ?_<|fU 3 ?_ trivial ?_<|fU 5 ?_ trivial ?_ ?_
  any_goals(rintro w' _;go_simp;first|done|with_reducible rfl)
  refine hU (rs:=[4,6]) (by kernel_rfl) (by simp) ?_;intro i hi;simp only[fd,e6,or_false]at hi;rcases hi with rfl|rfl
  case' inl=>
   refine hw (by rfl) λK' y=>?_;rw[if_pos (by rfl)];unfold m6;go_simp;refine y _ _ ⟨trivial,?_⟩;clear y;refine l5 6 λK' y=>?_
  case' inr=>
   refine hw (by rfl) λK' y=>?_;rw[if_pos (by rfl)]
  all_goals
   unfold m6;go_simp;refine ak.mono ?_;rintro e w2 ⟨v2,rfl,ay,az⟩;have Y:Below w.heap.size w w2:=aj.out.trans (az.mono aj.out.size);have aK:=Y.size;have aa:w2.heap[b]?=some (.cells #[.map (some Bb),.slice aS ss.length cS,vM,vK] 90 (0,0)):=by rw[Y.block b a'];exact HE.out.blk
   have al:w2.ownsRow 0 9 1 (.slice aS ss.length cS) ss.length (dn (ss.map dW)):=eh HE.out.row (λk hk=>Y.block k (HF.out k (HE.out.lq k hk)));have aL:w2.cell? ⟨b,1,none⟩=some (.slice aS ss.length cS):=by rw[dh aa];rfl
   refine y _ _ ⟨trivial,?_⟩;clear y ak az
  case' inr=>
   refine l5 4 λK' y=>?_;unfold m6;go_simp;refine y _ _ ⟨trivial,?_⟩;clear y
  all_goals
   refine l5 7 λK' y=>?_;refine u9 _ _ _ 31 rfl 0 9 i9 (.string ⟨#[]⟩) 16 i' a5 a6 a7 a8 rfl _ _ _ rfl al _ _ rfl ay kD ?c1 ?c2 (hY _) ?_
   case c1=>rw[dD];have:=vu X;omega
   case c2=>rw[dD];have:=vu X;unfold gv;omega
   intro v3 w3 am an a0;obtain⟨a3,c3,rfl,aM⟩:=dK am;have ao:w3.heap[b]?=some (.cells #[.map (some Bb),.slice aS ss.length cS,vM,vK] 90 (0,0)):=by rw[an.block b (eS aa) (λe=>pE aa al (by decide) e.symm)];exact aa
   refine y _ _ ⟨trivial,?_⟩;clear y
   have ab:w3.ownsRow 0 9 1 (.slice a3 (ss.length+(dn (iD X)).length) c3) (pQ ss X).length (dn ((pQ ss X).map dW)):=by
    rw[Fj,Hz];exact am
   have ae:=HE.out.jp HF.out Y (du.MG an) ab (λk hk=>by
    rcases a0 with h|h
    exact Or.inl (h.symm.trans hk)
    have aB:=h.symm.trans hk;cases aB;exact Or.inr (hX _))
   refine fU 8 ?_ trivial ?_<|fU 9 ?_ trivial ?_ ?_
   any_goals(rintro w' _;go_simp;first|done|with_reducible rfl)
   have aC:w3.cell? ⟨b,1,none⟩=some (.slice aS ss.length cS):=by rw[dh ao];rfl
   have aD:w3.frozen? ⟨b,1,none⟩=false:=dI ao 1;clear am an a0 ab ao al ay aa Y;refine l5 10 λK' y=>?_;unfold m6;go_simp;refine y _ _ ⟨trivial,g9 (by kernel_rfl) ?_ _⟩;clear y aC aD;obtain⟨w4,ap⟩:∃w4,w4=w3.setCell ⟨b,1,none⟩ (.slice a3 (ss.length+(dn (iD X)).length) c3):=⟨_,rfl⟩;have a4:w4.heap.size=w3.heap.size:=by rw[ap];simp[nc]
   rw[<-ap]at ae⊢;obtain⟨p1,p2,p3,p4,p5⟩:=ae;rw[<-a4]at p5;have af:=Iy HE.out.fb p1 p3 p4 p5 av.out;have aq:(w4.alloc (.map #[] 0)).heap[b]?=some (.cells #[.map (some Bb),.slice a3 (ss.length+(dn (iD X)).length) c3,vM,vK] 90 (0,0)):=by rw[m2 _ _ _ (eS p1)];exact p1
   have aN:(w4.alloc (.map #[] 0)).cell? ⟨b,0,none⟩=some (.map (some Bb)):=by rw[dh aq];rfl
   have aO:(w4.alloc (.map #[] 0)).frozen? ⟨b,0,none⟩=false:=dI aq 0;have ar:mx (∃F':Nat->Prop,tk vM vK ((w4.alloc (.map #[] 0)).setCell ⟨b,0,none⟩ (.map (some w4.heap.size))) F' b [] (pQ ss X)/\(∀k,F' k->F k\/w.heap.size<=k)/\du F w ((w4.alloc (.map #[] 0)).setCell ⟨b,0,none⟩ (.map (some w4.heap.size)))):=af;clear ap a4 p1 p2 p3 p4 p5 af aq;go_wp2;go_ret;refine⟨eR (by rw[ah.out];rfl),?_⟩;rw[ah.out];exact ar.out
theorem TJ{w:World}{C D:Nat}{B lb:List dq}{t:g7}{g:Nat}(O:g=w.heap.size)(U:e9 w C B)(W:e9 w D lb):J0 (w.alloc (.cells #[.map (some C),.map (some D)] t)) (.slice (some ⟨g,0,none⟩) 2 2) [C,D] [B,lb] where
 rd:=by
  subst O;refine⟨some ⟨w.heap.size,0,none⟩,2,rfl,hX _,by unfold gv;omega,λj u y=>⟨w.heap.size,0,rfl,?_⟩⟩;rw[m' _ _ _ _ rfl];match j,y with
  |0,y=>simpa[xZ]using y|1,y=>simpa[xZ]using y|j+2,y=>simp at y
 len:=rfl
 each:=λi h Y=>by
  have hb:Below w.heap.size w (w.alloc (.cells #[.map (some C),.map (some D)] t)):=(m0 _ _).alloc (hX _) _;match i,h,Y with
  |0,_,_=>exact dL.below U hb|1,_,_=>exact dL.below W hb|i+2,h,_=>exact absurd h (by simp)
theorem Lu{w w4:World}{F:Nat->Prop}{b:Nat}{buf:List dq}{ss:List (List dq)}{vS:Value}(B:Ak w F b buf ss Bb vS vM vK)(hF:∀k,F k->k<w.heap.size)
  (h:w4.heap[b]?=some (.cells #[.map (some Bb),v',vM,vK] 90 (0,0))/\e9 w4 Bb buf/\w4.ownsRow 0 9 1 v' ss'.length (dn (ss'.map dW))/\du F w w4/\(∀k,v'.ownBlock=some k->(F k\/w.heap.size<=k)/\k<w4.heap.size)) (hi:Inv buf ss') :
  ∃F':Nat->Prop,tk vM vK w4 F' b buf ss'/\(∀k,F' k->F k\/w.heap.size<=k)/\du F w w4:=by
 obtain⟨O,p2,p3,p4,U⟩:=h;refine⟨λk=>(F k\/w.heap.size<=k)/\k<w4.heap.size,⟨λk y=>y.2,Bb,v',?_⟩,λk y=>y.1,p4⟩
 exact {
  blk:=O,fb:=⟨Or.inl B.fb,eS O⟩,fB:=⟨Or.inl B.fB,hV (hF Bb B.fB) p4.size⟩,say:=p2,row:=p3,lq:=λk y=>U k y
  inv:=hi}
theorem su{P:Program}(w:World)(t ty elem:g7)(g off k c:Nat)(z:Value)(y:Array Value)(T:g7)(hu:P.underlying t=some (.slice elem))(hz:(zeroValue elem).run P w=.ok z w)(B:z.cells=#[z])(h1:z.oneCell'=true)
  (hg:w.heap[g]?=some (.cells y T (0,0))) (hk:0<k) (aa:off+k<=y.size) :
  ∃O:List Value,O.length=y.size/\(∀j,j<off->O[j]?=y[j]?)/\(nw #[t] ty #[.slice (some ⟨g,off,none⟩) k c]).run P w=.ok (.tuple #[]) (w.setRow g O.toArray):=by
 obtain⟨k',rfl⟩:∃k',k=k'+1:=⟨k-1,by omega⟩;have U:(nr #[z] (k'+1)).toList.length=k'+1:=by simp[size_zeroCells]
 have W:∀v∈(nr #[z] (k'+1)).toList,v.oneCell'=true:=by
  intro v hv;simp[nr,Nat.mod_one]at hv;rw[<-hv.2];exact h1
 have Y:=run_storeCells_at P g off T _ 0 y w hg (by omega) W;refine⟨y.toList.take (off+0)++(nr #[z] (k'+1)).toList++y.toList.drop (off+0+(nr #[z] (k'+1)).toList.length),?_,?_,?_⟩;rw[cc,cc,U];simp;omega;intro j hj;rw[dm,cx (by simp;omega),dg,if_pos (by omega)];simp;unfold nw;simp[run_underlying hu,hz,B,Y]
theorem oN{w:World}{g:Nat}{cs:Array Value}:du (· = g) w (w.setRow g cs):=⟨rfl,rfl,rfl,by simp[World.setRow],λk _ y=>setRow_other w g k cs (λe=>y (by omega))⟩
theorem se{w':World}{e m:Nat}{g cap:Nat}{O:List Value}{B:Array Value}(hm:m<=cap)(y:cap<=gv)(Y:O.length=m)(U:w'.heap[g]?=some (.cells B e (0,0)))(hl:B.size=cap)(W:∀j,j<m->B[j]?=O[j]?):w'.ownsRow 0 e 1 (.slice (some ⟨g,0,none⟩) m cap) m O:=by
 refine⟨by omega,Or.inr ⟨g,cap,B,rfl,hY _,U,hm,y,by omega,?_⟩⟩;apply List.ext_getElem?;intro j;rw[dg];split;rw[m4];exact W j (by omega);rw[List.getElem?_eq_none (by omega)]
theorem wX{P:Program}(w:World)(t ty e:g7)(i:TypeInfo)(ht:P.underlying t=some (.slice e))(hi:P.info? e=some i)(y:i.size=1)(g n c:Nat)(B:Array Value)(hg:w.heap[g]?=some (.cells B e (0,0)))(Y:B.size=c)
  (x:Value) (news:List Value) (hx:Rd w x news) (h1:∀u∈news,u.oneCell'=true) (O:n+news.length<=c) :
  ∃l':List Value,l'.length=c/\(∀j,j<n->l'[j]?=B[j]?)/\(∀j,j<news.length->l'[n+j]?=news[j]?)/\(nv #[t,t] ty #[.slice (some ⟨g,0,none⟩) n c,x]).run P w=.ok (.slice (some ⟨g,0,none⟩) (n+news.length) c) (w.setRow g l'.toArray):=by
 obtain⟨a,cap,rfl,hc,hm,aa⟩:=hx
 cases a with
 |none=>
  have hn:news=[]:=by
   cases news with
   |nil=>rfl|cons u us=>obtain⟨b,off,he,_⟩:=aa 0 u rfl;simp at he
  subst hn;refine⟨B.toList,by simpa using Y,λj _=>by simp,nofun,?_⟩;have:=kg (P:=P) w t ty e i ht hi (some ⟨g,0,none⟩) n c cap (by omega);simp only[e8,iv];rw[this,hQ w g B e _ hg]
 |some ad=>
  have U:∀j u,news[j]?=some u->w.cell? (ad.add j)=some u:=by
   intro j u hj;obtain⟨b,off,he,W⟩:=aa j u hj;simp only[m8]at he;subst he;rw[Addr.add_lit];exact W
  have hl:news.length=news.length*i.size:=by rw[y];omega
  have ab:=run_append_room (P:=P) w t ty e i ht hi g n c B hg ad _ cap news hl U h1 O (by rw[y];omega);rw[y,Nat.mul_one]at ab;have jP:B.toList.length=c:=by simpa using Y
  refine⟨_,?_,?_,?_,ab⟩;simp only[cc,cp,di,jP];omega;intro j hj;rw[dm,cx (by rw[cp];omega),dg,if_pos hj];simp;intro j hj;rw[dm,df (by rw[cp];omega),cp,hZ (by omega),ip,cx hj]
theorem tf{P:Program}(w:World){ops:Array Oper}{rest:List Oper}{o:Oper}{a:Act}{Q:Exit->Act->World->Prop}(Y:o.guard=none)(s x:Operand)(t:g7)
  (ho:o.op=.call {callee:=.builtin .append,args:=#[s,x],argTypes:=#[t,t]}) (e:g7) (i:TypeInfo) (ht:P.underlying t=some (.slice e)) (hi:P.info? e=some i) (O:i.size=1) (g n c:Nat) (B:Array Value) (hg:w.heap[g]?=some (.cells B e (0,0))) (aa:B.size=c)
  (hs:a.eval s=.slice (some ⟨g,0,none⟩) n c) (y:Value) (news:List Value) (hx:a.eval x=y) (hy:Rd w y news) (h1:∀u∈news,u.oneCell'=true) (U:n+news.length<=c)
  (h:∀W:List Value,W.length=c->(∀j,j<n->W[j]?=B[j]?)->(∀j,j<news.length->W[n+j]?=news[j]?)->h8 P ops Q rest (a.put o.dst (.slice (some ⟨g,0,none⟩) (n+news.length) c)) (w.setRow g W.toArray)):h8 P ops Q (o::rest) a w:=by
 refine hJ Y λ_ hK=>?_;obtain⟨W,h2,h3,h4,hr⟩:=wX (P:=P) w t o.type e i ht hi O g n c B hg aa y news hy h1 U;unfold m6 hI;simp only[ho,h7,invoke,builtin,on,oj,oo,ek,ej,et,hs,hx,hr];exact hK _ _ (h W h2 h3 h4)
theorem FX(w:World)(g n cap:Nat)(xs:List Wd)(v:Value)(ps:List Wd)(W:w.ownsRow 0 9 1 (.slice (some ⟨g,0,none⟩) xs.length cap) xs.length (dn xs))(hv:Rd w v (dn ps))(aD:ps.length<=1)(hn:n+2=xs.length)(aq:xs.length<=6) :
  g5 prog 74 #[.slice (some ⟨g,0,none⟩) xs.length cap,.int .i64 n,.int .i64 ((n:Int)+2),v] w λe w'=>∃v',e=.returned v'/\w'.ownsRow 0 9 1 v' (xs.take n++ps).length (dn (xs.take n++ps))/\du (· = g) w w'/\∀k,v'.ownBlock=some k->k=g\/w.heap.size<=k:=by
 obtain⟨i9,ar,_,au,_⟩:=g8 tW;obtain⟨av,cv,rfl,aw,hmv,ax⟩:=id hv;rw[dD]at aw⊢;rcases W.2 with⟨he,_⟩|⟨g',aA,y,he,_,hg,ay,hcm,az,ad⟩
 .cases he
 simp only[m7,m8,o0,and_true,true_and]at he;obtain⟨rfl,rfl⟩:=he
 have ae:∀j,j<n->y[j]?=(dn (xs.take n))[j]?:=by
  intro j hj;have h1:=congrArg (λl:List Value=>l[j]?) ad;simp only[dg]at h1;rw[if_pos (by omega),m4]at h1;rw[h1];unfold dn;rw[ee,ee,dg,if_pos hj]
 obtain⟨L,hL⟩:∃L,L=xs.length:=⟨_,rfl⟩;rw[<-hL]at aq hn ay⊢;have HV:mx (Rd w (.slice av ps.length cv) (dn ps)):=by have:=hv;rw[dD]at this;exact this
 have HG:mx (w.heap[g]?=some (.cells y 9 (0,0))):=hg;have Y:y.size=cap:=by omega
 have HC:mx (y.size=cap):=Y;have hj:IntKind.i64.wrap ((n:Int)+2)=(n:Int)+2:=by simp only[ng];omega
 have aE:((n:Int)==(n:Int)+2)=false:=beq_eq_false_iff_ne.2 (by omega);have aF:(((n:Int)+2)==(L:Int))=true:=beq_iff_eq.2 (by omega);have aB:(n:Int)+2<=(cap:Int):=by omega
 have aG:¬cap=n:=by omega
 have B:mx (n+2=L):=hn;have af:mx (L=xs.length):=hL;have a0:mx (∀j,j<n->y[j]?=(dn (xs.take n))[j]?):=ae;unfold gv at hcm hmv;clear hv W ax hg az ad ae hL Y hn;go_enter func74,ntmps74;have ag:n+(dn ps).length<=cap:=by rw[dD];omega
 go_wp2_with (first
  |(at_builtin;refine tf _ rfl _ _ 31 rfl 9 i9 i' ar au g n cap y HG.out HC.out rfl _ _ rfl HV.out kD ag ?_))
 intro l1 ah ai ac;rw[dD]at ac⊢;obtain⟨w1,O⟩:∃w1,w1=w.setRow g l1.toArray:=⟨_,rfl⟩;rw[<-O];have aj:mx (w1.heap[g]?=some (.cells l1.toArray 9 (0,0))):=by show _=_;rw[O];exact ha w g _ _ _ _ HG.out
 have a3:mx (du (· = g) w w1):=by show du _ _ _;rw[O];exact oN
 have a4:mx (∀j,j<n->l1[j]?=y[j]?):=ai;have a5:mx (∀j,j<ps.length->l1[n+j]?=(dn ps)[j]?):=ac;have ak:mx (l1.length=cap):=ah;have aH:((n+ps.length:Nat):Int)<(L:Int):=by have:=B.out;omega
 have aC:¬cap=n+ps.length:=by have:=B.out;omega
 clear ah ai ac O ag;have al:0<L-(n+ps.length):=by have:=B.out;omega
 have aa:n+ps.length+(L-(n+ps.length))<=l1.toArray.size:=by have:=B.out;have:=ak.out;simp;omega
 obtain⟨l2,am,an,a6⟩:=su (P:=prog) w1 31 0 9 g (n+ps.length) (L-(n+ps.length)) (cap-(n+ps.length)) (.string ⟨#[]⟩) l1.toArray 9 i' (j1 w1) rfl rfl aj.out al aa;obtain⟨w2,U⟩:∃w2,w2=w1.setRow g l2.toArray:=⟨_,rfl⟩;rw[<-U]at a6;have a7:mx (w2.heap[g]?=some (.cells l2.toArray 9 (0,0))):=by show _=_;rw[U];exact ha w1 g _ _ _ _ aj.out
 have a8:mx (du (· = g) w w2):=by show du _ _ _;rw[U];exact a3.out.then oN
 have a9:mx (∀j,j<n+ps.length->l2[j]?=l1[j]?):=λj hj=>by have:=an j hj;simpa using this
 have a':mx (l2.length=cap):=by show _=_;rw[am];simpa using ak.out
 clear am an U al aa;go_wp2;go_ret;refine⟨_,rfl,?_,a8.out,λk hk=>Or.inl (by simp[no]at hk;exact hk.symm)⟩
 have ab:(xs.take n++ps).length=n+ps.length:=by
  have:=af.out;have:=B.out;rw[cc,cp];omega
 rw[ab];refine se (by have:=B.out;omega) (by unfold gv;omega) (by rw[dD,ab]) a7.out (by simpa using a'.out) (λj hj=>?_);have e1:(dn (xs.take n++ps))[j]?=(dn (xs.take n)++dn ps)[j]?:=by rw[show dn (xs.take n++ps)=dn (xs.take n)++dn ps by simp[dn]]
 have ao:(dn (xs.take n)).length=n:=by
  have:=af.out;have:=B.out;rw[dD,cp];omega
 rw[e1,ex,a9.out j hj];by_cases ap:j<n;rw[a4.out j ap,cx (by omega),a0.out j ap];rw[df (by omega),ao,<-a5.out _ (by omega),show n+(j-n)=j by omega]
theorem sk{P:Program}(w:World)(t ty e:g7)(ht:P.underlying t=some (.slice e))(hi:(P.info? e).map (·.size)=some 1)(g off Y dc c:Nat)(y:Array Value)(hg:w.heap[g]?=some (.cells y e (0,0)))(aa:y.size=c)
  (x:Value) (news:List Value) (hx:Rd w x news) (h1:∀u∈news,u.oneCell'=true) (hd:news.length<=Y) (ab:off+news.length<=c) :
  ∃l':List Value,l'.length=c/\(∀j,j<off\/off+news.length<=j->l'[j]?=y[j]?)/\(∀j,j<news.length->l'[off+j]?=news[j]?)/\(n0 #[t,t] ty #[.slice (some ⟨g,off,none⟩) Y dc,x]).run P w=.ok (.int .i64 (news.length:Int)) (w.setRow g l'.toArray):=by
 obtain⟨a,cap,rfl,hc,hm,W⟩:=hx;have jP:y.toList.length=c:=by simpa using aa
 cases a with
 |none=>
  have hn:news=[]:=by
   cases news with
   |nil=>rfl|cons u us=>obtain⟨b,off,he,_⟩:=W 0 u rfl;simp at he
  subst hn;refine⟨y.toList,jP,λj _=>by simp,nofun,?_⟩;have:=run_copy_none (P:=P) w t t ty e (some ⟨g,off,none⟩) none Y dc 0 cap ht hi (by simp);simp only[e8];rw[this,hQ w g y e _ hg];rfl
 |some ad=>
  have O:∀j u,news[j]?=some u->w.cell? (ad.add j)=some u:=by
   intro j u B;obtain⟨b,off,he,U⟩:=W j u B;simp only[m8]at he;subst he;rw[Addr.add_lit];exact U
  have ac:=run_copy_row _ w t t ty e g off Y dc ad _ cap y e news ht hi hg (hZ hd).symm O (by omega) h1;refine⟨_,?_,?_,?_,ac⟩;simp only[cc,cp,di,jP];omega;intro j B;rcases B with B|B
  rw[dm,cx (by rw[cp];omega),dg,if_pos B];simp;rw[df (by simp only[cc,cp,jP];omega),ga];simp only[cc,cp,jP];rw[hZ (by omega),show off+news.length+(j-(off+news.length))=j by omega];simp;intro j B;rw[dm,df (by rw[cp];omega),cp,hZ (by omega),ip,cx B]
theorem UU:(prog.info? 9).map (·.size)=some 1:=by kernel_rfl
theorem E6(w:World)(g n q cap:Nat)(xs:List Wd)(v:Value)(ps:List Wd)(aa:w.ownsRow 0 9 1 (.slice (some ⟨g,0,none⟩) xs.length cap) xs.length (dn xs))(hv:Rd w v (dn ps))(aY:ps.length<=1)(hn:xs.length=n+2+q)(hq:0<q)(a5:xs.length<=6) :
  g5 prog 74 #[.slice (some ⟨g,0,none⟩) xs.length cap,.int .i64 n,.int .i64 ((n:Int)+2),v] w λe w'=>∃v',e=.returned v'/\w'.ownsRow 0 9 1 v' (xs.take n++(ps++xs.drop (n+2))).length (dn (xs.take n++(ps++xs.drop (n+2))))/\du (· = g) w w'/\∀k,v'.ownBlock=some k->k=g\/w.heap.size<=k:=by
 obtain⟨av,cv,rfl,a6,hmv,a7⟩:=id hv;rw[dD]at a6⊢;rcases aa.2 with⟨he,_⟩|⟨g',aS,y,he,_,hg,a8,hcm,a9,ak⟩
 .cases he
 simp only[m7,m8,o0,and_true,true_and]at he;obtain⟨rfl,rfl⟩:=he
 have al:∀j,j<xs.length->y[j]?=(dn xs)[j]?:=by
  intro j B;have h1:=congrArg (λl:List Value=>l[j]?) ak;simp only[dg]at h1;rw[if_pos (by omega),m4]at h1;exact h1
 have ad:mx (xs.length=n+2+q):=hn;have HV:mx (Rd w (.slice av ps.length cv) (dn ps)):=by have:=hv;rw[dD]at this;exact this
 have HG:mx (w.heap[g]?=some (.cells y 9 (0,0))):=hg;have ab:y.size=cap:=by omega
 have HC:mx (y.size=cap):=ab;have am:mx (∀j,j<xs.length->y[j]?=(dn xs)[j]?):=al;rw[hn]at a5 a8⊢;have aZ:((n:Int)==(n:Int)+2)=false:=beq_eq_false_iff_ne.2 (by omega);have ba:(((n:Int)+2)==((n+2+q:Nat):Int))=false:=beq_eq_false_iff_ne.2 (by omega);have aT:(((n:Int)+2)==(n:Int)+2+(q:Int))=false:=beq_eq_false_iff_ne.2 (by omega);have aU:(n:Int)+2<=(cap:Int):=by omega
 have bc:¬cap=n:=by omega
 have aV:¬cap=n+2:=by omega
 unfold gv at hcm hmv;clear hv aa a7 hg a9 ak al ab hn;go_enter func74,ntmps74;go_wp2_with fail;go_quiet (fail);have an:mx ((w.drewN nq).heap[g]?=some (.cells y 9 (0,0))):=HG.out;have a':mx (Rd (w.drewN nq) (.slice av ps.length cv) (dn ps)):=HV.out;have aA:mx (du (· = g) w (w.drewN nq)):=⟨rfl,rfl,rfl,hX _,λ_ _ _=>rfl⟩;generalize w.drewN nq=wd at *;obtain⟨l1,ao,ae,af,ag⟩:=sk (P:=prog) wd 31 3 9 i' UU g n (n+ps.length+q-n) (cap-n) cap y an.out HC.out (.slice av ps.length cv) (dn ps) a'.out kD (by rw[dD];omega) (by rw[dD];omega);rw[dD]at ae af ag;obtain⟨w1,O⟩:∃w1,w1=wd.setRow g l1.toArray:=⟨_,rfl⟩;rw[<-O]at ag;have ah:mx (w1.heap[g]?=some (.cells l1.toArray 9 (0,0))):=by show _=_;rw[O];exact ha wd g _ _ _ _ an.out
 have aB:mx (du (· = g) w w1):=by show du _ _ _;rw[O];exact aA.out.then oN
 have ap:mx (∀j,j<n\/n+ps.length<=j->l1[j]?=y[j]?):=ae;have aC:mx (∀j,j<ps.length->l1[n+j]?=(dn ps)[j]?):=af;have aD:mx (l1.length=cap):=ao;have aW:¬cap=n+ps.length:=by omega
 have bd:(n:Int)+(ps.length:Int)<=(n:Int)+2:=by omega
 clear ao ae af O;go_wp2_with fail;clear ag;have aE:IntKind.i64.wrap ((n:Int)+(ps.length:Int))=(n:Int)+(ps.length:Int):=by simp only[ng];omega
 have hA:(0:Int)<=(n:Int)+(ps.length:Int):=by omega
 have hB:(n:Int)+(ps.length:Int)<=(n:Int)+(ps.length:Int)+(q:Int):=by omega
 have hT:((n:Int)+(ps.length:Int)).toNat=n+ps.length:=by omega
 have aF:(0:Int)<=(n:Int)+2:=by omega
 have aG:(n:Int)+2<=(n:Int)+2+(q:Int):=by omega
 have aH:((n:Int)+2).toNat=n+2:=by omega
 refine g6 (S:=λw'=>True) (by kernel_rfl) ?_;refine fU 0 ?_ trivial ?_<|fU 1 ?_ trivial ?_<|fU 2 ?_ trivial ?_<|fU 3 ?_ trivial ?_<|fU 4 ?_ trivial ?_<|fU 5 ?_ trivial ?_<|fU 6 ?_ trivial ?_<|fU 7 ?_ trivial ?_<|fU 8 ?_ trivial ?_ ?_
 any_goals(rintro w' _;go_simp;first|done|with_reducible rfl)
 refine l5 9 λK' aq=>?_;unfold m6;go_simp;have U:(dn (xs.drop (n+2))).length=q:=by rw[dD,di,ad.out];omega
 have ar:Rd w1.drew (.slice (some ⟨g,n+2,none⟩) q (cap-(n+2))) (dn (xs.drop (n+2))):=by
  refine⟨some ⟨g,n+2,none⟩,cap-(n+2),by rw[U],by rw[U];omega,by unfold gv;omega,λj u B=>⟨g,n+2,rfl,?_⟩⟩
  have be:j<q:=by
   have:=(List.getElem?_eq_some_iff.1 B).1;omega
  show w1.cell? _=_;rw[dh ah.out];show l1.toArray[n+2+j]?=_;rw[ex,ap.out _ (Or.inr (by omega)),am.out _ (by rw[ad.out];omega),<-B];unfold dn;rw[ee,ee,ga]
 obtain⟨l2,au,ai,aj,aw⟩:=sk (P:=prog) w1.drew 31 3 9 i' UU g (n+ps.length) q (cap-(n+ps.length)) cap l1.toArray ah.out (by simpa using aD.out) _ _ ar kD (by omega) (by omega);rw[aw];rw[U]at ai aj;obtain⟨w2,W⟩:∃w2,w2=w1.drew.setRow g l2.toArray:=⟨_,rfl⟩;rw[<-W];have ax:mx (w2.heap[g]?=some (.cells l2.toArray 9 (0,0))):=by show _=_;rw[W];exact ha w1.drew g _ _ _ _ ah.out
 have aI:mx (du (· = g) w w2):=by
  show du _ _ _;rw[W];have h1:du (· = g) w1 w1.drew:=⟨rfl,rfl,rfl,hX _,λ_ _ _=>rfl⟩;exact(aB.out.then h1).then oN
 have ay:mx (∀j,j<n+ps.length\/n+ps.length+q<=j->l2[j]?=l1[j]?):=λj B=>by have:=ai j B;simpa using this
 have aJ:mx (∀j,j<q->l2[n+ps.length+j]?=(dn (xs.drop (n+2)))[j]?):=aj;have az:mx (l2.length=cap):=au;clear au ai aj aw W ar U;refine aq _ _ ⟨trivial,g9 (by kernel_rfl) ?_ _⟩;clear aq aE hA hB hT aF aG aH;have aX:¬cap=n+ps.length+q:=by omega
 obtain⟨l3,a0,a3,aK⟩:=su (P:=prog) w2 31 0 9 g (n+ps.length+q) (n+2+q-(n+ps.length+q)) (cap-(n+ps.length+q)) (.string ⟨#[]⟩) l2.toArray 9 i' (j1 w2) rfl rfl ax.out (by omega) (by have:=az.out;simp;omega);obtain⟨w3,Y⟩:∃w3,w3=w2.setRow g l3.toArray:=⟨_,rfl⟩;rw[<-Y]at aK;have aL:mx (w3.heap[g]?=some (.cells l3.toArray 9 (0,0))):=by show _=_;rw[Y];exact ha w2 g _ _ _ _ ax.out
 have aM:mx (du (· = g) w w3):=by show du _ _ _;rw[Y];exact aI.out.then oN
 have aN:mx (∀j,j<n+ps.length+q->l3[j]?=l2[j]?):=λj B=>by have:=a3 j B;simpa using this
 have aO:mx (l3.length=cap):=by show _=_;rw[a0];simpa using az.out
 clear a0 a3 Y;go_wp2;go_ret;refine⟨_,rfl,?_,aM.out,λk hk=>Or.inl (by simp[no]at hk;exact hk.symm)⟩;have bf:=ad.out
 have ac:(xs.take n++(ps++xs.drop (n+2))).length=n+ps.length+q:=by
  rw[cc,cc,cp,di];omega
 have aP:(dn (xs.take n)).length=n:=by rw[dD,cp];omega
 have aQ:(dn ps).length=ps.length:=dD ps;rw[ac];refine se (by omega) (by unfold gv;omega) (by rw[dD,ac]) aL.out (by simpa using aO.out) (λj B=>?_);rw[show dn (xs.take n++(ps++xs.drop (n+2)))=dn (xs.take n)++(dn ps++dn (xs.drop (n+2))) by simp[dn],ex,aN.out j B];by_cases a4:j<n;rw[ay.out j (Or.inl (by omega)),ap.out j (Or.inl a4),am.out j (by omega),cx (by omega)];unfold dn;rw[ee,ee,dg,if_pos a4];rw[df (by omega),aP];by_cases aR:j<n+ps.length;rw[ay.out j (Or.inl aR),cx (by omega),<-aC.out (j-n) (by omega),show n+(j-n)=j by omega];rw[df (by omega),aQ,<-aJ.out (j-n-ps.length) (by omega),show n+ps.length+(j-n-ps.length)=j by omega]
theorem Eg(w:World)(g n cap:Nat)(xs:List Wd)(v:Value)(ps:List Wd)(y:w.ownsRow 0 9 1 (.slice (some ⟨g,0,none⟩) xs.length cap) xs.length (dn xs))(U:Rd w v (dn ps))(B:ps.length<=1)(W:n+2<=xs.length)(O:xs.length<=6) :
  g5 prog 74 #[.slice (some ⟨g,0,none⟩) xs.length cap,.int .i64 n,.int .i64 ((n:Int)+2),v] w λe w'=>∃v',e=.returned v'/\w'.ownsRow 0 9 1 v' (xs.take n++(ps++xs.drop (n+2))).length (dn (xs.take n++(ps++xs.drop (n+2))))/\du (· = g) w w'/\∀k,v'.ownBlock=some k->k=g\/w.heap.size<=k:=by
 by_cases h:n+2=xs.length;have e:xs.drop (n+2)=[]:=fm (by omega);rw[e,dt];exact FX w g n cap xs v ps y U B h O;exact E6 w g n (xs.length-(n+2)) cap xs v ps y U B (by omega) (by omega) O
def oc(ss:List (List dq))(m:Nat)(l:List dq):List (List dq):=ss.take m++((if 0<l.length then [l]else [])++ss.drop (m+2))
theorem tN(ss:List (List dq))(m:Nat)(l:List dq):(oc ss m l).map dW=(ss.map dW).take m++(iD l++(ss.map dW).drop (m+2)):=by
 unfold oc iD;split<;>simp
def T1(b g m B:Nat)(x y:Wd)(n:Nat)(w':World):Prop:=w'.cell? ⟨b,1,none⟩=some (.slice (some ⟨g,0,none⟩) n B)/\w'.cell? ⟨g,m,none⟩=some (.string ⟨x.toArray⟩)/\w'.cell? ⟨g,m+1,none⟩=some (.string ⟨y.toArray⟩)
theorem Tg(w:World)(F:Nat->Prop)(b:Nat)(buf:List dq)(ss:List (List dq))(n:Int)(hP:tk vM vK w F b buf ss) :
  g5 prog 39 #[.pointer (some ⟨b,0,none⟩),.int .i64 n] w λe w'=>e=.returned (.int .i64 (eP ss n).1)/\
   ∃F':Nat->Prop,tk vM vK w' F' b buf (eP ss n).2/\(∀k,F' k->F k\/w.heap.size<=k)/\du F w w':=by
 have HP:mx (tk _ _ _ _ _ _ _):=hP;obtain⟨hF,Bb,vS,hE⟩:=hP;obtain⟨aS,cS,rfl,bl⟩:=dK hE.row;have HF:mx (∀k,F k->k<w.heap.size):=hF;have aH:w.cell? ⟨b,1,none⟩=some (.slice aS ss.length cS):=by rw[dh hE.blk];rfl
 have h6:=hE.inv.ql;have aY:=hF b hE.fb;have U:mx (Ak _ _ _ _ _ _ _ _ _):=hE;clear hF hE;by_cases h0:n<0
 .have HU:mx (eP ss n=(6,ss)):=by show eP _ _=_;unfold eP;rw[if_pos (Or.inl h0)]
  go_enter mv,mb;go_wp2;go_ret;refine⟨eR (by rw[HU.out];rfl),F,?_,λk hk=>Or.inl hk,du.refl _ _⟩;rw[HU.out];exact HP.out
 have bm:IntKind.i64.wrap ((ss.length:Int)-1)=(ss.length:Int)-1:=by simp only[ng];omega
 by_cases h1:(ss.length:Int)-1<=n
 .have HU:mx (eP ss n=(6,ss)):=by show eP _ _=_;unfold eP;rw[if_pos (Or.inr h1)]
  go_enter mv,mb;go_wp2;go_ret;refine⟨eR (by rw[HU.out];rfl),F,?_,λk hk=>Or.inl hk,du.refl _ _⟩;rw[HU.out];exact HP.out
 obtain⟨m,rfl⟩:∃m:Nat,n=(m:Int):=⟨n.toNat,by omega⟩;have hm:m+1<ss.length:=by omega
 have am:m<ss.length:=by omega
 obtain⟨g,rfl⟩:∃g,aS=some ⟨g,0,none⟩:=by
  rcases U.out.row.2 with⟨he,_⟩|⟨g,cap,bn,he,_⟩
  simp only[m7]at he;omega;simp only[m7]at he;exact⟨g,he.1⟩
 have an:mx (ja ss m=if m=0 then dw (dH ss[m] ss[m+1])else dH ss[m] ss[m+1]):=by
  show ja _ _=_;unfold ja;rw[dk,dk,dd am,dd hm];rfl
 have HU:mx (eP ss (m:Int)=if 100<je (ja ss m)then(4,ss)else(0,ss.take m++((if 0<(ja ss m).length then [ja ss m]else [])++ss.drop (m+2)))):=by
  show eP _ _=_;unfold eP;rw[if_neg (by omega),Int.toNat_natCast,jB];rfl
 have aZ:w.cell? ⟨g,m,none⟩=some (.string ⟨(dW ss[m]).toArray⟩):=by
  obtain⟨b',off,e,hc⟩:=jh U.out.row m (.string ⟨(dW ss[m]).toArray⟩) (by simp[dn,am]);cases e;rw[i7]at hc;exact hc
 have ba:w.cell? ⟨g,m+1,none⟩=some (.string ⟨(dW ss[m+1]).toArray⟩):=by
  obtain⟨b',off,e,hc⟩:=jh U.out.row (m+1) (.string ⟨(dW ss[m+1]).toArray⟩) (by simp[dn,hm]);cases e;rw[i7]at hc;exact hc
 have a3:mx (∀l∈[ss[m],ss[m+1]],∀e∈l,e.name.length<=gv):=by
  intro l hl e he;simp only[fd,e6,or_false]at hl;rcases hl with rfl|rfl
  exact qY (U.out.inv.jp _ (ch am)) e he;exact qY (U.out.inv.jp _ (ch hm)) e he
 have ao:mx (gf [ss[m],ss[m+1]]=dH ss[m] ss[m+1]):=by
  show _=_;unfold gf;simp only[List.foldl_cons,List.foldl_nil];rw[mf]
 have a4:mx (∀e∈dH ss[m] ss[m+1],e.name.length<=gv):=by
  rw[<-ao.out];exact vA a3.out
 have af:mx ((dH ss[m] ss[m+1]).length<=1000):=by
  have h1:=mV (U.out.inv.jp _ (ch am));have h2:=mV (U.out.inv.jp _ (ch hm));have h3:=uQ [ss[m],ss[m+1]] 2 (by simp);simp only[List.take]at h3;rw[ao.out]at h3;have h4:iE [ss[m],ss[m+1]]<=1000:=by simp[iE];omega
  show _<=_;omega
 have bo:(0:Int)<=(m:Int):=by omega
 have bp:(m:Int)<(ss.length:Int):=by omega
 have bq:(m:Int)+1<(ss.length:Int):=by omega
 have br:IntKind.i64.wrap ((m:Int)+1)=(m:Int)+1:=by simp only[ng];omega
 have bs:IntKind.i64.wrap ((m:Int)+2)=(m:Int)+2:=by simp only[ng];omega
 have bt:((m:Int)+1).toNat=m+1:=by omega
 have bu:(0:Int)<=(m:Int)+1:=by omega
 clear h0;go_enter mv,mb;go_wp2_with fail;have B:(T1 b g m cS (dW ss[m]) (dW ss[m+1]) ss.length) w.drew:=⟨aH,aZ,ba⟩;refine g6 (S:=T1 b g m cS (dW ss[m]) (dW ss[m+1]) ss.length) (by kernel_rfl) ?_;refine fU 0 ?_ B ?_<|fU 1 ?_ B ?_<|fU 2 ?_ B ?_<|fU 3 ?_ B ?_<|fU 4 ?_ B ?_<|fU 5 ?_ B ?_<|fU 6 ?_ B ?_<|fU 8 ?_ B ?_<|fU 9 ?_ B ?_<|fU 10 ?_ B ?_<|fU 11 ?_ B ?_<|fU 12 ?_ B ?_<|fU 13 ?_ B ?_<|fU 14 ?_ B ?_<|fU 15 ?_ B ?_ ?_
 any_goals(rintro w' ⟨s0,s1,s2⟩;go_simp;first|done|with_reducible rfl)
 refine l5 7 λK' y=>?_;unfold m6;go_simp;refine(oE ss[m] w.drew (U.out.inv.jp _ (ch _))).mono ?_;rintro e w1 ⟨C,rfl,hC,aI,O⟩;have a5:Below w.heap.size w w1:=⟨O.os,O.tape,O.output,O.size,O.block⟩;have aJ:=a5.size;have ag:(T1 b g m cS (dW ss[m]) (dW ss[m+1]) ss.length) w1:=⟨gt O B.1,gt O B.2.1,gt O B.2.2⟩;refine y _ _ ⟨ag,?_⟩;clear y O;refine l5 16 λK' y=>?_;unfold m6;go_simp;refine(oE ss[m+1] w1 (U.out.inv.jp _ (ch _))).mono ?_;rintro e w2 ⟨D,rfl,hD,aK,Y⟩;have bc:=Y.size;have aL:Below w.heap.size w w2:=a5.trans (Y.mono aJ);have ah:(T1 b g m cS (dW ss[m]) (dW ss[m+1]) ss.length) w2:=⟨gt Y ag.1,gt Y ag.2.1,gt Y ag.2.2⟩;have ay:e9 w2 C ss[m]:=dL.below aI Y;refine y _ _ ⟨ah,?_⟩;clear y Y aI;refine l5 17 λK' y=>?_;unfold m6;go_simp;have a6:=TJ (t:=85) rfl ay aK;obtain⟨w3,a7⟩:∃w3,w3=w2.alloc (.cells #[.map (some C),.map (some D)] 85):=⟨_,rfl⟩;rw[<-a7]at a6⊢;have ac:Below w2.heap.size w2 w3:=by rw[a7];exact(m0 _ _).alloc (hX _) _
 have ap:=ac.size;have aM:Below w.heap.size w w3:=aL.trans (ac.mono (by omega));have ai:(T1 b g m cS (dW ss[m]) (dW ss[m+1]) ss.length) w3:=⟨gt ac ah.1,gt ac ah.2.1,gt ac ah.2.2⟩;refine y _ _ ⟨ai,?_⟩;clear y ac a7;refine l5 18 λK' y=>?_;unfold m6;go_simp
 refine(zE _ [C,D] [ss[m],ss[m+1]] w3 a6 (by
   have h1:=mV (U.out.inv.jp _ (ch (show m<ss.length by omega)));have h2:=mV (U.out.inv.jp _ (ch (show m+1<ss.length by omega)));simp[iE]
   omega) a3.out).mono ?_
 rintro e w4 ⟨M,rfl,hM,a8,ad⟩;have bd:=ad.size;have a9:Below w.heap.size w w4:=aM.trans (ad.mono (by omega));have a':(T1 b g m cS (dW ss[m]) (dW ss[m+1]) ss.length) w4:=⟨gt ad ai.1,gt ad ai.2.1,gt ad ai.2.2⟩;refine y _ _ ⟨a',?_⟩;clear y ad;refine fU 19 ?_ a' ?_ ?_;rotate_left
 .rintro w' ⟨s0,s1,s2⟩;go_simp;first|done|with_reducible rfl
 refine g9 (by kernel_rfl) ?_ _;rw[ao.out]at a8;have be:w.heap.size<=w4.heap.size:=a9.size;have aq:mx (e9 _ _ _):=a8;have ar:mx (Below _ _ _):=a9;clear B ag ah ai a' a6 a8 ay aK a5 aL aM a9 hC hD aJ bc ap bd ao a3;generalize dH ss[m] ss[m+1]=X at *;by_cases au:m=0
 case' pos=>
  have az:((m:Int)==0)=true:=beq_iff_eq.2 (by omega);have aA:mx (ja ss m=dw X):=by show ja _ _=_;rw[an.out,if_pos au]
  have aN:=qL M _ w4 aq.out (by have:=af.out;omega) a4.out;clear au an;go_wp2_with fail;refine aN.mono ?_;rintro e w4 ⟨M,rfl,hN,aO,aP⟩;have aq:mx (e9 _ _ _):=aO;have af:mx ((dw X).length<=1000):=ie (oT _) af.out;have ar:mx (Below w.heap.size w w4):=ar.out.trans (aP.mono be);clear aN aO aP az a4;generalize dw X=X at *
 case' neg=>
  have aA:mx (ja ss m=X):=by show ja _ _=_;rw[an.out,if_neg au]
  have az:((m:Int)==0)=false:=beq_eq_false_iff_ne.2 (by omega);clear au an a4
 all_goals
  have aQ:=B7 M X w4 aq.out (by have:=af.out;omega);go_wp2_with fail;refine aQ.mono ?_;rintro e w6 ⟨rfl,av⟩;have bv:=av.size;have W:mx (Below w.heap.size w w6):=ar.out.trans (av.mono ar.out.size);have bf:mx (e9 w6 M X):=dL.below aq.out av;have bg:je X<=1000:=ie (Fu _) af.out;clear aQ av;by_cases aa:100<je X
  .have ae:mx (eP ss (m:Int)=(4,ss)):=by show eP _ _=_;rw[HU.out,aA.out,if_pos aa]
   have aj:(100:Int)<(je X:Int):=by omega
   clear aa;go_wp2;go_ret;refine⟨eR (by rw[ae.out];rfl),F,?_,λk hk=>Or.inl hk,du.fE W.out⟩;rw[ae.out];exact tk.below HP.out W.out
  have ae:mx (eP ss (m:Int)=(0,oc ss m X)):=by show eP _ _=_;rw[HU.out,aA.out,if_neg aa];rfl
  have aj:¬(100:Int)<(je X:Int):=by omega
  have a0:mx (Inv buf (oc ss m X)):=by have:=B8 U.out.inv (m:Int);rw[ae.out]at this;exact this
  have aR:mx (Below w.heap.size w w6.drew):=⟨W.out.os,W.out.tape,W.out.output,W.out.size,W.out.block⟩;have bw:w6.cell? ⟨b,1,none⟩=some (.slice (some ⟨g,0,none⟩) ss.length cS):=gt W.out aH
  have aT:=D8 M X w6.drew bf.out (λhp=>a0.out.jp _ (by
   unfold oc;rw[if_pos hp]
   simp))
  clear aa;go_wp2_with fail;clear aj bg;refine g6 (S:=λw'=>True) (by kernel_rfl) ?_;refine fU 0 ?_ trivial ?_<|fU 1 ?_ trivial ?_<|fU 2 ?_ trivial ?_<|fU 3 ?_ trivial ?_<|fU 5 ?_ trivial ?_<|fU 6 ?_ trivial ?_<|fU 7 ?_ trivial ?_<|fU 8 ?_ trivial ?_ ?_
  any_goals(rintro w' _;go_simp;first|done|with_reducible rfl)
  refine hU (rs:=[4,9]) (by kernel_rfl) (by simp) ?_;intro i hi;simp only[fd,e6,or_false]at hi;rcases hi with rfl|rfl
  case' inl=>
   refine hw (by rfl) λK' y=>?_;rw[if_pos (by rfl)];unfold m6;go_simp;refine y _ _ ⟨trivial,?_⟩;clear y;refine l5 9 λK' y=>?_
  case' inr=>
   refine hw (by rfl) λK' y=>?_;rw[if_pos (by rfl)]
  all_goals
   unfold m6;go_simp;refine aT.mono ?_;rintro e x1 ⟨v1,rfl,aU,aV⟩;have aw:Below w.heap.size w x1:=aR.out.trans (aV.mono aR.out.size);have ak:x1.heap[b]?=some (.cells #[.map (some Bb),.slice (some ⟨g,0,none⟩) ss.length cS,vM,vK] 90 (0,0)):=by rw[aw.block b aY];exact U.out.blk
   have bh:x1.cell? ⟨b,1,none⟩=some (.slice (some ⟨g,0,none⟩) ss.length cS):=by rw[dh ak];rfl
   refine y _ _ ⟨trivial,?_⟩;clear y aT aV
  case' inr=>
   refine l5 4 λK' y=>?_;unfold m6;go_simp;refine y _ _ ⟨trivial,?_⟩;clear y
  all_goals
   have aB:x1.ownsRow 0 9 1 (.slice (some ⟨g,0,none⟩) (ss.map dW).length cS) (ss.map dW).length (dn (ss.map dW)):=by
    rw[dj];exact eh U.out.row (λk hk=>aw.block k (HF.out k (U.out.lq k hk)))
   have aC:=Eg x1 g m cS (ss.map dW) v1 (iD X) aB aU (vu _) (by rw[dj];omega) (by rw[dj];omega);rw[dj]at aC;refine l5 10 λK' y=>?_;unfold m6;go_simp;refine aC.mono ?_;rintro e x2 ⟨v2,rfl,ax,aD,aW⟩;obtain⟨ln,aE⟩:∃ln,ln=((ss.map dW).take m++(iD X++(ss.map dW).drop (m+2))).length:=⟨_,rfl⟩;rw[<-aE]at ax;have bi:mx (ln=((ss.map dW).take m++(iD X++(ss.map dW).drop (m+2))).length):=aE;clear aE;obtain⟨a2,c2,rfl,bx⟩:=dK ax;have aF:x2.heap[b]?=some (.cells #[.map (some Bb),.slice (some ⟨g,0,none⟩) ss.length cS,vM,vK] 90 (0,0)):=by rw[aD.block b (eS ak) (λe=>pE ak aB (by decide) (by rw[e];rfl))];exact ak
   refine y _ _ ⟨trivial,?_⟩;clear y aC
   have al:x2.ownsRow 0 9 1 (.slice a2 ln c2) (oc ss m X).length (dn ((oc ss m X).map dW)):=by
    rw[tN,<-dj (f:=dW),tN,<-bi.out];exact ax
   have ab:=U.out.jp HF.out aw (aD.mono (λk hk=>by subst hk;rfl)) al (λk hk=>by
    rcases aW k hk with h|h
    subst h;exact Or.inl rfl
    exact Or.inr h)
   refine fU 11 ?_ trivial ?_<|fU 12 ?_ trivial ?_ ?_
   any_goals(rintro w' _;go_simp;first|done|with_reducible rfl)
   have bj:x2.cell? ⟨b,1,none⟩=some (.slice (some ⟨g,0,none⟩) ss.length cS):=by rw[dh aF];rfl
   have bk:x2.frozen? ⟨b,1,none⟩=false:=dI aF 1;clear ax aD aW al aF aB aU ak aw bh;refine l5 13 λK' y=>?_;unfold m6;go_simp;refine y _ _ ⟨trivial,g9 (by kernel_rfl) ?_ _⟩;clear y bj bk;obtain⟨x3,aG⟩:∃x3,x3=x2.setCell ⟨b,1,none⟩ (.slice a2 ln c2):=⟨_,rfl⟩;have ap:x3.heap.size=x2.heap.size:=by rw[aG];simp[nc]
   rw[<-aG]at ab⊢;rw[<-ap]at ab;have aX:mx (∃F':Nat->Prop,tk vM vK x3 F' b buf (oc ss m X)/\(∀k,F' k->F k\/w.heap.size<=k)/\du F w x3):=Lu U.out HF.out ab a0.out;clear aG ap ab;go_wp2;go_ret;refine⟨eR (by rw[ae.out];rfl),?_⟩;rw[ae.out];exact aX.out
def SV(y:World->(Nat->Prop)->Nat->List dq->List (List dq)->Prop)(w:World)(F:Nat->Prop)(b:Nat)(code:Nat)(buf:List dq)(ss:List (List dq))(e:Ending)(w':World):Prop:=
 e=.returned (.int .i64 code)/\∃F':Nat->Prop,y w' F' b buf ss/\(∀k,F' k->F k\/w.heap.size<=k)/\du F w w'
end
section
open Go.RowKit Go.Maps
variable {c:Array Value} {ss:List (List dq)} {ts:List (List Wd)} {buf:List dq} {kn:List Wd} {b n:Nat} {fr:Nat×Nat} {F' F1 F2:Nat->Prop} {e:g7} {vK vS:Value} {w w':World}
def UM(y vS:Value)(w:World)(F:Nat->Prop)(b:Nat)(ts:List (List Wd)):Prop:=(∀k,F k->k<w.heap.size)/\∃B n vK kn,PW w F b y vS ts B n vK kn
theorem C8{vB:Value}(w:World)(F:Nat->Prop)(b:Nat)(ts:List (List Wd))(s:ByteArray)(hP:UM vB vS w F b ts)(hB:gu ts<=16777216)(hs:s.size<=gv) :
  g5 prog 34 #[.pointer (some ⟨b,0,none⟩),.string s] w λe w'=>e=.returned (.int .i64 (sW ts s.data.toList).1)/\
   ∃F':Nat->Prop,UM vB vS w' F' b (sW ts s.data.toList).2/\(∀k,F' k->F k\/w.heap.size<=k)/\du F w w':=by
 obtain⟨hF,B,n,vK,kn,hW⟩:=hP;by_cases h:eu s.data.toList=true/\s.data.toList≠[]
 .have HO:mx (sW ts s.data.toList=if 60<(eJ (ts++[iN (dO s.data.toList)])).length then(4,ts)else(0,ts++[iN (dO s.data.toList)])):=by
   show sW ts s.data.toList=_;unfold sW;rw[if_pos h]
  have hT:=pD s w hs;rw[decide_eq_true h]at hT;obtain⟨ah,ai⟩:=vJ s h.1;have aj:=wB s w.drew h.1;clear h hs;generalize iN (dO s.data.toList)=t at *;go_enter func34,ntmps34;go_wp2_with fail;refine hT.mono ?_;rintro e w' ⟨rfl,rfl⟩;clear hT;by_cases aa:60<(eJ (ts++[t])).length
  .have ab:mx (sW ts s.data.toList=(4,ts)):=by show _=_;rw[HO.out,if_pos aa]
   have ac:g5 prog 67 #[.string s] w.drew λe w1=>∃a c,e=.returned (.slice a t.length c)/\Below w.heap.size w w1/\
     g5 prog 66 #[.pointer (some ⟨b,2,none⟩),.slice a t.length c] w1 λe w2=>e=.returned (.bool false)/\Below w.heap.size w w2:=by
    refine aj.mono ?_;rintro e w1 ⟨v,rfl,W,y⟩;have Y:w1.ownsRow w.heap.size 9 1 v t.length (dn t):=W;have U:Below w.heap.size w w1:=⟨y.os,y.tape,y.output,y.size,y.block⟩;clear W y;obtain⟨a,c,rfl,_⟩:=dK Y;refine⟨a,c,rfl,U,?_⟩;refine(Kc F b vB vS ts B n vK kn t w.heap.size _ w1 (λk O=>hV (hF k O) U.size) (hW.stay (λk O=>U.block k (hF k O))) Y (λk O al=>by have:=(Y.lt k O).1;have:=hF k al;omega) ah ai hB).mono ?_;rintro e w2 (⟨_,rfl,ad⟩|⟨hn,_⟩);exact⟨rfl,U.trans (ad.mono U.size)⟩;exact absurd aa hn
   clear aj aa ah ai;go_wp2_with fail
   go_region_law (first
    |(go_simp
      go_at_call 67;refine ac.mono ?_
      rintro e w1 ⟨a,c,rfl,U,ae⟩)
    |(go_simp
      go_at_call 66;refine ae.mono ?_
      rintro e w2 ⟨rfl,ad⟩))
   all_goals
    go_wp2;go_ret;refine⟨eR (by rw[ab.out];rfl),F,?_,λk O=>Or.inl O,du.fE ad⟩;rw[ab.out];exact⟨λk O=>hV (hF k O) ad.size,B,n,vK,kn,hW.stay (λk O=>ad.block k (hF k O))⟩
  have ab:mx (sW ts s.data.toList=(0,ts++[t])):=by show _=_;rw[HO.out,if_neg aa]
  have ac:g5 prog 67 #[.string s] w.drew λe w1=>∃a c,e=.returned (.slice a t.length c)/\Below w.heap.size w w1/\
    g5 prog 66 #[.pointer (some ⟨b,2,none⟩),.slice a t.length c] w1 λe w2=>e=.returned (.bool true)/\(∃F' n' af ag,(∀k,F' k->k<w2.heap.size)/\(∀k,F' k->F k\/w.heap.size<=k)/\PW w2 F' b vB vS (ts++[t]) B n' af ag)/\du F w w2:=by
   refine aj.mono ?_;rintro e w1 ⟨v,rfl,W,y⟩;have Y:w1.ownsRow w.heap.size 9 1 v t.length (dn t):=W;have U:Below w.heap.size w w1:=⟨y.os,y.tape,y.output,y.size,y.block⟩;clear W y;obtain⟨a,c,rfl,_⟩:=dK Y;refine⟨a,c,rfl,U,?_⟩;have an:w.heap.size<=w1.heap.size:=U.size;refine(Kc F b vB vS ts B n vK kn t w.heap.size _ w1 (λk O=>hV (hF k O) an) (hW.stay (λk O=>U.block k (hF k O))) Y (λk O al=>by have:=(Y.lt k O).1;have:=hF k al;omega) ah ai hB).mono ?_;rintro e w2 (⟨hy,_⟩|⟨_,rfl,⟨n',af,ag,am⟩,ak⟩);exact absurd hy aa;have aq:=ak.size;refine⟨rfl,⟨Qz F w1 w2,n',af,ag,?_,?_,am⟩,?_⟩;rintro k (O|O);have:=hF k O;omega;exact O.2;rintro k (O|O);exact Or.inl O;exact Or.inr (by omega);exact(du.fE (F:=F) U).trans ak (λ_ _ h=>h)
  clear aj aa ah ai;go_wp2_with fail
  go_region_law (first
   |(go_simp
     go_at_call 67;refine ac.mono ?_
     rintro e w1 ⟨a,c,rfl,U,ae⟩)
   |(go_simp
     go_at_call 66;refine ae.mono ?_
     rintro e w2 ⟨rfl,⟨F',n',af,ag,ao,ap,am⟩,ak⟩))
  all_goals
   go_wp2;go_ret;refine⟨eR (by rw[ab.out];rfl),F',?_,ap,ak⟩;rw[ab.out];exact⟨ao,B,n',af,ag,am⟩
 have HO:mx (sW ts s.data.toList=(2,ts)):=by show sW ts s.data.toList=_;unfold sW;rw[if_neg h]
 have hT:=pD s w hs;rw[decide_eq_false h]at hT;go_enter func34,ntmps34;go_wp2_with fail;refine hT.mono ?_;rintro e w' ⟨rfl,rfl⟩;go_wp2;go_ret;refine⟨eR (by rw[HO.out];rfl),F,?_,λk O=>Or.inl O,du.refl _ _⟩;rw[HO.out];exact⟨hF,B,n,vK,kn,hW⟩
structure PJ(w:World)(F1 F2:Nat->Prop)(b:Nat)(buf:List dq)(ss:List (List dq))(ts:List (List Wd)):Prop where
 T3:∀k,F1 k->k<w.heap.size
 Uz:∀k,F2 k->k<w.heap.size
 apart:∀k,F1 k->F2 k->k=b
 both:∃Bb vS B n vK kn,Ak w F1 b buf ss Bb vS (.map (some B)) vK/\PW w F2 b (.map (some Bb)) vS ts B n vK kn
theorem PJ.below(h:PJ w F1 F2 b buf ss ts)(O:w.heap.size<=w'.heap.size)(hb:∀k,k<w.heap.size->w'.heap[k]?=w.heap[k]?):PJ w' F1 F2 b buf ss ts:=by
 obtain⟨U,W,Y,Bb,vS,B,n,vK,kn,h4,h5⟩:=h;exact⟨λk y=>hV (U k y) O,λk y=>hV (W k y) O,Y,Bb,vS,B,n,vK,kn,h4.stay λk y=>hb k (U k y),h5.stay λk y=>hb k (W k y)⟩
theorem SB{B:Nat}{f:List Wd->Nat}(h:eD w B n f)(hb:w.heap[b]?=some (.cells c e fr)):B≠b:=by
 rintro rfl;obtain⟨D,⟨es,clock,y,_⟩,_⟩:=h;rw[y]at hb;cases hb
theorem Su{B:Nat}{es:List dq}(h:e9 w B es)(hb:w.heap[b]?=some (.cells c e fr)):B≠b:=by
 rintro rfl;obtain⟨D,⟨es,clock,y,_⟩,_⟩:=h;rw[y]at hb;cases hb
theorem Pa{base:Nat}{v:Value}{xs:List Value}(h:w.ownsRow base 9 1 v n xs)(hb:w.heap[b]?=some (.cells c 90 fr)):∀k,v.ownBlock=some k->k≠b:=by
 rintro k y rfl;rcases h.2 with⟨rfl,_⟩|⟨g,cap,B,rfl,_,O,_⟩
 cases y;simp only[no,m8]at y;subst y;rw[O]at hb;simp only[m8,Obj.cells.injEq]at hb;exact absurd hb.2.1 (by decide)
theorem PJ.entries{U:List dq}{ss':List (List dq)}{Bb:Nat}{B:Nat}(h1:∀k,F1 k->k<w.heap.size)(h2:∀k,F2 k->k<w.heap.size)(h3:∀k,F1 k->F2 k->k=b)(h4:Ak w F1 b buf ss Bb vS (.map (some B)) vK)(y:PW w F2 b (.map (some Bb)) vS ts B n vK kn)
  (hp:tk (.map (some B)) vK w' F' b U ss') (hF:∀k,F' k->F1 k\/w.heap.size<=k) (W:du F1 w w'):PJ w' F' F2 b U ss' ts:=by
 obtain⟨g1,aa,ab,g2⟩:=hp;have hz:=W.size;have kQ:∀k,F2 k->k≠b->w'.heap[k]?=w.heap[k]?:=λk O ac=>W.block k (h2 k O) λhf=>ac (h3 k hf O);refine⟨g1,λk O=>hV (h2 k O) hz,λk O Y=>?_,aa,ab,B,n,vK,kn,g2,⟨g2.blk,y.fb,y.fB,y.cnt.stay (kQ B y.fB (SB y.cnt y.blk)),y.room,eh y.row λk O=>kQ k (y.lq k O) (Pa y.row y.blk k O),y.lq,y.perm,y.ok,y.ql⟩⟩;rcases hF k O with hf|hf
 exact h3 k hf Y;exact absurd (h2 k Y) (by omega)
theorem PJ.words{U:List (List Wd)}{Bb:Nat}{B:Nat}(h1:∀k,F1 k->k<w.heap.size)(h2:∀k,F2 k->k<w.heap.size)(h3:∀k,F1 k->F2 k->k=b)(y:Ak w F1 b buf ss Bb vS (.map (some B)) vK)(h5:PW w F2 b (.map (some Bb)) vS ts B n vK kn)
  (hp:UM (.map (some Bb)) vS w' F' b U) (hF:∀k,F' k->F2 k\/w.heap.size<=k) (W:du F2 w w'):PJ w' F1 F' b buf ss U:=by
 obtain⟨g1,B',n',aa,ab,g2⟩:=hp;have hz:=W.size;have kQ:∀k,F1 k->k≠b->w'.heap[k]?=w.heap[k]?:=λk O ac=>W.block k (h1 k O) λY=>ac (h3 k O Y);refine⟨λk O=>hV (h1 k O) hz,g1,λk O ad=>?_,Bb,vS,B',n',aa,ab,⟨g2.blk,y.fb,y.fB,dL.stay y.say (kQ Bb y.fB (Su y.say y.blk)),eh y.row λk O=>kQ k (y.lq k O) (Pa y.row y.blk k O),y.lq,y.inv⟩,g2⟩;rcases hF k ad with Y|Y
 exact h3 k O Y;exact absurd (h1 k O) (by omega)
end
end Go.Proofs.YtocbogeoffeolaaGreatDoor
