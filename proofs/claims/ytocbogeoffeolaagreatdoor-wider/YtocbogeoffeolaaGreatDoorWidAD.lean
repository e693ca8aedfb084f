import Derived.Test.YtocbogeoffeolaaGreatDoorWidAC
import Derived.Shelf.Strconv.Clone
import Derived.Shelf.Sort.Plain
import Derived.Shelf.Slices.In.SortNone
import Derived.Lib.AppendStr
import Derived.Sort.OwnSorted
import Derived.Laws.CopyOwn
set_option linter.all false
set_option maxHeartbeats 8000000
set_option maxRecDepth 1000000
open List renaming length_append->cc,getElem_mem->ch,length_take->cp,getElem?_append_left->cx,getElem?_eq_getElem->dd,take_succ_eq_append_getElem->de,getElem?_append_right->df,getElem?_take->dg,length_drop->di,length_map->dj,getD_eq_getElem?_getD->dk,append_assoc->dm,mem_map->dr,append_nil->dt,getElem?_map->ee,flatMap_cons->ef,mem_of_mem_drop->eg,flatMap_append->ei,map_cons->ej,map_toArray->ek,flatMap_nil->eq,take_of_length_le->er,map_nil->et,getElem_cons_zero->ev,getElem?_toArray->ew,take_succ_cons->ex,filter_sublist->ez,mem_nil_iff->e0,length_nil->e6,pairwise_iff_getElem->e8,mem_cons->fa,length_eq_zero_iff->fd,getElem_cons_succ->ff,drop_eq_nil_of_le->fk,take_append_drop->fm,drop_succ_cons->fs,mem_cons_self->f',getElem?_drop->ga,pairwise_map->gc,take_prefix->gd,length_cons->ge,nil_prefix->gg,mem_filter->gl,length->go
open Go renaming cell_later->gt,maxLen->gv,Calls->g5,wp_region_held->g6,TypeId->g7,info_parts->g8,wpAnyH_done->g9,setRow_heap->ha,wpOp_step->hw,resolve->h7,wpList->h8,heap_alloc_new->h9,execOp->hI,wpList_plain->hJ,setRow_self->hQ,wpAnyH_all->hU
open Nat renaming lt_of_lt_of_le->hV,le_refl->hX,zero_le->hY,min_eq_left->hZ,le_trans->ie,add_sub_cancel_left->ip,add_zero->iv,zero_mul->i6,zero_add->i7
open Go.Proofs.Tryz renaming underlying60->i8,underlying31->i',underlying9->jt,zeroValue9->j1,underlying85->j2,underlying5->j3,underlying4->j4,underlying3->j',underlying0->ka,zeroValue5->kb,zeroValue4->kc,zeroValue3->kd,zeroValue0->ke,ntmps38->kf,ntmps29->kj,ntmps128->kk,func38->kl,func29->ko,underlying292->kr,underlying276->ks,underlying272->kt,underlying239->kv,underlying229->k0,underlying226->k3,underlying222->k4,underlying221->k5,underlying212->kB,underlying190->kG,underlying184->kN,underlying141->kT,zeroValue292->kW,zeroValue276->la,zeroValue272->lc,zeroValue229->ld,zeroValue226->lf,zeroValue222->lk,zeroValue221->lo,zeroValue212->lp,zeroValue184->ls,zeroValue141->lv,sizeOf9->lw,sizeOf5->lx,sizeOf4->ly,sizeOf3->l0,sizeOf0->l4,ntmps39->lB,func128->mb,isAgg9->md,isAgg5->mi,isAgg4->mj,isAgg3->mo,isAgg0->mp,func39->mr
open Go.RowKit renaming Hid->ms
open Go.RowKit.Below renaming refl->mv,heap_setCell->mx,heap_alloc->m0
open Array renaming getElem?_eq_some_iff->m1,getElem?_toList->m2,getElem?_modify->m3
open Go.Oper renaming wp->m4
open Go.Value.slice renaming injEq->m5
open Option.some renaming injEq->m6
open Go.World renaming ownsRow_nil->m7,cell?_alloc_at->m8,setCell->m9,cell?->m'
open Go.IntKind renaming wrap_i64->nc
open Go.Value renaming oneCell'->ne,ownBlock->ng
open Go.Builtin renaming zeroCells->nl,append_->no,clear_->nr,copy_->n0
open Go.Op renaming bytesLess->n3
open Go.Sort renaming ahead->n7,alloc_eq_grow->n8,mapBlock->oa,putRowK->od,putRow->oi
open Go.Sem renaming run_pure->oj,run_bind->on
open Go.Result renaming andThen_ok->oo
open Go.Proofs renaming sortWorldK->ot
open Go.Sort.HoldsK renaming cell->ov
open Go.Addr.mk renaming injEq->o0
open List.Pairwise renaming sublist->o1,imp->o2
open List.Perm renaming refl->o3,eq_of_pairwise->o4
namespace Go.Proofs.YtocbogeoffeolaaGreatDoor
open Go.Proofs.Tryz
section
open Go.Shelf
def FQ:Go.Shelf.Ren:=⟨fun|316=>90|n=>n,fun|9=>9|3=>3|4=>4|37=>60|0=>0|127=>187|5=>5|n=>n,fun|n=>n⟩
theorem Qo:Go.Proofs.LaysM.n316 prog FQ:={
 mixed:=by kernel_rfl
 f316:=func90.trans (congrArg some (by kernel_rfl)),t0:=ka,a0:=mp,z0:=l4,v0:=ke,t3:=j',a3:=mo,z3:=l0,v3:=kd,t4:=j4,a4:=mj,z4:=ly,v4:=kc,t9:=jt,a9:=md,z9:=lw,v9:=j1,t37:=i8,a37:=isAgg60,z37:=sizeOf60,v37:=zeroValue60,t127:=underlying187,a127:=isAgg187,z127:=sizeOf187,v127:=zeroValue187,t5:=j3,a5:=mi,z5:=lx,v5:=kb,i0:=by kernel_rfl
 i3:=by kernel_rfl
 i4:=by kernel_rfl
 i5:=by kernel_rfl
 i9:=by kernel_rfl
 i37:=by kernel_rfl
 i127:=by kernel_rfl}
def Gw:Go.Shelf.Ren:=⟨fun|190=>162|125=>125|258=>217|128=>172|129=>173|302=>243|303=>244|304=>245|305=>246|306=>247|307=>248|308=>249|309=>250|310=>251|333=>271|329=>219|330=>220|334=>272|335=>273|336=>175|344=>279|n=>n,fun|31=>31|9=>9|3=>3|46=>184|0=>0|51=>229|53=>141|4=>4|183=>222|182=>221|131=>226|5=>5|218=>272|222=>276|228=>292|229=>212|n=>n,fun|n=>n⟩
theorem xj:Go.Proofs.Lays.n190 prog Gw:={
 mixed:=by kernel_rfl
 f125:=func125.trans (congrArg some (by kernel_rfl)),f128:=func172.trans (congrArg some (by kernel_rfl)),f129:=func173.trans (congrArg some (by kernel_rfl)),f190:=func162.trans (congrArg some (by kernel_rfl)),f258:=func217.trans (congrArg some (by kernel_rfl)),f302:=func243.trans (congrArg some (by kernel_rfl)),f303:=func244.trans (congrArg some (by kernel_rfl)),f304:=func245.trans (congrArg some (by kernel_rfl)),f305:=func246.trans (congrArg some (by kernel_rfl)),f306:=func247.trans (congrArg some (by kernel_rfl)),f307:=func248.trans (congrArg some (by kernel_rfl)),f308:=func249.trans (congrArg some (by kernel_rfl)),f309:=func250.trans (congrArg some (by kernel_rfl)),f310:=func251.trans (congrArg some (by kernel_rfl)),f329:=func219.trans (congrArg some (by kernel_rfl)),f330:=func220.trans (congrArg some (by kernel_rfl)),f333:=func271.trans (congrArg some (by kernel_rfl)),f334:=func272.trans (congrArg some (by kernel_rfl)),f335:=func273.trans (congrArg some (by kernel_rfl)),f336:=func175.trans (congrArg some (by kernel_rfl)),f344:=func279.trans (congrArg some (by kernel_rfl)),t0:=ka,a0:=mp,z0:=l4,v0:=ke,t3:=j',a3:=mo,z3:=l0,v3:=kd,t4:=j4,a4:=mj,z4:=ly,v4:=kc,t5:=j3,a5:=mi,z5:=lx,v5:=kb,t9:=jt,a9:=md,z9:=lw,v9:=j1,t31:=i',a31:=isAgg31,z31:=sizeOf31,v31:=zeroValue31,t46:=kN,a46:=isAgg184,z46:=sizeOf184,v46:=ls,t51:=k0,a51:=isAgg229,z51:=sizeOf229,v51:=ld,t53:=kT,a53:=isAgg141,z53:=sizeOf141,v53:=lv,t131:=k3,a131:=isAgg226,z131:=sizeOf226,v131:=lf,t182:=k5,a182:=isAgg221,z182:=sizeOf221,v182:=lo,t183:=k4,a183:=isAgg222,z183:=sizeOf222,v183:=lk,t218:=kt,a218:=isAgg272,z218:=sizeOf272,v218:=lc,t222:=ks,a222:=isAgg276,z222:=sizeOf276,v222:=la,t228:=kr,a228:=isAgg292,z228:=sizeOf292,v228:=kW,t229:=kB,a229:=isAgg212,z229:=sizeOf212
 v229:=lp}
def Dh:Go.Shelf.Ren:=⟨fun|6=>184|15=>125|14=>227|28=>172|29=>173|20=>257|21=>258|22=>259|23=>260|24=>261|25=>262|26=>263|27=>264|46=>276|47=>219|48=>220|49=>277|50=>278|57=>280|n=>n,fun|22=>190|24=>237|25=>242|3=>3|39=>184|0=>0|53=>229|55=>141|4=>4|46=>222|45=>221|50=>226|5=>5|9=>9|66=>272|70=>276|76=>292|77=>212|n=>n,fun|n=>n⟩
theorem Gr:Go.Proofs.SlLaysF0.n6 prog Dh:={
 mixed:=by kernel_rfl
 f6:=⟨f184.name,by decide,func184.trans (congrArg some (by kernel_rfl))⟩,f14:=⟨f227.name,by decide,func227.trans (congrArg some (by kernel_rfl))⟩,f15:=func125.trans (congrArg some (by kernel_rfl)),f20:=⟨f257.name,by decide,func257.trans (congrArg some (by kernel_rfl))⟩,f21:=⟨Tryz.f258.name,by decide,func258.trans (congrArg some (by kernel_rfl))⟩,f22:=⟨f259.name,by decide,func259.trans (congrArg some (by kernel_rfl))⟩,f23:=⟨f260.name,by decide,func260.trans (congrArg some (by kernel_rfl))⟩,f24:=⟨f261.name,by decide,func261.trans (congrArg some (by kernel_rfl))⟩,f25:=⟨f262.name,by decide,func262.trans (congrArg some (by kernel_rfl))⟩,f26:=⟨f263.name,by decide,func263.trans (congrArg some (by kernel_rfl))⟩,f27:=⟨Tryz.f264.name,by decide,func264.trans (congrArg some (by kernel_rfl))⟩,f28:=func172.trans (congrArg some (by kernel_rfl)),f29:=func173.trans (congrArg some (by kernel_rfl)),f46:=⟨f276.name,by decide,func276.trans (congrArg some (by kernel_rfl))⟩,f47:=func219.trans (congrArg some (by kernel_rfl)),f48:=func220.trans (congrArg some (by kernel_rfl)),f49:=⟨f277.name,by decide,func277.trans (congrArg some (by kernel_rfl))⟩,f50:=⟨f278.name,by decide,func278.trans (congrArg some (by kernel_rfl))⟩,f57:=⟨f280.name,by decide,func280.trans (congrArg some (by kernel_rfl))⟩,t0:=ka,a0:=mp,z0:=l4,v0:=ke,t3:=j',a3:=mo,z3:=l0,v3:=kd,t4:=j4,a4:=mj,z4:=ly,v4:=kc,t5:=j3,a5:=mi,z5:=lx,v5:=kb,t9:=jt,a9:=md,z9:=lw,v9:=j1,t22:=kG,a22:=isAgg190,z22:=sizeOf190,v22:=zeroValue190,t25:=underlying242,a25:=isAgg242,z25:=sizeOf242,v25:=zeroValue242,t39:=kN,a39:=isAgg184,z39:=sizeOf184,v39:=ls,t45:=k5,a45:=isAgg221,z45:=sizeOf221,v45:=lo,t46:=k4,a46:=isAgg222,z46:=sizeOf222,v46:=lk,t50:=k3,a50:=isAgg226,z50:=sizeOf226,v50:=lf,t53:=k0,a53:=isAgg229,z53:=sizeOf229,v53:=ld,t55:=kT,a55:=isAgg141,z55:=sizeOf141,v55:=lv,t66:=kt,a66:=isAgg272,z66:=sizeOf272,v66:=lc,t70:=ks,a70:=isAgg276,z70:=sizeOf276,v70:=la,t76:=kr,a76:=isAgg292,z76:=sizeOf292,v76:=kW,t77:=kB,a77:=isAgg212,z77:=sizeOf212
 v77:=lp}
end
section
open Go.RowKit Go.Maps
variable {ss:List (List dq)} {buf:List dq} {Bb b:Nat} {F:Nat->Prop} {vK vM vS:Value} {w w':World}
theorem uk(s:ByteArray)(w:World)(O:s.size<=281474976710656) :
  g5 prog 61 #[.string s] w λe w'=>e=.returned (.string s)/\Below w.heap.size w w':=by
 have B:=Any.stringslite_Clone Qo s w O;go_enter func61,ntmps61;go_wp2_with fail;refine B.mono ?_;rintro e w1 ⟨rfl,hb⟩;have U:ms _:=hb;go_wp2;go_ret;exact⟨rfl,U.out⟩
def sX(vM vK:Value)(w:World)(F:Nat->Prop)(b:Nat)(buf:List dq)(ss:List (List dq)):Prop:=(∀k,F k->k<w.heap.size)/\∃Bb vS,Ac w F b buf ss Bb vS vM vK
theorem Ac.stay(h:Ac w F b buf ss Bb vS vM vK)(hb:∀k,F k->w'.heap[k]?=w.heap[k]?):Ac w' F b buf ss Bb vS vM vK where
 blk:=by rw[hb b h.fb]; exact h.blk
 fb:=h.fb;fB:=h.fB;say:=dM.stay h.say (hb Bb h.fB);row:=eF h.row (λk B=>hb k (h.kX k B));kX:=h.kX;inv:=h.inv
theorem sX.below(h:sX vM vK w F b buf ss)(hb:Below w.heap.size w w'):sX vM vK w' F b buf ss:=by
 obtain⟨hF,Bb,vS,O⟩:=h;exact⟨λk B=>hV (hF k B) hb.size,Bb,vS,O.stay (λk B=>hb.block k (hF k B))⟩
theorem Ac.buffer{B:List dq}(h:Ac w F b buf ss Bb vS vM vK)(hF:∀k,F k->k<w.heap.size)(O:dv (· = Bb) w w')(W:ey w' Bb B)(hi:Inv B ss):Ac w' F b B ss Bb vS vM vK where
 blk:=by rw[O.block b (hF b h.fb) (λe=>dM.nz h.say h.blk e.symm)]; exact h.blk
 fb:=h.fb;fB:=h.fB;say:=W;row:=eF h.row (λk U=>O.block k (hF k (h.kX k U)) (λe=>pY h.row h.say (by rw[U,e])));kX:=h.kX;inv:=hi
theorem Jn(w:World):(zeroValue 111).run prog w=.ok (.agg #[.bool false,.string ⟨#[]⟩,.string ⟨#[]⟩,.int .i64 0,.int .i64 0]) w:=by kernel_rfl
theorem EZ{B:Nat}{es:List dq}(h:ey w B es)(x:Wd)(W:x.length<=gv):∃g a t n m,(Instr.lookup 85 (.map (some B)) (.string ⟨x.toArray⟩) true).run prog w=.ok (.tuple #[.agg #[.bool g,.string a,.string t,.int .i64 n,.int .i64 m],.bool (decide (x∈es.map dq.name))]) w:=by
 have hl:=(dM.look h jt j2 (Jn w) x W).2
 have Y:((es.map jj).any λp=>p.1==x)=decide (x∈es.map dq.name):=by
  rw[Bool.eq_iff_iff,decide_eq_true_eq,List.any_eq_true,dr];constructor
  .rintro⟨p,hp,h⟩;obtain⟨e,O,rfl⟩:=dr.1 hp;exact⟨e,O,by simpa[jj]using h⟩
  .rintro⟨e,O,rfl⟩;exact⟨jj e,dr.2 ⟨e,O,rfl⟩,by simp[jj]⟩
 rw[Y]at hl;unfold mC at hl
 cases U:(es.map jj).find? _ with
 |none=>rw[U]at hl; exact⟨_,_,_,_,_,hl⟩
 |some p=>
  rw[U]at hl;obtain⟨e,_,rfl⟩:=dr.1 (List.mem_of_find?_eq_some U);exact⟨_,_,_,_,_,hl⟩
theorem zF{l:List dq}{x:Wd}:qo l x=none↔x ∉ l.map dq.name:=⟨uy,pQ⟩
theorem QP(w:World)(F:Nat->Prop)(b:Nat)(buf:List dq)(ss:List (List dq))(name text:ByteArray)(du dD:Int)(hP:sX vM vK w F b buf ss)(hn:name.size<=gv)(ht:text.size<=gv) :
  g5 prog 38 #[.pointer (some ⟨b,0,none⟩),.string name,.string text,.int .i64 du,.int .i64 dD] w λe w'=>e=.returned (.int .i64 (jp buf ss name.data.toList text.data.toList du dD).1)/\
   sX vM vK w' F b (jp buf ss name.data.toList text.data.toList du dD).2 ss/\dv F w w':=by
 have HP:ms (sX _ _ _ _ _ _ _):=hP;have ab:=qX name w hn;have ae:=pJ text w ht;clear hP;by_cases B:iL name.data.toList=true
 .rw[B]at ab;by_cases U:dU text.data.toList=true/\text.data.toList≠[]
  .rw[decide_eq_true U]at ae;by_cases ad:du<0\/1000000<du\/dD<0\/255<dD
   .have HU:ms (jp buf ss name.data.toList text.data.toList du dD=(3,buf)):=by show jp _ _ _ _ _ _=_; unfold jp; rw[if_pos B,if_pos U,if_pos ad]
    have a5:du<0\/(0<=du/\1000000<du)\/(0<=du/\du<=1000000/\dD<0)\/(0<=du/\du<=1000000/\0<=dD/\255<dD):=by omega
    clear ad U B;rcases a5 with c1|⟨c1,c2⟩|⟨c1,c2,c3⟩|⟨c1,c2,c3,c4⟩
    all_goals
     go_enter kl,kf;go_wp2_with fail;refine ab.mono ?_;rintro e w' ⟨rfl,rfl⟩;go_wp2_with fail;refine ae.mono ?_;rintro e w' ⟨rfl,rfl⟩;go_wp2;go_ret;refine⟨eS (by rw[HU.out]; rfl),?_,dv.refl _ _⟩;rw[HU.out];exact HP.out
   .have aC:0<=du:=by omega
    have aD:du<=1000000:=by omega
    have aE:0<=dD:=by omega
    have aF:dD<=255:=by omega
    obtain⟨hF,Bb,vS,hE⟩:=id HP.out;have HE:ms (Ac _ _ _ _ _ _ _ _ _):=hE;have HF:ms (∀k,F k->k<w.heap.size):=hF;have ah:=zS F b buf ss Bb vS vM vK w hE
    have HU:ms (jp buf ss name.data.toList text.data.toList du dD=if 30<=(eO ss buf).length/\qo (eO ss buf) name.data.toList=none then(4,buf)else(0,dJ buf [⟨name.data.toList,false,text.data.toList,du,dD⟩])):=by
     show jp _ _ _ _ _ _=_; unfold jp; rw[if_pos B,if_pos U,if_neg ad]
    have HI:ms (Inv (jp buf ss name.data.toList text.data.toList du dD).2 ss):=JE hE.inv _ _ _ _;have aB:=(gI B).2
    have a6:name.size<=281474976710656:=by have:name.data.toList.length=name.size:=by simp
                                           omega
    have a7:text.size<=281474976710656:=by
     have h1:=jc U.1;have:text.data.toList.length=text.size:=by simp
     omega
    have ar:name.data.toList.length<=gv:=by unfold gv; omega
    clear ad U B hF hE;go_enter kl,kf;go_wp2_with fail;refine ab.mono ?_;rintro e w' ⟨rfl,rfl⟩;go_wp2_with fail;refine ae.mono ?_;rintro e w' ⟨rfl,rfl⟩;clear ab ae;go_wp2_with fail;refine ah.mono ?_;rintro e w1 ⟨C,rfl,hC,hs,af⟩;have au:=af.size;obtain⟨g,aa,tt,nn,mm,ai⟩:=EZ hs name.data.toList ar;rw[<-bytes_eta name]at ai;have av:ms (Below _ _ _):=af;have ak:=λ(ty:g7) (o:Obj)=>dM.len (dM.kept hs (World.grownBy_alloc w1 o none) (by simp)) j2 ty;rw[dj]at ak;have ag:=zF (l:=eO ss buf) (x:=name.data.toList);by_cases hk:name.data.toList∈(eO ss buf).map dq.name
    case' pos=>
     rw[decide_eq_true hk]at ai;have ac:ms (jp buf ss name.data.toList text.data.toList du dD=(0,dJ buf [⟨name.data.toList,false,text.data.toList,du,dD⟩])):=by show jp _ _ _ _ _ _=_; rw[HU.out,if_neg (λh=>ag.1 h.2 hk)]
     clear ag hk hs af ah HU
    case' neg=>
     rw[decide_eq_false hk]at ai;by_cases aw:30<=(eO ss buf).length
     .have ac:ms (jp buf ss name.data.toList text.data.toList du dD=(4,buf)):=by show jp _ _ _ _ _ _=_; rw[HU.out,if_pos ⟨aw,ag.2 hk⟩]
      have ax:(30:Int)<=((eO ss buf).length:Int):=by omega
      clear ag hk hs af ah HU;go_wp2;go_ret;have O:=av.out.alloc au (.cells #[.bool g,.string aa,.string tt,.int .i64 nn,.int .i64 mm] 111);refine⟨eS (by rw[ac.out]; rfl),?_,dv.fC O⟩;rw[ac.out];exact sX.below HP.out O
     have ac:ms (jp buf ss name.data.toList text.data.toList du dD=(0,dJ buf [⟨name.data.toList,false,text.data.toList,du,dD⟩])):=by show jp _ _ _ _ _ _=_; rw[HU.out,if_neg (λh=>aw h.1)]
     have ax:decide ((30:Int)<=((eO ss buf).length:Int))=false:=decide_eq_false (by omega);clear ag hk hs af ah HU
    all_goals
     go_wp2_with fail;have O:=av.out.alloc au (.cells #[.bool g,.string aa,.string tt,.int .i64 nn,.int .i64 mm] 111);clear ak ai;generalize w1.alloc (.cells #[.bool g,.string aa,.string tt,.int .i64 nn,.int .i64 mm] 111)=w2 at O⊢
     have W:w2.drew.cell? ⟨b,0,none⟩=some (.map (some Bb)):=by
      have:w2.cell? ⟨b,0,none⟩=some (.map (some Bb)):=gt O (by rw[dh HE.out.blk]; rfl);exact this
     have ay:ms (Below w.heap.size w w2.drew):=⟨O.os,O.tape,O.output,O.size,O.block⟩;clear O;refine g6 (S:=λw'=>w'.cell? ⟨b,0,none⟩=some (.map (some Bb))) (by kernel_rfl) ?_;refine fR 0 ?_ W ?_<|fR 1 ?_ W ?_<|fR 2 ?_ W ?_<|fR 3 ?_ W ?_<|fR 4 ?_ W ?_<|fR 6 ?_ W ?_<|fR 8 ?_ W ?_<|fR 9 ?_ W ?_ ?_
     any_goals(rintro w' a8; go_simp; first|done|with_reducible rfl)
     refine l8 5 λK' Y=>?_;unfold m4;go_simp;refine(uk name w2.drew a6).mono ?_;rintro e w3 ⟨rfl,am⟩;have az:ms (Below w.heap.size w w3):=ay.out.trans (am.mono ay.out.size);have a0:w3.cell? ⟨b,0,none⟩=some (.map (some Bb)):=gt am W;clear am;refine Y _ _ ⟨a0,?_⟩;clear Y;refine l8 7 λK' Y=>?_;unfold m4;go_simp;refine(uk text w3 a7).mono ?_;rintro e w4 ⟨rfl,an⟩;have aj:ms (Below w.heap.size w w4):=az.out.trans (an.mono az.out.size);have a3:w4.cell? ⟨b,0,none⟩=some (.map (some Bb)):=gt an a0;clear an;refine Y _ _ ⟨a3,?_⟩;clear Y;refine fR 10 ?_ a3 ?_ ?_;rotate_left
     .rintro w' a8; go_simp; first|done|with_reducible rfl
     refine l8 11 λK' Y=>?_;unfold m4;go_simp;have ao:=PU Bb buf ⟨name.data.toList,false,text.data.toList,du,dD⟩ w4 (dM.below HE.out.say aj.out) rfl (by have:=rK HE.out.inv; omega) ar;rw[show zx ⟨name.data.toList,false,text.data.toList,du,dD⟩=.agg #[.string name,.string text,.int .i64 du,.int .i64 dD] by unfold zx; simp only[<-bytes_eta]]at ao;refine ao.mono ?_;rintro e w5 ⟨rfl,q1,q2⟩;clear ao;have a4:Ac w4 F b buf ss Bb vS vM vK:=HE.out.stay (λk hk=>aj.out.block k (HF.out k hk));have ap:∀k,F k->k<w4.heap.size:=λk hk=>hV (HF.out k hk) aj.out.size
     have hi:Inv (dJ buf [⟨name.data.toList,false,text.data.toList,du,dD⟩]) ss:=by
      have:=HI.out;rw[ac.out]at this;exact this
     have aq:=a4.buffer ap q2 q1 hi;have a9:ms (Ac _ _ _ _ _ _ _ _ _):=aq;have a':ms (dv F w w5):=(dv.fC aj.out).then (q2.mono (λk hk=>by subst hk; exact HE.out.fB));have aA:ms (∀k,F k->k<w5.heap.size):=λk hk=>hV (ap k hk) q2.size;refine Y _ _ ⟨by rw[dh aq.blk]; rfl,g9 (by kernel_rfl) ?_ _⟩;clear Y q1 q2 a4 ap hi aq;go_wp2;go_ret;refine⟨eS (by rw[ac.out]; rfl),?_,a'.out⟩;rw[ac.out];exact⟨aA.out,Bb,vS,a9.out⟩
  .rw[decide_eq_false U]at ae;have HU:ms (jp buf ss name.data.toList text.data.toList du dD=(2,buf)):=by show jp _ _ _ _ _ _=_; unfold jp; rw[if_pos B,if_neg U]
   clear U B;go_enter kl,kf;go_wp2_with fail;refine ab.mono ?_;rintro e w' ⟨rfl,rfl⟩;go_wp2_with fail;refine ae.mono ?_;rintro e w' ⟨rfl,rfl⟩;go_wp2;go_ret;refine⟨eS (by rw[HU.out]; rfl),?_,dv.refl _ _⟩;rw[HU.out];exact HP.out
 .have al:iL name.data.toList=false:=by simpa using B
  rw[al]at ab;have HU:ms (jp buf ss name.data.toList text.data.toList du dD=(1,buf)):=by show jp _ _ _ _ _ _=_; unfold jp; rw[if_neg B]
  clear B al;go_enter kl,kf;go_wp2_with fail;refine ab.mono ?_;rintro e w' ⟨rfl,rfl⟩;go_wp2;go_ret;refine⟨eS (by rw[HU.out]; rfl),?_,dv.refl ..⟩;rw[HU.out];exact HP.out
end
section
open Go.RowKit Go.Maps
variable {vK vM:Value}
theorem Qe(w:World)(F:Nat->Prop)(b:Nat)(buf:List dq)(ss:List (List dq))(name:ByteArray)(hP:sX vM vK w F b buf ss)(hn:name.size<=gv) :
  g5 prog 37 #[.pointer (some ⟨b,0,none⟩),.string name] w λe w'=>e=.returned (.int .i64 (kI buf ss name.data.toList).1)/\
   sX vM vK w' F b (kI buf ss name.data.toList).2 ss/\dv F w w':=by
 have HP:ms (sX _ _ _ _ _ _ _):=hP;have ad:=qX name w hn;clear hP;by_cases U:iL name.data.toList=true
 .rw[U]at ad;obtain⟨hF,Bb,vS,hE⟩:=id HP.out;have HE:ms (Ac _ _ _ _ _ _ _ _ _):=hE;have HF:ms (∀k,F k->k<w.heap.size):=hF;have am:=zS F b buf ss Bb vS vM vK w hE
  have HU:ms (kI buf ss name.data.toList=if qo (eO ss buf) name.data.toList=none then(5,buf)else if 100<=iY buf then(4,buf)else(0,dJ buf [⟨name.data.toList,true,[],0,0⟩])):=by
   show kI _ _ _=_; unfold kI; rw[if_pos U,jv]; rfl
  have HI:ms (Inv (kI buf ss name.data.toList).2 ss):=J9 hE.inv _;have a7:=(gI U).2
  have az:name.size<=281474976710656:=by
   have:name.data.toList.length=name.size:=by simp
   omega
  have ar:name.data.toList.length<=gv:=by unfold gv; omega
  clear U hF hE;go_enter func37,ntmps37;go_wp2_with fail;refine ad.mono ?_;rintro e w' ⟨rfl,rfl⟩;clear ad;go_wp2_with fail;refine am.mono ?_;rintro e w1 ⟨C,rfl,hC,hs,ai⟩;have au:=ai.size;obtain⟨g,aa,tt,nn,mm,aj⟩:=EZ hs name.data.toList ar;rw[<-bytes_eta name]at aj;have ak:=zF (l:=eO ss buf) (x:=name.data.toList);have W:ms (Below w.heap.size w (w1.alloc (.cells #[.bool g,.string aa,.string tt,.int .i64 nn,.int .i64 mm] 111))):=ai.alloc au _;by_cases Y:name.data.toList∈(eO ss buf).map dq.name
  .rw[decide_eq_true Y]at aj;have an:ms (kI buf ss name.data.toList=if 100<=iY buf then(4,buf)else(0,dJ buf [⟨name.data.toList,true,[],0,0⟩])):=by show kI _ _ _=_; rw[HU.out,if_neg (λh=>ak.1 h Y)]
   clear ak Y hs ai am HU;have ae:=W.out;obtain⟨w2,av⟩:∃w2,w1.alloc (.cells #[.bool g,.string aa,.string tt,.int .i64 nn,.int .i64 mm] 111)=w2:=⟨_,rfl⟩;rw[av]at ae;have a0:w2.cell? ⟨b,0,none⟩=some (.map (some Bb)):=gt ae (by rw[dh HE.out.blk]; rfl);have aw:=BP Bb buf w2 (dM.below HE.out.say ae) (by have:=rK HE.out.inv; omega);have ax:ms (Below _ _ _):=ae;clear W ae;go_wp2_with fail;refine aw.mono ?_;rintro e w3 ⟨rfl,ab⟩;have B:ms (Below w.heap.size w w3):=ax.out.trans (ab.mono ax.out.size);clear aw ab av aj a0;by_cases af:100<=iY buf
   .have O:ms (kI buf ss name.data.toList=(4,buf)):=by show kI _ _ _=_; rw[an.out,if_pos af]
    have ag:(100:Int)<=(iY buf:Int):=by omega
    go_wp2;go_ret;refine⟨eS (by rw[O.out]; rfl),?_,dv.fC B.out⟩;rw[O.out];exact sX.below HP.out B.out
   .have O:ms (kI buf ss name.data.toList=(0,dJ buf [⟨name.data.toList,true,[],0,0⟩])):=by show kI _ _ _=_; rw[an.out,if_neg af]
    have ag:¬(100:Int)<=(iY buf:Int):=by omega
    clear an af au;go_wp2_with fail;clear ag;generalize w3=w2 at *
    have ac:w2.drew.cell? ⟨b,0,none⟩=some (.map (some Bb)):=by
     have:w2.cell? ⟨b,0,none⟩=some (.map (some Bb)):=gt B.out (by rw[dh HE.out.blk]; rfl);exact this
    have W:ms (Below w.heap.size w w2.drew):=⟨B.out.os,B.out.tape,B.out.output,B.out.size,B.out.block⟩;clear B;refine g6 (S:=λw'=>w'.cell? ⟨b,0,none⟩=some (.map (some Bb))) (by kernel_rfl) ?_;refine fR 0 ?_ ac ?_<|fR 1 ?_ ac ?_<|fR 2 ?_ ac ?_<|fR 3 ?_ ac ?_<|fR 4 ?_ ac ?_ ?_
    any_goals(rintro w' a8; go_simp; first|done|with_reducible rfl)
    refine l8 5 λK' ah=>?_;unfold m4;go_simp;refine(uk name w2.drew az).mono ?_;rintro e w3 ⟨rfl,ab⟩;have B:ms (Below w.heap.size w w3):=W.out.trans (ab.mono W.out.size);have a3:w3.cell? ⟨b,0,none⟩=some (.map (some Bb)):=gt ab ac;clear ab;refine ah _ _ ⟨a3,?_⟩;clear ah;refine l8 6 λK' ah=>?_;unfold m4;go_simp;have ao:=CG Bb buf name.data.toList w3 (dM.below HE.out.say B.out) (by have:=rK HE.out.inv; omega) ar;rw[<-bytes_eta name]at ao;refine ao.mono ?_;rintro e w5 ⟨rfl,q1,q2⟩;clear ao;have ay:Ac w3 F b buf ss Bb vS vM vK:=HE.out.stay (λk Y=>B.out.block k (HF.out k Y));have ap:∀k,F k->k<w3.heap.size:=λk Y=>hV (HF.out k Y) B.out.size
    have hi:Inv (dJ buf [⟨name.data.toList,true,[],0,0⟩]) ss:=by
     have:=HI.out;rw[O.out]at this;exact this
    have aq:=ay.buffer ap q2 q1 hi;have a4:ms (Ac _ _ _ _ _ _ _ _ _):=aq;have a5:ms (dv F w w5):=(dv.fC B.out).then (q2.mono (λk Y=>by subst Y; exact HE.out.fB));have a6:ms (∀k,F k->k<w5.heap.size):=λk Y=>hV (ap k Y) q2.size;refine ah _ _ ⟨by rw[dh aq.blk]; rfl,g9 (by kernel_rfl) ?_ _⟩;clear ah q1 q2 ay ap hi aq;go_wp2;go_ret;refine⟨eS (by rw[O.out]; rfl),?_,a5.out⟩;rw[O.out];exact⟨a6.out,Bb,vS,a4.out⟩
  .rw[decide_eq_false Y]at aj;have O:ms (kI buf ss name.data.toList=(5,buf)):=by show kI _ _ _=_; rw[HU.out,if_pos (ak.2 Y)]
   clear ak Y hs ai am HU;go_wp2;go_ret;refine⟨eS (by rw[O.out]; rfl),?_,dv.fC W.out⟩;rw[O.out];exact sX.below HP.out W.out
 .have al:iL name.data.toList=false:=by simpa using U
  rw[al]at ad;have HU:ms (kI buf ss name.data.toList=(1,buf)):=by show kI _ _ _=_; unfold kI; rw[if_neg U]
  clear U al;go_enter func37,ntmps37;go_wp2_with fail;refine ad.mono ?_;rintro e w' ⟨rfl,rfl⟩;go_wp2;go_ret;refine⟨eS (by rw[HU.out]; rfl),?_,dv.refl _ _⟩;rw[HU.out];exact HP.out
theorem BU(w:World)(F:Nat->Prop)(b:Nat)(buf:List dq)(ss:List (List dq))(O:sX vM vK w F b buf ss) :
  g5 prog 30 #[.pointer (some ⟨b,0,none⟩)] w λe w'=>e=.returned (.int .i64 ss.length)/\w=w':=by
 obtain⟨hF,Bb,vS,B⟩:=O;obtain⟨U,W,rfl,Y⟩:=dN B.row;have aa:w.cell? ⟨b,1,none⟩=some (.slice U ss.length W):=by rw[dh B.blk]; rfl
 go_wp2;go_ret;exact⟨rfl,rfl⟩
def qP(ss:List (List dq))(n:Int):Wd×Nat:=if n<0\/(ss.length:Int)<=n then([],6)else(dX (ss.getD n.toNat []),0)
theorem Tx(w:World)(F:Nat->Prop)(b:Nat)(buf:List dq)(ss:List (List dq))(n:Int)(hP:sX vM vK w F b buf ss) :
  g5 prog 26 #[.pointer (some ⟨b,0,none⟩),.int .i64 n] w λe w'=>e=.returned (.tuple #[.string ⟨(qP ss n).1.toArray⟩,.int .i64 (qP ss n).2])/\w=w':=by
 obtain⟨hF,Bb,vS,B⟩:=hP;obtain⟨W,cS,rfl,aa⟩:=dN B.row;have ab:w.cell? ⟨b,1,none⟩=some (.slice W ss.length cS):=by rw[dh B.blk]; rfl
 have h6:=B.inv.qk
 have HR:ms (∀j(Y:j<ss.length),∃bb off,W=some ⟨bb,off,none⟩/\w.cell? ⟨bb,off+j,none⟩=some (.string ⟨(dX ss[j]).toArray⟩)):=by
  intro j Y;obtain⟨a',c',he,_,_,hr⟩:=Rd.jl B.row;simp only[m5]at he;obtain⟨rfl,_,rfl⟩:=he;exact hr j _ (by simp[dp,Y])
 clear B;by_cases h0:n<0
 .have O:ms (qP ss n=([],6)):=by show qP _ _=_; unfold qP; rw[if_pos (Or.inl h0)]
  go_enter func26,ntmps26;go_wp2;go_ret2;rw[O.out];exact⟨rfl,rfl⟩
 .have ac:0<=n:=by omega
  by_cases h1:(ss.length:Int)<=n
  .have O:ms (qP ss n=([],6)):=by show qP _ _=_; unfold qP; rw[if_pos (Or.inr h1)]
   go_enter func26,ntmps26;go_wp2;go_ret2;rw[O.out];exact⟨rfl,rfl⟩
  .obtain⟨m,rfl⟩:∃m:Nat,n=(m:Int):=⟨n.toNat,by omega⟩;have hm:m<ss.length:=by omega
   have ad:(m:Int)<(ss.length:Int):=by omega
   have O:ms (qP ss m=(dX ss[m],0)):=by
    unfold qP;rw[if_neg (by omega),Int.toNat_natCast,dk,dd hm];rfl
   obtain⟨bb,off,rfl,U⟩:=HR.out m hm;go_wp2;go_ret2;rw[O.out];exact⟨rfl,rfl⟩
end
section
open Go.RowKit Go.Maps
variable {base:Nat} {v v' x:Value} {l:Wd} {w w':World}
theorem zE{P:Program}(w:World)(base:Nat)(t u ty e:g7)(i:TypeInfo)(ht:P.underlying t=some (.slice e))(hu:P.underlying u=some .string)(hi:P.info? e=some i)(hz:i.zero=some (.int .u8 0))
  (B:i.size=1) (ab:i.bytes=1) (v:Value) (n:Nat) (xs:List Value) (O:w.ownsRow base e 1 v n xs) (hn:0<n) (s:ByteArray) (hb:(n+s.size)*1<=140737488355328) (U:base<=w.heap.size) :
  ∃v' w',(no #[t,u] ty #[v,.string s]).run P w=.ok v' w'/\w'.ownsRow base e 1 v' (n+s.size) (xs++fH s.data.toList)/\w.grownBy w' v.ownBlock/\(v'.ownBlock=v.ownBlock\/v'.ownBlock=some w.heap.size):=by
 obtain⟨v',w',W,h2,h3,_⟩:=Lib.run_append_own_string (P:=P) w base t u ty e i ht hu hi hz B ab v n xs O s (by unfold gv; omega) (by omega) U;refine⟨v',w',W,h2,h3,?_⟩;rcases O.2 with⟨rfl,rfl⟩|⟨g,c,ac,rfl,ae,hg,af,ag,ah,ad⟩
 .omega
 .by_cases Y:n+s.size<=c
  .have aa:=Lib.run_append_room_string (P:=P) w t u ty e i ht hu hi B g n c ac hg s Y (by omega);rw[aa]at W;simp only[Result.ok.injEq]at W;exact Or.inl (by rw[<-W.1]; rfl)
  .have holds:=O.cells (g:=g) rfl;have aa:=Lib.run_append_grow_string (P:=P) w t u ty e i _ ht hu hi hz _ n c xs (by rw[B]; exact O.1) holds s (by omega) (by omega) (by rw[ab]; exact growslice_fits (by omega) hb);rw[aa]at W;simp only[Result.ok.injEq]at W;exact Or.inr (by rw[<-W.1]; rfl)
theorem uh{P:Program}(w:World){ops:Array Oper}{rest:List Oper}{o:Oper}{a:Act}{Q:Exit->Act->World->Prop}(W:o.guard=none)(sl x:Operand)(t u:g7)
  (ho:o.op=.call {callee:=.builtin .append,args:=#[sl,x],argTypes:=#[t,u]})
  (base:Nat) (e:g7) (i:TypeInfo) (ht:P.underlying t=some (.slice e)) (hu:P.underlying u=some .string) (hi:P.info? e=some i) (hz:i.zero=some (.int .u8 0))
  (B:i.size=1) (Y:i.bytes=1) (v:Value) (n:Nat) (xs:List Value) (hs:a.eval sl=v) (U:w.ownsRow base e 1 v n xs) (hn:0<n) (s:ByteArray) (hx:a.eval x=.string s) (hb:(n+s.size)*1<=140737488355328) (O:base<=w.heap.size)
  (h:∀v' w',w'.ownsRow base e 1 v' (n+s.size) (xs++fH s.data.toList)->w.grownBy w' v.ownBlock->(v'.ownBlock=v.ownBlock\/v'.ownBlock=some w.heap.size)->h8 P ops Q rest (a.put o.dst v') w'):h8 P ops Q (o::rest) a w:=by
 refine hJ W λ_ hK=>?_;obtain⟨v',w',hr,h2,h3,h4⟩:=zE (P:=P) w base t u o.type e i ht hu hi hz B Y v n xs U hn s hb O;unfold m4 hI;simp only[ho,h7,invoke,builtin,on,oj,oo,ek,ej,et,hs,hx,hr];exact hK _ _ (h v' w' h2 h3 h4)
def fq(w:World)(base:Nat)(v:Value)(l:Wd):Prop:=w.ownsRow base 5 1 v l.length (fH l)
def eG(w w':World)(v v':Value):Prop:=dv (λk=>v.ownBlock=some k) w w'/\∀k,v'.ownBlock=some k->v.ownBlock=some k\/w.heap.size<=k
theorem eG.trans{a b c:World}{u:Value}(h:eG a b u v)(k:eG b c v x):eG a c u x:=by
 refine⟨h.1.trans k.1 (λi hi O=>?_),λi hi=>?_⟩
 .rcases h.2 i O with B|B
  .exact B
  .omega
 .rcases k.2 i hi with B|B
  .exact h.2 i B
  .exact Or.inr (ie h.1.size B)
theorem eG.below(h:Below w.heap.size w w')(v:Value):eG w w' v v:=⟨dv.fC h,λ_ h=>Or.inl h⟩
theorem eG.of{o:Obj}(B:(w.alloc o).grownBy w' v.ownBlock)(U:v'.ownBlock=v.ownBlock\/v'.ownBlock=some (w.heap.size+1)):eG w w' v v':=by
 have W:=B.size;simp at W;refine⟨⟨B.os,B.tape,B.output,by omega,λk O Y=>?_⟩,λk O=>?_⟩
 .rw[B.block k (by simp; omega) (λe=>Y e.symm),m0 _ _ _ O]
 .rcases U with h|h
  .exact Or.inl (by rw[<-h]; exact O)
  .rw[h]at O;simp at O;exact Or.inr (by omega)
theorem eG.UH(B:w.grownBy w' v.ownBlock)(U:v'.ownBlock=v.ownBlock\/v'.ownBlock=some w.heap.size):eG w w' v v':=by
 refine⟨⟨B.os,B.tape,B.output,B.size,λk O W=>B.block k O (λe=>W e.symm)⟩,λk O=>?_⟩;rcases U with h|h
 .exact Or.inl (by rw[<-h]; exact O)
 .rw[h]at O;simp at O;exact Or.inr (by omega)
def Nv(base:Nat)(w:World)(v:Value)(l new:Wd)(e:Ending)(w':World):Prop:=∃v',e=.returned v'/\fq w' base v' (l++new)/\eG w w' v v'
theorem fq.below(h:fq w base v l)(hb:Below w.heap.size w w'):fq w' base v l:=eF h (λk B=>hb.block k (h.lt k B).2)
theorem ik(a b:Wd):fH (a++b)=fH a++fH b:=by simp[fH]
theorem jD(base:Nat)(v:Value)(l:Wd)(s:ByteArray)(w:World)(h:fq w base v l)(hl:l.length<=1099511627776)(hs:s.size<=1099511627776)(ae:base<=w.heap.size) :
  g5 prog 177 #[v,.string s] w (Nv base w v l (dL s.data.toList)):=by
 obtain⟨i0,hi,W,Y,aa⟩:=g8 FL;obtain⟨a,c,rfl,hc⟩:=dN h;have HO:ms (fq _ _ _ _):=h;clear h;go_enter func177,ntmps177
 go_wp2_with (first
  |(at_builtin; refine fy _ rfl _ _ 60 rfl base 5 i0 (.int .u8 0) 1 i8 hi W Y aa rfl _ _ _ rfl (HO.out.alloc _) _ [.int .u8 ((s.size:Int) % 256)] rfl (Rd.one iH) (by simp[ne]) ?c1 ?c2 ?c3 ?_))
 case c1=>simp; omega
 case c2=>unfold gv; simp; omega
 case c3=>simp; omega
 intro v1 w1 B ab ac
 have hO1:fq w1 base v1 (l++[u8 s.size]):=by
  unfold fq;rw[ik,mc,cc];exact B
 have ad:ms (eG w w1 (.slice a l.length c) v1):=eG.of ab ac
 have O:w1.ownsRow base 5 1 v1 (l.length+1) (fH (l++[u8 s.size])):=by
  unfold fq at hO1;rw[cc]at hO1;exact hO1
 obtain⟨a1,c1,rfl,al⟩:=dN O;have af:ms (w1.ownsRow base 5 1 (.slice a1 (l.length+1) c1) (l.length+1) (fH (l++[u8 s.size]))):=O;have ak:=ad.out.1.size;clear B ab ac hO1 O
 go_wp2_with (first
  |(at_builtin; refine uh _ rfl _ _ 60 9 rfl base 5 i0 i8 jt hi W Y aa _ _ _ rfl af.out ?d1 s rfl ?d2 ?d3 ?_))
 case d1=>omega
 case d2=>omega
 case d3=>omega
 intro v2 w2 U ag ah
 have ai:ms (fq w2 base v2 (l++dL s.data.toList)):=by
  show fq _ _ _ _;unfold fq dL;have e:l++u8 s.data.toList.length::s.data.toList=(l++[u8 s.size])++s.data.toList:=by simp
  rw[e,ik,cc];have e3:(l++[u8 s.size]).length=l.length+1:=by simp
  rw[e3];exact U
 have aj:ms _:=ad.out.trans (eG.UH ag ah);go_wp2;go_ret;exact⟨v2,rfl,ai.out,aj.out⟩
theorem Rd.three{y z:Value}{t:g7}:Rd (w.alloc (.cells #[x,y,z] t)) (.slice (some ⟨w.heap.size,0,none⟩) 3 3) [x,y,z]:=by
 refine⟨some _,3,rfl,hX _,by unfold gv; omega,λj u B=>⟨w.heap.size,0,rfl,?_⟩⟩
 match j,B with
 |0,B=>simpa using B
 |1,B=>simpa using B
 |2,B=>simpa using B
 |j+3,B=>simp at B
theorem pg(base:Nat)(v:Value)(l:Wd)(n:Int)(w:World)(h:fq w base v l)(hl:l.length<=1099511627776)(ae:0<=n)(hn:n<=1000000)(W:base<=w.heap.size) :
  g5 prog 178 #[v,.int .i64 n] w (Nv base w v l (ic n)):=by
 obtain⟨i0,hi,Y,aa,ab⟩:=g8 FL;obtain⟨a,c,rfl,hc⟩:=dN h;have HO:ms (fq _ _ _ _):=h;clear h;go_enter func178,ntmps178
 go_wp2_with (first
  |(at_builtin; refine fy _ rfl _ _ 60 rfl base 5 i0 (.int .u8 0) 1 i8 hi Y aa ab rfl _ _ _ rfl (HO.out.alloc _) _ [.int .u8 (n / 65536),.int .u8 (n / 256 % 256),.int .u8 (n % 256)] rfl Rd.three (by simp[ne]) ?c1 ?c2 ?c3 ?_))
 case c1=>simp; omega
 case c2=>unfold gv; simp; omega
 case c3=>simp; omega
 intro v1 w1 B O U
 have ac:ms (fq w1 base v1 (l++ic n)):=by
  show fq _ _ _ _;unfold fq;rw[ik,cc]
  have e:fH (ic n)=[.int .u8 (n / 65536),.int .u8 (n / 256 % 256),.int .u8 (n % 256)]:=by
   obtain⟨m,rfl⟩:∃m:Nat,n=(m:Int):=⟨n.toNat,by omega⟩;rw[uX m (by omega)];simp only[fH,ej,et];rw[sN _ (by omega),sN _ (by omega),sN _ (by omega)];simp
  rw[e];exact B
 have ad:ms (eG w w1 (.slice a l.length c) v1):=eG.of O U;clear B O U;go_wp2;go_ret;exact⟨v1,rfl,ac.out,ad.out⟩
theorem fq.form(h:fq w base v l):∃a c,v=.slice a l.length c:=by
 obtain⟨a,c,e,_⟩:=dN h;exact⟨a,c,e⟩
theorem xa(base:Nat)(v:Value)(l:Wd)(e:dq)(w:World)(h:fq w base v l)(hl:l.length<=549755813888)(aj:Jt e)(a7:base<=w.heap.size) :
  g5 prog 181 #[v,zx e] w (Nv base w v l (mY e)):=by
 obtain⟨i0,hi,a8,a9,a'⟩:=g8 FL;obtain⟨B,gn,tx,wt,tg⟩:=e;have h1:=(gI aj.2.1).2;have h2:=jc aj.2.2.1;obtain⟨_,_,_,_,h3,h4,h5,h6⟩:=aj;simp only at h1 h2 h3 h4 h5 h6;obtain⟨a,c,rfl⟩:=h.form;obtain⟨w0,ak⟩:∃w0,w.alloc (.cells #[.string ⟨B.toArray⟩,.string ⟨tx.toArray⟩,.int .i64 wt,.int .i64 tg] 96)=w0:=⟨_,rfl⟩;have ac:Below w.heap.size w w0:=by rw[<-ak]; exact(mv _ _).alloc (hX _) _
 have aV:=ac.size;have al:w0.heap[w.heap.size]?=some (.cells #[.string ⟨B.toArray⟩,.string ⟨tx.toArray⟩,.int .i64 wt,.int .i64 tg] 96 (0,0)):=by rw[<-ak]; exact h9 w _
 have O:∀W:World,W.heap[w.heap.size]?=some (.cells #[.string ⟨B.toArray⟩,.string ⟨tx.toArray⟩,.int .i64 wt,.int .i64 tg] 96 (0,0))->W.cell? ⟨w.heap.size,0,none⟩=some (.string ⟨B.toArray⟩)/\W.cell? ⟨w.heap.size,1,none⟩=some (.string ⟨tx.toArray⟩)/\W.cell? ⟨w.heap.size,2,none⟩=some (.int .i64 wt)/\W.cell? ⟨w.heap.size,3,none⟩=some (.int .i64 tg):=by
  intro W hW;exact⟨by rw[dh hW]; rfl,by rw[dh hW]; rfl,by rw[dh hW]; rfl,by rw[dh hW]; rfl⟩
 have HC:ms (∀W:World,W.heap[w.heap.size]?=some (.cells #[.string ⟨B.toArray⟩,.string ⟨tx.toArray⟩,.int .i64 wt,.int .i64 tg] 96 (0,0))->W.cell? ⟨w.heap.size,0,none⟩=some (.string ⟨B.toArray⟩)/\W.cell? ⟨w.heap.size,1,none⟩=some (.string ⟨tx.toArray⟩)/\W.cell? ⟨w.heap.size,2,none⟩=some (.int .i64 wt)/\W.cell? ⟨w.heap.size,3,none⟩=some (.int .i64 tg)):=O;obtain⟨d0,_,_,_⟩:=O w0 al;have am:=h.below ac;have aA:(⟨B.toArray⟩:ByteArray).size<=1099511627776:=by show B.toArray.size<=_; simp; omega
 have aB:(⟨tx.toArray⟩:ByteArray).size<=1099511627776:=by show tx.toArray.size<=_; simp; omega
 have aw:=jD base _ l ⟨B.toArray⟩ w0 am (by omega) aA (by omega);have aC:ms (eG w w0 (.slice a l.length c) (.slice a l.length c)):=eG.below ac _;have an:ms (w0.heap[w.heap.size]?=some (.cells #[.string ⟨B.toArray⟩,.string ⟨tx.toArray⟩,.int .i64 wt,.int .i64 tg] 96 (0,0))):=al;have ax:∀(W:World)(v:Value)(k:Wd),fq W base v k->W.heap[w.heap.size]?=some (.cells #[.string ⟨B.toArray⟩,.string ⟨tx.toArray⟩,.int .i64 wt,.int .i64 tg] 96 (0,0))->v.ownBlock≠some w.heap.size:=λW v k ho hh=>pE hh ho (by decide);have ao:ms (∀(W:World)(v:Value)(k:Wd),fq W base v k->W.heap[w.heap.size]?=some (.cells #[.string ⟨B.toArray⟩,.string ⟨tx.toArray⟩,.int .i64 wt,.int .i64 tg] 96 (0,0))->v.ownBlock≠some w.heap.size):=ax;have aD:ms (fq _ _ _ _):=am;clear h ac al O ax am;unfold zx;go_enter func181,ntmps181;go_wp2_with fail;refine aw.mono ?_;rintro e1 w1 ⟨v1,rfl,U,ad⟩;obtain⟨L1,ae⟩:∃L1,L1=l++dL B:=⟨_,rfl⟩;have aZ:L1.length<=l.length+30:=by rw[ae]; simp[dL]; omega
 have aE:ms (L1=l++dL B):=ae;change fq w1 base v1 (l++dL B)at U;rw[<-ae]at U;have ap:w1.heap[w.heap.size]?=some (.cells #[.string ⟨B.toArray⟩,.string ⟨tx.toArray⟩,.int .i64 wt,.int .i64 tg] 96 (0,0)):=by rw[ad.1.block _ (eQ an.out) (ao.out w0 _ _ aD.out an.out)]; exact an.out
 have aF:ms (eG w w1 (.slice a l.length c) v1):=aC.out.trans ad;obtain⟨a1,c1,rfl⟩:=U.form;have ay:ms (fq _ _ _ _):=U;have aq:ms (w1.heap[w.heap.size]?=some (.cells #[.string ⟨B.toArray⟩,.string ⟨tx.toArray⟩,.int .i64 wt,.int .i64 tg] 96 (0,0))):=ap;obtain⟨aG,aH,aI,aJ⟩:=HC.out w1 ap;have aW:=ad.1.size;clear aw U ad ap ae;clear ak d0;have az:=jD base _ L1 ⟨tx.toArray⟩ w1 ay.out (by omega) aB (by omega);go_wp2_with fail;refine az.mono ?_;rintro e2 w2 ⟨v2,rfl,Y,af⟩;obtain⟨L2,ag⟩:∃L2,L2=L1++dL tx:=⟨_,rfl⟩;have ba:L2.length<=L1.length+30:=by rw[ag]; simp[dL]; omega
 have aK:ms (L2=L1++dL tx):=ag;change fq w2 base v2 (L1++dL tx)at Y;rw[<-ag]at Y;have ar:w2.heap[w.heap.size]?=some (.cells #[.string ⟨B.toArray⟩,.string ⟨tx.toArray⟩,.int .i64 wt,.int .i64 tg] 96 (0,0)):=by rw[af.1.block _ (eQ aq.out) (ao.out w1 _ _ ay.out aq.out)]; exact aq.out
 have aL:ms (eG w w2 (.slice a l.length c) v2):=aF.out.trans af;obtain⟨a2,c2,rfl⟩:=Y.form;have a0:ms (fq _ _ _ _):=Y;have au:ms (w2.heap[w.heap.size]?=some (.cells #[.string ⟨B.toArray⟩,.string ⟨tx.toArray⟩,.int .i64 wt,.int .i64 tg] 96 (0,0))):=ar;obtain⟨aM,aN,aO,aP⟩:=HC.out w2 ar;have aX:=af.1.size;clear az Y af ar ag;have a4:=pg base _ L2 wt w2 a0.out (by omega) h3 h4 (by omega);clear aG aH aI aJ;go_wp2_with fail;refine a4.mono ?_;rintro e3 w3 ⟨v3,rfl,aa,ah⟩;obtain⟨L3,ai⟩:∃L3,L3=L2++ic wt:=⟨_,rfl⟩;have bc:L3.length<=L2.length+30:=by rw[ai]; simp[ic]
 have aQ:ms (L3=L2++ic wt):=ai;change fq w3 base v3 (L2++ic wt)at aa;rw[<-ai]at aa;have av:w3.heap[w.heap.size]?=some (.cells #[.string ⟨B.toArray⟩,.string ⟨tx.toArray⟩,.int .i64 wt,.int .i64 tg] 96 (0,0)):=by rw[ah.1.block _ (eQ au.out) (ao.out w2 _ _ a0.out au.out)]; exact au.out
 have aR:ms (eG w w3 (.slice a l.length c) v3):=aL.out.trans ah;obtain⟨a3,c3,rfl⟩:=aa.form;have aS:ms (fq _ _ _ _):=aa;have bd:ms (w3.heap[w.heap.size]?=some (.cells #[.string ⟨B.toArray⟩,.string ⟨tx.toArray⟩,.int .i64 wt,.int .i64 tg] 96 (0,0))):=av;obtain⟨be,bf,bg,bh⟩:=HC.out w3 av;have aY:=ah.1.size;clear a4 aa ah av ai;clear aM aN aO aP
 go_wp2_with (first
  |(at_builtin; refine fy _ rfl _ _ 60 rfl base 5 i0 (.int .u8 0) 1 i8 hi a8 a9 a' rfl _ _ _ rfl (aS.out.alloc _) _ [.int .u8 tg] rfl (Rd.one iH) (by simp[ne]) ?c1 ?c2 ?c3 ?_))
 case c1=>simp; omega
 case c2=>unfold gv; simp; omega
 case c3=>simp; omega
 intro v4 w4 ab a5 a6
 have aT:ms (fq w4 base v4 (l++mY ⟨B,gn,tx,wt,tg⟩)):=by
  show fq _ _ _ _;have e:l++mY ⟨B,gn,tx,wt,tg⟩=L3++[u8 tg]:=by rw[aQ.out,aK.out,aE.out]; simp[mY]
  rw[e];unfold fq;rw[ik,mc,cc,show tg % 256=tg by omega];exact ab
 have aU:ms (eG w w4 (.slice a l.length c) v4):=aR.out.trans (eG.of a5 a6);clear ab a5 a6;go_wp2;go_ret;exact⟨v4,rfl,aT.out,aU.out⟩
end
section
open Go.RowKit Go.Maps
variable {L:List dq} {b n o:Nat} {v:Value} {a:Wd} {w w':World}
structure pH(w:World)(b o:Nat)(e:dq):Prop where
 path:w.cell? ⟨b,o,none⟩=some (.string ⟨(dF e).toArray⟩)
 name:w.cell? ⟨b,o+1,none⟩=some (.string ⟨e.name.toArray⟩)
 text:w.cell? ⟨b,o+2,none⟩=some (.string ⟨e.text.toArray⟩)
 du:w.cell? ⟨b,o+3,none⟩=some (.int .i64 e.du)
 dD:w.cell? ⟨b,o+4,none⟩=some (.int .i64 e.dD)
 blk:∃cs fz,w.heap[b]?=some (.cells cs 237 fz)
def om(w:World)(v:Value)(L:List dq):Prop:=∃a cap,v=.slice a L.length cap/\L.length<=cap/\cap<=gv/\∀i(h:i<L.length),∃b off,a=some ⟨b,off,none⟩/\pH w b (off+i*5) L[i]
theorem pH.stay{e:dq}(h:pH w b o e)(hb:w'.heap[b]?=w.heap[b]?):pH w' b o e:=by
 have B:∀(o:Nat)(u:Value),w.cell? ⟨b,o,none⟩=some u->w'.cell? ⟨b,o,none⟩=some u:=λo u O=>by
  simp only[m']at O⊢;rw[hb];exact O
 exact⟨B _ _ h.path,B _ _ h.name,B _ _ h.text,B _ _ h.du,B _ _ h.dD,by rw[hb]; exact h.blk⟩
theorem pH.lt{e:dq}(h:pH w b o e):b<w.heap.size:=by
 obtain⟨cs,fz,B⟩:=h.blk;exact(m1.1 B).1
theorem om.below(h:om w v L)(hb:Below w.heap.size w w'):om w' v L:=by
 obtain⟨a,cap,O,U,W,Y⟩:=h;refine⟨a,cap,O,U,W,λi hi=>?_⟩;obtain⟨b,off,e1,B⟩:=Y i hi;exact⟨b,off,e1,B.stay (hb.block b B.lt)⟩
theorem om.wrote{u O:Value}{base:Nat}{l:Wd}(h:om w v L)(U:fq w base u l)(W:eG w w' u O):om w' v L:=by
 obtain⟨a,cap,Y,h2,h3,h4⟩:=h;refine⟨a,cap,Y,h2,h3,λi hi=>?_⟩;obtain⟨b,off,e1,B⟩:=h4 i hi;refine⟨b,off,e1,B.stay (W.1.block b B.lt (λe=>?_))⟩;obtain⟨cs,fz,hh⟩:=B.blk;exact pE hh U (by decide) e
theorem CC(v:Value)(L:List dq)(w:World)(h:om w v L) :
  g5 prog 179 #[v] w λe w'=>e=.returned (.int .i64 (gL L))/\Below w.heap.size w w':=by
 obtain⟨a,cap,rfl,Y,hm,U⟩:=h;have W:ms (∀i(h:i<L.length),∃b off,a=some ⟨b,off,none⟩/\pH w b (off+i*5) L[i]):=U;unfold gv at hm;clear U;go_enter func179,ntmps179;go_wp2;go_loopw [3,8] (λg i wr=>∃k:Nat,k<=L.length/\i=.int .i64 k/\g=.int .i64 (gL (L.take k))/\Below w.heap.size w wr) (λ_ i _=>L.length-(intOf i).toNat)
 case atStart=>exact⟨0,hY _,rfl,rfl,mv _ _⟩
 case round=>
  obtain⟨k,hk,rfl,rfl,hb⟩:=hrel;have HB:ms (Below _ _ _):=hb;have hz:=hb.size;clear hb;by_cases B:k<L.length
  .obtain⟨b,off,rfl,O⟩:=W.out k B;have q0:=gt HB.out O.path;have q1:=gt HB.out O.name;have q2:=gt HB.out O.text;have q3:=gt HB.out O.du;have q4:=gt HB.out O.dD
   have HE:ms (gL (L.take (k+1))=max (gL (L.take k)) L[k].du):=by
    show _=_;rw[de B,nS,kH,show gL []=0 from rfl];have:=nF (L.take k);omega
   go_wp2;go_roundw
   case rel=>exact⟨k+1,by omega,by go_num,by rw[HE.out],HB.out.alloc hz _⟩
   case measure=>simp[intOf]; omega
  .have HE:ms (L.take k=L):=er (by omega);go_wp2;go_ret;exact⟨eS (by rw[HE.out]),HB.out⟩
theorem P6(L:List dq)(d:Nat):iK L d<=L.length:=by
 exact(List.takeWhile_sublist _).length_le
theorem FA{d k:Nat}(B:k<=L.length)(O:∀j(h:j<k),(dF (L[j]'(by omega))).length=d)(U:∀h:k<L.length,(dF L[k]).length≠d):iK L d=k:=by
 exact Ai _ _ k B (λj W=>by simpa using O j W) (λh=>by simpa using U h)
theorem wH(v:Value)(L:List dq)(d:Nat)(w:World)(h:om w v L) :
  g5 prog 180 #[v,.int .i64 d] w λe w'=>e=.returned (.int .i64 (iK L d))/\Below w.heap.size w w':=by
 obtain⟨a,cap,rfl,hc,hm,hr⟩:=h;have HR:ms (∀i(h:i<L.length),∃b off,a=some ⟨b,off,none⟩/\pH w b (off+i*5) L[i]):=hr;unfold gv at hm;clear hr;go_enter func180,ntmps180;go_wp2;go_loopw [5] (λi wr=>∃k:Nat,k<=L.length/\i=.int .i64 k/\(∀j(h:j<k)(h':j<L.length),(dF L[j]).length=d)/\Below w.heap.size w wr) (λi _=>L.length-(intOf i).toNat)
 case atStart=>exact⟨0,hY _,rfl,λj h=>by omega,mv _ _⟩
 case round=>
  obtain⟨k,hk,rfl,fv,hb⟩:=hrel;have U:ms (Below _ _ _):=hb;have W:ms (∀j(h:j<k)(h':j<L.length),(dF L[j]).length=d):=fv;clear hb fv;by_cases O:k<L.length
  .obtain⟨b,off,rfl,hL⟩:=HR.out k O;have q0:=gt U.out hL.path;have aa:(k:Int)<(L.length:Int):=by omega
   clear hL;by_cases B:(dF L[k]).length=d
   .have HD:ms ((dF L[k]).length=d):=B;have Y:(((dF L[k]).length:Int)==(d:Int))=true:=beq_iff_eq.2 (by omega);clear B;go_wp2;go_roundw
    case rel=>exact⟨k+1,by omega,by go_num,λj h h'=>by
     by_cases e:j=k
     .subst e; exact HD.out
     .exact W.out j (by omega) h',U.out⟩
    case measure=>simp[intOf]; omega
   .have HE:ms (iK L d=k):=FA hk (λj h=>W.out j h (by omega)) (λ_=>B);have Y:(((dF L[k]).length:Int)==d)=false:=beq_eq_false_iff_ne.2 (by omega);go_wp2;go_ret;exact⟨eS (by rw[HE.out]),U.out⟩
  .have HE:ms _:=FA hk (λj h=>W.out j h _) (λh=>absurd h O);go_wp2;go_ret;exact⟨eS (by rw[HE.out]),U.out⟩
theorem x9{B:Type}{L:List B}(h:L≠[]):0<L.length:=List.length_pos_iff.2 h
theorem ym{b:Wd}(h1:n<=a.length)(U:a.take n=b.take n)(W:n=a.length\/n=b.length\/a.getD n 0≠b.getD n 0):(sI a b).length=n:=by
 have Y:=rE a b _ (gd ..) (by rw[U]; exact gd ..);have hl:=Y.length_le;rw[cp]at hl;have O:=rp a b;have hb:=p8 a b;rcases Nat.lt_or_ge n _ with B|aa
 .have e1:=DY O n B;have e2:=DY hb n B;have:=O.length_le;have:=hb.length_le;rcases W with h|h|h
  .omega
  .omega
  .exact absurd (e1.trans e2.symm) h
 .omega
theorem KI{b:Wd}(O:n<a.length)(U:n<b.length)(W:a.take n=b.take n)(B:a.getD n 0=b.getD n 0):a.take (n+1)=b.take (n+1):=by
 rw[de O,de U,W];rw[dk,dd O,dk,dd U]at B;simp only[Option.getD_some]at B;rw[B]
theorem Og(h:L≠[]):iq L=sI (dF (L[0]'(x9 h))) (dF (L[L.length-1]'(by have:=x9 h; omega))):=by
 cases L with
 |nil=>exact absurd rfl h
 |cons e C=>
  unfold iq;simp only[ev];rw[List.getLast_eq_getElem]
theorem IB(v:Value)(L:List dq)(w:World)(h:om w v L)(Y:L≠[])(U:∀e∈L,(dF e).length<=24) :
  g5 prog 183 #[v] w λe w'=>e=.returned (.int .i64 (iq L).length)/\Below w.heap.size w w':=by
 obtain⟨a,cap,rfl,hc,hm,hr⟩:=h;unfold gv at hm;have O:=x9 Y;obtain⟨b,off,rfl,h0⟩:=hr 0 O;obtain⟨b',ak,e',h1⟩:=hr (L.length-1) (by omega);simp only[m6,o0,and_true]at e';obtain⟨rfl,rfl⟩:=e';have HC:ms (iq L=sI (dF (L[0]'O)) (dF (L[L.length-1]'(by omega)))):=Og Y;have hA:(dF (L[0]'O)).length<=24:=U _ (ch _);have hB:(dF (L[L.length-1]'(by omega))).length<=24:=U _ (ch _);have c0:=h0.path;have c1:=h1.path;rw[i6,iv]at c0;obtain⟨m,ac⟩:∃m,L.length=m+1:=⟨L.length-1,by omega⟩;have W:L.length-1=m:=by omega
 rw[show off+(L.length-1)*5=off+m*5 by rw[W]]at c1;clear h0 h1 hr U;generalize ad:dF (L[0]'O)=A at *;generalize ae:dF (L[L.length-1]'(by omega))=B at *;clear ad ae Y W O;rw[ac]at hc⊢;have am:IntKind.i64.wrap (((m+1:Nat):Int)-1)=(m:Int):=by simp only[nc]; omega
 have al:IntKind.i64.wrap ((m:Int)+1-1)=(m:Int):=by simp only[nc]; omega
 have i0:(0:Int)<(m:Int)+1:=by omega
 have i1:(m:Int)<(m:Int)+1:=by omega
 have i2:(0:Int)<=(m:Int):=by omega
 have an:(⟨A.toArray⟩:ByteArray).size=A.length:=by show A.toArray.size=_; simp
 have ao:(⟨B.toArray⟩:ByteArray).size=B.length:=by show B.toArray.size=_; simp
 have af:ms (∀(n:Nat)(h:n<(⟨A.toArray⟩:ByteArray).size),(⟨A.toArray⟩:ByteArray)[n]=A.getD n 0):=λn h=>(lq ⟨A.toArray⟩ n h).symm;have ag:ms (∀(n:Nat)(h:n<(⟨B.toArray⟩:ByteArray).size),(⟨B.toArray⟩:ByteArray)[n]=B.getD n 0):=λn h=>(lq ⟨B.toArray⟩ n h).symm;generalize (⟨A.toArray⟩:ByteArray)=bA at *;generalize (⟨B.toArray⟩:ByteArray)=bB at *;go_enter func183,ntmps183;go_wp2_with fail;go_quiet (fail);go_wp2;go_loopw [5] (λi wr=>∃n:Nat,n<=A.length/\n<=B.length/\i=.int .i64 n/\A.take n=B.take n/\Below w.heap.size w wr) (λi _=>A.length-(intOf i).toNat)
 case atStart=>exact⟨0,hY _,hY _,rfl,by simp,gV (mv _ _) _⟩
 case round=>
  obtain⟨n,aa,ap,rfl,ab,hb⟩:=hrel;have HB:ms (Below _ _ _):=hb;have HE:ms (A.take n=B.take n):=ab;clear hb ab;by_cases h1:n<A.length
  .have ah:(n:Int)<(A.length:Int):=by omega
   by_cases h2:n<B.length
   .have ai:(n:Int)<(B.length:Int):=by omega
    have gA:=af.out n (by omega);have gB:=ag.out n (by omega);by_cases h3:A.getD n 0=B.getD n 0
    .have HT:ms (A.take (n+1)=B.take (n+1)):=KI h1 h2 HE.out h3;have aj:(((bA[n]'(by omega)).toNat:Int)==((bB[n]'(by omega)).toNat:Int))=true:=beq_iff_eq.2 (by rw[gA,gB,h3]);clear h3 gA gB;go_wp2_with fail;go_quiet (fail);go_wp2;go_roundw
     case rel=>exact⟨n+1,by omega,by omega,by go_num,HT.out,gV HB.out _⟩
     case measure=>simp[intOf]; omega
    .have HT:ms ((iq L).length=n):=by show _=_; rw[HC.out]; exact ym aa HE.out (Or.inr (Or.inr h3))
     have aj:(((bA[n]'(by omega)).toNat:Int)==((bB[n]'(by omega)).toNat:Int))=false:=beq_eq_false_iff_ne.2 (by
      rw[gA,gB];intro hh
      exact h3 (UInt8.toNat_inj.1 (by omega)))
     clear h3 gA gB;go_wp2_with fail;go_quiet (fail);go_wp2;go_ret;exact⟨eS (by rw[HT.out]),gV HB.out _⟩
   .have HT:ms ((iq L).length=n):=by show _=_; rw[HC.out]; exact ym aa HE.out (Or.inr (Or.inl (by omega)))
    have ai:decide ((n:Int)<(B.length:Int))=false:=decide_eq_false (by omega);go_wp2_with fail;go_quiet (fail);go_wp2;go_ret;exact⟨eS (by rw[HT.out]),gV HB.out _⟩
  .have HT:ms ((iq L).length=n):=by show _=_; rw[HC.out]; exact ym aa HE.out (Or.inl (by omega))
   have ah:decide ((n:Int)<(A.length:Int))=false:=decide_eq_false (by omega);go_wp2_with fail;go_quiet (fail);go_wp2;go_ret;exact⟨eS (by rw[HT.out]),gV HB.out _⟩
end
section
open Go.RowKit Go.Maps
variable {Cs:List (List dq)} {L:List dq} {v:Value} {w w':World}
theorem KO(d:Nat)(e:dq)(l:List dq):∃g gs,runs d (e::l)=(e::g)::gs:=by
 unfold runs;split
 .exact⟨[],[],rfl⟩
 .exact⟨[],_,rfl⟩
 .split
  .exact⟨_,_,rfl⟩
  .exact⟨[],_,rfl⟩
theorem O'(d:Nat):∀(X:List dq)(j:Nat),j<X.length->(∀i,i<j->∀(W:i+1<X.length),eW d (X[i]'(by omega))=eW d X[i+1])->(∀h:j+1<X.length,eW d (X[j]'(by omega))≠eW d X[j+1])->
  runs d X=X.take (j+1)::runs d (X.drop (j+1)):=by
 intro X
 induction X with
 |nil=>intro j h; simp at h
 |cons e l ih=>
  intro j hj Y hn
  cases j with
  |zero=>
   cases l with
   |nil=>simp[runs]
   |cons x l'=>
    obtain⟨g,gs,hg⟩:=KO d x l';have B:=hn (by simp);simp only[ev,ff]at B;simp only[ex,List.take_zero,fs,List.drop_zero];rw[runs,hg];simp only;rw[if_neg B]
  |succ j=>
   have O:=by simpa using hj
   have h1:=ih j O (λi h W=>by have:=Y (i+1) (by omega) (by simpa using W); simpa using this) (λh=>by have:=hn (by simpa using h); simpa using this)
   cases l with
   |nil=>simp at O
   |cons x l'=>
    have U:=Y 0 (by omega) (by simp);simp only[ev,ff]at U;rw[ex,fs,runs,h1,ex];simp only;rw[if_pos U]
theorem zo{d:Nat}{st k:Nat}(O:st<=k)(hk:k<L.length)(U:∀i,st<=i->i<k->∀(B:i+1<L.length),eW d (L[i]'(by omega))=eW d L[i+1])(W:∀h:k+1<L.length,eW d (L[k]'(by omega))≠eW d L[k+1]) :
  runs d (L.drop st)=(L.drop st).take (k+1-st)::runs d (L.drop (k+1)):=by
 have h:=O' d (L.drop st) (k-st) (by simp; omega) (λi hi B=>by
  have:=U (st+i) (by omega) (by omega) (by omega)
  simpa[Nat.add_assoc]using this) (λB=>by
  rw[di]at B;have:=W (by omega);have e:st+(k-st)=k:=by omega
  have Y:st+(k-st+1)=k+1:=by omega
  simpa[e,Y]using this)
 rw[h,List.drop_drop,show st+(k-st+1)=k+1 by omega,show k-st+1=k+1-st by omega]
theorem om.sub{b off n cap:Nat}(h:om w (.slice (some ⟨b,off,none⟩) n cap) L)(s t:Nat)(U:s<=t)(ht:t<=L.length):om w (.slice (some ⟨b,off+s*5,none⟩) (t-s) (cap-s)) ((L.drop s).take (t-s)):=by
 obtain⟨a,c,e,h1,h2,W⟩:=h;obtain⟨rfl,_,rfl⟩:=e;have B:((L.drop s).take (t-s)).length=t-s:=by simp; omega
 refine⟨some _,cap-s,by rw[B],by omega,by omega,λi hi=>?_⟩;rw[B]at hi;obtain⟨b',O,Y,hL⟩:=W ..;obtain⟨rfl,rfl⟩:=Y;refine⟨b,off+s*5,rfl,?_⟩;have e2:((L.drop s).take _)[i]'(by rw[B]; exact hi)=L[s+i]'(by omega):=by simp
 rw[e2,show off+s*5+i*5=off+(s+i)*5 by omega];exact hL
def kV(w:World)(v:Value)(Cs:List (List dq)):Prop:=∃vs:List Value,w.ownsRow 0 190 1 v Cs.length vs/\Zip (om w) vs Cs
theorem kV.below(h:kV w v Cs)(hb:Below w.heap.size w w'):kV w' v Cs:=by
 obtain⟨vs,B,O⟩:=h;exact⟨vs,eF B (λk U=>hb.block k (B.lt k U).2),O.mono (λu l W=>W.below hb)⟩
theorem kV.wrote{u Y:Value}{base:Nat}{l:Wd}(h:kV w v Cs)(O:fq w base u l)(U:eG w w' u Y):kV w' v Cs:=by
 obtain⟨vs,B,h2⟩:=h;exact⟨vs,eF B (λk W=>U.1.block k (B.lt k W).2 (λe=>tJ B O (by decide) k W e)),h2.mono (λu l hu=>hu.wrote O U)⟩
theorem RR:(prog.info? 190).map (λi=>(i.zero,i.size,i.bytes))=some (some (.slice none 0 0),1,24):=by kernel_rfl
theorem KT(v:Value)(L:List dq)(d:Nat)(w:World)(h:om w v L)(hk:∀e∈L,d<(dF e).length)(av:∀e∈L,(dF e).length<=24)(hl:L.length<=1048576) :
  g5 prog 182 #[v,.int .i64 d] w λe w'=>∃v',e=.returned v'/\kV w' v' (runs d L)/\Below w.heap.size w w':=by
 obtain⟨i0,hi,aw,ax,ay⟩:=g8 RR;obtain⟨a,cap,rfl,hc,hm,hr⟩:=id h;have HL:ms (om _ _ _):=h;have HR:ms (∀i(h:i<L.length),∃b off,a=some ⟨b,off,none⟩/\pH w b (off+i*5) L[i]):=hr;have HK:ms (∀e∈L,d<(dF e).length):=hk;have az:ms (∀e∈L,(dF e).length<=24):=av;unfold gv at hm;clear hr h hk av;go_enter func182,ntmps182;go_wp2;go_loopw [5,6,11] (λv s i wr=>∃(k st:Nat)(U:List (List dq))(vs:List Value),k<=L.length/\st<=k/\i=.int .i64 k/\s=.int .i64 st/\U.length<=k/\wr.ownsRow w.heap.size 190 1 v U.length vs/\Zip (om w) vs U/\runs d L=U++runs d (L.drop st)/\(∀i(h:st<=i)(h2:i<k)(h':i+1<L.length),eW d (L[i]'(by omega))=eW d L[i+1])/\(k=L.length->st=k)/\Below w.heap.size w wr) (λ_ _ i _=>L.length-(intOf i).toNat)
 case atStart=>exact⟨0,0,[],[],hY _,hX _,rfl,rfl,hX _,m7 _ _ _ _,Zip.nil _,by simp,λi h h2=>by omega,λ_=>rfl,mv _ _⟩
 case round=>
  obtain⟨k,st,U,vs,aK,a0,rfl,rfl,aL,Y,ak,aa,ab,ac,hb⟩:=hrel;have HB:ms (Below _ _ _):=hb;have HO:ms (wr.ownsRow w.heap.size 190 1 _ U.length vs):=Y;have HZ:ms (Zip _ _ _):=ak;have ag:ms (runs d L=U++runs d (L.drop st)):=aa;have HS:ms (∀i(h:st<=i)(h2:i<k)(h':i+1<L.length),eW d (L[i]'(by omega))=eW d L[i+1]):=ab;obtain⟨aP,cP,rfl,aM⟩:=dN Y;have hz:=hb.size;clear hb Y ak aa ab;by_cases ad:k<L.length
  .obtain⟨b,off,rfl,hL⟩:=HR.out k ad;have q0:=gt HB.out hL.path;have aB:(k:Int)<(L.length:Int):=by omega
   have a3:ms (om w (.slice (some ⟨b,off+st*5,none⟩) (k+1-st) (cap-st)) ((L.drop st).take (k+1-st))):=HL.out.sub st (k+1) (by omega) (by omega);have aN:=HK.out _ (ch ad);clear hL ac;by_cases ae:k+1=L.length
   .have a6:(((k:Int)+1)==(L.length:Int))=true:=beq_iff_eq.2 (by omega);have HC:ms (runs d (L.drop st)=(L.drop st).take (k+1-st)::runs d (L.drop (k+1))):=zo a0 ad (λi h h2 h'=>HS.out i h h2 h') (λh=>by omega);have a4:st<cap:=by omega
    have ah:(k:Int)+1<=(cap:Int):=by omega
    clear ae;go_wp2_with fail;go_quiet (fail);have af:ms ((wr.drewN nq).ownsRow w.heap.size 190 1 (.slice aP U.length cP) U.length vs):=HO.out;have am:ms (Below w.heap.size w (wr.drewN nq)):=gV HB.out nq;have an:w.heap.size<=(wr.drewN nq).heap.size:=hz;clear HO;generalize wr.drewN nq=wd at *
    go_wp2_with (first
     |(at_builtin; refine fp _ rfl _ _ 239 rfl w.heap.size 190 i0 (.slice none 0 0) 24 kv hi aw ax ay rfl _ _ _ rfl (af.out.alloc _) ⟨wd.heap.size,0,none⟩ _ rfl iH rfl ?c1 ?c2 ?c3 ?_))
    case c1=>omega
    case c2=>unfold gv; omega
    case c3=>first|omega|(simp; omega)
    intro v' w1 B O _
    have ao:ms (w1.ownsRow w.heap.size 190 1 v' (U++[(L.drop st).take (k+1-st)]).length (vs++[.slice (some ⟨b,off+st*5,none⟩) (k+1-st) (cap-st)])):=by
     show w1.ownsRow _ _ _ _ _ _;rw[cc];exact B
    have ap:ms (Below w.heap.size w w1):=(am.out.alloc an _).grown O (by simp; omega) (λb hb=>(af.out.lt b hb).1);have aq:ms (Zip (om w) (vs++[.slice (some ⟨b,off+st*5,none⟩) (k+1-st) (cap-st)]) (U++[(L.drop st).take (k+1-st)])):=HZ.out.append (Zip.one a3.out);clear B O;go_wp2;go_roundw
    case rel=>
     refine⟨k+1,k+1,_,_,by omega,hX _,by go_num,by go_num,by simp; omega,ao.out,aq.out,?_,λi h h2=>by omega,λ_=>rfl,ap.out⟩;rw[ag.out,HC.out];simp
    case measure=>simp[intOf]; omega
   .have a6:(((k:Int)+1)==(L.length:Int))=false:=beq_eq_false_iff_ne.2 (by omega);have ah:k+1<L.length:=by omega
    have aC:(k:Int)+1<(L.length:Int):=by omega
    obtain⟨b',aD,e',a5⟩:=HR.out (k+1) ah;simp only[m6,o0,and_true]at e';obtain⟨rfl,rfl⟩:=e';have q1:=gt HB.out a5.path;have aE:=HK.out _ (ch ah);have aF:=az.out _ (ch ad);have aG:=az.out _ (ch ah);have a7:(⟨(dF L[k]).toArray⟩:ByteArray).size=(dF L[k]).length:=by show(dF L[k]).toArray.size=_; simp
    have a8:(⟨(dF L[k+1]).toArray⟩:ByteArray).size=(dF L[k+1]).length:=by show(dF L[k+1]).toArray.size=_; simp
    have gA:∀h:d<(⟨(dF L[k]).toArray⟩:ByteArray).size,(⟨(dF L[k]).toArray⟩:ByteArray)[d]=eW d L[k]:=λh=>(lq ⟨(dF L[k]).toArray⟩ d h).symm;have gB:∀h:d<(⟨(dF L[k+1]).toArray⟩:ByteArray).size,(⟨(dF L[k+1]).toArray⟩:ByteArray)[d]=eW d L[k+1]:=λh=>(lq ⟨(dF L[k+1]).toArray⟩ d h).symm;generalize (⟨(dF L[k]).toArray⟩:ByteArray)=bA at *;generalize (⟨(dF L[k+1]).toArray⟩:ByteArray)=bB at *;have ar:d<bA.size:=by omega
    have au:d<bB.size:=by omega
    have aH:(d:Int)<(bA.size:Int):=by omega
    have aI:(d:Int)<(bB.size:Int):=by omega
    have ai:=gA ar;have aj:=gB au;have aO:IntKind.i64.wrap ((k:Int)+1)=((k+1:Nat):Int):=by simp only[nc]; omega
    have aJ:((k+1:Nat):Int)<(L.length:Int):=by omega
    have a4:st<cap:=by omega
    have aQ:(k:Int)+1<=(cap:Int):=by omega
    clear a5 a7 a8 ae gA gB;by_cases W:eW d L[k]=eW d L[k+1]
    .have a9:(((bA[d]'ar).toNat:Int) != ((bB[d]'au).toNat:Int))=false:=by rw[ai,aj,W]; simp
     have a':ms (eW d L[k]=eW d L[k+1]):=W;clear W ai aj;go_wp2_with fail;go_quiet (fail);go_wp2;go_roundw
     case rel=>
      refine⟨k+1,st,U,vs,by omega,by omega,by go_num,rfl,by omega,HO.out,HZ.out,ag.out,λi h h2 h'=>?_,λh=>by omega,gV HB.out _⟩;by_cases e:i=k
      .subst e; exact a'.out
      .exact HS.out i h (by omega) h'
     case measure=>simp[intOf]; omega
    .have a9:(((bA[d]'ar).toNat:Int) != ((bB[d]'au).toNat:Int))=true:=by
      rw[ai,aj,bne_iff_ne];intro hh;exact W (UInt8.toNat_inj.1 (by omega))
     have HC:ms (runs d (L.drop st)=(L.drop st).take (k+1-st)::runs d (L.drop (k+1))):=zo a0 ad (λi h h2 h'=>HS.out i h h2 h') (λ_=>W);clear W ai aj;go_wp2_with fail;go_quiet (fail);have af:ms ((wr.drewN nq).ownsRow w.heap.size 190 1 (.slice aP U.length cP) U.length vs):=HO.out;have am:ms (Below w.heap.size w (wr.drewN nq)):=gV HB.out nq;have an:w.heap.size<=(wr.drewN nq).heap.size:=hz;clear HO;generalize wr.drewN nq=wd at *
     go_wp2_with (first
      |(at_builtin; refine fp _ rfl _ _ 239 rfl w.heap.size 190 i0 (.slice none 0 0) 24 kv hi aw ax ay rfl _ _ _ rfl (af.out.alloc _) ⟨wd.heap.size,0,none⟩ _ rfl iH rfl ?c1 ?c2 ?c3 ?_))
     case c1=>omega
     case c2=>unfold gv; omega
     case c3=>first|omega|(simp; omega)
     intro v' w1 B O _
     have ao:ms (w1.ownsRow w.heap.size 190 1 v' (U++[(L.drop st).take (k+1-st)]).length (vs++[.slice (some ⟨b,off+st*5,none⟩) (k+1-st) (cap-st)])):=by
      show w1.ownsRow _ _ _ _ _ _;rw[cc];exact B
     have ap:ms (Below w.heap.size w w1):=(am.out.alloc an _).grown O (by simp; omega) (λb hb=>(af.out.lt b hb).1);have aq:ms (Zip (om w) (vs++[.slice (some ⟨b,off+st*5,none⟩) (k+1-st) (cap-st)]) (U++[(L.drop st).take (k+1-st)])):=HZ.out.append (Zip.one a3.out);clear B O;go_wp2;go_roundw
     case rel=>
      refine⟨k+1,k+1,_,_,by omega,hX _,by go_num,by go_num,by simp; omega,ao.out,aq.out,?_,λi h h2=>by omega,λ_=>rfl,ap.out⟩;rw[ag.out,HC.out];simp
     case measure=>simp[intOf]; omega
  .have al:k=L.length:=by omega
   have aA:=ac al
   have HE:ms (runs d L=U):=by
    show _=_;rw[ag.out,aA,al,List.drop_length];simp[runs]
   clear ac;go_wp2;go_ret;refine⟨_,rfl,?_,HB.out⟩;rw[HE.out];exact⟨vs,jE HO.out (hY _),HZ.out.mono (λu l hu=>hu.below HB.out)⟩
end
section
open Go.RowKit Go.Maps
variable {L:List dq} {n:Nat} {a:Option Addr} {p:Wd} {w:World}
def U2(f:Nat):Prop:=∀(base:Nat)(v:Value)(l:Wd)(label:ByteArray)(p:Wd)(B:Value)(L:List dq)(w:World),fq w base v l->om w B L->base<=w.heap.size->(∀e∈L,Jt e/\p <+: dF e)->gC L->L.length<=255->p.length<=24->25<=f+p.length->
  l.length+(dL label.data.toList++gT f p.length L).length<=549755813888->label.size<=1099511627776->
  g5 prog 132 #[v,.string label,.int .i64 p.length,B] w (Nv base w v l (dL label.data.toList++gT f p.length L))
theorem om.tail{cap:Nat}(h:om w (.slice a n cap) L)(k:Nat)(U:k<=L.length):om w (.slice (a.map λx=>x.add (k*5)) (L.length-k) (cap-k)) (L.drop k):=by
 obtain⟨W,Y,e,h1,h2,B⟩:=h;simp only[m5]at e;refine⟨_,cap-k,by rw[di],by rw[di]; omega,by omega,λi hi=>?_⟩;obtain⟨b,off,e,O⟩:=B ..;refine⟨b,off+k*5,by simp only[Option.map_some,Addr.add]; split<;>simp_all,?_⟩;rw[List.getElem_drop,show off+k*5+i*5=off+(k+i)*5 by omega];exact O
theorem om.T4{c k:Nat}(h:om w (.slice a n c) L)(B:c=k)(U:k<=L.length):om w (.slice a (L.length-k) 0) (L.drop k):=by
 obtain⟨W,Y,e,h1,h2,h3⟩:=h;simp only[m5]at e;have O:L.drop k=[]:=fk (by omega);rw[O];exact⟨a,0,by simp; omega,hX _,hY _,nofun⟩
theorem UE{hn:Nat}{C:List dq}(hL:gC L)(hp:∀e∈L,p <+: dF e)(hS:∀e∈L.drop hn,dF e≠p)(hC:C∈runs p.length (L.drop hn)) :
  C≠[]/\gC C/\(∀e∈C,e∈L/\iq C <+: dF e)/\p <+: iq C/\p.length<(iq C).length/\C.length<=L.length:=by
 obtain⟨hs,r1,r2,r3,r4,r5,r6⟩:=za p _ (o1 (List.drop_sublist hn L) hL) (λe W=>⟨hp e (eg W),hS e W⟩);rw[r1]at hC;obtain⟨x,Y,rfl⟩:=dr.1 hC;have B:=(r3 x Y).1;have aa:=ND _ B (r5 x Y)
 have O:p++[x.1] <+: iq x.2:=by
  rw[<-aa];refine(pU B).2 _ (λs hs=>?_);obtain⟨e,W,rfl⟩:=dr.1 hs;exact(r3 x Y).2 e W
 have U:x.2.Sublist (L.drop hn):=by
  rw[<-r4];exact List.sublist_flatten_of_mem (dr.2 ⟨x,Y,rfl⟩)
 refine⟨B,r5 x Y,λe W=>⟨eg (U.subset W),?_⟩,(List.prefix_append ..).trans O,?_,?_⟩
 .rw[<-aa];exact(pU B).1 _ (dr.2 ⟨e,W,rfl⟩)
 .have:=O.length_le;simp at this;omega
 .have h1:=U.length_le;rw[di]at h1;omega
theorem MW{s:Wd}(h:p <+: s)(B:s≠p):p.length<s.length:=by
 have O:=h.length_le;by_cases e:p.length=s.length
 .exact absurd (h.eq_of_length e).symm B
 .omega
theorem Pf(d:Nat):∀L:List dq,(runs d L).length<=L.length:=by
 intro L
 induction L with
 |nil=>simp[runs]
 |cons e l B=>
  unfold runs;split
  .simp
  .next h=>rw[h]at B; simp at B⊢; omega
  .next h=>
   rw[h]at B;split
   .simp at B⊢; omega
   .simp at B⊢; omega
theorem DO(f d:Nat)(L:List dq):gT (f+1) d L=ic (gL L)++(u8 (iK L d)::((L.take (iK L d)).flatMap mY++(u8 (runs d (L.drop (iK L d))).length::(runs d (L.drop (iK L d))).flatMap λC=>dL ((iq C).drop d)++gT f (iq C).length C))):=rfl
theorem RE:∀f,U2 f:=by
 intro f
 induction f with
 |zero=>intro base v l label p vL L w _ _ _ _ _ _ cd ce; omega
 |succ f ih=>
  intro base v l label p vL L w hO hL aU aV b1 cy cd ce aK b2;obtain⟨i0,hi,b3,b4,b5⟩:=g8 FL;obtain⟨a,c,rfl⟩:=hO.form;obtain⟨aL,cL,rfl,cJ,hmL,cf⟩:=id hL;have cg:ms (U2 f):=ih;have ae:ms (∀e∈L,Jt e/\p <+: dF e):=aV;have b6:ms (gC L):=b1;have b8:ms (om _ _ _):=hL;have b9:ms (fq _ _ _ _):=hO;obtain⟨N,hN⟩:∃N,N=l++(dL label.data.toList++gT (f+1) p.length L):=⟨_,rfl⟩;have HN:ms (N=l++(dL label.data.toList++gT (f+1) p.length L)):=hN;have cK:N.length<=549755813888:=by rw[hN,cc]; exact aK
  have ci:0<=gL L:=nF L;have cj:gL L<=1000000:=J3 (λe he=>(aV e he).1.2.2.2.2.2.1);have aW:=P6 L p.length;have b':=jD base _ l label w hO (by have:=congrArg go hN; simp at this; omega) b2 aU;unfold gv at hmL;clear ih aV b1 hL hO aK hN cf;go_enter func132,ntmps132;go_wp2_with fail;refine b'.mono ?_;rintro e1 w1 ⟨v1,rfl,ax,ay⟩;obtain⟨L1,aX⟩:∃L1,L1=l++dL label.data.toList:=⟨_,rfl⟩;have bA:ms (L1=l++dL label.data.toList):=aX;rw[<-aX]at ax;have ah:ms (om w1 (.slice aL L.length cL) L):=b8.out.wrote b9.out ay;have bB:ms (eG _ _ _ _):=ay;obtain⟨a1,c1,rfl⟩:=ax.form;have bD:ms (fq _ _ _ _):=ax;have cz:=ay.1.size;have hG:=CC _ L w1 ah.out;clear b' ax ay aX b8 b9;go_wp2_with fail;refine hG.mono ?_;rintro e2 w2 ⟨rfl,ai⟩;have aY:ms (fq w2 base (.slice a1 L1.length c1) L1):=bD.out.below ai;have aM:ms (om w2 (.slice aL L.length cL) L):=ah.out.below ai;have bE:ms (eG w w2 (.slice a l.length c) (.slice a1 L1.length c1)):=bB.out.trans (eG.below ai _);have c':=ai.size;have cM:L1.length<=N.length:=by rw[HN.out,bA.out]; simp
  have bF:=pg base _ L1 (gL L) w2 aY.out (by omega) ci cj (by omega);clear hG ai bD ah bB;go_wp2_with fail;refine bF.mono ?_;rintro e3 w3 ⟨v3,rfl,az,a0⟩;obtain⟨L3,aZ⟩:∃L3,L3=L1++ic (gL L):=⟨_,rfl⟩;have ck:ms (L3=L1++ic (gL L)):=aZ;rw[<-aZ]at az;have aj:ms (om w3 (.slice aL L.length cL) L):=aM.out.wrote aY.out a0;have bG:ms (eG w w3 (.slice a l.length c) v3):=bE.out.trans a0;obtain⟨a3,c3,rfl⟩:=az.form;have bH:ms (fq _ _ _ _):=az;have cA:=a0.1.size;have hC:=wH _ L p.length w3 aj.out;clear bF az a0 aZ aY aM bE;go_wp2_with fail;refine hC.mono ?_;rintro e4 w4 ⟨rfl,ak⟩;have ba:ms (fq w4 base (.slice a3 L3.length c3) L3):=bH.out.below ak;have aN:ms (om w4 (.slice aL L.length cL) L):=aj.out.below ak;have bI:ms (eG w w4 (.slice a l.length c) (.slice a3 L3.length c3)):=bG.out.trans (eG.below ak _);have cB:=ak.size;obtain⟨W,a4⟩:∃W,iK L p.length=W:=⟨_,rfl⟩;have HH:ms (iK L p.length=W):=a4;rw[a4]at aW⊢;obtain⟨Cs,bc⟩:∃Cs,Cs=runs p.length (L.drop W):=⟨_,rfl⟩;have bd:ms (Cs=runs p.length (L.drop W)):=bc
  have bJ:ms (N=L3++[u8 W]++((L.take W).flatMap mY++(u8 Cs.length::Cs.flatMap λC=>dL ((iq C).drop p.length)++gT f (iq C).length C))):=by
   show _=_;rw[HN.out,ck.out,bA.out,DO,bc,a4];simp
  clear bc;have cN:L3.length+1<=N.length:=by rw[bJ.out]; simp
  clear hC ak bH aj bG a4
  go_wp2_with (first
   |(at_builtin; refine fy _ rfl _ _ 60 rfl base 5 i0 (.int .u8 0) 1 i8 hi b3 b4 b5 rfl _ _ _ rfl (ba.out.alloc _) _ [.int .u8 (W:Int)] rfl (Rd.one iH) (by simp[ne]) ?c1 ?c2 ?c3 ?_))
  case c1=>simp; omega
  case c2=>unfold gv; simp; omega
  case c3=>simp; omega
  intro v5 w5 al be bf;obtain⟨L5,a'⟩:∃L5,L5=L3++[u8 W]:=⟨_,rfl⟩;have cO:ms (L5=L3++[u8 W]):=a'
  have bg:ms (N=L5++((L.take W).flatMap mY++(u8 Cs.length::Cs.flatMap λC=>dL ((iq C).drop p.length)++gT f (iq C).length C))):=by
   show _=_;rw[bJ.out,<-a']
  have HO5:ms (fq w5 base v5 L5):=by
   show fq _ _ _ _;unfold fq;rw[a',ik,mc,cc,show(W:Int) % 256=W by omega];exact al
  have HW5:ms (eG w w5 (.slice a l.length c) v5):=bI.out.trans (eG.of be bf);have HLv5:ms (om w5 (.slice aL L.length cL) L):=aN.out.wrote ba.out (eG.of be bf);obtain⟨a5,c5,rfl⟩:=HO5.out.form;have cD:=HW5.out.1.size;clear al be bf a' ba aN bI;go_wp2_with fail;go_loopw [0,35] (λu i wr=>∃k:Nat,k<=W/\i=.int .i64 k/\fq wr base u (L5++(L.take k).flatMap mY)/\eG w wr (.slice a l.length c) u/\om wr (.slice aL L.length cL) L) (λ_ i _=>W-(intOf i).toNat)
  case atStart=>exact⟨0,hY _,rfl,by simpa using HO5.out,HW5.out,HLv5.out⟩
  case round=>
   obtain⟨k,hk,rfl,aA,bh,aO⟩:=hrel;obtain⟨L6,bi⟩:∃L6,L6=L5++(L.take k).flatMap mY:=⟨_,rfl⟩;have aB:ms (L6=L5++(L.take k).flatMap mY):=bi;rw[<-bi]at aA;obtain⟨a6,c6,rfl⟩:=aA.form;have bj:ms (fq _ _ _ _):=aA;have bk:ms (eG _ _ _ _):=bh;have ab:ms (om _ _ _):=aO;have cE:=bh.1.size;clear aA bh aO bi HO5 HW5 HLv5;by_cases aD:k<W
   .obtain⟨_,_,e',_,_,hr⟩:=ab.out;simp only[m5,true_and]at e';obtain⟨rfl,rfl⟩:=e';obtain⟨b,off,rfl,Y⟩:=hr k (by omega);have q0:=Y.path;have q1:=Y.name;have q2:=Y.text;have q3:=Y.du;have q4:=Y.dD;clear Y hr;obtain⟨wa,bl⟩:∃wa,wr.alloc (.cells #[.string ⟨(dF L[k]).toArray⟩,.string ⟨L[k].name.toArray⟩,.string ⟨L[k].text.toArray⟩,.int .i64 L[k].du,.int .i64 L[k].dD] 237)=wa:=⟨_,rfl⟩;have am:Below wr.heap.size wr wa:=by rw[<-bl]; exact(mv _ _).alloc (hX _) _
    have cl:ms (wr.alloc (.cells #[.string ⟨(dF L[k]).toArray⟩,.string ⟨L[k].name.toArray⟩,.string ⟨L[k].text.toArray⟩,.int .i64 L[k].du,.int .i64 L[k].dD] 237)=wa):=bl;have bK:ms (fq wa base (.slice a6 L6.length c6) L6):=bj.out.below am;have cm:ms (eG w wa (.slice a l.length c) (.slice a6 L6.length c6)):=bk.out.trans (eG.below am _);have bL:ms (om wa (.slice (some ⟨b,off,none⟩) L.length cL) L):=ab.out.below am;have cP:=am.size;have HT:ms (L.take (k+1)=L.take k++[L[k]]):=de (by omega)
    have cn:L6.length<=N.length:=by
     have e:L.take W=L.take k++(L.take W).drop k:=by
      conv=>lhs; rw[<-fm k (L.take W)]
      rw[List.take_take,hZ hk]
     rw[bg.out,aB.out,e];simp
    have hA:=xa base _ L6 L[k] wa bK.out (by omega) (ae.out _ (ch _)).1 (by omega);unfold zx at hA;clear am bl;go_wp2_with fail;rw[cl.out];refine hA.mono ?_;rintro e7 w7 ⟨v7,rfl,bM,bm⟩;have an:ms (fq _ _ _ _):=bM;have aE:ms (eG w w7 (.slice a l.length c) v7):=cm.out.trans bm;have bN:ms (om w7 (.slice (some ⟨b,off,none⟩) L.length cL) L):=bL.out.wrote bK.out bm;clear hA bM bm q0 q1 q2 q3 q4;go_wp2;go_roundw
    case rel=>
     refine⟨k+1,by omega,by go_num,?_,aE.out,bN.out⟩;have e:L5++(L.take (k+1)).flatMap mY=L6++mY L[k]:=by rw[HT.out,aB.out,ei,dm]; simp only[ef,eq,dt]
     rw[e];exact an.out
    case measure=>simp[intOf]; omega
   .have cq:k=W:=by omega
    subst cq
    have HS:ms (∀e∈L.drop k,dF e≠p):=by
     have:=(zQ b6.out (λe he=>(ae.out e he).2)).2;rw[HH.out]at this;exact this
    have ao:ms (∀e∈L,(dF e).length<=24):=λe he=>(tX (ae.out e he).1).1;have bO:ms (∀(aT:Option Addr)(cT:Nat),om wr (.slice aT (L.length-k) cT) (L.drop k)->g5 prog 182 #[.slice aT (L.length-k) cT,.int .i64 p.length] wr λe w'=>∃v',e=.returned v'/\kV w' v' (runs p.length (L.drop k))/\Below wr.heap.size wr w'):=λaT cT h=>KT _ (L.drop k) p.length wr h (λe he=>MW (ae.out e (eg he)).2 (HS.out e he)) (λe he=>ao.out e (eg he)) (by rw[di]; omega);go_wp2_with fail
    all_goals(
     refine(bO.out _ _ (by first|exact ab.out.tail k aW|exact ab.out.T4 (by omega) aW)).mono ?_;rintro e7 w7 ⟨v7,rfl,aF,aG⟩;rw[<-bd.out]at aF;obtain⟨vs,ap,ac⟩:=id aF;obtain⟨a7,c7,rfl,cQ⟩:=dN ap;have bP:ms (kV _ _ _):=aF;have an:ms (fq w7 base (.slice a6 L6.length c6) L6):=bj.out.below aG;have aE:ms (eG w w7 (.slice a l.length c) (.slice a6 L6.length c6)):=bk.out.trans (eG.below aG _);have cF:=aG.size
     have cR:Cs.length<=255:=by
      rw[bd.out];have:=Pf p.length (L.drop k);rw[di]at this;omega
     have cn:L6.length+1<=N.length:=by
      rw[bg.out,aB.out];simp;omega
     clear bO aF ap ac aG bj bk ab
     go_wp2_with (first
      |(at_builtin; refine fy _ rfl _ _ 60 rfl base 5 i0 (.int .u8 0) 1 i8 hi b3 b4 b5 rfl _ _ _ rfl (an.out.alloc _) _ [.int .u8 (Cs.length:Int)] rfl (Rd.one iH) (by simp[ne]) ?c1 ?c2 ?c3 ?_))
     case c1=>simp; omega
     case c2=>unfold gv; simp; omega
     case c3=>simp; omega
     intro v8 w8 aq bn bo;obtain⟨L8,aH⟩:∃L8,L8=L6++[u8 Cs.length]:=⟨_,rfl⟩;have cS:ms (L8=L6++[u8 Cs.length]):=aH
     have bQ:ms (N=L8++Cs.flatMap λC=>dL ((iq C).drop p.length)++gT f (iq C).length C):=by
      show _=_;rw[bg.out,aH,aB.out];simp
     have HO8:ms (fq w8 base v8 L8):=by
      show fq _ _ _ _;unfold fq;rw[aH,ik,mc,cc,show(Cs.length:Int) % 256=Cs.length by omega];exact aq
     have HW8:ms (eG w w8 (.slice a l.length c) v8):=aE.out.trans (eG.of bn bo);have HP8:ms (kV w8 (.slice a7 Cs.length c7) Cs):=bP.out.wrote an.out (eG.of bn bo);obtain⟨a8,c8,rfl⟩:=HO8.out.form;have cG:=HW8.out.1.size;clear aq bn bo aH an bP aE;go_wp2_with fail;go_loopw [0,57] (λu i wx=>∃k:Nat,k<=Cs.length/\i=.int .i64 k/\fq wx base u (L8++(Cs.take k).flatMap λC=>dL ((iq C).drop p.length)++gT f (iq C).length C)/\eG w wx (.slice a l.length c) u/\kV wx (.slice a7 Cs.length c7) Cs) (λ_ i _=>Cs.length-(intOf i).toNat)
     case atStart=>exact⟨0,hY _,rfl,by simpa using HO8.out,HW8.out,HP8.out⟩
     case round=>
      obtain⟨j,hj,rfl,aI,bp,bR⟩:=hrel;obtain⟨L9,bq⟩:∃L9,L9=L8++(Cs.take j).flatMap λC=>dL ((iq C).drop p.length)++gT f (iq C).length C:=⟨_,rfl⟩;have br:ms (L9=L8++(Cs.take j).flatMap λC=>dL ((iq C).drop p.length)++gT f (iq C).length C):=bq;rw[<-bq]at aI;obtain⟨a9,c9,rfl⟩:=aI.form;have bs:ms (fq _ _ _ _):=aI;have bt:ms (eG _ _ _ _):=bp;have bu:ms (kV _ _ _):=bR;have cH:=bp.1.size;clear aI bp bR bq HO8 HW8 HP8;by_cases aD:j<Cs.length
      .obtain⟨vs,ap,ac⟩:=id bu.out;have bv:j<vs.length:=by rw[ac.1]; exact aD
       obtain⟨b7,o7,rfl,ar⟩:=iZ ap j vs[j] (dd bv)
       have bw:ms (om wr vs[j] Cs[j]):=by
        obtain⟨u,bS,cr⟩:=ac.2 j aD;rw[dd bv]at bS;cases bS;exact cr
       have HT:ms (Cs.take (j+1)=Cs.take j++[Cs[j]]):=de aD;obtain⟨bx,aP,O,aQ,cI,cU⟩:=UE (C:=Cs[j]) b6.out (λe he=>(ae.out e he).2) HS.out (by rw[<-bd.out]; exact ch _)
       have cV:L9.length+(dL ((iq Cs[j]).drop p.length)++gT f (iq Cs[j]).length Cs[j]).length<=N.length:=by
        have e:Cs=Cs.take (j+1)++Cs.drop (j+1):=(fm _ _).symm;rw[HT.out]at e;rw[bQ.out,br.out];conv=>rhs; rw[e]
        simp only[ei,ef,eq,cc,dt];omega
       obtain⟨aC,cC,eC,cW,cX,bT⟩:=id bw.out;have au:ms (om wr (.slice aC Cs[j].length cC) Cs[j]):=by have h:=bw.out; rw[eC]at h; exact h
       rw[eC]at ar;have B:=x9 bx;obtain⟨bC,oC,rfl,Y⟩:=bT 0 B;have q0:=Y.path;rw[i6,iv]at q0;clear Y bT bw ac ap eC bv;have aJ:(iq Cs[j]).length<=24:=ie (O _ (ch B)).2.length_le (tX (ae.out _ (O _ (ch B)).1).1).1;have af:ms (∀e∈Cs[j],e∈L/\iq Cs[j] <+: dF e):=O;have cY:(iq Cs[j]).length<=(dF Cs[j][0]).length:=(O _ (ch B)).2.length_le;have ct:(dF Cs[j][0]).length<=24:=ao.out _ (O _ (ch B)).1;have cu:ms (gC _):=aP;have cZ:ms (p <+: iq Cs[j]):=aQ;have bU:=IB _ Cs[j] wr au.out bx (λe he=>ao.out e (O e he).1);have da:(⟨(dF Cs[j][0]).toArray⟩:ByteArray).size=(dF Cs[j][0]).length:=by show(dF Cs[j][0]).toArray.size=_; simp
       clear O aP aQ bx;go_wp2_with fail;refine bU.mono ?_;rintro db av ⟨rfl,U⟩;have cv:=gt U q0;have aR:ms (fq av base (.slice a9 L9.length c9) L9):=bs.out.below U;have bz:ms (om av (.slice (some ⟨bC,oC,none⟩) Cs[j].length cC) Cs[j]):=au.out.below U;have bV:ms (kV av (.slice (some ⟨b7,o7,none⟩) Cs.length c7) Cs):=bu.out.below U;have bW:ms (eG w av (.slice a l.length c) (.slice a9 L9.length c9)):=bt.out.trans (eG.below U _);have cw:=U.size;clear bU U bs au bu bt q0 ar;obtain⟨ad,ag⟩:∃ad,(⟨(dF Cs[j][0]).toArray⟩:ByteArray).extract p.length (iq Cs[j]).length=ad:=⟨_,rfl⟩
       have aa:ad.data.toList=(iq Cs[j]).drop p.length:=by
        have h:=(af.out _ (ch B)).2;rw[<-ag,show(iq Cs[j]).length=p.length+((iq Cs[j]).length-p.length) by omega,JQ];show(((dF Cs[j][0]).drop p.length).take _)=_;rw[<-List.drop_take,<-List.prefix_iff_eq_take.1 h]
       have bX:ms ((⟨(dF Cs[j][0]).toArray⟩:ByteArray).extract p.length (iq Cs[j]).length=ad):=ag
       have b0:ad.size<=1099511627776:=by
        have:ad.size=ad.data.toList.length:=by simp
        rw[this,aa];simp;omega
       have hR:=cg.out base _ L9 ad (iq Cs[j]) _ Cs[j] av aR.out bz.out (by omega) (λe he=>⟨(ae.out e (af.out e he).1).1,(af.out e he).2⟩) cu.out (by omega) aJ (by omega) (by rw[aa]; omega) b0;rw[aa]at hR;clear ag aa;go_wp2_with fail;rw[bX.out];refine hR.mono ?_;rintro dc bY ⟨v11,rfl,aS,aw⟩;have bZ:ms (fq _ _ _ _):=aS;have ca:ms (eG w bY (.slice a l.length c) v11):=bW.out.trans aw;have cb:ms (kV bY (.slice (some ⟨b7,o7,none⟩) Cs.length c7) Cs):=bV.out.wrote aR.out aw;clear hR aS aw cv;go_wp2;go_roundw
       case rel=>
        refine⟨j+1,by omega,by go_num,?_,ca.out,cb.out⟩
        have e:(L8++(Cs.take (j+1)).flatMap λC=>dL ((iq C).drop p.length)++gT f (iq C).length C)=L9++(dL ((iq Cs[j]).drop p.length)++gT f (iq Cs[j]).length Cs[j]):=by
         rw[HT.out,br.out,ei,dm];simp only[ef,eq,dt]
        rw[e];exact bZ.out
       case measure=>simp[intOf]; omega
      .have HE:ms (L9=l++(dL label.data.toList++gT (f+1) p.length L)):=by
        show _=_;rw[<-HN.out,bQ.out,br.out,er (by omega)]
       go_wp2;go_ret;refine⟨_,rfl,?_,bt.out⟩;rw[<-HE.out]
       exact bs.out)
end
section
open Go.RowKit Go.Maps
def eL(es:List dq):List Wd:=(es.filter λe=>e.gone).map dq.name
theorem IU(l:List dq)(e:dq):eL (l++[e])=eL l++(if e.gone then [e.name]else []):=by
 unfold eL;cases h:e.gone<;>simp[h]
theorem NF(l:List dq):(eL l).length<=l.length:=by unfold eL; rw[dj]; exact List.length_filter_le ..
theorem pM{l m:List dq}(h:l.Perm m):(eL l).Perm (eL m):=(h.filter _).map _
theorem CK{B es:List dq}(O:(es.map dq.name).Nodup)(h:B.Perm es):(eL B).mergeSort (λx y=>decide (x<=y))=eL (fo es):=by
 have Y:((eL B).mergeSort (λx y=>decide (x<=y))).Perm _:=(List.mergeSort_perm ..).trans (pM (h.trans (fS es).symm));refine o4 (le:=λa b=>a<=b) (λa b _ _ U W=>List.le_antisymm U W) ?_ ?_ Y
 .have:=List.pairwise_mergeSort (le:=λx y=>decide (x<=y)) (by
   intro a b c U W;simp only[decide_eq_true_eq]at *
   exact List.le_trans U W) (by
   intro a b;simp only[Bool.or_eq_true,decide_eq_true_eq]
   exact List.le_total a b) (eL B)
  exact this.imp (λh=>by simpa using h)
 .unfold eL;rw[gc];refine o2 ?_ (o1 ez (mG es O));intro a b hab;unfold Dg at hab;rw[bytesLess_eq,decide_eq_true_eq]at hab;exact List.le_of_lt hab
theorem Lh(base:Nat)(a:Option Addr)(c:Nat)(G:List Wd)(w:World)(U:w.ownsRow base 9 1 (.slice a G.length c) G.length (dp G))(hl:G.length<=1099511627776) :
  g5 prog 162 #[.slice a G.length c] w λe w'=>e=.returned (.tuple #[])/\w'.ownsRow base 9 1 (.slice a G.length c) G.length (dp (G.mergeSort λx y=>decide (x<=y)))/\Below base w w':=by
 rcases U.2 with⟨Y,hn⟩|⟨g,cap,aa,Y,W,hb,h1,h2,h3,h4⟩
 .have hG:=fd.1 (by simpa using hn);subst hG;have B:=Any.slices_Sort_string_none xj a c w;refine B.mono ?_;rintro e w' ⟨rfl,rfl⟩;exact⟨rfl,by simpa using U,mv ..⟩
 .obtain⟨rfl,_,rfl⟩:=Y;have B:=Any.slices_Sort_string xj g 0 c G w (holds_of_block hb (by simpa[dp]using h4)) (m1.1 hb).1 (by omega);refine B.mono ?_;rintro e w' ⟨rfl,n,os,rfl⟩;refine⟨rfl,?_,?_⟩
  .exact ownsRow_sorted (by simp) W hb h1 h2 h3
  .have O:=grownBy_sorted (w:=w) (g:=g) (n:=n) (os:=os) (G.mergeSort λx y=>decide (x<=y)).toArray;exact⟨O.os,O.tape,O.output,O.size,λk hk=>O.block k (hV hk (by have:=(m1.1 hb).1; omega)) (by intro e; cases e; omega)⟩
theorem vy{w:World}{v:Value}{t:g7}{g:Nat}(B:g=w.heap.size):(w.alloc (.cells #[v] t)).cell? ⟨g,0,none⟩=some v:=by subst B; exact iH
theorem LG:∀S:List Wd,(∀x∈S,x.length<=255)->(S.flatMap dL).length<=S.length*256:=by
 intro S
 induction S with
 |nil=>simp
 |cons x S B=>
  intro h;have U:=B (λy O=>h y (List.mem_cons_of_mem _ O));have W:=h x (f' ..);rw[ef,cc,ge];have:(dL x).length=x.length+1:=by simp[dL]
  omega
theorem eG.low{w0 w w':World}{v v':Value}{base:Nat}{l:Wd}(h:eG w w' v v')(hb:Below w0.heap.size w0 w)(B:fq w base v l)(U:w0.heap.size<=base):Below w0.heap.size w0 w':=by
 refine hb.trans ⟨h.1.os,h.1.tape,h.1.output,h.1.size,λk O=>h.1.block k (hV O hb.size) (λe=>?_)⟩;have:=(B.lt k e).1;omega
def rX(es:List dq):Wd:=u8 (eL (fo es)).length::(eL (fo es)).flatMap dL
theorem xP(B:Nat)(es:List dq)(w:World)(hs:ey w B es)(hl:es.length<1099511627776)(hg:iY es<=255)(a5:∀e∈es,e.gone=true->e.name.length<=255) :
  g5 prog 131 #[.slice none 0 0,.map (some B)] w λen w'=>∃v,en=.returned v/\fq w' w.heap.size v (rX es)/\Below w.heap.size w w':=by
 obtain⟨i0,hi,aM,aN,aO⟩:=g8 FL;obtain⟨i9,aP,aQ,aR,aS⟩:=g8 vY;have a6:=hs.nodup;have HS:ms (ey _ _ _):=hs;have aT:ms ((es.map dq.name).Nodup):=a6;have aU:ms (∀e∈es,e.gone=true->e.name.length<=255):=a5;have bi:=dM.lt hs;clear hs a6 a5;go_enter func131,ntmps131;go_wp2_with (first|(at_range; refine jX _ rfl _ rfl rfl HS.out ?_; intro w1 hrg0 hg0 bj));go_frame;go_loopw [5] (λg wr=>∃(O ab:List dq),(O++ab).Perm es/\lJ wr B w.heap.size es ab/\wr.ownsRow (w.heap.size+1) 9 1 g (eL O).length (dp (eL O))/\Below w.heap.size w wr/\w.heap.size+1<=wr.heap.size) (λ_ wr=>wr.rangeLeft B w.heap.size)
 case atStart=>exact⟨[],es,o3 _,hrg0,m7 _ _ _ _,(mv _ _).grown hg0 (hX _) (λk hk=>by cases hk),by omega⟩
 case round=>
  obtain⟨O,ab,eE,hr,ad,hb,hz⟩:=hrel;have HP:ms ((O++ab).Perm es):=eE;have HR:ms (lJ _ _ _ _ _):=hr;obtain⟨ag,cg,rfl,aV⟩:=dN ad;have HO:ms (wr.ownsRow (w.heap.size+1) 9 1 (.slice ag (eL O).length cg) (eL O).length (dp (eL O))):=ad;have HB:ms (Below _ _ _):=hb
  have aW:(eL O).length<=es.length:=by
   have h1:=NF O;have h2:=eE.length_eq;rw[cc]at h2;omega
  clear eE hr hb ad;go_wp2_with (first|(at_next; refine lh _ rfl _ rfl w.heap.size ab rfl HR.out ?_ ?_))
  .intro h0
   have hE:O.Perm es:=by
    have:=HP.out;rw[h0,dt]at this;exact this
   obtain⟨S,hS⟩:∃S,S=eL (fo es):=⟨_,rfl⟩;have ap:=Lh (w.heap.size+1) ag cg (eL O) wr HO.out (by omega);rw[CK aT.out hE,<-hS]at ap;have aq:ms (S.length=(eL O).length):=by show _=_; rw[hS]; exact(pM (hE.trans (fS es).symm)).length_eq.symm
   have bk:S.length<=255:=by
    rw[hS];have h1:=(pM (fS es)).length_eq;have h2:(eL es).length=iY es:=by simp[eL,iY]
    omega
   have a7:ms (∀x∈S,x.length<=255):=by
    intro x hx;rw[hS]at hx;have hx2:=(pM (fS es)).mem_iff.1 hx;unfold eL at hx2;obtain⟨e,he,rfl⟩:=dr.1 hx2;rw[gl]at he;exact aU.out e he.1 (by simpa using he.2)
   have aX:ms (S=eL (fo es)):=hS;clear h0 hE hS;go_wp2_with fail;refine ap.mono ?_;rintro e2 w2 ⟨rfl,ar,au⟩;have a8:=au.size;have af:ms (Below w.heap.size w w2):=HB.out.trans (au.mono (by omega));have aY:(eL O).length<=255:=by have:=aq.out; omega
   rw[<-aq.out]at ar⊢;have ae:ms (w2.ownsRow (w.heap.size+1) 9 1 (.slice ag S.length cg) S.length (dp S)):=ar;have a9:ms (w2.ownsRow w.heap.size 5 1 (.slice none 0 0) 0 []):=m7 _ _ _ _;clear ap ar au HO HR aY aW;clear aV aq
   go_wp2_with (first
    |(at_builtin; refine fy _ rfl _ _ 60 rfl w.heap.size 5 i0 (.int .u8 0) 1 i8 hi aM aN aO rfl _ _ _ rfl (a9.out.alloc _) _ [.int .u8 (S.length:Int)] rfl (Rd.one iH) (by simp[ne]) ?c1 ?c2 ?c3 ?_))
   case c1=>simp
   case c2=>unfold gv; simp
   case c3=>simp; omega
   intro v3 w3 U W a'
   have HO3:ms (fq w3 w.heap.size v3 [u8 S.length]):=by
    show fq _ _ _ _;unfold fq;rw[mc,show(S.length:Int) % 256=S.length by omega];simpa using U
   have ac:eG w2 w3 (.slice none 0 0) v3:=eG.of W a';have ah:Below w2.heap.size w2 w3:=⟨ac.1.os,ac.1.tape,ac.1.output,ac.1.size,λk hk=>ac.1.block k hk (by simp[ng])⟩;have HB3:ms (Below w.heap.size w w3):=af.out.trans (ah.mono (by omega));have HG3:ms (w3.ownsRow (w.heap.size+1) 9 1 (.slice ag S.length cg) S.length (dp S)):=eF ae.out (λk hk=>ah.block k (ae.out.lt k hk).2);obtain⟨a3,c3,rfl⟩:=HO3.out.form;have bl:=ah.size;clear U W a' ac ah a9 ae af
   have aZ:ms (∀k,k<=S.length->(u8 S.length::(S.take k).flatMap dL).length<=65536):=by
    intro k hk;have h1:=LG (S.take k) (λx hx=>a7.out x (List.mem_of_mem_take hx));rw[cp,hZ hk]at h1;rw[ge];omega
   go_wp2_with fail;go_loopw [0,33] (λu i wx=>∃k:Nat,k<=S.length/\i=.int .i64 k/\fq wx w.heap.size u (u8 S.length::(S.take k).flatMap dL)/\wx.ownsRow (w.heap.size+1) 9 1 (.slice ag S.length cg) S.length (dp S)/\Below w.heap.size w wx) (λ_ i _=>S.length-(intOf i).toNat)
   case atStart=>exact⟨0,hY _,rfl,by simpa using HO3.out,HG3.out,HB3.out⟩
   case round=>
    obtain⟨k,hk,rfl,ai,aA,av⟩:=hrel;obtain⟨L4,aj⟩:∃L4,L4=u8 S.length::(S.take k).flatMap dL:=⟨_,rfl⟩;have aB:ms (L4=u8 S.length::(S.take k).flatMap dL):=aj;have bm:L4.length<=65536:=by rw[aj]; exact aZ.out k hk
    rw[<-aj]at ai;obtain⟨a4,c4,rfl⟩:=ai.form;have ak:ms (fq _ _ _ _):=ai;have al:ms (wr.ownsRow (w.heap.size+1) 9 1 (.slice ag S.length cg) S.length (dp S)):=aA;have aC:ms (Below _ _ _):=av;have ba:=av.size;clear ai aA av aj HO3 HG3 HB3;by_cases aw:k<S.length
    .obtain⟨bg,og,rfl,ax⟩:=iZ al.out k _ (gO S k aw);have hx:=a7.out _ (ch aw);have HT:ms (S.take (k+1)=S.take k++[S[k]]):=de aw;have hA:=jD w.heap.size _ L4 ⟨S[k].toArray⟩ wr ak.out (by omega) (by show S[k].toArray.size<=_; simp; omega) ba;go_wp2_with fail;refine hA.mono ?_;rintro e5 w5 ⟨v5,rfl,aD,ay⟩;have bc:ms (fq _ _ _ _):=aD;have bd:ms (Below w.heap.size w w5):=ay.low aC.out ak.out (hX _);have be:ms (w5.ownsRow (w.heap.size+1) 9 1 (.slice (some ⟨bg,og,none⟩) S.length cg) S.length (dp S)):=eF al.out (λj hj=>ay.1.block j (al.out.lt j hj).2 (λe=>tJ al.out ak.out (by decide) j hj e));clear hA aD ay ax;go_wp2;go_roundw
     case rel=>
      refine⟨_,_,_,_,_,_,_,_,_,_,⟨k+1,by omega,by go_num,?_,be.out,bd.out⟩,rfl⟩
      have e:(u8 S.length::(S.take (k+1)).flatMap dL)=L4++dL S[k]:=by
       rw[HT.out,aB.out,ei,List.cons_append];simp only[ef,eq,dt]
      rw[e];exact bc.out
     case measure=>simp[intOf]; omega
    .have HE:ms (L4=rX es):=by
      show _=_;unfold rX;rw[aB.out,er (by omega),aX.out]
     go_wp2;go_ret;refine⟨_,rfl,?_,aC.out⟩;rw[<-HE.out];exact ak.out
  .intro e aa w2 aE am ao az bf bn;have aF:=eu.lt am;have aG:=dM.lt (eu.owns am);have aH:ms (Below w.heap.size w w2):=lG HB.out az (hX _);have aI:ms (lJ _ _ _ _ _):=am;have aJ:ms (w2.rangeLeft B w.heap.size<wr.rangeLeft B w.heap.size):=ao;have aK:ms (ab.Perm (e::aa)):=aE;have Y:ms (w2.ownsRow (w.heap.size+1) 9 1 (.slice ag (eL O).length cg) (eL O).length (dp (eL O))):=eF HO.out (λk hk=>az.block k (HO.out.lt k hk).2 (by have:=(HO.out.lt k hk).1; intro e; cases e; omega));have an:=IU O e;have a8:w.heap.size+1<=w2.heap.size:=by omega
   clear aE am ao az bf;obtain⟨nm,gn,tx,wt,tg⟩:=e
   cases gn with
   |false=>
    have a0:ms (eL (O++[⟨nm,false,tx,wt,tg⟩])=eL O):=by show _=_; rw[an]; simp
    clear an;go_wp2;go_roundw
    case rel=>
     exact⟨O++[⟨nm,false,tx,wt,tg⟩],aa,jd HP.out aK.out,aI.out.alloc _,by rw[a0.out]; exact Y.out.alloc _,aH.out.alloc (by omega) _,by simp; omega⟩
    case measure=>
     rw[iU aG aF];exact aJ.out
   |true=>
    have a0:ms (eL (O++[⟨nm,true,tx,wt,tg⟩])=eL O++[nm]):=by show _=_; rw[an]; simp
    clear an
    go_wp2_with (first
      |(at_builtin; refine fp _ rfl _ _ 31 rfl (w.heap.size+1) 9 i9 (.string ⟨#[]⟩) 16 i' aP aQ aR aS rfl _ _ _ rfl ((Y.out.alloc _).alloc _) ⟨w2.heap.size+1,0,none⟩ _ rfl (vy (by simp)) rfl ?c1 ?c2 ?c3 ?_))
    case c1=>omega
    case c2=>unfold gv; omega
    case c3=>first|omega|(simp; omega)
    intro v3 w3 U W _;have aL:Below w.heap.size w w3:=((aH.out.alloc (by omega) _).alloc (by simp; omega) _).grown W (by simp; omega) (λb hb=>by have:=(Y.out.lt b hb).1; omega);have af:ms (Below _ _ _):=aL;have bo:w2.heap.size<=w3.heap.size:=by have:=W.size; simp at this; omega
    have bh:ms (lJ w3 B w.heap.size es aa):=eu.kept ((aI.out.alloc _).alloc _) W (λe=>by have:=(Y.out.lt B e.symm).1; omega) (λe=>by have:=(Y.out.lt _ e.symm).1; omega)
    have ae:ms (w3.ownsRow (w.heap.size+1) 9 1 v3 (eL (O++[⟨nm,true,tx,wt,tg⟩])).length (dp (eL (O++[⟨nm,true,tx,wt,tg⟩])))):=by
     show w3.ownsRow _ _ _ _ _ _;rw[a0.out,mH];rw[cc];exact U
    have HL2:ms (w3.rangeLeft B w.heap.size<wr.rangeLeft B w.heap.size):=by
     show _<_;rw[eu.jG (W.block B (by simp; omega) (λe=>by have:=(Y.out.lt B e.symm).1; omega)) (W.block w.heap.size (by simp; omega) (λe=>by have:=(Y.out.lt _ e.symm).1; omega)),iU (by simp; omega) (by simp; omega),iU aG aF];exact aJ.out
    clear U W aL;go_wp2;go_roundw
    case rel=>
     exact⟨O++[⟨nm,true,tx,wt,tg⟩],aa,jd HP.out aK.out,bh.out,ae.out,af.out,by omega⟩
    case measure=>exact HL2.out
end
section
open Go.RowKit Go.Maps Go.Sort
def rQ(x y:Wd):Int:=if n3 x y=true then -1 else if n3 y x=true then 1 else 0
theorem BB(x:ByteArray)(w:World):g5 prog 175 #[.string x] w λe w'=>e=.returned (.bool false)/\w=w':=by
 go_wp2;go_ret;exact⟨rfl,rfl⟩
theorem pL(x y:Wd)(w:World):g5 prog 128 #[.string ⟨x.toArray⟩,.string ⟨y.toArray⟩] w λe w'=>e=.returned (.int .i64 (rQ x y))/\w=w':=by
 have W:=BB ⟨x.toArray⟩ w;have Y:=BB ⟨y.toArray⟩ w;unfold rQ;by_cases U:n3 x y=true
 .rw[if_pos U];go_enter mb,kk;go_wp2_with fail;refine W.mono ?_;rintro e w' ⟨rfl,rfl⟩;go_wp2_with fail;refine Y.mono ?_;rintro e w' ⟨rfl,rfl⟩;go_wp2;go_ret;exact⟨rfl,rfl⟩
 .rw[if_neg U];have B:n3 x y=false:=by simpa using U
  clear U;by_cases O:n3 y x=true
  .rw[if_pos O];have aa:(x==y)=false:=beq_eq_false_iff_ne.2 (λe=>by subst e; rw[B]at O; cases O);clear O;go_enter mb,kk;go_wp2_with fail;refine W.mono ?_;rintro e w' ⟨rfl,rfl⟩;go_wp2_with fail;refine Y.mono ?_;rintro e w' ⟨rfl,rfl⟩;go_wp2;go_ret;exact⟨rfl,rfl⟩
  .obtain rfl:x=y:=by
    rcases il x y with h|h|h
    .rw[B]at h; cases h
    .exact h
    .exact absurd h O
   go_enter mb,kk;go_wp2_with fail;refine W.mono ?_;rintro e w' ⟨rfl,rfl⟩;go_wp2_with fail;refine Y.mono ?_;rintro e w' ⟨rfl,rfl⟩;go_wp2;go_ret;exact⟨rfl,rfl⟩
def kE(e:dq):List Value:=[.string ⟨(dF e).toArray⟩,.string ⟨e.name.toArray⟩,.string ⟨e.text.toArray⟩,.int .i64 e.du,.int .i64 e.dD]
def Ry(x y:dq):Int:=if rQ (dF x) (dF y)≠0 then rQ (dF x) (dF y)else rQ x.name y.name
theorem OS(x y:dq)(w:World):g5 prog 185 #[.agg #[.string ⟨(dF x).toArray⟩,.string ⟨x.name.toArray⟩,.string ⟨x.text.toArray⟩,.int .i64 x.du,.int .i64 x.dD],.agg #[.string ⟨(dF y).toArray⟩,.string ⟨y.name.toArray⟩,.string ⟨y.text.toArray⟩,.int .i64 y.du,.int .i64 y.dD]] w λe w'=>e=.returned (.int .i64 (Ry x y))/\∃k os,w'=grow (w.drewN k) os:=by
 have h1:=λW=>pL (dF x) (dF y) W;have h2:=λW=>pL x.name y.name W;unfold Ry;obtain⟨z,hz⟩:∃z,z=rQ (dF x) (dF y):=⟨_,rfl⟩;obtain⟨t,ht⟩:∃t,t=rQ x.name y.name:=⟨_,rfl⟩;rw[<-hz]at h1⊢;rw[<-ht]at h2⊢;obtain⟨wT,aa⟩:∃wT,wT=if z≠0 then z else t:=⟨_,rfl⟩
 rw[<-aa]
 have ad:∀(g:Nat)(W:World),W.cell? ⟨g,0,none⟩=some (.int .i64 z)->W.cell? ⟨g,1,none⟩=some (.int .i64 t)->g5 prog 126 #[.slice (some ⟨g,0,none⟩) 2 2] W λe w'=>e=.returned (.int .i64 wT)/\W=w':=λg W k1 k2=>by
  rw[aa];exact D' z t g W k1 k2
 clear hz ht aa;generalize dF x=kx at *;generalize dF y=ky at *;obtain⟨nx,_,tx,wx,gx⟩:=x;obtain⟨ny,_,ty,wy,gy⟩:=y;simp only at h2⊢;obtain⟨Y,ab⟩:∃Y,Y=(w.alloc (.cells #[.string ⟨kx.toArray⟩,.string ⟨nx.toArray⟩,.string ⟨tx.toArray⟩,.int .i64 wx,.int .i64 gx] 237)).alloc (.cells #[.string ⟨ky.toArray⟩,.string ⟨ny.toArray⟩,.string ⟨ty.toArray⟩,.int .i64 wy,.int .i64 gy] 237):=⟨_,rfl⟩
 have hA:∀j,Y.cell? ⟨w.heap.size,j,none⟩=(#[Value.string ⟨kx.toArray⟩,.string ⟨nx.toArray⟩,.string ⟨tx.toArray⟩,.int .i64 wx,.int .i64 gx]:Array Value)[j]?:=λj=>by
  rw[ab,World.cell?_alloc_past _ _ _ (by simp),m8 _ _ _ _ rfl]
 have ac:∀j,Y.cell? ⟨w.heap.size+1,j,none⟩=(#[Value.string ⟨ky.toArray⟩,.string ⟨ny.toArray⟩,.string ⟨ty.toArray⟩,.int .i64 wy,.int .i64 gy]:Array Value)[j]?:=λj=>by
  rw[ab,m8 _ _ _ _ (by simp)]
 have ae:∃os,Y=grow w os:=⟨_,by rw[ab,n8,n8,grow_grow]⟩;have a0:Y.cell? ⟨w.heap.size,0,none⟩=some (.string ⟨kx.toArray⟩):=hA 0;have a1:Y.cell? ⟨w.heap.size,1,none⟩=some (.string ⟨nx.toArray⟩):=hA 1;have b0:Y.cell? ⟨w.heap.size+1,0,none⟩=some (.string ⟨ky.toArray⟩):=ac 0;have b1:Y.cell? ⟨w.heap.size+1,1,none⟩=some (.string ⟨ny.toArray⟩):=ac 1;clear hA ac;go_enter func185,ntmps185;go_wp2_with fail;rw[<-ab];clear ab;have O:(λw':World=>w'.cell? ⟨w.heap.size,0,none⟩=some (.string ⟨kx.toArray⟩)/\w'.cell? ⟨w.heap.size,1,none⟩=some (.string ⟨nx.toArray⟩)/\w'.cell? ⟨w.heap.size+1,0,none⟩=some (.string ⟨ky.toArray⟩)/\w'.cell? ⟨w.heap.size+1,1,none⟩=some (.string ⟨ny.toArray⟩)) Y.drew:=⟨a0,a1,b0,b1⟩;clear a0 a1 b0 b1;refine g6 (S:=λw'=>w'.cell? ⟨w.heap.size,0,none⟩=some (.string ⟨kx.toArray⟩)/\w'.cell? ⟨w.heap.size,1,none⟩=some (.string ⟨nx.toArray⟩)/\w'.cell? ⟨w.heap.size+1,0,none⟩=some (.string ⟨ky.toArray⟩)/\w'.cell? ⟨w.heap.size+1,1,none⟩=some (.string ⟨ny.toArray⟩)) (by kernel_rfl) ?_;refine fR 0 ?_ O ?_<|fR 1 ?_ O ?_<|fR 2 ?_ O ?_<|fR 3 ?_ O ?_<|fR 5 ?_ O ?_<|fR 6 ?_ O ?_<|fR 7 ?_ O ?_<|fR 8 ?_ O ?_<|fR 9 ?_ O ?_<|fR 10 ?_ O ?_ ?_
 any_goals(rintro w' ⟨s0,s1,s2,s3⟩; go_simp; first|done|with_reducible rfl)
 refine l8 4 λK' U=>?_;unfold m4;go_simp;refine(h1 _).mono ?_;rintro e w' ⟨rfl,rfl⟩;refine U _ _ ⟨O,?_⟩;clear U;refine l8 11 λK' U=>?_;unfold m4;go_simp;refine(h2 _).mono ?_;rintro e w' ⟨rfl,rfl⟩;refine U _ _ ⟨O,?_⟩;clear U;refine l8 12 λK' U=>?_;unfold m4;go_simp
 have B:Below Y.heap.size Y (Y.alloc (.cells #[.int .i64 z,.int .i64 t] 3)).drew:=by
  have h:Below Y.heap.size Y (Y.alloc (.cells #[.int .i64 z,.int .i64 t] 3)):=(mv _ _).alloc (hX _) _;exact⟨h.os,h.tape,h.output,h.size,h.block⟩
 refine U _ _ ⟨⟨gt B O.1,gt B O.2.1,gt B O.2.2.1,gt B O.2.2.2⟩,?_⟩;clear U;refine l8 13 λK' U=>?_;unfold m4;go_simp;refine(ad Y.heap.size (Y.alloc (.cells #[.int .i64 z,.int .i64 t] 3)).drew (B4 (w:=Y) (by rfl)).1 (B4 (w:=Y) (by rfl)).2).mono ?_;rintro e w' ⟨rfl,rfl⟩;refine U _ _ ⟨⟨gt B O.1,gt B O.2.1,gt B O.2.2.1,gt B O.2.2.2⟩,?_⟩;clear U;have af:(λw':World=>w'.cell? ⟨w.heap.size,0,none⟩=some (.string ⟨kx.toArray⟩)/\w'.cell? ⟨w.heap.size,1,none⟩=some (.string ⟨nx.toArray⟩)/\w'.cell? ⟨w.heap.size+1,0,none⟩=some (.string ⟨ky.toArray⟩)/\w'.cell? ⟨w.heap.size+1,1,none⟩=some _) _:=⟨gt B O.1,gt B O.2.1,gt B O.2.2.1,gt B O.2.2.2⟩;refine fR 14 ?_ af ?_ ?_;rotate_left
 .rintro w' ⟨s0,s1,s2,s3⟩; go_simp; first|done|with_reducible rfl
 refine g9 (by kernel_rfl) ?_ _;go_wp2;go_ret;obtain⟨os,rfl⟩:=ae;exact⟨rfl,1,_,by rw[n8,grow_grow]; rfl⟩
end
section
open Go.RowKit Go.Maps Go.Sort
variable {a b:dq} {base g:Nat} {w:World}
theorem xi(x y:Wd):rQ x y<0↔n3 x y=true:=by
 unfold rQ;by_cases B:n3 x y=true
 .simp[B]
 .by_cases O:n3 y x=true
  .simp[B,O]
  .simp[B,O]
theorem ry(x y:Wd):rQ x y=0↔x=y:=by
 unfold rQ;constructor
 .intro h;rcases il x y with B|B|B
  .rw[if_pos B]at h; cases h
  .exact B
  .rw[if_neg (by rw[pZ B]; simp),if_pos B]at h; cases h
 .rintro rfl;simp[ij]
theorem ux(x y:dq):ltOf Ry x y=true↔DG x y:=by
 unfold ltOf Ry DG;rw[decide_eq_true_eq];by_cases h:dF x=dF y
 .rw[if_neg (by rw[Classical.not_not]; exact(ry ..).2 h),xi,h,ij];simp
 .rw[if_pos (λe=>h ((ry ..).1 e)),xi];simp[h]
theorem AL{c:dq}(O:DG a b)(B:DG b c):DG a c:=by
 rcases O with O|⟨O,U⟩
 .rcases B with B|⟨B,_⟩
  .exact Or.inl (lZ _ _ _ O B)
  .exact Or.inl (by rw[<-B]; exact O)
 .rcases B with B|⟨B,W⟩
  .exact Or.inl (by rw[O]; exact B)
  .exact Or.inr ⟨O.trans B,lZ _ _ _ U W⟩
theorem BN(a b:dq):DG a b\/(dF a=dF b/\a.name=b.name)\/DG b a:=by
 rcases il .. with h|h|h
 .exact Or.inl (Or.inl h)
 .rcases il .. with B|B|B
  .exact Or.inl (Or.inr ⟨h,B⟩)
  .exact Or.inr (Or.inl ⟨h,B⟩)
  .exact Or.inr (Or.inr (Or.inr ⟨h.symm,B⟩))
 .exact Or.inr (Or.inr (Or.inl h))
theorem I7(a:dq):¬DG a a:=by
 unfold DG;simp[ij]
theorem ME{c:dq}(h:dF a=dF b/\a.name=b.name)(B:DG a c):DG b c:=by
 unfold DG at *;rw[<-h.1,<-h.2];exact B
theorem PD:SWO (ltOf Ry) where
 irrefl x:=by
  have:=I7 x;rw[<-ux]at this;simpa using this
 trans x y z h1 h2:=by rw[ux]at *; exact AL h1 h2
 ntrans x y z h1 h2:=by
  cases B:ltOf Ry x z with
  |false=>rfl
  |true=>
   rw[ux]at B;have n1:¬DG x y:=by rw[<-ux,h1]; simp
   have n2:¬DG y z:=by rw[<-ux,h2]; simp
   rcases BN x y with h|h|h
   .exact absurd h n1
   .exact absurd (ME h B) n2
   .exact absurd (AL h B) n2
def gR(es:List dq):List Value:=es.flatMap kE
theorem A1(es:List dq)(x:dq):gR (es++[x])=gR es++kE x:=by simp[gR]
theorem Dc:∀(ws:List dq)(i c:Nat)(h:i<ws.length),c<5->(gR ws)[i*5+c]?=(kE ws[i])[c]?:=by
 intro ws
 induction ws with
 |nil=>intro i c h; simp at h
 |cons a l B=>
  intro i c h O;have e:gR (a::l)=kE a++gR l:=by simp[gR]
  rw[e]
  cases i with
  |zero=>rw[cx (by simp[kE]; omega)]; simp
  |succ i=>
   rw[df (by simp[kE]; omega)];have U:(kE a).length=5:=rfl;rw[U,show(i+1)*5+c-5=i*5+c by omega,B i c (by simpa using h) O];simp
theorem BA(x:dq):∀v∈kE x,v.oneCell'=true:=by
 intro v B;simp[kE]at B;rcases B with rfl|rfl|rfl|rfl|rfl<;>rfl
instance:Inhabited dq:=⟨⟨[],false,[],0,0⟩⟩
theorem yz{e n m cap:Nat}{ws:List dq}(h:w.ownsRow base e 5 (.slice (some ⟨g,0,none⟩) m cap) n (gR ws))(hn:n=ws.length):HoldsK kE 5 w g 0 ws.toArray:=by
 intro j hj;have O:=by simpa using hj
 have W:j / 5<ws.length:=by omega
 have B:(gR ws)[j]?=some ((flatK kE 5 ws.toArray)[j]!):=by
  rw[get_flatK _ _ _ _ (by simpa using O)];have:=Dc ws _ (j % 5) W (by omega);rw[show j / 5*5+j % 5=j by omega]at this;rw[this];have e1:ws.toArray[j / 5]! = ws[j / 5]:=by rw[getElem!_pos _ _ (by simpa using W)]; simp
  rw[e1];have Y:j % 5<(kE ws[j / 5]).length:=by simp[kE]; omega
  rw[dd Y,getElem!_pos (kE _) _ Y]
 rcases h.2 with⟨h0,_⟩|⟨g',aa,ab,he,_,hg,_,_,ac,U⟩
 .simp at h0
 .obtain⟨⟨rfl,_⟩,_,rfl⟩:=he;refine⟨?_,?_⟩
  .rw[dh hg];rw[<-U,dg,if_pos (by omega)]at B;simpa using B
  .simp[World.frozen?,hg]
theorem vk{k blk off m:Nat}{enc:dq->List Value}{d:Array dq}{os:Array Obj}(hb:base<=blk)(B:blk<w.heap.size):Below base w (ot enc k w blk off m d os):=by
 refine⟨rfl,rfl,rfl,?_,λj O=>?_⟩
 .unfold ot od oi grow oa;simp[n7]
 .unfold ot od oi grow oa;simp[n7];rw[Array.getElem?_append_left (by simp; omega),m3,if_neg (by omega)]
theorem DX{k m:Nat}{enc:dq->List Value}{d:Array dq}{os:Array Obj}{B:Array Value}{e:g7}{fr:Nat×Nat}(hb:w.heap[g]?=some (.cells B e fr)):∃cs,(ot enc k w g 0 m d os).heap[g]?=some (.cells cs e fr):=by
 have O:=(m1.1 hb).1;unfold ot od;rw[heap_grow_old _ _ (by simpa using O)];simp[oi,oa,n7,m3,hb,onCells]
theorem Mu(blk off size:Nat)(w:World):CmpLays prog 185 #[] kE 5 Ry blk off size w:=by
 intro m os B _ x y;exact OS x y _
theorem LX(base:Nat)(au:Option Addr)(Y:Nat)(es:List dq)(w:World)(U:w.ownsRow base 237 5 (.slice au es.length Y) es.length (gR es))(ae:(es.map dq.name).Nodup)(hl:es.length<=1048576) :
  g5 prog 184 #[.slice au es.length Y,.func (.func 185) #[] #[]] w λe w2=>e=.returned (.tuple #[])/\Below base w w2/\
   ∃L:List dq,L.Perm es/\gC L/\om w2 (.slice au es.length Y) L:=by
 rcases U.2 with⟨he,hn⟩|⟨g,cap,ai,he,aa,hb,h1,h2,h3,h4⟩
 .have hG:es=[]:=fd.1 (by simpa using hn);subst hG;have B:=AnyF.slices_SortFunc_none Gr au Y (.func (.func 185) #[] #[]) w;change g5 prog 184 _ _ _ at B;simp only[m5]at he;refine B.mono ?_;rintro e w2 ⟨rfl,rfl⟩;exact⟨rfl,mv _ _,[],o3 _,List.Pairwise.nil,au,Y,rfl,hY _,by rw[he.2.2]; exact hY _,λi h=>by simp at h⟩
 .simp only[m5]at he;obtain⟨rfl,_,rfl⟩:=he;have ab:g<w.heap.size:=(m1.1 hb).1
  have B:=AnyQ.slices_SortFunc Gr 5 isAgg237 sizeOf237 kE (λ_=>rfl) BA Ry PD 185 #[] g 0 Y es.toArray w
   (enters_of func185 (by kernel_rfl) rfl) (Mu g 0 _ w) (yz U rfl) ab (by simp; omega)
  change g5 prog 184 _ _ _ at B;refine B.mono ?_;rintro e w2 ⟨rfl,d',nq,os,hp,hs,rfl⟩;have ac:d'.size=es.length:=by rw[hp.1]; simp
  have hH:HoldsK kE 5 (ot kE 5 w g 0 nq d' os) g 0 d':=by
   unfold ot;refine holdsK_grow _ _ _ _ _ _ _ ?_ (holdsK_putRowK _ _ _ _ _ _ _ (holdsK_ahead _ _ _ _ _ _ _ (yz U rfl)) hp.1);unfold od oi oa;simp[n7];exact ab
  obtain⟨cs,af⟩:=DX (enc:=kE) (k:=5) (m:=nq) (d:=d') (os:=os) hb
  have eE:=by
   have e1:d'.extract 0 es.toArray.size=d':=by rw[<-hp.1]; simp
   have e2:es.toArray.extract 0 es.toArray.size=es.toArray:=by simp
   have p3:=hp.2.2;rw[e1,e2]at p3;exact p3
  have ag:gC d'.toList:=by
   have W:=(eE.map _).nodup_iff.2 ae;unfold gC;rw[e8];intro i j hi hj ad;have ah:d'.toList.length=es.toArray.size:=by simpa using ac
   have h:=hs i j (hY _) ad (by omega);have gi:d'[i]! = d'.toList[i]:=by rw[getElem!_pos d' i _]; rfl
   have gj:d'[j]! = d'.toList[j]:=by rw[getElem!_pos d' j _]; rfl
   rw[gi,gj]at h;rcases BN _ _ with h'|h'|h'
   .exact h'
   .rw[List.Nodup,gc,e8]at W;exact absurd h'.2 (W i j hi hj ad)
   .rw[<-ux,h]at h';cases h'
  refine⟨rfl,vk aa ab,d'.toList,eE,ag,some _,Y,by rw[show d'.toList.length=es.length by simpa using ac],by rw[show d'.toList.length=es.length by simpa using ac]; exact h1,h2,λi hi=>?_⟩;have O:=by simpa using hi
  have g0:=(ov hH O (c:=0) (by decide)).1;have g1:=(ov hH O (c:=1) (by decide)).1;have g2:=(ov hH O (c:=2) (by decide)).1;have g3:=(ov hH O (c:=3) (by decide)).1;have g4:=(ov hH O (c:=4) (by decide)).1;have e2:d'[i]! = d'.toList[i]:=by rw[getElem!_pos d' i O]; rfl
  rw[e2]at g0 g1 g2 g3 g4;refine⟨g,0,rfl,g0,?_,?_,?_,?_,cs,(0,0),af⟩
  .exact g1
  .exact g2
  .exact g3
  .exact g4
end
section
open Go.RowKit Go.Maps Go.Sort
variable {u:Value} {w w':World}
theorem A9{P:Program}(w:World){o:Oper}{a:Act}{K:Act->World->Prop}{Q:Exit->Act->World->Prop}(s x:Operand)(t:g7)
  (ho:o.op=.call {callee:=.builtin .append,args:=#[s,x],argTypes:=#[t,t]})
  (base:Nat) (e:g7) (i:TypeInfo) (z:Value) (size bytes:Nat) (ht:P.underlying t=some (.slice e)) (hi:P.info? e=some i) (hz:i.zero=some z)
  (O:i.size=size) (Y:i.bytes=bytes) (aa:z.cells.size=size) (ab:0<size)
  (v:Value) (n:Nat) (xs:List Value) (hs:a.eval s=v) (W:w.ownsRow base e size v n xs)
  (y:Value) (m:Nat) (news:List Value) (hx:a.eval x=y) (hy:ql w size y m news) (h1:∀u∈news,u.oneCell'=true)
  (B:(n+m)*bytes<=140737488355328) (ac:n+m<=gv) (U:base<=w.heap.size)
  (h:∀v' w',w'.ownsRow base e size v' (n+m) (xs++news)->w.grownBy w' v.ownBlock->(v'.ownBlock=v.ownBlock\/(v'.ownBlock=some w.heap.size/\Below w.heap.size w w'))->K (a.put o.dst v') w'):m4 P o a w K Q:=by
 obtain⟨v',w',hr,h2,h3,h4⟩:=qc (P:=P) w base t o.type e i z size bytes ht hi hz O Y aa ab v n xs W y m news hy h1 B ac U;unfold m4 hI;simp only[ho,h7,invoke,builtin,on,oj,oo,ek,ej,et,hs,hx,hr];exact h v' w' h2 h3 h4
theorem OM:(prog.info? 237).map (λi=>(i.zero,i.size,i.bytes))=some (some (.agg #[.string ⟨#[]⟩,.string ⟨#[]⟩,.string ⟨#[]⟩,.int .i64 0,.int .i64 0]),5,64):=by kernel_rfl
theorem NQ{x y z v:Value}{t:g7}{g:Nat}(O:g=w.heap.size):ql (w.alloc (.cells #[x,y,z,u,v] t)) 5 (.slice (some ⟨g,0,none⟩) 1 1) 1 [x,y,z,u,v]:=by
 subst O;refine⟨some _,1,rfl,hX _,by unfold gv; omega,rfl,λj u B=>⟨w.heap.size,0,rfl,?_⟩⟩
 match j,B with
 |0,B=>simpa using B
 |1,B=>simpa using B
 |2,B=>simpa using B
 |3,B=>simpa using B
 |4,B=>simpa using B
 |j+5,B=>simp at B
theorem cell_grown{row:Option Nat}{k o:Nat}(O:w.grownBy w' row)(h:w.cell? ⟨k,o,none⟩=some u)(B:some k≠row):w'.cell? ⟨k,o,none⟩=some u:=by
 have hb:=O.block k (Ql h) B;simp only[m']at h⊢;rw[hb];exact h
theorem lJ.RN{B r:Nat}{es O:List dq}(h:lJ w B r es O)(hb:Below w.heap.size w w'):lJ w' B r es O:=eu.kept (row:=none) h ⟨hb.os,hb.tape,hb.output,hb.size,λk U _=>hb.block k U⟩ (by simp) (by simp)
theorem Io(B:Nat)(es:List dq)(w:World)(hs:ey w B es)(hl:es.length<=1048576)(av:∀e∈es,e.text.length<=1099511627776) :
  g5 prog 133 #[.map (some B)] w λen w'=>∃v L,en=.returned v/\L.Perm (dx es)/\gC L/\om w' v L/\Below w.heap.size w w':=by
 obtain⟨i0,hi,aD,aE,aF⟩:=g8 OM;have aw:=hs.nodup;have HS:ms (ey _ _ _):=hs;have aG:ms ((es.map dq.name).Nodup):=aw;have aH:ms (∀e∈es,e.text.length<=1099511627776):=av;have aX:=dM.lt hs;clear hs aw av;go_enter func133,ntmps133;go_wp2_with (first|(at_range; refine jX _ rfl _ rfl rfl HS.out ?_; intro w1 hrg0 hg0 aY));go_frame;go_loopw [3] (λg wr=>∃(O ae:List dq),(O++ae).Perm es/\lJ wr B w.heap.size es ae/\wr.ownsRow (w.heap.size+1) 237 5 g (dx O).length (gR (dx O))/\Below w.heap.size w wr/\w.heap.size+1<=wr.heap.size) (λ_ wr=>wr.rangeLeft B w.heap.size)
 case atStart=>exact⟨[],es,o3 _,hrg0,m7 _ _ _ _,(mv _ _).grown hg0 (hX _) (λk hk=>by cases hk),by omega⟩
 case round=>
  obtain⟨O,ae,eE,hr,ah,hb,hz⟩:=hrel;have HP:ms ((O++ae).Perm es):=eE;have HR:ms (lJ _ _ _ _ _):=hr;obtain⟨ag,cg,rfl,aZ⟩:=iX ah;have HO:ms (wr.ownsRow (w.heap.size+1) 237 5 (.slice ag (dx O).length cg) (dx O).length (gR (dx O))):=ah;have HB:ms (Below _ _ _):=hb
  have ba:(dx O).length<=es.length:=by
   have h1:=oP O;have h2:=eE.length_eq;rw[cc]at h2;omega
  clear eE hr hb ah;go_wp2_with (first|(at_next; refine lh _ rfl _ rfl w.heap.size ae rfl HR.out ?_ ?_))
  .intro h0
   have hE:O.Perm es:=by
    have:=HP.out;rw[h0,dt]at this;exact this
   have ax:=LX (w.heap.size+1) ag cg (dx O) wr HO.out (by
    have h1:(O.map dq.name).Nodup:=(hE.map _).nodup_iff.2 aG.out
    exact h1.sublist (ez.map _)) (by omega)
   have HE:ms ((dx O).Perm (dx es)):=wv hE;clear h0 hE;go_wp2_with fail;refine ax.mono ?_;rintro e2 w2 ⟨rfl,ay,L,az,a0,a3⟩;have aI:ms (Below w.heap.size w w2):=HB.out.trans (ay.mono (by omega));have HL:ms (L.Perm (dx es)):=az.trans HE.out;have aJ:ms (gC L):=a0;have aK:ms (om _ _ _):=a3;clear ax ay az a0 a3;go_wp2;go_ret;exact⟨_,L,rfl,HL.out,aJ.out,aK.out,aI.out⟩
  .intro e aa w2 aq ak ap ar aL bc;have a4:=eu.lt ak;have a5:=dM.lt (eu.owns ak);have a6:ms (Below w.heap.size w w2):=lG HB.out ar (hX _);have a7:ms (lJ _ _ _ _ _):=ak;have a8:ms (w2.rangeLeft B w.heap.size<wr.rangeLeft B w.heap.size):=ap;have a9:ms (ae.Perm (e::aa)):=aq;have W:ms (w2.ownsRow (w.heap.size+1) 237 5 (.slice ag (dx O).length cg) (dx O).length (gR (dx O))):=gY HO.out (λk hk=>ar.block k (HO.out.lt k hk).2 (by have:=(HO.out.lt k hk).1; intro e; cases e; omega));have al:=vm O e;have aM:e.text.length<=1099511627776:=aH.out e (HP.out.mem_iff.1 (List.mem_append_right _ (aq.mem_iff.2 (f' ..))));have aW:w.heap.size+1<=w2.heap.size:=by omega
   clear aq ak ap ar aL;obtain⟨nm,gn,tx,wt,tg⟩:=e
   cases gn with
   |true=>
    have au:ms (dx (O++[⟨nm,true,tx,wt,tg⟩])=dx O):=by show _=_; rw[al]; simp
    clear al;go_wp2;go_roundw
    case rel=>
     exact⟨O++[⟨nm,true,tx,wt,tg⟩],aa,jd HP.out a9.out,a7.out.alloc _,by rw[au.out]; exact W.out.alloc _,a6.out.alloc (by omega) _,by simp; omega⟩
    case measure=>
     rw[iU a5 a4];exact a8.out
   |false=>
    have au:ms (dx (O++[⟨nm,false,tx,wt,tg⟩])=dx O++[⟨nm,false,tx,wt,tg⟩]):=by show _=_; rw[al]; simp
    clear al;go_wp2_with fail;rw[show ui ⟨nm,false,tx,wt,tg⟩=nm from rfl];obtain⟨wa,am⟩:∃wa,wa=w2.alloc (.cells #[.bool false,.string ⟨nm.toArray⟩,.string ⟨tx.toArray⟩,.int .i64 wt,.int .i64 tg] 111):=⟨_,rfl⟩;rw[<-am];obtain⟨k,hk⟩:∃k,k=w2.heap.size:=⟨_,rfl⟩;rw[<-hk];have a':Below w2.heap.size w2 wa:=by rw[am]; exact(mv _ _).alloc (hX _) _
    have ai:wa.heap[k]?=some (.cells #[.bool false,.string ⟨nm.toArray⟩,.string ⟨tx.toArray⟩,.int .i64 wt,.int .i64 tg] 111 (0,0)):=by rw[am,hk]; exact h9 w2 _
    have hS:(λw':World=>w'.cell? ⟨k,1,none⟩=some (.string ⟨nm.toArray⟩)/\w'.cell? ⟨k,2,none⟩=some (.string ⟨tx.toArray⟩)/\w'.cell? ⟨k,3,none⟩=some (.int .i64 wt)/\w'.cell? ⟨k,4,none⟩=some (.int .i64 tg)) wa.drew:=⟨by show wa.cell? _=_; rw[dh ai]; rfl,by show wa.cell? _=_; rw[dh ai]; rfl,by show wa.cell? _=_; rw[dh ai]; rfl,by show wa.cell? _=_; rw[dh ai]; rfl⟩;have aA:=oU ⟨tx.toArray⟩ wa.drew (by show tx.toArray.size<=_; simpa using aM);change g5 _ _ _ _ (λe w'=>e=.returned (.string ⟨(ed tx).toArray⟩)/\Below wa.heap.size wa.drew w')at aA;have aN:ms (k=w2.heap.size):=hk;clear am ai hk;refine g6 (S:=λw'=>w'.cell? ⟨k,1,none⟩=some (.string ⟨nm.toArray⟩)/\w'.cell? ⟨k,2,none⟩=some (.string ⟨tx.toArray⟩)/\w'.cell? ⟨k,3,none⟩=some (.int .i64 wt)/\w'.cell? ⟨k,4,none⟩=some (.int .i64 tg)) (by kernel_rfl) ?_;refine fR 0 ?_ hS ?_<|fR 1 ?_ hS ?_<|fR 2 ?_ hS ?_<|fR 3 ?_ hS ?_<|fR 5 ?_ hS ?_<|fR 6 ?_ hS ?_ ?_
    any_goals(rintro w' ⟨s0,s1,s2,s3⟩; go_simp; first|done|with_reducible rfl)
    refine l8 4 λK' ab=>?_;unfold m4;go_simp;refine aA.mono ?_;rintro e w3 ⟨rfl,U⟩;have af:(λw':World=>w'.cell? ⟨k,1,none⟩=some (.string ⟨nm.toArray⟩)/\w'.cell? ⟨k,2,none⟩=some (.string ⟨tx.toArray⟩)/\w'.cell? ⟨k,3,none⟩=some (.int .i64 wt)/\w'.cell? ⟨k,4,none⟩=some (.int .i64 tg)) w3:=⟨gt U hS.1,gt U hS.2.1,gt U hS.2.2.1,gt U hS.2.2.2⟩;refine ab _ _ ⟨af,?_⟩;clear ab;refine fR 7 ?_ af ?_ ?_;rotate_left
    .rintro w' ⟨s0,s1,s2,s3⟩; go_simp; first|done|with_reducible rfl
    refine l8 8 λK' ab=>?_;unfold m4;go_simp;obtain⟨w4,an⟩:∃w4,w4=w3.alloc (.cells #[.string ⟨(ed tx).toArray⟩,.string ⟨nm.toArray⟩,.string ⟨tx.toArray⟩,.int .i64 wt,.int .i64 tg] 237):=⟨_,rfl⟩;rw[<-an];have ad:Below w3.heap.size w3 w4:=by rw[an]; exact(mv _ _).alloc (hX _) _
    have aO:ql w4 5 (.slice (some ⟨w3.heap.size,0,none⟩) 1 1) 1 (kE ⟨nm,false,tx,wt,tg⟩):=by rw[an]; exact NQ rfl
    have aj:(λw':World=>w'.cell? ⟨k,1,none⟩=some (.string ⟨nm.toArray⟩)/\w'.cell? ⟨k,2,none⟩=some (.string ⟨tx.toArray⟩)/\w'.cell? ⟨k,3,none⟩=some (.int .i64 wt)/\w'.cell? ⟨k,4,none⟩=some (.int .i64 tg)) w4:=⟨gt ad af.1,gt ad af.2.1,gt ad af.2.2.1,gt ad af.2.2.2⟩;refine ab _ _ ⟨aj,?_⟩;clear ab;have bd:wa.heap.size<=w3.heap.size:=U.size;have be:=ad.size;have aP:=a'.size
    have ac:Below w2.heap.size w2 w4:=by
     have h1:Below wa.heap.size wa w3:=⟨U.os,U.tape,U.output,U.size,U.block⟩;exact(a'.trans (h1.mono aP)).trans (ad.mono (by omega))
    have aQ:w4.ownsRow (w.heap.size+1) 237 5 (.slice ag (dx O).length cg) (dx O).length (gR (dx O)):=gY W.out (λj hj=>ac.block j (W.out.lt j hj).2);have aB:Below w.heap.size w w4:=a6.out.trans (ac.mono (by omega));clear an ad U;refine l8 9 λK' ab=>?_;refine A9 _ _ _ 190 rfl (w.heap.size+1) 237 i0 _ 5 64 kG hi aD aE aF rfl (by decide) _ _ _ rfl aQ _ 1 _ rfl aO (BA _) (by omega) (by unfold gv; omega) (by omega) ?_;intro v5 w5 aR Y _;have ao:some k≠(Value.slice ag (dx O).length cg).ownBlock:=λe=>by have:=(W.out.lt k e.symm).2; have:=aN.out; omega
    have aC:(λw':World=>w'.cell? ⟨k,1,none⟩=some (.string ⟨nm.toArray⟩)/\w'.cell? ⟨k,2,none⟩=some (.string ⟨tx.toArray⟩)/\w'.cell? ⟨k,3,none⟩=some (.int .i64 wt)/\w'.cell? ⟨k,4,none⟩=some (.int .i64 tg)) w5:=⟨cell_grown Y aj.1 ao,cell_grown Y aj.2.1 ao,cell_grown Y aj.2.2.1 ao,cell_grown Y aj.2.2.2 ao⟩;refine ab _ _ ⟨aC,?_⟩;clear ab;refine fR 10 ?_ aC ?_ ?_;rotate_left
    .rintro w' ⟨s0,s1,s2,s3⟩; go_simp; first|done|with_reducible rfl
    refine g9 (by kernel_rfl) ?_ _;have bf:=Y.size;have aS:ms (Below w.heap.size w w5):=aB.grown Y (by omega) (λb hb=>by have:=(W.out.lt b hb).1; omega);have aT:lJ w4 B w.heap.size es aa:=a7.out.RN ac;have aU:ms (lJ w5 B w.heap.size es aa):=eu.kept aT Y (λe=>by have:=(W.out.lt B e.symm).1; omega) (λe=>by have:=(W.out.lt _ e.symm).1; omega)
    have aV:ms (w5.ownsRow (w.heap.size+1) 237 5 v5 (dx (O++[⟨nm,false,tx,wt,tg⟩])).length (gR (dx (O++[⟨nm,false,tx,wt,tg⟩])))):=by
     show w5.ownsRow _ _ _ _ _ _;rw[au.out,A1,cc];exact aR
    have HL5:ms (w5.rangeLeft B w.heap.size<wr.rangeLeft B w.heap.size):=by
     rw[eu.jG (Y.block B (by omega) (λe=>by have:=(W.out.lt B e.symm).1; omega)) (Y.block _ (by omega) (λe=>by have:=(W.out.lt _ e.symm).1; omega)),eu.jG (ac.block B a5) (ac.block _ a4)];exact a8.out
    go_roundw
    case rel=>
     exact⟨_,_,_,_,_,_,_,_,_,_,_,_,_,_,_,_,_,_,_,⟨O++[⟨nm,false,tx,wt,tg⟩],aa,jd HP.out a9.out,aU.out,aV.out,aS.out,by omega⟩,rfl⟩
    case measure=>exact HL5.out
end
section
open Go.RowKit Go.Maps
theorem IR{es L:List dq}(O:(es.map dq.name).Nodup)(U:L.Perm (dx es))(Y:gC L):dX es=rX es++(dL []++gT 26 0 L):=by
 have W:=QD 26 [] L Y (λe _=>gg)
 have B:=by
  have:((dx es).map _).Nodup:=O.sublist (ez.map _);exact(U.map _).nodup_iff.2 this
 have h2:fo L=(fo es).filter λe=>!e.gone:=by
  rw[pW,E2 B U];rfl
 rw[e6]at W;rw[W,h2];unfold dX rX eL;rw[List.flatMap_map];simp
theorem O1(B:Nat)(es:List dq)(w:World)(hs:ey w B es)(O:ni es) :
  g5 prog 91 #[.map (some B)] w λen w'=>en=.returned (.string ⟨(dX es).toArray⟩)/\Below w.heap.size w w':=by
 have ap:=rC O
 have aq:es.length<=130:=by
  have h1:=O.gone;have h2:=O.there;have h3:=jv es;have h4:(dx es).length<=30:=h2;omega
 have ag:=O.nodup;have HS:ms (ey _ _ _):=hs;have ab:ms (ni _):=O
 have hG:=xP B es w hs (by omega) (by have:=O.gone; unfold iY; omega) (λe he hg=>by
  rcases O.each e he with h|h
  .rw[h.1]at hg; cases hg
  .have:=(gI h.2).2; omega)
 clear hs O;go_enter func91,ntmps91;go_wp2_with fail;refine hG.mono ?_;rintro e1 w1 ⟨v1,rfl,W,U⟩;obtain⟨a1,c1,rfl⟩:=W.form;have ah:ms (fq _ _ _ _):=W;have ai:ms (Below _ _ _):=U;have aj:=U.size
 have hL:=Io B es w1 (dM.below HS.out U) (by omega) (λe he=>by
  rcases ab.out.each e he with h|h
  .have:=jc h.2.2.1; omega
  .rw[h.1]; simp)
 clear hG W U;go_wp2_with fail;refine hL.mono ?_;rintro e2 w2 ⟨v2,L,rfl,Y,ac,ak,aa⟩;have al:ms (Below w.heap.size w w2):=ai.out.trans (aa.mono aj);have ad:ms (fq w2 w.heap.size (.slice a1 (rX es).length c1) (rX es)):=ah.out.below aa;have ar:=aa.size;have ae:ms (dX es=rX es++(dL []++gT 26 0 L)):=IR ag Y ac
 have hN:=RE 26 w.heap.size _ (rX es) ⟨#[]⟩ [] _ L w2 ad.out ak (by omega) (λe he=>⟨by
   have hm:=Y.mem_iff.1 he;unfold dx at hm;rw[gl]at hm;rcases ab.out.each e hm.1 with h|h
   .exact h
   .have:=hm.2;rw[h.1]at this
    simp at this,gg⟩) ac (by
   have h1:=Y.length_eq;have h2:=oP es
   omega) (by simp) (by simp) (by
   have h1:=congrArg go ae.out;rw[cc]at h1;change (rX es).length+(dL []++gT 26 0 L).length<=_
   omega) (hY _)
 change g5 _ _ _ _ (Nv _ w2 _ _ (dL []++gT 26 0 L))at hN;go_wp2_with fail;refine hN.mono ?_;rintro e3 w3 ⟨v3,rfl,af,am⟩;have an:ms _:=am.low al.out ad.out (hX _);rw[<-ae.out]at af;have ao:=IV af i8 j3 jt;go_wp2;go_ret;exact⟨rfl,an.out⟩
end
section
open Go.RowKit Go.Maps
theorem uC{P:Program}(w:World){o:Oper}{a:Act}{K:Act->World->Prop}{Q:Exit->Act->World->Prop}(s x:Operand)(t:g7)
  (ho:o.op=.call {callee:=.builtin .append,args:=#[s,x],argTypes:=#[t,t]})
  (base:Nat) (e:g7) (i:TypeInfo) (z:Value) (bytes:Nat) (ht:P.underlying t=some (.slice e)) (hi:P.info? e=some i) (hz:i.zero=some z)
  (O:i.size=1) (Y:i.bytes=bytes) (aa:z.cells.size=1)
  (v:Value) (n:Nat) (xs:List Value) (hs:a.eval s=v) (W:w.ownsRow base e 1 v n xs)
  (y:Value) (news:List Value) (hx:a.eval x=y) (hy:Rd w y news) (h1:∀u∈news,u.oneCell'=true)
  (B:(n+news.length)*bytes<=140737488355328) (ab:n+news.length<=gv) (U:base<=w.heap.size)
  (h:∀v' w',w'.ownsRow base e 1 v' (n+news.length) (xs++news)->w.grownBy w' v.ownBlock->(v'.ownBlock=v.ownBlock\/v'.ownBlock=some w.heap.size)->K (a.put o.dst v') w'):m4 P o a w K Q:=by
 obtain⟨v',w',hr,h2,h3,h4⟩:=qh (P:=P) w base t o.type e i z bytes ht hi hz O Y aa v n xs W y news hy h1 B ab U;unfold m4 hI;simp only[ho,h7,invoke,builtin,on,oj,oo,ek,ej,et,hs,hx,hr];exact h v' w' h2 h3 h4
def iw(es:List dq):List Wd:=if 0<es.length then [dX es]else []
theorem CW(B:Nat)(es:List dq)(w:World)(hs:ey w B es)(U:0<es.length->ni es) :
  g5 prog 63 #[.map (some B)] w λen w'=>∃v,en=.returned v/\Rd w' v (dp (iw es))/\Below w.heap.size w w':=by
 have O:=λ(ty:g7)=>dM.len hs j2 ty;rw[dj]at O;by_cases W:0<es.length
 .have Y:ms (iw es=[dX es]):=by show iw es=_; unfold iw; rw[if_pos W]
  have hp:=O1 B es w hs (U W);go_enter func63,ntmps63;go_wp2_with fail;refine hp.mono ?_;rintro e w1 ⟨rfl,hb⟩;have HB:ms _:=hb;have hz:=hb.size;go_wp2;go_ret;refine⟨_,rfl,?_,HB.out.alloc hz _⟩;rw[Y.out];exact Rd.one iH
 .have Y:ms (iw es=[]):=by show iw es=_; unfold iw; rw[if_neg W]
  go_wp2;go_ret;refine⟨_,rfl,?_,mv ..⟩;rw[Y.out];exact Rd.Ht rfl (by omega)
end
section
open Go.RowKit Go.Maps
variable {ss':List (List dq)} {Bb b:Nat} {F:Nat->Prop} {v' vK vM:Value} {w:World}
theorem Ac.jf{w2 w3:World}{buf:List dq}{ss:List (List dq)}{vS:Value}(Y:Ac w F b buf ss Bb vS vM vK)(hF:∀k,F k->k<w.heap.size)(hb:Below w.heap.size w w2)
  (hg:dv (λk=>vS.ownBlock=some k) w2 w3) (B:w3.ownsRow 0 9 1 v' ss'.length (dp (ss'.map dX))) (hv:∀k,v'.ownBlock=some k->vS.ownBlock=some k\/w2.heap.size<=k) :
  (w3.setCell ⟨b,1,none⟩ v').heap[b]?=some (.cells #[.map (some Bb),v',vM,vK] 90 (0,0))/\ey (w3.setCell ⟨b,1,none⟩ v') Bb buf/\(w3.setCell ⟨b,1,none⟩ v').ownsRow 0 9 1 v' ss'.length (dp (ss'.map dX))/\
   dv F w (w3.setCell ⟨b,1,none⟩ v')/\(∀k,v'.ownBlock=some k->(F k\/w.heap.size<=k)/\k<w3.heap.size):=by
 have aa:w2.heap[b]?=some (.cells #[.map (some Bb),vS,vM,vK] 90 (0,0)):=by rw[hb.block b (hF b Y.fb)]; exact Y.blk
 have ad:=eQ aa;have ae:=hV (hF Bb Y.fB) hb.size;have O:=eF Y.row (λk hk=>hb.block k (hF k (Y.kX k hk)));have U:=dM.stay Y.say (hb.block Bb (hF Bb Y.fB));have ab:w3.heap[b]?=some (.cells #[.map (some Bb),vS,vM,vK] 90 (0,0)):=by rw[hg.block b ad (pE aa O (by decide))]; exact aa
 have W:=dM.stay U (hg.block Bb ae (λe=>pY O U e.symm));have ac:∀k,k≠b->(w3.setCell ⟨b,1,none⟩ v').heap[k]?=w3.heap[k]?:=λk hk=>mx _ _ _ _ (λe=>hk e);refine⟨by rw[heap_set ab]; rfl,dM.stay W (ac Bb (λe=>dM.nz W ab e)),eF B (λk hk=>ac k (λe=>pE ab B (by decide) (by rw[hk,e]))),?_,λk hk=>⟨?_,(B.lt k hk).2⟩⟩
 .exact((dv.fC hb).trans hg (λi _ hi=>Y.kX i hi)).then (k7 Y.fb)
 .rcases hv k hk with h|h
  .exact Or.inl (Y.kX k h)
  .exact Or.inr (ie hb.size h)
def pO(ss:List (List dq))(l:List dq):List (List dq):=if 0<l.length then ss++[l]else ss
theorem Hx(ss:List (List dq))(l:List dq):(pO ss l).length=ss.length+(dp (iw l)).length:=by
 unfold pO iw;split<;>simp[dp]
theorem F9(ss:List (List dq))(l:List dq):dp ((pO ss l).map dX)=dp (ss.map dX)++dp (iw l):=by
 unfold pO iw;split<;>simp[dp]
theorem uo(es:List dq):(iw es).length<=1:=by unfold iw; split<;>simp
theorem dv.Mx{w':World}{o:Option Nat}(h:w.grownBy w' o):dv (λk=>o=some k) w w':=⟨h.os,h.tape,h.output,h.size,λk B O=>h.block k B (λe=>O e.symm)⟩
theorem IZ{w4:World}(fb:F b)(Y:w4.heap[b]?=some (.cells #[.map (some Bb),v',vM,vK] 90 (0,0)))
  (p3:w4.ownsRow 0 9 1 v' ss'.length (dp (ss'.map dX))) (p4:dv F w w4) (p5:∀k,v'.ownBlock=some k->(F k\/w.heap.size<=k)/\k<w4.heap.size) (hi:Inv [] ss') :
  ∃F':Nat->Prop,sX vM vK ((w4.alloc (.map #[] 0)).setCell ⟨b,0,none⟩ (.map (some w4.heap.size))) F' b [] ss'/\(∀k,F' k->F k\/w.heap.size<=k)/\dv F w ((w4.alloc (.map #[] 0)).setCell ⟨b,0,none⟩ (.map (some w4.heap.size))):=by
 have O:Below _ w4 (w4.alloc (.map #[] 0)):=(mv ..).alloc (hX _) _;have aa:ey _ _ []:=dM.made w4;have ab:(w4.alloc (.map #[] 0)).heap.size=w4.heap.size+1:=by simp
 generalize (w4.alloc _)=U at *;have ac:=eQ Y;have ad:U.heap[b]?=some (.cells #[.map (some Bb),v',vM,vK] 90 (0,0)):=by rw[O.block b ac]; exact Y
 have W:∀k,k≠b->(U.setCell ⟨b,0,none⟩ (.map (some w4.heap.size))).heap[k]?=U.heap[k]?:=λk B=>mx _ _ _ _ (λe=>B e);have ae:(U.setCell ⟨b,0,none⟩ (.map (some w4.heap.size))).heap.size=U.heap.size:=by simp[m9]
 refine⟨λk=>(F k\/w.heap.size<=k)/\k<w4.heap.size+1,⟨λk B=>by rw[ae,ab]; exact B.2,w4.heap.size,v',?_⟩,λk B=>B.1,?_⟩
 .exact {
   blk:=by rw[heap_set ad]; rfl
   fb:=⟨Or.inl fb,by omega⟩,fB:=⟨Or.inr p4.size,by omega⟩,say:=dM.stay aa (W _ (by omega)),row:=eF p3 (λk B=>by rw[W k (λe=>pE Y p3 (by decide) (by rw[B,e])),O.block k (p5 k B).2]),kX:=λk B=>⟨(p5 k B).1,by have:=(p5 k B).2; omega⟩
   inv:=hi}
 .exact(p4.then (dv.fC O)).then (k7 fb)
theorem Su(w:World)(F:Nat->Prop)(b:Nat)(buf:List dq)(ss:List (List dq))(hP:sX vM vK w F b buf ss) :
  g5 prog 29 #[.pointer (some ⟨b,0,none⟩)] w λe w'=>e=.returned (.int .i64 (eV buf ss).1)/\
   ∃F':Nat->Prop,sX vM vK w' F' b (eV buf ss).2.1 (eV buf ss).2.2/\(∀k,F' k->F k\/w.heap.size<=k)/\dv F w w':=by
 have HP:ms (sX _ _ _ _ _ _ _):=hP;obtain⟨i9,a6,a7,a8,a9⟩:=g8 vY;have aF:=@run_makeMap prog;obtain⟨hF,Bb,vS,U⟩:=hP;obtain⟨aS,cS,rfl,aG⟩:=dN U.row;have HE:ms (Ac _ _ _ _ _ _ _ _ _):=U;have HF:ms (∀k,F k->k<w.heap.size):=hF;have aH:w.cell? ⟨b,0,none⟩=some (.map (some Bb)):=by rw[dh U.blk]; rfl
 have a':w.cell? ⟨b,1,none⟩=some (.slice aS ss.length cS):=by rw[dh U.blk]; rfl
 have aI:w.frozen? ⟨b,1,none⟩=false:=dK U.blk 1;have W:=λ(ty:g7)=>dM.len U.say j2 ty;rw[dj]at W;have h6:=U.inv.qk;have HI:ms (Inv (eV buf ss).2.1 (eV buf ss).2.2):=AD U.inv;have aJ:=rK U.inv;have aA:=hF b U.fb;clear hF U;by_cases h0:buf.length=0
 .have HU:ms (eV buf ss=(5,buf,ss)):=by show eV _ _=_; unfold eV; rw[if_pos h0]
  rw[h0]at W;clear h0;go_enter ko,kj;go_wp2;go_ret;refine⟨eS (by rw[HU.out]; rfl),F,?_,λk hk=>Or.inl hk,dv.refl _ _⟩;rw[HU.out];exact HP.out
 .have aB:((buf.length:Int)==0)=false:=beq_eq_false_iff_ne.2 (by omega);by_cases Y:6<=ss.length
  .have HU:ms (eV buf ss=(4,buf,ss)):=by show eV _ _=_; unfold eV; rw[if_neg h0,if_pos Y]
   have av:(6:Int)<=(ss.length:Int):=by omega
   clear h0 Y;go_enter ko,kj;go_wp2;go_ret;refine⟨eS (by rw[HU.out]; rfl),F,?_,λk hk=>Or.inl hk,dv.refl _ _⟩;rw[HU.out];exact HP.out
  .have HU:ms (eV buf ss=(0,[],if 0<(eY buf ss).length then ss++[eY buf ss]else ss)):=by show eV _ _=_; unfold eV; rw[if_neg h0,if_neg Y]
   have av:¬(6:Int)<=(ss.length:Int):=by omega
   have ah:ms (0<(eY buf ss).length->ni (eY buf ss)):=by
    intro hp;have hi:=HI.out;rw[HU.out]at hi;simp only[if_pos hp]at hi;exact hi.jf _ (by simp)
   clear h0;have ai:ms (eV buf ss=(0,[],pO ss (eY buf ss))):=HU.out;have aw:ms (Inv [] (pO ss (eY buf ss))):=by have:=HI.out; rw[ai.out]at this; exact this
   by_cases aj:ss.length=0
   case' pos=>
    have ad:ms (eY buf ss=dx buf):=by show eY _ _=_; unfold eY; rw[if_pos aj]
    have ae:((ss.length:Int)==0)=true:=beq_iff_eq.2 (by omega);have ax:=qW Bb buf w HE.out.say (by omega) (λe he=>Bi HE.out.inv buf (by simp) e he);clear Y aj;go_enter ko,kj;go_wp2_with fail;refine ax.mono ?_;rintro e w1 ⟨C,rfl,hC,ay,O⟩;have ak:ms (Below w.heap.size w w1.drew):=⟨O.os,O.tape,O.output,O.size,O.block⟩;have aK:w1.cell? ⟨b,1,none⟩=some (.slice aS ss.length cS):=gt O a';have al:=CW C (eY buf ss) w1.drew (by rw[ad.out]; exact ay) ah.out;clear ax ay O
   case' neg=>
    have ad:ms (eY buf ss=buf):=by show eY _ _=_; unfold eY; rw[if_neg aj]
    have ae:((ss.length:Int)==0)=false:=beq_eq_false_iff_ne.2 (by omega);have al:=CW Bb (eY buf ss) w.drew (by rw[ad.out]; exact HE.out.say) ah.out;have ak:ms (Below w.heap.size w w.drew):=⟨rfl,rfl,rfl,hX _,λ_ _=>rfl⟩;clear Y;go_enter ko,kj
   all_goals
    go_wp2_with fail;clear W aB av ae ad HU ah;generalize eY buf ss=X at *;refine g6 (S:=λw'=>True) (by kernel_rfl) ?_;refine fR 0 ?_ trivial ?_<|fR 1 ?_ trivial ?_<|fR 2 ?_ trivial ?_<|fR 3 ?_ trivial ?_<|fR 5 ?_ trivial ?_ ?_
    any_goals(rintro w' _; go_simp; first|done|with_reducible rfl)
    refine hU (rs:=[4,6]) (by kernel_rfl) (by simp) ?_;intro i hi;simp only[fa,e0,or_false]at hi;rcases hi with rfl|rfl
    case' inl=>
     refine hw (by rfl) λK' B=>?_;rw[if_pos (by rfl)];unfold m4;go_simp;refine B _ _ ⟨trivial,?_⟩;clear B;refine l8 6 λK' B=>?_
    case' inr=>
     refine hw (by rfl) λK' B=>?_;rw[if_pos (by rfl)]
    all_goals
     unfold m4;go_simp;refine al.mono ?_;rintro e w2 ⟨v2,rfl,az,a0⟩;have aa:Below w.heap.size w w2:=ak.out.trans (a0.mono ak.out.size);have aL:=aa.size;have ab:w2.heap[b]?=some (.cells #[.map (some Bb),.slice aS ss.length cS,vM,vK] 90 (0,0)):=by rw[aa.block b aA]; exact HE.out.blk
     have am:w2.ownsRow 0 9 1 (.slice aS ss.length cS) ss.length (dp (ss.map dX)):=eF HE.out.row (λk hk=>aa.block k (HF.out k (HE.out.kX k hk)));have aM:w2.cell? ⟨b,1,none⟩=some (.slice aS ss.length cS):=by rw[dh ab]; rfl
     refine B _ _ ⟨trivial,?_⟩;clear B al a0
    case' inr=>
     refine l8 4 λK' B=>?_;unfold m4;go_simp;refine B _ _ ⟨trivial,?_⟩;clear B
    all_goals
     refine l8 7 λK' B=>?_;refine uC _ _ _ 31 rfl 0 9 i9 (.string ⟨#[]⟩) 16 i' a6 a7 a8 a9 rfl _ _ _ rfl am _ _ rfl az kF ?c1 ?c2 (hY _) ?_
     case c1=>rw[dE]; have:=uo X; omega
     case c2=>rw[dE]; have:=uo X; unfold gv; omega
     intro v3 w3 an ao a4;obtain⟨a3,c3,rfl,aN⟩:=dN an;have ap:w3.heap[b]?=some (.cells #[.map (some Bb),.slice aS ss.length cS,vM,vK] 90 (0,0)):=by rw[ao.block b (eQ ab) (λe=>pE ab am (by decide) e.symm)]; exact ab
     refine B _ _ ⟨trivial,?_⟩;clear B
     have ac:w3.ownsRow 0 9 1 (.slice a3 (ss.length+(dp (iw X)).length) c3) (pO ss X).length (dp ((pO ss X).map dX)):=by
      rw[F9,Hx];exact an
     have af:=HE.out.jf HF.out aa (dv.Mx ao) ac (λk hk=>by
      rcases a4 with h|h
      .exact Or.inl (h.symm.trans hk)
      .have aC:=h.symm.trans hk; cases aC; exact Or.inr (hX _))
     refine fR 8 ?_ trivial ?_<|fR 9 ?_ trivial ?_ ?_
     any_goals(rintro w' _; go_simp; first|done|with_reducible rfl)
     have aD:w3.cell? ⟨b,1,none⟩=some (.slice aS ss.length cS):=by rw[dh ap]; rfl
     have aE:w3.frozen? ⟨b,1,none⟩=false:=dK ap 1;clear an ao a4 ac ap am az ab aa;refine l8 10 λK' B=>?_;unfold m4;go_simp;refine B _ _ ⟨trivial,g9 (by kernel_rfl) ?_ _⟩;clear B aD aE;obtain⟨w4,aq⟩:∃w4,w4=w3.setCell ⟨b,1,none⟩ (.slice a3 (ss.length+(dp (iw X)).length) c3):=⟨_,rfl⟩;have a5:w4.heap.size=w3.heap.size:=by rw[aq]; simp[m9]
     rw[<-aq]at af⊢;obtain⟨p1,p2,p3,p4,p5⟩:=af;rw[<-a5]at p5;have ag:=IZ HE.out.fb p1 p3 p4 p5 aw.out;have ar:(w4.alloc (.map #[] 0)).heap[b]?=some (.cells #[.map (some Bb),.slice a3 (ss.length+(dp (iw X)).length) c3,vM,vK] 90 (0,0)):=by rw[m0 _ _ _ (eQ p1)]; exact p1
     have aO:(w4.alloc (.map #[] 0)).cell? ⟨b,0,none⟩=some (.map (some Bb)):=by rw[dh ar]; rfl
     have aP:(w4.alloc (.map #[] 0)).frozen? ⟨b,0,none⟩=false:=dK ar 0;have au:ms (∃F':Nat->Prop,sX vM vK ((w4.alloc (.map #[] 0)).setCell ⟨b,0,none⟩ (.map (some w4.heap.size))) F' b [] (pO ss X)/\(∀k,F' k->F k\/w.heap.size<=k)/\dv F w ((w4.alloc (.map _ 0)).setCell _ _)):=ag;clear aq a5 p1 p2 p3 p4 p5 ag ar;go_wp2;go_ret;refine⟨eS (by rw[ai.out]; rfl),?_⟩;rw[ai.out];exact au.out
end
section
open Go.RowKit Go.Maps
theorem T6{w:World}{C D:Nat}{O lb:List dq}{t:g7}{g:Nat}(U:g=w.heap.size)(W:ey w C O)(Y:ey w D lb):JH (w.alloc (.cells #[.map (some C),.map (some D)] t)) (.slice (some ⟨g,0,none⟩) 2 2) [C,D] [O,lb] where
 rd:=by
  subst U;refine⟨some ⟨w.heap.size,0,none⟩,2,rfl,hX _,by unfold gv; omega,λj u B=>⟨w.heap.size,0,rfl,?_⟩⟩;rw[m8 _ _ _ _ rfl]
  match j,B with
  |0,B=>simpa[yj]using B
  |1,B=>simpa[yj]using B
  |j+2,B=>simp at B
 len:=rfl
 each:=λi h h'=>by
  have hb:Below w.heap.size w (w.alloc (.cells #[.map (some C),.map (some D)] t)):=(mv _ _).alloc (hX _) _
  match i,h,h' with
  |0,_,_=>exact dM.below W hb
  |1,_,_=>exact dM.below Y hb
  |i+2,h,_=>exact absurd h (by simp)
theorem LI{w w4:World}{F:Nat->Prop}{b:Nat}{buf:List dq}{ss ss':List (List dq)}{Bb:Nat}{vS vM vK v':Value}(O:Ac w F b buf ss Bb vS vM vK)(hF:∀k,F k->k<w.heap.size)
  (h:w4.heap[b]?=some (.cells #[.map (some Bb),v',vM,vK] 90 (0,0))/\ey w4 Bb buf/\w4.ownsRow 0 9 1 v' ss'.length (dp (ss'.map dX))/\dv F w w4/\(∀k,v'.ownBlock=some k->(F k\/w.heap.size<=k)/\k<w4.heap.size)) (hi:Inv buf ss') :
  ∃F':Nat->Prop,sX vM vK w4 F' b buf ss'/\(∀k,F' k->F k\/w.heap.size<=k)/\dv F w w4:=by
 obtain⟨U,p2,p3,p4,W⟩:=h;refine⟨λk=>(F k\/w.heap.size<=k)/\k<w4.heap.size,⟨λk B=>B.2,Bb,v',?_⟩,λk B=>B.1,p4⟩
 exact {
  blk:=U,fb:=⟨Or.inl O.fb,eQ U⟩,fB:=⟨Or.inl O.fB,hV (hF Bb O.fB) p4.size⟩,say:=p2,row:=p3,kX:=λk B=>W k B
  inv:=hi}
end
section
open Go.RowKit Go.Maps
theorem rZ{P:Program}(w:World)(t ty elem:g7)(g off k c:Nat)(z:Value)(B:Array Value)(T:g7)(hu:P.underlying t=some (.slice elem))(hz:(zeroValue elem).run P w=.ok z w)(O:z.cells=#[z])(h1:z.oneCell'=true)
  (hg:w.heap[g]?=some (.cells B T (0,0))) (hk:0<k) (ab:off+k<=B.size) :
  ∃U:List Value,U.length=B.size/\(∀j,j<off->U[j]?=B[j]?)/\(nr #[t] ty #[.slice (some ⟨g,off,none⟩) k c]).run P w=.ok (.tuple #[]) (w.setRow g U.toArray):=by
 obtain⟨k',rfl⟩:∃k',k=k'+1:=⟨k-1,by omega⟩;have W:(nl #[z] (k'+1)).toList.length=k'+1:=by simp[size_zeroCells]
 have Y:∀v∈(nl #[z] (k'+1)).toList,v.oneCell'=true:=by
  intro v hv;simp[nl,Nat.mod_one]at hv;rw[<-hv.2];exact h1
 have aa:=run_storeCells_at P g off T _ 0 B w hg (by omega) Y;refine⟨B.toList.take (off+0)++(nl #[z] (k'+1)).toList++B.toList.drop (off+0+(nl #[z] (k'+1)).toList.length),?_,?_,?_⟩
 .rw[cc,cc,W];simp;omega
 .intro j hj;rw[dm,cx (by simp; omega),dg,if_pos (by omega)];simp
 .unfold nr;simp[run_underlying hu,hz,O,aa]
theorem oM{w:World}{g:Nat}{cs:Array Value}:dv (· = g) w (w.setRow g cs):=⟨rfl,rfl,rfl,by simp[World.setRow],λk _ B=>setRow_other w g k cs (λe=>B (by omega))⟩
theorem s4{w':World}{e m:Nat}{g cap:Nat}{U:List Value}{O:Array Value}(hm:m<=cap)(B:cap<=gv)(hy:U.length=m)(W:w'.heap[g]?=some (.cells O e (0,0)))(hl:O.size=cap)(Y:∀j,j<m->O[j]?=U[j]?):w'.ownsRow 0 e 1 (.slice (some ⟨g,0,none⟩) m cap) m U:=by
 refine⟨by omega,Or.inr ⟨g,cap,O,rfl,hY _,W,hm,B,by omega,?_⟩⟩;apply List.ext_getElem?;intro j;rw[dg];split
 .rw[m2];exact Y j (by omega)
 .rw[List.getElem?_eq_none (by omega)]
theorem wL{P:Program}(w:World)(t ty e:g7)(i:TypeInfo)(ht:P.underlying t=some (.slice e))(hi:P.info? e=some i)(B:i.size=1)(g n c:Nat)(O:Array Value)(hg:w.heap[g]?=some (.cells O e (0,0)))(aa:O.size=c)
  (x:Value) (news:List Value) (hx:Rd w x news) (h1:∀u∈news,u.oneCell'=true) (U:n+news.length<=c) :
  ∃l':List Value,l'.length=c/\(∀j,j<n->l'[j]?=O[j]?)/\(∀j,j<news.length->l'[n+j]?=news[j]?)/\(no #[t,t] ty #[.slice (some ⟨g,0,none⟩) n c,x]).run P w=.ok (.slice (some ⟨g,0,none⟩) (n+news.length) c) (w.setRow g l'.toArray):=by
 obtain⟨a,cap,rfl,hc,hm,ab⟩:=hx
 cases a with
 |none=>
  have hn:news=[]:=by
   cases news with
   |nil=>rfl
   |cons u us=>obtain⟨b,off,he,_⟩:=ab 0 u rfl; simp at he
  subst hn;refine⟨O.toList,by simpa using aa,λj _=>by simp,nofun,?_⟩;have:=kg (P:=P) w t ty e i ht hi (some ⟨g,0,none⟩) n c cap (by omega);simp only[e6,iv];rw[this,hQ w g O e _ hg]
 |some ad=>
  have W:∀j u,news[j]?=some u->w.cell? (ad.add j)=some u:=by
   intro j u hj;obtain⟨b,off,he,Y⟩:=ab j u hj;simp only[m6]at he;subst he;rw[Addr.add_lit]; exact Y
  have hl:news.length=news.length*i.size:=by rw[B]; omega
  have ac:=run_append_room (P:=P) w t ty e i ht hi g n c O hg ad _ cap news hl W h1 U (by rw[B]; omega);rw[B,Nat.mul_one]at ac;have jQ:O.toList.length=c:=by simpa using aa
  refine⟨_,?_,?_,?_,ac⟩
  .simp only[cc,cp,di,jQ];omega
  .intro j hj;rw[dm,cx (by rw[cp]; omega),dg,if_pos hj];simp
  .intro j hj;rw[dm,df (by rw[cp]; omega),cp,hZ (by omega),ip,cx hj]
theorem sD{P:Program}(w:World){ops:Array Oper}{rest:List Oper}{o:Oper}{a:Act}{Q:Exit->Act->World->Prop}(Y:o.guard=none)(s x:Operand)(t:g7)
  (ho:o.op=.call {callee:=.builtin .append,args:=#[s,x],argTypes:=#[t,t]}) (e:g7) (i:TypeInfo) (ht:P.underlying t=some (.slice e)) (hi:P.info? e=some i) (O:i.size=1) (g n c:Nat) (B:Array Value) (hg:w.heap[g]?=some (.cells B e (0,0))) (aa:B.size=c)
  (hs:a.eval s=.slice (some ⟨g,0,none⟩) n c) (y:Value) (news:List Value) (hx:a.eval x=y) (hy:Rd w y news) (h1:∀u∈news,u.oneCell'=true) (U:n+news.length<=c)
  (h:∀W:List Value,W.length=c->(∀j,j<n->W[j]?=B[j]?)->(∀j,j<news.length->W[n+j]?=news[j]?)->h8 P ops Q rest (a.put o.dst (.slice (some ⟨g,0,none⟩) (n+news.length) c)) (w.setRow g W.toArray)):h8 P ops Q (o::rest) a w:=by
 refine hJ Y λ_ hK=>?_;obtain⟨W,h2,h3,h4,hr⟩:=wL (P:=P) w t o.type e i ht hi O g n c B hg aa y news hy h1 U;unfold m4 hI;simp only[ho,h7,invoke,builtin,on,oj,oo,ek,ej,et,hs,hx,hr];exact hK _ _ (h W h2 h3 h4)
theorem DH(w:World)(g n cap:Nat)(xs:List Wd)(v:Value)(ps:List Wd)(Y:w.ownsRow 0 9 1 (.slice (some ⟨g,0,none⟩) xs.length cap) xs.length (dp xs))(hv:Rd w v (dp ps))(aE:ps.length<=1)(hn:n+2=xs.length)(ar:xs.length<=6) :
  g5 prog 74 #[.slice (some ⟨g,0,none⟩) xs.length cap,.int .i64 n,.int .i64 ((n:Int)+2),v] w λe w'=>∃v',e=.returned v'/\w'.ownsRow 0 9 1 v' (xs.take n++ps).length (dp (xs.take n++ps))/\dv (· = g) w w'/\∀k,v'.ownBlock=some k->k=g\/w.heap.size<=k:=by
 obtain⟨i9,au,_,aw,_⟩:=g8 vY;obtain⟨av,cv,rfl,ax,hmv,ay⟩:=id hv;rw[dE]at ax⊢;rcases Y.2 with⟨he,_⟩|⟨g',aB,B,he,_,hg,az,hcm,a0,ae⟩
 .cases he
 simp only[m5,m6,o0,and_true,true_and]at he;obtain⟨rfl,rfl⟩:=he
 have af:∀j,j<n->B[j]?=(dp (xs.take n))[j]?:=by
  intro j hj;have h1:=congrArg (λl:List Value=>l[j]?) ae;simp only[dg]at h1;rw[if_pos (by omega),m2]at h1;rw[h1];unfold dp;rw[ee,ee,dg,if_pos hj]
 obtain⟨L,hL⟩:∃L,L=xs.length:=⟨_,rfl⟩;rw[<-hL]at ar hn az⊢;have HV:ms (Rd w (.slice av ps.length cv) (dp ps)):=by have:=hv; rw[dE]at this; exact this
 have HG:ms (w.heap[g]?=some (.cells B 9 (0,0))):=hg;have aa:B.size=cap:=by omega
 have HC:ms (B.size=cap):=aa;have hj:IntKind.i64.wrap ((n:Int)+2)=(n:Int)+2:=by simp only[nc]; omega
 have aF:((n:Int)==(n:Int)+2)=false:=beq_eq_false_iff_ne.2 (by omega);have aG:(((n:Int)+2)==(L:Int))=true:=beq_iff_eq.2 (by omega);have aC:(n:Int)+2<=(cap:Int):=by omega
 have aH:¬cap=n:=by omega
 have O:ms (n+2=L):=hn;have ag:ms (L=xs.length):=hL;have a3:ms (∀j,j<n->B[j]?=(dp (xs.take n))[j]?):=af;unfold gv at hcm hmv;clear hv Y ay hg a0 ae af hL aa hn;go_enter func74,ntmps74;have ah:n+(dp ps).length<=cap:=by rw[dE]; omega
 go_wp2_with (first
  |(at_builtin; refine sD _ rfl _ _ 31 rfl 9 i9 i' au aw g n cap B HG.out HC.out rfl _ _ rfl HV.out kF ah ?_))
 intro l1 ai aj ad;rw[dE]at ad⊢;obtain⟨w1,U⟩:∃w1,w1=w.setRow g l1.toArray:=⟨_,rfl⟩;rw[<-U];have ak:ms (w1.heap[g]?=some (.cells l1.toArray 9 (0,0))):=by show _=_; rw[U]; exact ha w g _ _ _ _ HG.out
 have a4:ms (dv (· = g) w w1):=by show dv _ _ _; rw[U]; exact oM
 have a5:ms (∀j,j<n->l1[j]?=B[j]?):=aj;have a6:ms (∀j,j<ps.length->l1[n+j]?=(dp ps)[j]?):=ad;have al:ms (l1.length=cap):=ai;have aI:((n+ps.length:Nat):Int)<(L:Int):=by have:=O.out; omega
 have aD:¬cap=n+ps.length:=by have:=O.out; omega
 clear ai aj ad U ah;have am:0<L-(n+ps.length):=by have:=O.out; omega
 have ab:n+ps.length+(L-(n+ps.length))<=l1.toArray.size:=by have:=O.out; have:=al.out; simp; omega
 obtain⟨l2,an,ao,a7⟩:=rZ (P:=prog) w1 31 0 9 g (n+ps.length) (L-(n+ps.length)) (cap-(n+ps.length)) (.string ⟨#[]⟩) l1.toArray 9 i' (j1 w1) rfl rfl ak.out am ab;obtain⟨w2,W⟩:∃w2,w2=w1.setRow g l2.toArray:=⟨_,rfl⟩;rw[<-W]at a7;have a8:ms (w2.heap[g]?=some (.cells l2.toArray 9 (0,0))):=by show _=_; rw[W]; exact ha w1 g _ _ _ _ ak.out
 have a9:ms (dv (· = g) w w2):=by show dv _ _ _; rw[W]; exact a4.out.then oM
 have a':ms (∀j,j<n+ps.length->l2[j]?=l1[j]?):=λj hj=>by have:=ao j hj; simpa using this
 have aA:ms (l2.length=cap):=by show _=_; rw[an]; simpa using al.out
 clear an ao W am ab;go_wp2;go_ret;refine⟨_,rfl,?_,a9.out,λk hk=>Or.inl (by simp[ng]at hk; exact hk.symm)⟩
 have ac:(xs.take n++ps).length=n+ps.length:=by
  have:=ag.out;have:=O.out;rw[cc,cp];omega
 rw[ac];refine s4 (by have:=O.out; omega) (by unfold gv; omega) (by rw[dE,ac]) a8.out (by simpa using aA.out) (λj hj=>?_);have e1:(dp (xs.take n++ps))[j]?=(dp (xs.take n)++dp ps)[j]?:=by rw[show dp (xs.take n++ps)=dp (xs.take n)++dp ps by simp[dp]]
 have ap:(dp (xs.take n)).length=n:=by
  have:=ag.out;have:=O.out;rw[dE,cp];omega
 rw[e1,ew,a'.out j hj];by_cases aq:j<n
 .rw[a5.out j aq,cx (by omega),a3.out j aq]
 .rw[df (by omega),ap,<-a6.out _ (by omega),show n+(j-n)=j by omega]
end
section
open Go.RowKit Go.Maps
theorem rY{P:Program}(w:World)(t ty e:g7)(ht:P.underlying t=some (.slice e))(hi:(P.info? e).map (·.size)=some 1)(g off dl dc c:Nat)(B:Array Value)(hg:w.heap[g]?=some (.cells B e (0,0)))(aa:B.size=c)
  (x:Value) (news:List Value) (hx:Rd w x news) (h1:∀u∈news,u.oneCell'=true) (hd:news.length<=dl) (ab:off+news.length<=c) :
  ∃l':List Value,l'.length=c/\(∀j,j<off\/off+news.length<=j->l'[j]?=B[j]?)/\(∀j,j<news.length->l'[off+j]?=news[j]?)/\(n0 #[t,t] ty #[.slice (some ⟨g,off,none⟩) dl dc,x]).run P w=.ok (.int .i64 (news.length:Int)) (w.setRow g l'.toArray):=by
 obtain⟨a,cap,rfl,hc,hm,Y⟩:=hx;have jQ:B.toList.length=c:=by simpa using aa
 cases a with
 |none=>
  have hn:news=[]:=by
   cases news with
   |nil=>rfl
   |cons u us=>obtain⟨b,off,he,_⟩:=Y 0 u rfl; simp at he
  subst hn;refine⟨B.toList,jQ,λj _=>by simp,nofun,?_⟩;have:=run_copy_none (P:=P) w t t ty e (some ⟨g,off,none⟩) none dl dc 0 cap ht hi (by simp);simp only[e6];rw[this,hQ w g B e _ hg];rfl
 |some ad=>
  have U:∀j u,news[j]?=some u->w.cell? (ad.add j)=some u:=by
   intro j u O;obtain⟨b,off,he,W⟩:=Y j u O;simp only[m6]at he;subst he;rw[Addr.add_lit]; exact W
  have ac:=run_copy_row _ w t t ty e g off dl dc ad _ cap B e news ht hi hg (hZ hd).symm U (by omega) h1;refine⟨_,?_,?_,?_,ac⟩
  .simp only[cc,cp,di,jQ];omega
  .intro j O;rcases O with O|O
   .rw[dm,cx (by rw[cp]; omega),dg,if_pos O];simp
   .rw[df (by simp only[cc,cp,jQ]; omega),ga];simp only[cc,cp,jQ];rw[hZ (by omega),show off+news.length+(j-(off+news.length))=j by omega];simp
  .intro j O;rw[dm,df (by rw[cp]; omega),cp,hZ (by omega),ip,cx O]
theorem U3:(prog.info? 9).map (·.size)=some 1:=by kernel_rfl
theorem FP(w:World)(g n q cap:Nat)(xs:List Wd)(v:Value)(ps:List Wd)(ab:w.ownsRow 0 9 1 (.slice (some ⟨g,0,none⟩) xs.length cap) xs.length (dp xs))(hv:Rd w v (dp ps))(aZ:ps.length<=1)(hn:xs.length=n+2+q)(hq:0<q)(a6:xs.length<=6) :
  g5 prog 74 #[.slice (some ⟨g,0,none⟩) xs.length cap,.int .i64 n,.int .i64 ((n:Int)+2),v] w λe w'=>∃v',e=.returned v'/\w'.ownsRow 0 9 1 v' (xs.take n++(ps++xs.drop (n+2))).length (dp (xs.take n++(ps++xs.drop (n+2))))/\dv (· = g) w w'/\∀k,v'.ownBlock=some k->k=g\/w.heap.size<=k:=by
 obtain⟨av,cv,rfl,a7,hmv,a8⟩:=id hv;rw[dE]at a7⊢;rcases ab.2 with⟨he,_⟩|⟨g',aT,B,he,_,hg,a9,hcm,a',al⟩
 .cases he
 simp only[m5,m6,o0,and_true,true_and]at he;obtain⟨rfl,rfl⟩:=he
 have am:∀j,j<xs.length->B[j]?=(dp xs)[j]?:=by
  intro j O;have h1:=congrArg (λl:List Value=>l[j]?) al;simp only[dg]at h1;rw[if_pos (by omega),m2]at h1;exact h1
 have ae:ms (xs.length=n+2+q):=hn;have HV:ms (Rd w (.slice av ps.length cv) (dp ps)):=by have:=hv; rw[dE]at this; exact this
 have HG:ms (w.heap[g]?=some (.cells B 9 (0,0))):=hg;have ac:B.size=cap:=by omega
 have HC:ms (B.size=cap):=ac;have an:ms (∀j,j<xs.length->B[j]?=(dp xs)[j]?):=am;rw[hn]at a6 a9⊢;have ba:((n:Int)==(n:Int)+2)=false:=beq_eq_false_iff_ne.2 (by omega);have bc:(((n:Int)+2)==((n+2+q:Nat):Int))=false:=beq_eq_false_iff_ne.2 (by omega);have aU:(((n:Int)+2)==(n:Int)+2+(q:Int))=false:=beq_eq_false_iff_ne.2 (by omega);have aV:(n:Int)+2<=(cap:Int):=by omega
 have bd:¬cap=n:=by omega
 have aW:¬cap=n+2:=by omega
 unfold gv at hcm hmv;clear hv ab a8 hg a' al am ac hn;go_enter func74,ntmps74;go_wp2_with fail;go_quiet (fail);have ao:ms ((w.drewN nq).heap[g]?=some (.cells B 9 (0,0))):=HG.out;have aA:ms (Rd (w.drewN nq) (.slice av ps.length cv) (dp ps)):=HV.out;have aB:ms (dv (· = g) w (w.drewN nq)):=⟨rfl,rfl,rfl,hX _,λ_ _ _=>rfl⟩;generalize w.drewN nq=wd at *;obtain⟨l1,ap,af,ag,ah⟩:=rY (P:=prog) wd 31 3 9 i' U3 g n (n+ps.length+q-n) (cap-n) cap B ao.out HC.out (.slice av ps.length cv) (dp ps) aA.out kF (by rw[dE]; omega) (by rw[dE]; omega);rw[dE]at af ag ah;obtain⟨w1,U⟩:∃w1,w1=wd.setRow g l1.toArray:=⟨_,rfl⟩;rw[<-U]at ah;have ai:ms (w1.heap[g]?=some (.cells l1.toArray 9 (0,0))):=by show _=_; rw[U]; exact ha wd g _ _ _ _ ao.out
 have aC:ms (dv (· = g) w w1):=by show dv _ _ _; rw[U]; exact aB.out.then oM
 have aq:ms (∀j,j<n\/n+ps.length<=j->l1[j]?=B[j]?):=af;have aD:ms (∀j,j<ps.length->l1[n+j]?=(dp ps)[j]?):=ag;have aE:ms (l1.length=cap):=ap;have aX:¬cap=n+ps.length:=by omega
 have be:(n:Int)+(ps.length:Int)<=(n:Int)+2:=by omega
 clear ap af ag U;go_wp2_with fail;clear ah;have aF:IntKind.i64.wrap ((n:Int)+(ps.length:Int))=(n:Int)+(ps.length:Int):=by simp only[nc]; omega
 have hA:(0:Int)<=(n:Int)+(ps.length:Int):=by omega
 have hB:(n:Int)+(ps.length:Int)<=(n:Int)+(ps.length:Int)+(q:Int):=by omega
 have hT:((n:Int)+(ps.length:Int)).toNat=n+ps.length:=by omega
 have aG:(0:Int)<=(n:Int)+2:=by omega
 have aH:(n:Int)+2<=(n:Int)+2+(q:Int):=by omega
 have aI:((n:Int)+2).toNat=n+2:=by omega
 refine g6 (S:=λw'=>True) (by kernel_rfl) ?_;refine fR 0 ?_ trivial ?_<|fR 1 ?_ trivial ?_<|fR 2 ?_ trivial ?_<|fR 3 ?_ trivial ?_<|fR 4 ?_ trivial ?_<|fR 5 ?_ trivial ?_<|fR 6 ?_ trivial ?_<|fR 7 ?_ trivial ?_<|fR 8 ?_ trivial ?_ ?_
 any_goals(rintro w' _; go_simp; first|done|with_reducible rfl)
 refine l8 9 λK' ar=>?_;unfold m4;go_simp;have W:(dp (xs.drop (n+2))).length=q:=by rw[dE,di,ae.out]; omega
 have au:Rd w1.drew (.slice (some ⟨g,n+2,none⟩) q (cap-(n+2))) (dp (xs.drop (n+2))):=by
  refine⟨some ⟨g,n+2,none⟩,cap-(n+2),by rw[W],by rw[W]; omega,by unfold gv; omega,λj u O=>⟨g,n+2,rfl,?_⟩⟩
  have bf:j<q:=by
   have:=(List.getElem?_eq_some_iff.1 O).1;omega
  show w1.cell? _=_;rw[dh ai.out];show l1.toArray[n+2+j]?=_;rw[ew,aq.out _ (Or.inr (by omega)),an.out _ (by rw[ae.out]; omega),<-O];unfold dp;rw[ee,ee,ga]
 obtain⟨l2,aw,aj,ak,ax⟩:=rY (P:=prog) w1.drew 31 3 9 i' U3 g (n+ps.length) q (cap-(n+ps.length)) cap l1.toArray ai.out (by simpa using aE.out) _ _ au kF (by omega) (by omega);rw[ax];rw[W]at aj ak;obtain⟨w2,Y⟩:∃w2,w2=w1.drew.setRow g l2.toArray:=⟨_,rfl⟩;rw[<-Y];have ay:ms (w2.heap[g]?=some (.cells l2.toArray 9 (0,0))):=by show _=_; rw[Y]; exact ha w1.drew g _ _ _ _ ai.out
 have aJ:ms (dv (· = g) w w2):=by
  show dv _ _ _;rw[Y];have h1:dv (· = g) w1 w1.drew:=⟨rfl,rfl,rfl,hX _,λ_ _ _=>rfl⟩;exact(aC.out.then h1).then oM
 have az:ms (∀j,j<n+ps.length\/n+ps.length+q<=j->l2[j]?=l1[j]?):=λj O=>by have:=aj j O; simpa using this
 have aK:ms (∀j,j<q->l2[n+ps.length+j]?=(dp (xs.drop (n+2)))[j]?):=ak;have a0:ms (l2.length=cap):=aw;clear aw aj ak ax Y au W;refine ar _ _ ⟨trivial,g9 (by kernel_rfl) ?_ _⟩;clear ar aF hA hB hT aG aH aI;have aY:¬cap=n+ps.length+q:=by omega
 obtain⟨l3,a3,a4,aL⟩:=rZ (P:=prog) w2 31 0 9 g (n+ps.length+q) (n+2+q-(n+ps.length+q)) (cap-(n+ps.length+q)) (.string ⟨#[]⟩) l2.toArray 9 i' (j1 w2) rfl rfl ay.out (by omega) (by have:=a0.out; simp; omega);obtain⟨w3,aa⟩:∃w3,w3=w2.setRow g l3.toArray:=⟨_,rfl⟩;rw[<-aa]at aL;have aM:ms (w3.heap[g]?=some (.cells l3.toArray 9 (0,0))):=by show _=_; rw[aa]; exact ha w2 g _ _ _ _ ay.out
 have aN:ms (dv (· = g) w w3):=by show dv _ _ _; rw[aa]; exact aJ.out.then oM
 have aO:ms (∀j,j<n+ps.length+q->l3[j]?=l2[j]?):=λj O=>by have:=a4 j O; simpa using this
 have aP:ms (l3.length=cap):=by show _=_; rw[a3]; simpa using a0.out
 clear a3 a4 aa;go_wp2;go_ret;refine⟨_,rfl,?_,aN.out,λk hk=>Or.inl (by simp[ng]at hk; exact hk.symm)⟩;have bg:=ae.out
 have ad:(xs.take n++(ps++xs.drop (n+2))).length=n+ps.length+q:=by
  rw[cc,cc,cp,di];omega
 have aQ:(dp (xs.take n)).length=n:=by rw[dE,cp]; omega
 have aR:(dp ps).length=ps.length:=dE ps;rw[ad];refine s4 (by omega) (by unfold gv; omega) (by rw[dE,ad]) aM.out (by simpa using aP.out) (λj O=>?_);rw[show dp (xs.take n++(ps++xs.drop (n+2)))=dp (xs.take n)++(dp ps++dp (xs.drop (n+2))) by simp[dp],ew,aO.out j O];by_cases a5:j<n
 .rw[az.out j (Or.inl (by omega)),aq.out j (Or.inl a5),an.out j (by omega),cx (by omega)];unfold dp;rw[ee,ee,dg,if_pos a5]
 .rw[df (by omega),aQ];by_cases aS:j<n+ps.length
  .rw[az.out j (Or.inl aS),cx (by omega),<-aD.out (j-n) (by omega),show n+(j-n)=j by omega]
  .rw[df (by omega),aR,<-aK.out (j-n-ps.length) (by omega),show n+ps.length+(j-n-ps.length)=j by omega]
theorem Ge(w:World)(g n cap:Nat)(xs:List Wd)(v:Value)(ps:List Wd)(B:w.ownsRow 0 9 1 (.slice (some ⟨g,0,none⟩) xs.length cap) xs.length (dp xs))(W:Rd w v (dp ps))(O:ps.length<=1)(Y:n+2<=xs.length)(U:xs.length<=6) :
  g5 prog 74 #[.slice (some ⟨g,0,none⟩) xs.length cap,.int .i64 n,.int .i64 ((n:Int)+2),v] w λe w'=>∃v',e=.returned v'/\w'.ownsRow 0 9 1 v' (xs.take n++(ps++xs.drop (n+2))).length (dp (xs.take n++(ps++xs.drop (n+2))))/\dv (· = g) w w'/\∀k,v'.ownBlock=some k->k=g\/w.heap.size<=k:=by
 by_cases h:n+2=xs.length
 .have e:xs.drop (n+2)=[]:=fk (by omega);rw[e,dt];exact DH w g n cap xs v ps B W O h U
 .exact FP w g n (xs.length-(n+2)) cap xs v ps B W O (by omega) (by omega) U
end
section
open Go.RowKit Go.Maps
def nU(ss:List (List dq))(m:Nat)(l:List dq):List (List dq):=ss.take m++((if 0<l.length then [l]else [])++ss.drop (m+2))
theorem tI(ss:List (List dq))(m:Nat)(l:List dq):(nU ss m l).map dX=(ss.map dX).take m++(iw l++(ss.map dX).drop (m+2)):=by
 unfold nU iw;split<;>simp
def SN(b g m B:Nat)(x y:Wd)(n:Nat)(w':World):Prop:=w'.cell? ⟨b,1,none⟩=some (.slice (some ⟨g,0,none⟩) n B)/\w'.cell? ⟨g,m,none⟩=some (.string ⟨x.toArray⟩)/\w'.cell? ⟨g,m+1,none⟩=some (.string ⟨y.toArray⟩)
theorem Sj{vM vK:Value}(w:World)(F:Nat->Prop)(b:Nat)(buf:List dq)(ss:List (List dq))(n:Int)(hP:sX vM vK w F b buf ss) :
  g5 prog 39 #[.pointer (some ⟨b,0,none⟩),.int .i64 n] w λe w'=>e=.returned (.int .i64 (eP ss n).1)/\
   ∃F':Nat->Prop,sX vM vK w' F' b buf (eP ss n).2/\(∀k,F' k->F k\/w.heap.size<=k)/\dv F w w':=by
 have HP:ms (sX _ _ _ _ _ _ _):=hP;obtain⟨hF,Bb,vS,hE⟩:=hP;obtain⟨aS,cS,rfl,bm⟩:=dN hE.row;have HF:ms (∀k,F k->k<w.heap.size):=hF;have aI:w.cell? ⟨b,1,none⟩=some (.slice aS ss.length cS):=by rw[dh hE.blk]; rfl
 have h6:=hE.inv.qk;have aZ:=hF b hE.fb;have W:ms (Ac _ _ _ _ _ _ _ _ _):=hE;clear hF hE;by_cases h0:n<0
 .have HU:ms (eP ss n=(6,ss)):=by show eP _ _=_; unfold eP; rw[if_pos (Or.inl h0)]
  go_enter mr,lB;go_wp2;go_ret;refine⟨eS (by rw[HU.out]; rfl),F,?_,λk hk=>Or.inl hk,dv.refl _ _⟩;rw[HU.out];exact HP.out
 .have bn:IntKind.i64.wrap ((ss.length:Int)-1)=(ss.length:Int)-1:=by simp only[nc]; omega
  by_cases h1:(ss.length:Int)-1<=n
  .have HU:ms (eP ss n=(6,ss)):=by show eP _ _=_; unfold eP; rw[if_pos (Or.inr h1)]
   go_enter mr,lB;go_wp2;go_ret;refine⟨eS (by rw[HU.out]; rfl),F,?_,λk hk=>Or.inl hk,dv.refl _ _⟩;rw[HU.out];exact HP.out
  .obtain⟨m,rfl⟩:∃m:Nat,n=(m:Int):=⟨n.toNat,by omega⟩;have hm:m+1<ss.length:=by omega
   have an:m<ss.length:=by omega
   obtain⟨g,rfl⟩:∃g,aS=some ⟨g,0,none⟩:=by
    rcases W.out.row.2 with⟨he,_⟩|⟨g,cap,bo,he,_⟩
    .simp only[m5]at he; omega
    .simp only[m5]at he;exact⟨g,he.1⟩
   have ao:ms (iQ ss m=if m=0 then dx (dJ ss[m] ss[m+1])else dJ ss[m] ss[m+1]):=by
    show iQ _ _=_;unfold iQ;rw[dk,dk,dd an,dd hm];rfl
   have HU:ms (eP ss (m:Int)=if 100<iY (iQ ss m)then(4,ss)else(0,ss.take m++((if 0<(iQ ss m).length then [iQ ss m]else [])++ss.drop (m+2)))):=by
    show eP _ _=_;unfold eP;rw[if_neg (by omega),Int.toNat_natCast,jv];rfl
   have ba:w.cell? ⟨g,m,none⟩=some (.string ⟨(dX ss[m]).toArray⟩):=by
    obtain⟨b',off,e,hc⟩:=iZ W.out.row m (.string ⟨(dX ss[m]).toArray⟩) (by simp[dp,an]);cases e;rw[i7]at hc;exact hc
   have bc:w.cell? ⟨g,m+1,none⟩=some (.string ⟨(dX ss[m+1]).toArray⟩):=by
    obtain⟨b',off,e,hc⟩:=iZ W.out.row (m+1) (.string ⟨(dX ss[m+1]).toArray⟩) (by simp[dp,hm]);cases e;rw[i7]at hc;exact hc
   have a4:ms (∀l∈[ss[m],ss[m+1]],∀e∈l,e.name.length<=gv):=by
    intro l hl e he;simp only[fa,e0,or_false]at hl;rcases hl with rfl|rfl
    .exact qR (W.out.inv.jf _ (ch an)) e he
    .exact qR (W.out.inv.jf _ (ch hm)) e he
   have ap:ms (fX [ss[m],ss[m+1]]=dJ ss[m] ss[m+1]):=by
    show _=_;unfold fX;simp only[List.foldl_cons,List.foldl_nil];rw[mh]
   have a5:ms (∀e∈dJ ss[m] ss[m+1],e.name.length<=gv):=by
    rw[<-ap.out];exact vN a4.out
   have ag:ms ((dJ ss[m] ss[m+1]).length<=1000):=by
    have h1:=mT (W.out.inv.jf _ (ch an));have h2:=mT (W.out.inv.jf _ (ch hm));have h3:=uU [ss[m],ss[m+1]] 2 (by simp);simp only[List.take]at h3;rw[ap.out]at h3;have h4:iy [ss[m],ss[m+1]]<=1000:=by simp[iy]; omega
    show _<=_;omega
   have bp:(0:Int)<=(m:Int):=by omega
   have bq:(m:Int)<(ss.length:Int):=by omega
   have br:(m:Int)+1<(ss.length:Int):=by omega
   have bs:IntKind.i64.wrap ((m:Int)+1)=(m:Int)+1:=by simp only[nc]; omega
   have bt:IntKind.i64.wrap ((m:Int)+2)=(m:Int)+2:=by simp only[nc]; omega
   have bu:((m:Int)+1).toNat=m+1:=by omega
   have bv:(0:Int)<=(m:Int)+1:=by omega
   clear h0;go_enter mr,lB;go_wp2_with fail;have O:(SN b g m cS (dX ss[m]) (dX ss[m+1]) ss.length) w.drew:=⟨aI,ba,bc⟩;refine g6 (S:=SN b g m cS (dX ss[m]) (dX ss[m+1]) ss.length) (by kernel_rfl) ?_;refine fR 0 ?_ O ?_<|fR 1 ?_ O ?_<|fR 2 ?_ O ?_<|fR 3 ?_ O ?_<|fR 4 ?_ O ?_<|fR 5 ?_ O ?_<|fR 6 ?_ O ?_<|fR 8 ?_ O ?_<|fR 9 ?_ O ?_<|fR 10 ?_ O ?_<|fR 11 ?_ O ?_<|fR 12 ?_ O ?_<|fR 13 ?_ O ?_<|fR 14 ?_ O ?_<|fR 15 ?_ O ?_ ?_
   any_goals(rintro w' ⟨s0,s1,s2⟩; go_simp; first|done|with_reducible rfl)
   refine l8 7 λK' B=>?_;unfold m4;go_simp;refine(ox ss[m] w.drew (W.out.inv.jf _ (ch _))).mono ?_;rintro e w1 ⟨C,rfl,hC,aJ,U⟩;have a6:Below w.heap.size w w1:=⟨U.os,U.tape,U.output,U.size,U.block⟩;have aK:=a6.size;have ah:(SN b g m cS (dX ss[m]) (dX ss[m+1]) ss.length) w1:=⟨gt U O.1,gt U O.2.1,gt U O.2.2⟩;refine B _ _ ⟨ah,?_⟩;clear B U;refine l8 16 λK' B=>?_;unfold m4;go_simp;refine(ox ss[m+1] w1 (W.out.inv.jf _ (ch _))).mono ?_;rintro e w2 ⟨D,rfl,hD,aL,aa⟩;have bd:=aa.size;have aM:Below w.heap.size w w2:=a6.trans (aa.mono aK);have ai:(SN b g m cS (dX ss[m]) (dX ss[m+1]) ss.length) w2:=⟨gt aa ah.1,gt aa ah.2.1,gt aa ah.2.2⟩;have az:ey w2 C ss[m]:=dM.below aJ aa;refine B _ _ ⟨ai,?_⟩;clear B aa aJ;refine l8 17 λK' B=>?_;unfold m4;go_simp;have a7:=T6 (t:=85) rfl az aL;obtain⟨w3,a8⟩:∃w3,w3=w2.alloc (.cells #[.map (some C),.map (some D)] 85):=⟨_,rfl⟩;rw[<-a8]at a7⊢;have ad:Below w2.heap.size w2 w3:=by rw[a8]; exact(mv _ _).alloc (hX _) _
   have aq:=ad.size;have aN:Below w.heap.size w w3:=aM.trans (ad.mono (by omega));have aj:(SN b g m cS (dX ss[m]) (dX ss[m+1]) ss.length) w3:=⟨gt ad ai.1,gt ad ai.2.1,gt ad ai.2.2⟩;refine B _ _ ⟨aj,?_⟩;clear B ad a8;refine l8 18 λK' B=>?_;unfold m4;go_simp
   refine(zc _ [C,D] [ss[m],ss[m+1]] w3 a7 (by
     have h1:=mT (W.out.inv.jf _ (ch (show m<ss.length by omega)));have h2:=mT (W.out.inv.jf _ (ch (show m+1<ss.length by omega)));simp[iy]
     omega) a4.out).mono ?_
   rintro e w4 ⟨M,rfl,hM,a9,ae⟩;have be:=ae.size;have a':Below w.heap.size w w4:=aN.trans (ae.mono (by omega));have aA:(SN b g m cS (dX ss[m]) (dX ss[m+1]) ss.length) w4:=⟨gt ae aj.1,gt ae aj.2.1,gt ae aj.2.2⟩;refine B _ _ ⟨aA,?_⟩;clear B ae;refine fR 19 ?_ aA ?_ ?_;rotate_left
   .rintro w' ⟨s0,s1,s2⟩; go_simp; first|done|with_reducible rfl
   refine g9 (by kernel_rfl) ?_ _;rw[ap.out]at a9;have bf:w.heap.size<=w4.heap.size:=a'.size;have ar:ms (ey _ _ _):=a9;have au:ms (Below _ _ _):=a';clear O ah ai aj aA a7 a9 az aL a6 aM aN a' hC hD aK bd aq be ap a4;generalize dJ ss[m] ss[m+1]=X at *;by_cases av:m=0
   case' pos=>
    have a0:((m:Int)==0)=true:=beq_iff_eq.2 (by omega);have aB:ms (iQ ss m=dx X):=by show iQ _ _=_; rw[ao.out,if_pos av]
    have aO:=qW M _ w4 ar.out (by have:=ag.out; omega) a5.out;clear av ao;go_wp2_with fail;refine aO.mono ?_;rintro e w4 ⟨M,rfl,hN,aP,aQ⟩;have ar:ms (ey _ _ _):=aP;have ag:ms ((dx X).length<=1000):=ie (oP _) ag.out;have au:ms (Below w.heap.size w w4):=au.out.trans (aQ.mono bf);clear aO aP aQ a0 a5;generalize dx X=X at *
   case' neg=>
    have aB:ms (iQ ss m=X):=by show iQ _ _=_; rw[ao.out,if_neg av]
    have a0:((m:Int)==0)=false:=beq_eq_false_iff_ne.2 (by omega);clear av ao a5
   all_goals
    have aR:=BP M X w4 ar.out (by have:=ag.out; omega);go_wp2_with fail;refine aR.mono ?_;rintro e w6 ⟨rfl,aw⟩;have bw:=aw.size;have Y:ms (Below w.heap.size w w6):=au.out.trans (aw.mono au.out.size);have bg:ms (ey w6 M X):=dM.below ar.out aw;have bh:iY X<=1000:=ie (FJ _) ag.out;clear aR aw;by_cases ab:100<iY X
    .have af:ms (eP ss (m:Int)=(4,ss)):=by show eP _ _=_; rw[HU.out,aB.out,if_pos ab]
     have ak:(100:Int)<(iY X:Int):=by omega
     clear ab;go_wp2;go_ret;refine⟨eS (by rw[af.out]; rfl),F,?_,λk hk=>Or.inl hk,dv.fC Y.out⟩;rw[af.out];exact sX.below HP.out Y.out
    .have af:ms (eP ss (m:Int)=(0,nU ss m X)):=by show eP _ _=_; rw[HU.out,aB.out,if_neg ab]; rfl
     have ak:¬(100:Int)<(iY X:Int):=by omega
     have a3:ms (Inv buf (nU ss m X)):=by have:=Bg W.out.inv (m:Int); rw[af.out]at this; exact this
     have aT:ms (Below w.heap.size w w6.drew):=⟨Y.out.os,Y.out.tape,Y.out.output,Y.out.size,Y.out.block⟩;have bx:w6.cell? ⟨b,1,none⟩=some (.slice (some ⟨g,0,none⟩) ss.length cS):=gt Y.out aI
     have aU:=CW M X w6.drew bg.out (λhp=>a3.out.jf _ (by
      unfold nU;rw[if_pos hp]
      simp))
     clear ab;go_wp2_with fail;clear ak bh;refine g6 (S:=λw'=>True) (by kernel_rfl) ?_;refine fR 0 ?_ trivial ?_<|fR 1 ?_ trivial ?_<|fR 2 ?_ trivial ?_<|fR 3 ?_ trivial ?_<|fR 5 ?_ trivial ?_<|fR 6 ?_ trivial ?_<|fR 7 ?_ trivial ?_<|fR 8 ?_ trivial ?_ ?_
     any_goals(rintro w' _; go_simp; first|done|with_reducible rfl)
     refine hU (rs:=[4,9]) (by kernel_rfl) (by simp) ?_;intro i hi;simp only[fa,e0,or_false]at hi;rcases hi with rfl|rfl
     case' inl=>
      refine hw (by rfl) λK' B=>?_;rw[if_pos (by rfl)];unfold m4;go_simp;refine B _ _ ⟨trivial,?_⟩;clear B;refine l8 9 λK' B=>?_
     case' inr=>
      refine hw (by rfl) λK' B=>?_;rw[if_pos (by rfl)]
     all_goals
      unfold m4;go_simp;refine aU.mono ?_;rintro e x1 ⟨v1,rfl,aV,aW⟩;have ax:Below w.heap.size w x1:=aT.out.trans (aW.mono aT.out.size);have al:x1.heap[b]?=some (.cells #[.map (some Bb),.slice (some ⟨g,0,none⟩) ss.length cS,vM,vK] 90 (0,0)):=by rw[ax.block b aZ]; exact W.out.blk
      have bi:x1.cell? ⟨b,1,none⟩=some (.slice (some ⟨g,0,none⟩) ss.length cS):=by rw[dh al]; rfl
      refine B _ _ ⟨trivial,?_⟩;clear B aU aW
     case' inr=>
      refine l8 4 λK' B=>?_;unfold m4;go_simp;refine B _ _ ⟨trivial,?_⟩;clear B
     all_goals
      have aC:x1.ownsRow 0 9 1 (.slice (some ⟨g,0,none⟩) (ss.map dX).length cS) (ss.map dX).length (dp (ss.map dX)):=by
       rw[dj];exact eF W.out.row (λk hk=>ax.block k (HF.out k (W.out.kX k hk)))
      have aD:=Ge x1 g m cS (ss.map dX) v1 (iw X) aC aV (uo _) (by rw[dj]; omega) (by rw[dj]; omega);rw[dj]at aD;refine l8 10 λK' B=>?_;unfold m4;go_simp;refine aD.mono ?_;rintro e x2 ⟨v2,rfl,ay,aE,aX⟩;obtain⟨ln,aF⟩:∃ln,ln=((ss.map dX).take m++(iw X++(ss.map dX).drop (m+2))).length:=⟨_,rfl⟩;rw[<-aF]at ay;have bj:ms (ln=((ss.map dX).take m++(iw X++(ss.map dX).drop (m+2))).length):=aF;clear aF;obtain⟨a2,c2,rfl,bz⟩:=dN ay;have aG:x2.heap[b]?=some (.cells #[.map (some Bb),.slice (some ⟨g,0,none⟩) ss.length cS,vM,vK] 90 (0,0)):=by rw[aE.block b (eQ al) (λe=>pE al aC (by decide) (by rw[e]; rfl))]; exact al
      refine B _ _ ⟨trivial,?_⟩;clear B aD
      have am:x2.ownsRow 0 9 1 (.slice a2 ln c2) (nU ss m X).length (dp ((nU ss m X).map dX)):=by
       rw[tI,<-dj (f:=dX),tI,<-bj.out];exact ay
      have ac:=W.out.jf HF.out ax (aE.mono (λk hk=>by subst hk; rfl)) am (λk hk=>by
       rcases aX k hk with h|h
       .subst h; exact Or.inl rfl
       .exact Or.inr h)
      refine fR 11 ?_ trivial ?_<|fR 12 ?_ trivial ?_ ?_
      any_goals(rintro w' _; go_simp; first|done|with_reducible rfl)
      have bk:x2.cell? ⟨b,1,none⟩=some (.slice (some ⟨g,0,none⟩) ss.length cS):=by rw[dh aG]; rfl
      have bl:x2.frozen? ⟨b,1,none⟩=false:=dK aG 1;clear ay aE aX am aG aC aV al ax bi;refine l8 13 λK' B=>?_;unfold m4;go_simp;refine B _ _ ⟨trivial,g9 (by kernel_rfl) ?_ _⟩;clear B bk bl;obtain⟨x3,aH⟩:∃x3,x3=x2.setCell ⟨b,1,none⟩ (.slice a2 ln c2):=⟨_,rfl⟩;have aq:x3.heap.size=x2.heap.size:=by rw[aH]; simp[m9]
      rw[<-aH]at ac⊢;rw[<-aq]at ac;have aY:ms (∃F':Nat->Prop,sX vM vK x3 F' b buf (nU ss m X)/\(∀k,F' k->F k\/w.heap.size<=k)/\dv F w x3):=LI W.out HF.out ac a3.out;clear aH aq ac;go_wp2;go_ret;refine⟨eS (by rw[af.out]; rfl),?_⟩;rw[af.out];exact aY.out
end
section
open Go.RowKit Go.Maps
def RS(B:World->(Nat->Prop)->Nat->List dq->List (List dq)->Prop)(w:World)(F:Nat->Prop)(b:Nat)(code:Nat)(buf:List dq)(ss:List (List dq))(e:Ending)(w':World):Prop:=
 e=.returned (.int .i64 code)/\∃F':Nat->Prop,B w' F' b buf ss/\(∀k,F' k->F k\/w.heap.size<=k)/\dv F w w'
end
section
open Go.RowKit Go.Maps
variable {c:Array Value} {ss:List (List dq)} {ts:List (List Wd)} {buf:List dq} {kn:List Wd} {b n:Nat} {fr:Nat×Nat} {F' F1 F2:Nat->Prop} {e:g7} {vK vS:Value} {w w':World}
def Ut(O vS:Value)(w:World)(F:Nat->Prop)(b:Nat)(ts:List (List Wd)):Prop:=(∀k,F k->k<w.heap.size)/\∃B n vK kn,PW w F b O vS ts B n vK kn
theorem Dt{vB:Value}(w:World)(F:Nat->Prop)(b:Nat)(ts:List (List Wd))(s:ByteArray)(hP:Ut vB vS w F b ts)(hB:gu ts<=16777216)(hs:s.size<=gv) :
  g5 prog 34 #[.pointer (some ⟨b,0,none⟩),.string s] w λe w'=>e=.returned (.int .i64 (s7 ts s.data.toList).1)/\
   ∃F':Nat->Prop,Ut vB vS w' F' b (s7 ts s.data.toList).2/\(∀k,F' k->F k\/w.heap.size<=k)/\dv F w w':=by
 obtain⟨hF,B,n,vK,kn,hW⟩:=hP;by_cases h:dU s.data.toList=true/\s.data.toList≠[]
 .have HO:ms (s7 ts s.data.toList=if 60<(eN (ts++[iB (ed s.data.toList)])).length then(4,ts)else(0,ts++[iB (ed s.data.toList)])):=by
   show s7 ts s.data.toList=_;unfold s7;rw[if_pos h]
  have hT:=pJ s w hs;rw[decide_eq_true h]at hT;obtain⟨ai,aj⟩:=wE s h.1;have ak:=vV s w.drew h.1;clear h hs;generalize iB (ed s.data.toList)=t at *;go_enter func34,ntmps34;go_wp2_with fail;refine hT.mono ?_;rintro e w' ⟨rfl,rfl⟩;clear hT;by_cases ab:60<(eN (ts++[t])).length
  .have ac:ms (s7 ts s.data.toList=(4,ts)):=by show _=_; rw[HO.out,if_pos ab]
   have ad:g5 prog 67 #[.string s] w.drew λe w1=>∃a c,e=.returned (.slice a t.length c)/\Below w.heap.size w w1/\
     g5 prog 66 #[.pointer (some ⟨b,2,none⟩),.slice a t.length c] w1 λe w2=>e=.returned (.bool false)/\Below w.heap.size w w2:=by
    refine ak.mono ?_;rintro e w1 ⟨v,rfl,Y,O⟩;have aa:w1.ownsRow w.heap.size 9 1 v t.length (dp t):=Y;have W:Below w.heap.size w w1:=⟨O.os,O.tape,O.output,O.size,O.block⟩;clear Y O;obtain⟨a,c,rfl,_⟩:=dN aa;refine⟨a,c,rfl,W,?_⟩;refine(Kc F b vB vS ts B n vK kn t w.heap.size _ w1 (λk U=>hV (hF k U) W.size) (hW.stay (λk U=>W.block k (hF k U))) aa (λk U am=>by have:=(aa.lt k U).1; have:=hF k am; omega) ai aj hB).mono ?_;rintro e w2 (⟨_,rfl,ae⟩|⟨hn,_⟩)
    .exact⟨rfl,W.trans (ae.mono W.size)⟩
    .exact absurd ab hn
   clear ak ab ai aj;go_wp2_with fail
   go_region_law (first
    |(go_simp
      go_at_call 67
      refine ad.mono ?_
      rintro e w1 ⟨a,c,rfl,W,af⟩)
    |(go_simp
      go_at_call 66
      refine af.mono ?_
      rintro e w2 ⟨rfl,ae⟩))
   all_goals
    go_wp2;go_ret;refine⟨eS (by rw[ac.out]; rfl),F,?_,λk U=>Or.inl U,dv.fC ae⟩;rw[ac.out];exact⟨λk U=>hV (hF k U) ae.size,B,n,vK,kn,hW.stay (λk U=>ae.block k (hF k U))⟩
  .have ac:ms (s7 ts s.data.toList=(0,ts++[t])):=by show _=_; rw[HO.out,if_neg ab]
   have ad:g5 prog 67 #[.string s] w.drew λe w1=>∃a c,e=.returned (.slice a t.length c)/\Below w.heap.size w w1/\
     g5 prog 66 #[.pointer (some ⟨b,2,none⟩),.slice a t.length c] w1 λe w2=>e=.returned (.bool true)/\(∃F' n' ag ah,(∀k,F' k->k<w2.heap.size)/\(∀k,F' k->F k\/w.heap.size<=k)/\PW w2 F' b vB vS (ts++[t]) B n' ag ah)/\dv F w w2:=by
    refine ak.mono ?_;rintro e w1 ⟨v,rfl,Y,O⟩;have aa:w1.ownsRow w.heap.size 9 1 v t.length (dp t):=Y;have W:Below w.heap.size w w1:=⟨O.os,O.tape,O.output,O.size,O.block⟩;clear Y O;obtain⟨a,c,rfl,_⟩:=dN aa;refine⟨a,c,rfl,W,?_⟩;have ao:w.heap.size<=w1.heap.size:=W.size;refine(Kc F b vB vS ts B n vK kn t w.heap.size _ w1 (λk U=>hV (hF k U) ao) (hW.stay (λk U=>W.block k (hF k U))) aa (λk U am=>by have:=(aa.lt k U).1; have:=hF k am; omega) ai aj hB).mono ?_;rintro e w2 (⟨hy,_⟩|⟨_,rfl,⟨n',ag,ah,an⟩,al⟩)
    .exact absurd hy ab
    .have ar:=al.size;refine⟨rfl,⟨PM F w1 w2,n',ag,ah,?_,?_,an⟩,?_⟩
     .rintro k (U|U)
      .have:=hF k U; omega
      .exact U.2
     .rintro k (U|U)
      .exact Or.inl U
      .exact Or.inr (by omega)
     .exact(dv.fC (F:=F) W).trans al (λ_ _ h=>h)
   clear ak ab ai aj;go_wp2_with fail
   go_region_law (first
    |(go_simp
      go_at_call 67
      refine ad.mono ?_
      rintro e w1 ⟨a,c,rfl,W,af⟩)
    |(go_simp
      go_at_call 66
      refine af.mono ?_
      rintro e w2 ⟨rfl,⟨F',n',ag,ah,ap,aq,an⟩,al⟩))
   all_goals
    go_wp2;go_ret;refine⟨eS (by rw[ac.out]; rfl),F',?_,aq,al⟩;rw[ac.out];exact⟨ap,B,n',ag,ah,an⟩
 .have HO:ms (s7 ts s.data.toList=(2,ts)):=by show s7 ts s.data.toList=_; unfold s7; rw[if_neg h]
  have hT:=pJ s w hs;rw[decide_eq_false h]at hT;go_enter func34,ntmps34;go_wp2_with fail;refine hT.mono ?_;rintro e w' ⟨rfl,rfl⟩;go_wp2;go_ret;refine⟨eS (by rw[HO.out]; rfl),F,?_,λk U=>Or.inl U,dv.refl _ _⟩;rw[HO.out];exact⟨hF,B,n,vK,kn,hW⟩
structure PJ(w:World)(F1 F2:Nat->Prop)(b:Nat)(buf:List dq)(ss:List (List dq))(ts:List (List Wd)):Prop where
 S5:∀k,F1 k->k<w.heap.size
 Th:∀k,F2 k->k<w.heap.size
 apart:∀k,F1 k->F2 k->k=b
 both:∃Bb vS B n vK kn,Ac w F1 b buf ss Bb vS (.map (some B)) vK/\PW w F2 b (.map (some Bb)) vS ts B n vK kn
theorem PJ.below(h:PJ w F1 F2 b buf ss ts)(U:w.heap.size<=w'.heap.size)(hb:∀k,k<w.heap.size->w'.heap[k]?=w.heap[k]?):PJ w' F1 F2 b buf ss ts:=by
 obtain⟨W,Y,h3,Bb,vS,B,n,vK,kn,h4,h5⟩:=h;exact⟨λk O=>hV (W k O) U,λk O=>hV (Y k O) U,h3,Bb,vS,B,n,vK,kn,h4.stay λk O=>hb k (W k O),h5.stay λk O=>hb k (Y k O)⟩
theorem RD{B:Nat}{f:List Wd->Nat}(h:eB w B n f)(hb:w.heap[b]?=some (.cells c e fr)):B≠b:=by
 rintro rfl;obtain⟨D,⟨es,clock,O,_⟩,_⟩:=h;rw[O]at hb;cases hb
theorem Sy{B:Nat}{es:List dq}(h:ey w B es)(hb:w.heap[b]?=some (.cells c e fr)):B≠b:=by
 rintro rfl;obtain⟨D,⟨es,clock,O,_⟩,_⟩:=h;rw[O]at hb;cases hb
theorem MR{base:Nat}{v:Value}{xs:List Value}(h:w.ownsRow base 9 1 v n xs)(hb:w.heap[b]?=some (.cells c 90 fr)):∀k,v.ownBlock=some k->k≠b:=by
 rintro k B rfl;rcases h.2 with⟨rfl,_⟩|⟨g,cap,O,rfl,_,U,_⟩
 .cases B
 .simp only[ng,m6]at B;subst B;rw[U]at hb;simp only[m6,Obj.cells.injEq]at hb;exact absurd hb.2.1 (by decide)
theorem PJ.entries{W:List dq}{ss':List (List dq)}{Bb:Nat}{B:Nat}(h1:∀k,F1 k->k<w.heap.size)(h2:∀k,F2 k->k<w.heap.size)(h3:∀k,F1 k->F2 k->k=b)(h4:Ac w F1 b buf ss Bb vS (.map (some B)) vK)(O:PW w F2 b (.map (some Bb)) vS ts B n vK kn)
  (hp:sX (.map (some B)) vK w' F' b W ss') (hF:∀k,F' k->F1 k\/w.heap.size<=k) (Y:dv F1 w w'):PJ w' F' F2 b W ss' ts:=by
 obtain⟨g1,ab,ac,g2⟩:=hp;have hz:=Y.size;have kZ:∀k,F2 k->k≠b->w'.heap[k]?=w.heap[k]?:=λk U ad=>Y.block k (h2 k U) λhf=>ad (h3 k hf U);refine⟨g1,λk U=>hV (h2 k U) hz,λk U aa=>?_,ab,ac,B,n,vK,kn,g2,⟨g2.blk,O.fb,O.fB,O.cnt.stay (kZ B O.fB (RD O.cnt O.blk)),O.room,eF O.row λk U=>kZ k (O.kX k U) (MR O.row O.blk k U),O.kX,O.perm,O.ok,O.qk⟩⟩;rcases hF k U with hf|hf
 .exact h3 k hf aa
 .exact absurd (h2 k aa) (by omega)
theorem PJ.words{W:List (List Wd)}{Bb:Nat}{B:Nat}(h1:∀k,F1 k->k<w.heap.size)(h2:∀k,F2 k->k<w.heap.size)(h3:∀k,F1 k->F2 k->k=b)(O:Ac w F1 b buf ss Bb vS (.map (some B)) vK)(h5:PW w F2 b (.map (some Bb)) vS ts B n vK kn)
  (hp:Ut (.map (some Bb)) vS w' F' b W) (hF:∀k,F' k->F2 k\/w.heap.size<=k) (Y:dv F2 w w'):PJ w' F1 F' b buf ss W:=by
 obtain⟨g1,B',n',aa,ab,g2⟩:=hp;have hz:=Y.size;have kZ:∀k,F1 k->k≠b->w'.heap[k]?=w.heap[k]?:=λk U ac=>Y.block k (h1 k U) λhf=>ac (h3 k U hf);refine⟨λk U=>hV (h1 k U) hz,g1,λk U ad=>?_,Bb,vS,B',n',aa,ab,⟨g2.blk,O.fb,O.fB,dM.stay O.say (kZ Bb O.fB (Sy O.say O.blk)),eF O.row λk U=>kZ k (O.kX k U) (MR O.row O.blk k U),O.kX,O.inv⟩,g2⟩;rcases hF k ad with hf|hf
 .exact h3 k U hf
 .exact absurd (h1 k U) (by omega)
end
end Go.Proofs.YtocbogeoffeolaaGreatDoor
