import Derived.Test.YtocbogeoffeolaaGreatDoorFolAD
import Derived.Test.YtocbogeoffeolaaGreatDoorFolAI
import Derived.Shelf.Strconv.Clone
import Derived.Shelf.Sort.Plain
import Derived.Shelf.Slices.In.SortNone
import Derived.Lib.AppendStr
import Derived.Sort.OwnSorted
set_option linter.unusedVariables false
set_option linter.unusedSimpArgs false
set_option maxHeartbeats 8000000
set_option maxRecDepth 1000000
open List renaming length_append->cc,getElem_mem->ch,mem_singleton->cp,take_succ_eq_append_getElem->cx,getElem?_eq_getElem->db,length_drop->dc,mem_map->dd,flatMap_cons->de,mem_of_mem_drop->df,append_nil->dg,flatMap_append->dh,getD_eq_getElem?_getD->di,flatMap_nil->dj,take_of_length_le->dk,getElem_cons_zero->dl,take_succ_cons->dm,pairwise_iff_getElem->dn,length_eq_zero_iff->dp,getElem_cons_succ->dq,take_append_drop->dr,drop_succ_cons->dt,pairwise_map->du,append_assoc->dv,take_prefix->dw,length_take->dx,length_cons->dy,length_map->dz,map_cons->dA,map_nil->dB
open Go renaming cell_later->dC,maxLen->dD,wpAnyH_all->dE,wpOp_step->dF,Calls->dG,info_parts->dH,wp_region_held->dI,wpAnyH_done->dJ,TypeId->dK
open Nat renaming lt_of_lt_of_le->dL,zero_le->dM,le_refl->dN,min_eq_left->dO,zero_mul->dP,zero_add->dQ,le_trans->dR,add_zero->dS
open Go.Proofs.Tryz renaming underlying60->dT,underlying9->dU,underlying5->dV,underlying4->dW,underlying3->dX,underlying0->dY,zeroValue9->dZ,zeroValue5->ea,zeroValue4->eb,zeroValue3->ec,zeroValue0->ed,ntmps38->ee,ntmps128->ef,func38->eg,underlying292->eh,underlying276->ei,underlying272->ej,underlying239->ek,underlying229->eo,underlying226->ep,underlying222->eq,underlying221->er,underlying212->et,underlying184->eu,underlying141->ev,zeroValue292->ew,zeroValue276->ex,zeroValue272->ey,zeroValue229->ez,zeroValue226->e0,zeroValue222->e6,zeroValue221->e8,zeroValue212->e9,zeroValue184->eA,zeroValue141->eB,underlying85->eD,underlying31->eE,sizeOf9->eF,sizeOf5->eG,sizeOf4->eH,sizeOf3->eI,sizeOf0->eJ,ntmps26->eK,func128->eL,isAgg9->eM,isAgg5->eN,isAgg4->eO,isAgg3->eP,isAgg0->eQ,func26->eR
open Go.RowKit renaming Hid->eS
open Go.Value.slice renaming injEq->eT
open Array renaming getElem?_eq_some_iff->eU,getElem?_modify->eV
open Go.RowKit.Below renaming refl->eW
open Go.Op renaming bytesLess->eX
open Go.World renaming cell?_alloc_at->eY,ownsRow_nil->eZ
open Go.Sort renaming ahead->fa,alloc_eq_grow->fc,mapBlock->fd,putRowK->fe,putRow->ff
open Go.Value renaming oneCell'->fg
open Go.Oper renaming wp->fh
open Option.some renaming injEq->fi
open Go.Proofs renaming sortWorldK->fj
open Go.Sort.HoldsK renaming cell->fk
open Go.Addr.mk renaming injEq->fl
open List.Pairwise renaming sublist->fm,imp->fo
namespace Go.Proofs.YtocbogeoffeolaaGreatDoor
open Go.Proofs.Tryz
section
open Go.Shelf
def FG:Go.Shelf.Ren:=⟨fun|316=>90|n=>n,fun|9=>9|3=>3|4=>4|37=>60|0=>0|127=>187|5=>5|n=>n,fun|n=>n⟩
theorem Pl:Go.Proofs.LaysM.n316 prog FG:={
 mixed:=by kernel_rfl
 f316:=func90.trans (congrArg some (by kernel_rfl)),t0:=dY,a0:=eQ,z0:=eJ,v0:=ed,t3:=dX,a3:=eP,z3:=eI,v3:=ec,t4:=dW,a4:=eO,z4:=eH,v4:=eb,t9:=dU,a9:=eM,z9:=eF,v9:=dZ,t37:=dT,a37:=isAgg60,z37:=sizeOf60,v37:=zeroValue60,t127:=underlying187,a127:=isAgg187,z127:=sizeOf187,v127:=zeroValue187,t5:=dV,a5:=eN,z5:=eG,v5:=ea,i0:=by kernel_rfl
 i3:=by kernel_rfl
 i4:=by kernel_rfl
 i5:=by kernel_rfl
 i9:=by kernel_rfl
 i37:=by kernel_rfl
 i127:=by kernel_rfl}
def Gr:Go.Shelf.Ren:=⟨fun|190=>162|125=>125|258=>217|128=>172|129=>173|302=>243|303=>244|304=>245|305=>246|306=>247|307=>248|308=>249|309=>250|310=>251|333=>271|329=>219|330=>220|334=>272|335=>273|336=>175|344=>279|n=>n,fun|31=>31|9=>9|3=>3|46=>184|0=>0|51=>229|53=>141|4=>4|183=>222|182=>221|131=>226|5=>5|218=>272|222=>276|228=>292|229=>212|n=>n,fun|n=>n⟩
theorem yN:Go.Proofs.Lays.n190 prog Gr:={
 mixed:=by kernel_rfl
 f125:=func125.trans (congrArg some (by kernel_rfl)),f128:=func172.trans (congrArg some (by kernel_rfl)),f129:=func173.trans (congrArg some (by kernel_rfl)),f190:=func162.trans (congrArg some (by kernel_rfl)),f258:=func217.trans (congrArg some (by kernel_rfl)),f302:=func243.trans (congrArg some (by kernel_rfl)),f303:=func244.trans (congrArg some (by kernel_rfl)),f304:=func245.trans (congrArg some (by kernel_rfl)),f305:=func246.trans (congrArg some (by kernel_rfl)),f306:=func247.trans (congrArg some (by kernel_rfl)),f307:=func248.trans (congrArg some (by kernel_rfl)),f308:=func249.trans (congrArg some (by kernel_rfl)),f309:=func250.trans (congrArg some (by kernel_rfl)),f310:=func251.trans (congrArg some (by kernel_rfl)),f329:=func219.trans (congrArg some (by kernel_rfl)),f330:=func220.trans (congrArg some (by kernel_rfl)),f333:=func271.trans (congrArg some (by kernel_rfl)),f334:=func272.trans (congrArg some (by kernel_rfl)),f335:=func273.trans (congrArg some (by kernel_rfl)),f336:=func175.trans (congrArg some (by kernel_rfl)),f344:=func279.trans (congrArg some (by kernel_rfl)),t0:=dY,a0:=eQ,z0:=eJ,v0:=ed,t3:=dX,a3:=eP,z3:=eI,v3:=ec,t4:=dW,a4:=eO,z4:=eH,v4:=eb,t5:=dV,a5:=eN,z5:=eG,v5:=ea,t9:=dU,a9:=eM,z9:=eF,v9:=dZ,t31:=eE,a31:=isAgg31,z31:=sizeOf31,v31:=zeroValue31,t46:=eu,a46:=isAgg184,z46:=sizeOf184,v46:=eA,t51:=eo,a51:=isAgg229,z51:=sizeOf229,v51:=ez,t53:=ev,a53:=isAgg141,z53:=sizeOf141,v53:=eB,t131:=ep,a131:=isAgg226,z131:=sizeOf226,v131:=e0,t182:=er,a182:=isAgg221,z182:=sizeOf221,v182:=e8,t183:=eq,a183:=isAgg222,z183:=sizeOf222,v183:=e6,t218:=ej,a218:=isAgg272,z218:=sizeOf272,v218:=ey,t222:=ei,a222:=isAgg276,z222:=sizeOf276,v222:=ex,t228:=eh,a228:=isAgg292,z228:=sizeOf292,v228:=ew,t229:=et,a229:=isAgg212,z229:=sizeOf212
 v229:=e9}
def CJ:Go.Shelf.Ren:=⟨fun|6=>184|15=>125|14=>227|28=>172|29=>173|20=>257|21=>258|22=>259|23=>260|24=>261|25=>262|26=>263|27=>264|46=>276|47=>219|48=>220|49=>277|50=>278|57=>280|n=>n,fun|22=>190|24=>237|25=>242|3=>3|39=>184|0=>0|53=>229|55=>141|4=>4|46=>222|45=>221|50=>226|5=>5|9=>9|66=>272|70=>276|76=>292|77=>212|n=>n,fun|n=>n⟩
theorem Gi:Go.Proofs.SlLaysF0.n6 prog CJ:={
 mixed:=by kernel_rfl
 f6:=⟨f184.name,by decide,func184.trans (congrArg some (by kernel_rfl))⟩,f14:=⟨f227.name,by decide,func227.trans (congrArg some (by kernel_rfl))⟩,f15:=func125.trans (congrArg some (by kernel_rfl)),f20:=⟨f257.name,by decide,func257.trans (congrArg some (by kernel_rfl))⟩,f21:=⟨Tryz.f258.name,by decide,func258.trans (congrArg some (by kernel_rfl))⟩,f22:=⟨f259.name,by decide,func259.trans (congrArg some (by kernel_rfl))⟩,f23:=⟨f260.name,by decide,func260.trans (congrArg some (by kernel_rfl))⟩,f24:=⟨f261.name,by decide,func261.trans (congrArg some (by kernel_rfl))⟩,f25:=⟨f262.name,by decide,func262.trans (congrArg some (by kernel_rfl))⟩,f26:=⟨f263.name,by decide,func263.trans (congrArg some (by kernel_rfl))⟩,f27:=⟨Tryz.f264.name,by decide,func264.trans (congrArg some (by kernel_rfl))⟩,f28:=func172.trans (congrArg some (by kernel_rfl)),f29:=func173.trans (congrArg some (by kernel_rfl)),f46:=⟨f276.name,by decide,func276.trans (congrArg some (by kernel_rfl))⟩,f47:=func219.trans (congrArg some (by kernel_rfl)),f48:=func220.trans (congrArg some (by kernel_rfl)),f49:=⟨f277.name,by decide,func277.trans (congrArg some (by kernel_rfl))⟩,f50:=⟨f278.name,by decide,func278.trans (congrArg some (by kernel_rfl))⟩,f57:=⟨f280.name,by decide,func280.trans (congrArg some (by kernel_rfl))⟩,t0:=dY,a0:=eQ,z0:=eJ,v0:=ed,t3:=dX,a3:=eP,z3:=eI,v3:=ec,t4:=dW,a4:=eO,z4:=eH,v4:=eb,t5:=dV,a5:=eN,z5:=eG,v5:=ea,t9:=dU,a9:=eM,z9:=eF,v9:=dZ,t22:=underlying190,a22:=isAgg190,z22:=sizeOf190,v22:=zeroValue190,t25:=underlying242,a25:=isAgg242,z25:=sizeOf242,v25:=zeroValue242,t39:=eu,a39:=isAgg184,z39:=sizeOf184,v39:=eA,t45:=er,a45:=isAgg221,z45:=sizeOf221,v45:=e8,t46:=eq,a46:=isAgg222,z46:=sizeOf222,v46:=e6,t50:=ep,a50:=isAgg226,z50:=sizeOf226,v50:=e0,t53:=eo,a53:=isAgg229,z53:=sizeOf229,v53:=ez,t55:=ev,a55:=isAgg141,z55:=sizeOf141,v55:=eB,t66:=ej,a66:=isAgg272,z66:=sizeOf272,v66:=ey,t70:=ei,a70:=isAgg276,z70:=sizeOf276,v70:=ex,t76:=eh,a76:=isAgg292,z76:=sizeOf292,v76:=ew,t77:=et,a77:=isAgg212,z77:=sizeOf212
 v77:=e9}
end
section
open Go.RowKit Go.Maps
variable {ss:List (List gS)} {buf:List gS} {Bb b:Nat} {F:Nat->Prop} {vK vM vS:Value} {w w':World}
theorem qY(s:ByteArray)(w:World)(y:s.size<=281474976710656) :
  dG prog 61 #[.string s] w λe w'=>e=.returned (.string s)/\Below w.heap.size w w':=by
 have h:=Any.stringslite_Clone Pl s w y;change dG prog 90 _ _ _ at h;go_enter func61,ntmps61;go_wp2_with fail;refine h.mono ?_;rintro e w1 ⟨rfl,hb⟩;have B:eS (Below _ _ _):=hb;clear h hb;go_wp2;go_ret;exact⟨rfl,B.out⟩
def we(vM vK:Value)(w:World)(F:Nat->Prop)(b:Nat)(buf:List gS)(ss:List (List gS)):Prop:=(∀k,F k->k<w.heap.size)/\∃Bb vS,FA w F b buf ss Bb vS vM vK
theorem FA.stay(h:FA w F b buf ss Bb vS vM vK)(hb:∀k,F k->w'.heap[k]?=w.heap[k]?):FA w' F b buf ss Bb vS vM vK where
 blk:=by rw[hb b h.fb]; exact h.blk
 fb:=h.fb;fB:=h.fB;say:=ir.stay h.say (hb Bb h.fB);row:=iB h.row (λk y=>hb k (h.mo k y));mo:=h.mo;inv:=h.inv
theorem we.below(h:we vM vK w F b buf ss)(hb:Below w.heap.size w w'):we vM vK w' F b buf ss:=by
 obtain⟨hF,Bb,vS,B⟩:=h;exact⟨λk y=>dL (hF k y) hb.size,Bb,vS,B.stay (λk y=>hb.block k (hF k y))⟩
theorem FA.buffer{buf':List gS}(h:FA w F b buf ss Bb vS vM vK)(hF:∀k,F k->k<w.heap.size)(y:gV (· = Bb) w w')(D:je w' Bb buf')(hi:Inv buf' ss):FA w' F b buf' ss Bb vS vM vK where
 blk:=by rw[y.block b (hF b h.fb) (λe=>ir.pK h.say h.blk e.symm)]; exact h.blk
 fb:=h.fb;fB:=h.fB;say:=D;row:=iB h.row (λk B=>y.block k (hF k (h.mo k B)) (λe=>rM h.row h.say (by rw[B,e])));mo:=h.mo;inv:=hi
theorem J3(w:World):(zeroValue 111).run prog w=.ok (.agg #[.bool false,.string ⟨#[]⟩,.string ⟨#[]⟩,.int .i64 0,.int .i64 0]) w:=by kernel_rfl
theorem F9{B:Nat}{es:List gS}(h:je w B es)(x:Wd)(O:x.length<=dD):∃g a t n m,(Instr.lookup 85 (.map (some B)) (.string ⟨x.toArray⟩) true).run prog w=.ok (.tuple #[.agg #[.bool g,.string a,.string t,.int .i64 n,.int .i64 m],.bool (decide (x∈es.map gS.name))]) w:=by
 have hl:=(ir.look h dU eD (J3 w) x O).2
 have U:((es.map mF).any λp=>p.1==x)=decide (x∈es.map gS.name):=by
  rw[Bool.eq_iff_iff,decide_eq_true_eq,List.any_eq_true,dd];constructor
  .rintro⟨p,W,h⟩;obtain⟨e,y,rfl⟩:=dd.1 W;exact⟨e,y,by simpa[mF]using h⟩
  .rintro⟨e,y,rfl⟩;exact⟨mF e,dd.2 ⟨e,y,rfl⟩,by simp[mF]⟩
 rw[U]at hl;unfold pM at hl
 cases D:(es.map mF).find? λp=>p.1==x with
 |none=>rw[D]at hl; exact⟨_,_,_,_,_,hl⟩
 |some p=>
  rw[D]at hl;obtain⟨e,_,rfl⟩:=dd.1 (List.mem_of_find?_eq_some D);exact⟨_,_,_,_,_,hl⟩
theorem z8{l:List gS}{x:Wd}:su l x=none↔x ∉ l.map gS.name:=⟨BC,um⟩
theorem Ek(w:World)(F:Nat->Prop)(b:Nat)(buf:List gS)(ss:List (List gS))(name text:ByteArray)(gT il:Int)(hP:we vM vK w F b buf ss)(hn:name.size<=dD)(ht:text.size<=dD) :
  dG prog 38 #[.pointer (some ⟨b,0,none⟩),.string name,.string text,.int .i64 gT,.int .i64 il] w λe w'=>e=.returned (.int .i64 (om buf ss name.data.toList text.data.toList gT il).1)/\
   we vM vK w' F b (om buf ss name.data.toList text.data.toList gT il).2 ss/\gV F w w':=by
 have HP:eS (we _ _ _ _ _ _ _):=hP;have ac:=sK name w hn;have aj:=rT text w ht;clear hP;by_cases O:mf name.data.toList=true
 .rw[O]at ac;by_cases Y:iX text.data.toList=true/\text.data.toList≠[]
  .rw[decide_eq_true Y]at aj;by_cases ai:gT<0\/1000000<gT\/il<0\/255<il
   .have HU:eS (om buf ss name.data.toList text.data.toList gT il=(3,buf)):=by show om _ _ _ _ _ _=_; unfold om; rw[if_pos O,if_pos Y,if_pos ai]
    have a8:gT<0\/(0<=gT/\1000000<gT)\/(0<=gT/\gT<=1000000/\il<0)\/(0<=gT/\gT<=1000000/\0<=il/\255<il):=by omega
    clear ai Y O;rcases a8 with c1|⟨c1,c2⟩|⟨c1,c2,c3⟩|⟨c1,c2,c3,c4⟩
    all_goals
     go_enter eg,ee;go_wp2_with fail;refine ac.mono ?_;rintro e w' ⟨rfl,rfl⟩;go_wp2_with fail;refine aj.mono ?_;rintro e w' ⟨rfl,rfl⟩;go_wp2;go_ret;refine⟨iJ (by rw[HU.out]; rfl),?_,gV.refl _ _⟩;rw[HU.out];exact HP.out
   .have a':0<=gT:=by omega
    have aA:gT<=1000000:=by omega
    have aB:0<=il:=by omega
    have aC:il<=255:=by omega
    obtain⟨hF,Bb,vS,hE⟩:=id HP.out;have HE:eS (FA _ _ _ _ _ _ _ _ _):=hE;have HF:eS (∀k,F k->k<w.heap.size):=hF;have av:=Ac F b buf ss Bb vS vM vK w hE
    have HU:eS (om buf ss name.data.toList text.data.toList gT il=if 30<=(kZ ss buf).length/\su (kZ ss buf) name.data.toList=none then(4,buf)else(0,ia buf [⟨name.data.toList,false,text.data.toList,gT,il⟩])):=by
     show om _ _ _ _ _ _=_; unfold om; rw[if_pos O,if_pos Y,if_neg ai]
    have HI:eS (Inv (om buf ss name.data.toList text.data.toList gT il).2 ss):=PG hE.inv _ _ _ _;have a9:=(lA O).2
    have a4:name.size<=281474976710656:=by have:name.data.toList.length=name.size:=by simp
                                           omega
    have a5:text.size<=281474976710656:=by
     have h1:=pJ Y.1;have:text.data.toList.length=text.size:=by simp
     omega
    have ax:name.data.toList.length<=dD:=by unfold dD; omega
    clear ai Y O hF hE;go_enter eg,ee;go_wp2_with fail;refine ac.mono ?_;rintro e w' ⟨rfl,rfl⟩;go_wp2_with fail;refine aj.mono ?_;rintro e w' ⟨rfl,rfl⟩;clear ac aj;go_wp2_with fail;refine av.mono ?_;rintro e w1 ⟨C,rfl,hC,hs,ak⟩;have ay:=ak.size;obtain⟨g,aa,tt,nn,mm,al⟩:=F9 hs name.data.toList ax;rw[<-bytes_eta name]at al;have az:eS (Below _ _ _):=ak;have am:=λ(ty:dK) (o:Obj)=>ir.len (ir.kept hs (World.grownBy_alloc w1 o none) (by simp)) eD ty;rw[dz]at am;have an:=z8 (l:=kZ ss buf) (x:=name.data.toList);by_cases U:name.data.toList∈(kZ ss buf).map gS.name
    .rw[decide_eq_true U]at al;have W:eS (om buf ss name.data.toList text.data.toList gT il=(0,ia buf [⟨name.data.toList,false,text.data.toList,gT,il⟩])):=by show om _ _ _ _ _ _=_; rw[HU.out,if_neg (λh=>an.1 h.2 U)]
     clear an U hs ak av HU;go_wp2_with fail;have y:=az.out.alloc ay (.cells #[.bool g,.string aa,.string tt,.int .i64 nn,.int .i64 mm] 111);clear am al;generalize w1.alloc (.cells #[.bool g,.string aa,.string tt,.int .i64 nn,.int .i64 mm] 111)=w2 at y⊢
     have B:w2.drew.cell? ⟨b,0,none⟩=some (.map (some Bb)):=by
      have:w2.cell? ⟨b,0,none⟩=some (.map (some Bb)):=dC y (by rw[Ps HE.out.blk]; rfl);exact this
     have ao:eS (Below w.heap.size w w2.drew):=⟨y.os,y.tape,y.output,y.size,y.block⟩;clear y;refine dI (S:=λw'=>w'.cell? ⟨b,0,none⟩=some (.map (some Bb))) (by kernel_rfl) ?_;refine iV 0 ?_ B ?_<|iV 1 ?_ B ?_<|iV 2 ?_ B ?_<|iV 3 ?_ B ?_<|iV 4 ?_ B ?_<|iV 6 ?_ B ?_<|iV 8 ?_ B ?_<|iV 9 ?_ B ?_ ?_
     any_goals(rintro w' a0; go_simp; first|done|with_reducible rfl)
     refine dE (rs:=[5]) (by kernel_rfl) (by simp) ?_;intro i hi;simp only[cp]at hi;subst hi;refine dF (by rfl) λK' D=>?_;rw[if_pos (by rfl)];unfold fh;go_simp;refine(qY name w2.drew a4).mono ?_;rintro e w3 ⟨rfl,ad⟩;have ap:eS (Below w.heap.size w w3):=ao.out.trans (ad.mono ao.out.size);have aq:w3.cell? ⟨b,0,none⟩=some (.map (some Bb)):=dC ad B;clear ad;refine D _ _ ⟨aq,?_⟩;clear D;refine dE (rs:=[7]) (by kernel_rfl) (by simp) ?_;intro i hi;simp only[cp]at hi;subst hi;refine dF (by rfl) λK' D=>?_;rw[if_pos (by rfl)];unfold fh;go_simp;refine(qY text w3 a5).mono ?_;rintro e w4 ⟨rfl,ae⟩;have ab:eS (Below w.heap.size w w4):=ap.out.trans (ae.mono ap.out.size);have ar:w4.cell? ⟨b,0,none⟩=some (.map (some Bb)):=dC ae aq;clear ae;refine D _ _ ⟨ar,?_⟩;clear D;refine iV 10 ?_ ar ?_ ?_;rotate_left
     .rintro w' a0; go_simp; first|done|with_reducible rfl
     refine dE (rs:=[11]) (by kernel_rfl) (by simp) ?_;intro i hi;simp only[cp]at hi;subst hi;refine dF (by rfl) λK' D=>?_;rw[if_pos (by rfl)];unfold fh;go_simp;have af:=J8 Bb buf ⟨name.data.toList,false,text.data.toList,gT,il⟩ w4 (ir.below HE.out.say ab.out) rfl (by have:=tj HE.out.inv; omega) ax;rw[show wz ⟨name.data.toList,false,text.data.toList,gT,il⟩=.agg #[.string name,.string text,.int .i64 gT,.int .i64 il] by unfold wz; simp only[<-bytes_eta]]at af;refine af.mono ?_;rintro e w5 ⟨rfl,q1,q2⟩;clear af;have au:FA w4 F b buf ss Bb vS vM vK:=HE.out.stay (λk U=>ab.out.block k (HF.out k U));have ag:∀k,F k->k<w4.heap.size:=λk U=>dL (HF.out k U) ab.out.size
     have hi:Inv (ia buf [⟨name.data.toList,false,text.data.toList,gT,il⟩]) ss:=by
      have:=HI.out;rw[W.out]at this;exact this
     have ah:=au.buffer ag q2 q1 hi;have a1:eS (FA _ _ _ _ _ _ _ _ _):=ah;have a2:eS (gV F w w5):=(gV.jk ab.out).then (q2.mono (λk U=>by subst U; exact HE.out.fB));have a3:eS (∀k,F k->k<w5.heap.size):=λk U=>dL (ag k U) q2.size;refine D _ _ ⟨by rw[Ps ah.blk]; rfl,dJ (by kernel_rfl) ?_ _⟩;clear D q1 q2 au ag hi ah;go_wp2;go_ret;refine⟨iJ (by rw[W.out]; rfl),?_,a2.out⟩;rw[W.out];exact⟨a3.out,Bb,vS,a1.out⟩
    .rw[decide_eq_false U]at al;by_cases a6:30<=(kZ ss buf).length
     .have W:eS (om buf ss name.data.toList text.data.toList gT il=(4,buf)):=by show om _ _ _ _ _ _=_; rw[HU.out,if_pos ⟨a6,an.2 U⟩]
      have a7:(30:Int)<=((kZ ss buf).length:Int):=by omega
      clear an U hs ak av HU;go_wp2;go_ret;have y:=az.out.alloc ay (.cells #[.bool g,.string aa,.string tt,.int .i64 nn,.int .i64 mm] 111);refine⟨iJ (by rw[W.out]; rfl),?_,gV.jk y⟩;rw[W.out];exact we.below HP.out y
     .have W:eS (om buf ss name.data.toList text.data.toList gT il=(0,ia buf [⟨name.data.toList,false,text.data.toList,gT,il⟩])):=by show om _ _ _ _ _ _=_; rw[HU.out,if_neg (λh=>a6 h.1)]
      have a7:decide ((30:Int)<=((kZ ss buf).length:Int))=false:=decide_eq_false (by omega);clear an U hs ak av HU;go_wp2_with fail;have y:=az.out.alloc ay (.cells #[.bool g,.string aa,.string tt,.int .i64 nn,.int .i64 mm] 111);clear am al;generalize w1.alloc (.cells #[.bool g,.string aa,.string tt,.int .i64 nn,.int .i64 mm] 111)=w2 at y⊢
      have B:w2.drew.cell? ⟨b,0,none⟩=some (.map (some Bb)):=by
       have:w2.cell? ⟨b,0,none⟩=some (.map (some Bb)):=dC y (by rw[Ps HE.out.blk]; rfl);exact this
      have ao:eS (Below w.heap.size w w2.drew):=⟨y.os,y.tape,y.output,y.size,y.block⟩;clear y;refine dI (S:=λw'=>w'.cell? ⟨b,0,none⟩=some (.map (some Bb))) (by kernel_rfl) ?_;refine iV 0 ?_ B ?_<|iV 1 ?_ B ?_<|iV 2 ?_ B ?_<|iV 3 ?_ B ?_<|iV 4 ?_ B ?_<|iV 6 ?_ B ?_<|iV 8 ?_ B ?_<|iV 9 ?_ B ?_ ?_
      any_goals(rintro w' a0; go_simp; first|done|with_reducible rfl)
      refine dE (rs:=[5]) (by kernel_rfl) (by simp) ?_;intro i hi;simp only[cp]at hi;subst hi;refine dF (by rfl) λK' D=>?_;rw[if_pos (by rfl)];unfold fh;go_simp;refine(qY name w2.drew a4).mono ?_;rintro e w3 ⟨rfl,ad⟩;have ap:eS (Below w.heap.size w w3):=ao.out.trans (ad.mono ao.out.size);have aq:w3.cell? ⟨b,0,none⟩=some (.map (some Bb)):=dC ad B;clear ad;refine D _ _ ⟨aq,?_⟩;clear D;refine dE (rs:=[7]) (by kernel_rfl) (by simp) ?_;intro i hi;simp only[cp]at hi;subst hi;refine dF (by rfl) λK' D=>?_;rw[if_pos (by rfl)];unfold fh;go_simp;refine(qY text w3 a5).mono ?_;rintro e w4 ⟨rfl,ae⟩;have ab:eS (Below w.heap.size w w4):=ap.out.trans (ae.mono ap.out.size);have ar:w4.cell? ⟨b,0,none⟩=some (.map (some Bb)):=dC ae aq;clear ae;refine D _ _ ⟨ar,?_⟩;clear D;refine iV 10 ?_ ar ?_ ?_;rotate_left
      .rintro w' a0; go_simp; first|done|with_reducible rfl
      refine dE (rs:=[11]) (by kernel_rfl) (by simp) ?_;intro i hi;simp only[cp]at hi;subst hi;refine dF (by rfl) λK' D=>?_;rw[if_pos (by rfl)];unfold fh;go_simp;have af:=J8 Bb buf ⟨name.data.toList,false,text.data.toList,gT,il⟩ w4 (ir.below HE.out.say ab.out) rfl (by have:=tj HE.out.inv; omega) ax;rw[show wz ⟨name.data.toList,false,text.data.toList,gT,il⟩=.agg #[.string name,.string text,.int .i64 gT,.int .i64 il] by unfold wz; simp only[<-bytes_eta]]at af;refine af.mono ?_;rintro e w5 ⟨rfl,q1,q2⟩;clear af;have au:FA w4 F b buf ss Bb vS vM vK:=HE.out.stay (λk U=>ab.out.block k (HF.out k U));have ag:∀k,F k->k<w4.heap.size:=λk U=>dL (HF.out k U) ab.out.size
      have hi:Inv (ia buf [⟨name.data.toList,false,text.data.toList,gT,il⟩]) ss:=by
       have:=HI.out;rw[W.out]at this;exact this
      have ah:=au.buffer ag q2 q1 hi;have a1:eS (FA _ _ _ _ _ _ _ _ _):=ah;have a2:eS (gV F w w5):=(gV.jk ab.out).then (q2.mono (λk U=>by subst U; exact HE.out.fB));have a3:eS (∀k,F k->k<w5.heap.size):=λk U=>dL (ag k U) q2.size;refine D _ _ ⟨by rw[Ps ah.blk]; rfl,dJ (by kernel_rfl) ?_ _⟩;clear D q1 q2 au ag hi ah;go_wp2;go_ret;refine⟨iJ (by rw[W.out]; rfl),?_,a2.out⟩;rw[W.out];exact⟨a3.out,Bb,vS,a1.out⟩
  .rw[decide_eq_false Y]at aj;have HU:eS (om buf ss name.data.toList text.data.toList gT il=(2,buf)):=by show om _ _ _ _ _ _=_; unfold om; rw[if_pos O,if_neg Y]
   clear Y O;go_enter eg,ee;go_wp2_with fail;refine ac.mono ?_;rintro e w' ⟨rfl,rfl⟩;go_wp2_with fail;refine aj.mono ?_;rintro e w' ⟨rfl,rfl⟩;go_wp2;go_ret;refine⟨iJ (by rw[HU.out]; rfl),?_,gV.refl _ _⟩;rw[HU.out];exact HP.out
 .have aw:mf name.data.toList=false:=by simpa using O
  rw[aw]at ac;have HU:eS (om buf ss name.data.toList text.data.toList gT il=(1,buf)):=by show om _ _ _ _ _ _=_; unfold om; rw[if_neg O]
  clear O aw;go_enter eg,ee;go_wp2_with fail;refine ac.mono ?_;rintro e w' ⟨rfl,rfl⟩;go_wp2;go_ret;refine⟨iJ (by rw[HU.out]; rfl),?_,gV.refl _ _⟩;rw[HU.out];exact HP.out
end
section
open Go.RowKit Go.Maps
variable {vK vM:Value}
theorem Pw(w:World)(F:Nat->Prop)(b:Nat)(buf:List gS)(ss:List (List gS))(name:ByteArray)(hP:we vM vK w F b buf ss)(hn:name.size<=dD) :
  dG prog 37 #[.pointer (some ⟨b,0,none⟩),.string name] w λe w'=>e=.returned (.int .i64 (qO buf ss name.data.toList).1)/\
   we vM vK w' F b (qO buf ss name.data.toList).2 ss/\gV F w w':=by
 have HP:eS (we _ _ _ _ _ _ _):=hP;have ab:=sK name w hn;clear hP;by_cases D:mf name.data.toList=true
 .rw[D]at ab;obtain⟨hF,Bb,vS,hE⟩:=id HP.out;have HE:eS (FA _ _ _ _ _ _ _ _ _):=hE;have HF:eS (∀k,F k->k<w.heap.size):=hF;have ak:=Ac F b buf ss Bb vS vM vK w hE
  have HU:eS (qO buf ss name.data.toList=if su (kZ ss buf) name.data.toList=none then(5,buf)else if 100<=kV buf then(4,buf)else(0,ia buf [⟨name.data.toList,true,[],0,0⟩])):=by
   show qO _ _ _=_; unfold qO; rw[if_pos D,np]; rfl
  have HI:eS (Inv (qO buf ss name.data.toList).2 ss):=QF hE.inv _;have a3:=(lA D).2
  have ax:name.size<=281474976710656:=by
   have:name.data.toList.length=name.size:=by simp
   omega
  have ap:name.data.toList.length<=dD:=by unfold dD; omega
  clear D hF hE;go_enter func37,ntmps37;go_wp2_with fail;refine ab.mono ?_;rintro e w' ⟨rfl,rfl⟩;clear ab;go_wp2_with fail;refine ak.mono ?_;rintro e w1 ⟨C,rfl,hC,hs,ag⟩;have aq:=ag.size;obtain⟨g,aa,tt,nn,mm,ah⟩:=F9 hs name.data.toList ap;rw[<-bytes_eta name]at ah;have ai:=z8 (l:=kZ ss buf) (x:=name.data.toList);have O:eS (Below w.heap.size w (w1.alloc (.cells #[.bool g,.string aa,.string tt,.int .i64 nn,.int .i64 mm] 111))):=ag.alloc aq _;by_cases U:name.data.toList∈(kZ ss buf).map gS.name
  .rw[decide_eq_true U]at ah;have al:eS (qO buf ss name.data.toList=if 100<=kV buf then(4,buf)else(0,ia buf [⟨name.data.toList,true,[],0,0⟩])):=by show qO _ _ _=_; rw[HU.out,if_neg (λh=>ai.1 h U)]
   clear ai U hs ag ak HU;have ac:=O.out;obtain⟨w2,ar⟩:∃w2,w1.alloc (.cells #[.bool g,.string aa,.string tt,.int .i64 nn,.int .i64 mm] 111)=w2:=⟨_,rfl⟩;rw[ar]at ac;have ay:w2.cell? ⟨b,0,none⟩=some (.map (some Bb)):=dC ac (by rw[Ps HE.out.blk]; rfl);have au:=xf Bb buf w2 (ir.below HE.out.say ac) (by have:=tj HE.out.inv; omega);have av:eS (Below _ _ _):=ac;clear O ac;go_wp2_with fail;refine au.mono ?_;rintro e w3 ⟨rfl,W⟩;have y:eS (Below w.heap.size w w3):=av.out.trans (W.mono av.out.size);clear au W ar ah ay;by_cases ad:100<=kV buf
   .have B:eS (qO buf ss name.data.toList=(4,buf)):=by show qO _ _ _=_; rw[al.out,if_pos ad]
    have ae:(100:Int)<=(kV buf:Int):=by omega
    go_wp2;go_ret;refine⟨iJ (by rw[B.out]; rfl),?_,gV.jk y.out⟩;rw[B.out];exact we.below HP.out y.out
   .have B:eS (qO buf ss name.data.toList=(0,ia buf [⟨name.data.toList,true,[],0,0⟩])):=by show qO _ _ _=_; rw[al.out,if_neg ad]
    have ae:¬(100:Int)<=(kV buf:Int):=by omega
    clear al ad aq;go_wp2_with fail;clear ae;generalize w3=w2 at *
    have Y:w2.drew.cell? ⟨b,0,none⟩=some (.map (some Bb)):=by
     have:w2.cell? ⟨b,0,none⟩=some (.map (some Bb)):=dC y.out (by rw[Ps HE.out.blk]; rfl);exact this
    have O:eS (Below w.heap.size w w2.drew):=⟨y.out.os,y.out.tape,y.out.output,y.out.size,y.out.block⟩;clear y;refine dI (S:=λw'=>w'.cell? ⟨b,0,none⟩=some (.map (some Bb))) (by kernel_rfl) ?_;refine iV 0 ?_ Y ?_<|iV 1 ?_ Y ?_<|iV 2 ?_ Y ?_<|iV 3 ?_ Y ?_<|iV 4 ?_ Y ?_ ?_
    any_goals(rintro w' a4; go_simp; first|done|with_reducible rfl)
    refine dE (rs:=[5]) (by kernel_rfl) (by simp) ?_;intro i hi;simp only[cp]at hi;subst hi;refine dF (by rfl) λK' af=>?_;rw[if_pos (by rfl)];unfold fh;go_simp;refine(qY name w2.drew ax).mono ?_;rintro e w3 ⟨rfl,W⟩;have y:eS (Below w.heap.size w w3):=O.out.trans (W.mono O.out.size);have az:w3.cell? ⟨b,0,none⟩=some (.map (some Bb)):=dC W Y;clear W;refine af _ _ ⟨az,?_⟩;clear af;refine dE (rs:=[6]) (by kernel_rfl) (by simp) ?_;intro i hi;simp only[cp]at hi;subst hi;refine dF (by rfl) λK' af=>?_;rw[if_pos (by rfl)];unfold fh;go_simp;have am:=Dw Bb buf name.data.toList w3 (ir.below HE.out.say y.out) (by have:=tj HE.out.inv; omega) ap;rw[<-bytes_eta name]at am;refine am.mono ?_;rintro e w5 ⟨rfl,q1,q2⟩;clear am;have aw:FA w3 F b buf ss Bb vS vM vK:=HE.out.stay (λk U=>y.out.block k (HF.out k U));have an:∀k,F k->k<w3.heap.size:=λk U=>dL (HF.out k U) y.out.size
    have hi:Inv (ia buf [⟨name.data.toList,true,[],0,0⟩]) ss:=by
     have:=HI.out;rw[B.out]at this;exact this
    have ao:=aw.buffer an q2 q1 hi;have a0:eS (FA _ _ _ _ _ _ _ _ _):=ao;have a1:eS (gV F w w5):=(gV.jk y.out).then (q2.mono (λk U=>by subst U; exact HE.out.fB));have a2:eS (∀k,F k->k<w5.heap.size):=λk U=>dL (an k U) q2.size;refine af _ _ ⟨by rw[Ps ao.blk]; rfl,dJ (by kernel_rfl) ?_ _⟩;clear af q1 q2 aw an hi ao;go_wp2;go_ret;refine⟨iJ (by rw[B.out]; rfl),?_,a1.out⟩;rw[B.out];exact⟨a2.out,Bb,vS,a0.out⟩
  .rw[decide_eq_false U]at ah;have B:eS (qO buf ss name.data.toList=(5,buf)):=by show qO _ _ _=_; rw[HU.out,if_pos (ai.2 U)]
   clear ai U hs ag ak HU;go_wp2;go_ret;refine⟨iJ (by rw[B.out]; rfl),?_,gV.jk O.out⟩;rw[B.out];exact we.below HP.out O.out
 .have aj:mf name.data.toList=false:=by simpa using D
  rw[aj]at ab;have HU:eS (qO buf ss name.data.toList=(1,buf)):=by show qO _ _ _=_; unfold qO; rw[if_neg D]
  clear D aj;go_enter func37,ntmps37;go_wp2_with fail;refine ab.mono ?_;rintro e w' ⟨rfl,rfl⟩;go_wp2;go_ret;refine⟨iJ (by rw[HU.out]; rfl),?_,gV.refl _ _⟩;rw[HU.out];exact HP.out
theorem Lw(w:World)(F:Nat->Prop)(b:Nat)(buf:List gS)(ss:List (List gS))(y:we vM vK w F b buf ss) :
  dG prog 30 #[.pointer (some ⟨b,0,none⟩)] w λe w'=>e=.returned (.int .i64 ss.length)/\w=w':=by
 obtain⟨hF,Bb,vS,h⟩:=y;obtain⟨B,D,rfl,O⟩:=ib h.row;have U:w.cell? ⟨b,1,none⟩=some (.slice B ss.length D):=by rw[Ps h.blk]; rfl
 clear h;go_enter func30,ntmps30;go_wp2;go_ret;exact⟨rfl,rfl⟩
def sq(ss:List (List gS))(n:Int):Wd×Nat:=if n<0\/(ss.length:Int)<=n then([],6)else(ix (ss.getD n.toNat []),0)
theorem S8(w:World)(F:Nat->Prop)(b:Nat)(buf:List gS)(ss:List (List gS))(n:Int)(hP:we vM vK w F b buf ss) :
  dG prog 26 #[.pointer (some ⟨b,0,none⟩),.int .i64 n] w λe w'=>e=.returned (.tuple #[.string ⟨(sq ss n).1.toArray⟩,.int .i64 (sq ss n).2])/\w=w':=by
 obtain⟨hF,Bb,vS,h⟩:=hP;obtain⟨O,cS,rfl,aa⟩:=ib h.row;have ab:w.cell? ⟨b,1,none⟩=some (.slice O ss.length cS):=by rw[Ps h.blk]; rfl
 have h6:=h.inv.yE
 have HR:eS (∀j(U:j<ss.length),∃bb off,O=some ⟨bb,off,none⟩/\w.cell? ⟨bb,off+j,none⟩=some (.string ⟨(ix ss[j]).toArray⟩)):=by
  intro j U;obtain⟨a',c',W,_,_,hr⟩:=Rd.lr h.row;simp only[eT]at W;obtain⟨rfl,_,rfl⟩:=W;exact hr j _ (by simp[gQ,U])
 clear h;by_cases Y:n<0
 .have y:eS (sq ss n=([],6)):=by show sq _ _=_; unfold sq; rw[if_pos (Or.inl Y)]
  go_enter eR,eK;go_wp2;go_ret2;rw[y.out];exact⟨rfl,rfl⟩
 .have B:0<=n:=by omega
  by_cases h1:(ss.length:Int)<=n
  .have y:eS (sq ss n=([],6)):=by show sq _ _=_; unfold sq; rw[if_pos (Or.inr h1)]
   go_enter eR,eK;go_wp2;go_ret2;rw[y.out];exact⟨rfl,rfl⟩
  .obtain⟨m,rfl⟩:∃m:Nat,n=(m:Int):=⟨n.toNat,by omega⟩;have hm:m<ss.length:=by omega
   have ac:(m:Int)<(ss.length:Int):=by omega
   have y:eS (sq ss (m:Int)=(ix ss[m],0)):=by
    show sq _ _=_;unfold sq;rw[if_neg (by omega),Int.toNat_natCast,di,db hm];rfl
   obtain⟨bb,off,rfl,D⟩:=HR.out m hm;clear Y B h1;go_enter eR,eK;go_wp2;go_ret2;rw[y.out];exact⟨rfl,rfl⟩
end
section
open Go.RowKit Go.Maps
variable {base:Nat} {v v' x:Value} {l:Wd} {w w':World}
theorem Aw{P:Program}(w:World)(base:Nat)(t u Y e:dK)(i:TypeInfo)(ht:P.underlying t=some (.slice e))(hu:P.underlying u=some .string)(hi:P.info? e=some i)(hz:i.zero=some (.int .u8 0))
  (h:i.size=1) (W:i.bytes=1) (v:Value) (n:Nat) (xs:List Value) (y:w.ownsRow base e 1 v n xs) (hn:0<n) (s:ByteArray) (hb:(n+s.size)*1<=140737488355328) (B:base<=w.heap.size) :
  ∃v' w',(Builtin.append_ #[t,u] Y #[v,.string s]).run P w=.ok v' w'/\w'.ownsRow base e 1 v' (n+s.size) (xs++j0 s.data.toList)/\w.grownBy w' v.ownBlock/\(v'.ownBlock=v.ownBlock\/v'.ownBlock=some w.heap.size):=by
 obtain⟨v',w',D,h2,h3,_⟩:=Lib.run_append_own_string (P:=P) w base t u Y e i ht hu hi hz h W v n xs y s (by unfold dD; omega) (by omega) B;refine⟨v',w',D,h2,h3,?_⟩;rcases y.2 with⟨rfl,rfl⟩|⟨g,c,aa,rfl,ac,hg,ad,ae,af,ab⟩
 .omega
 .by_cases O:n+s.size<=c
  .have U:=Lib.run_append_room_string (P:=P) w t u Y e i ht hu hi h g n c aa hg s O (by omega);rw[U]at D;simp only[Result.ok.injEq]at D;exact Or.inl (by rw[<-D.1]; rfl)
  .have holds:∀j u,xs[j]?=some u->w.cell? ((⟨g,0,none⟩:Addr).add j)=some u:=y.cells (g:=g) rfl;have U:=Lib.run_append_grow_string (P:=P) w t u Y e i (.int .u8 0) ht hu hi hz ⟨g,0,none⟩ n c xs (by rw[h]; exact y.1) holds s (by omega) (by omega) (by rw[W]; exact growslice_fits (by omega) hb);rw[U]at D;simp only[Result.ok.injEq]at D;exact Or.inr (by rw[<-D.1]; rfl)
theorem vJ{P:Program}(w:World){ops:Array Oper}{rest:List Oper}{o:Oper}{a:Act}{Q:Exit->Act->World->Prop}(O:o.guard=none)(sl x:Operand)(t u:dK)
  (W:o.op=.call {callee:=.builtin .append,args:=#[sl,x],argTypes:=#[t,u]})
  (base:Nat) (e:dK) (i:TypeInfo) (Y:P.underlying t=some (.slice e)) (hu:P.underlying u=some .string) (hi:P.info? e=some i) (hz:i.zero=some (.int .u8 0))
  (y:i.size=1) (U:i.bytes=1) (v:Value) (n:Nat) (xs:List Value) (hs:a.eval sl=v) (D:w.ownsRow base e 1 v n xs) (hn:0<n) (s:ByteArray) (hx:a.eval x=.string s) (hb:(n+s.size)*1<=140737488355328) (B:base<=w.heap.size)
  (h:∀v' w',w'.ownsRow base e 1 v' (n+s.size) (xs++j0 s.data.toList)->w.grownBy w' v.ownBlock->(v'.ownBlock=v.ownBlock\/v'.ownBlock=some w.heap.size)->wpList P ops Q rest (a.put o.dst v') w'):wpList P ops Q (o::rest) a w:=by
 refine wpList_plain O λ_ hK=>?_;obtain⟨v',w',hr,h2,h3,h4⟩:=Aw (P:=P) w base t u o.type e i Y hu hi hz y U v n xs D hn s hb B;unfold fh execOp;simp only[W,resolve,invoke,builtin,Sem.run_bind,Sem.run_pure,Result.andThen_ok,List.map_toArray,dA,dB,hs,hx,hr];exact hK _ _ (h v' w' h2 h3 h4)
def lj(w:World)(base:Nat)(v:Value)(l:Wd):Prop:=w.ownsRow base 5 1 v l.length (j0 l)
def kq(w w':World)(v v':Value):Prop:=gV (λk=>v.ownBlock=some k) w w'/\∀k,v'.ownBlock=some k->v.ownBlock=some k\/w.heap.size<=k
theorem kq.trans{a b c:World}{u:Value}(h:kq a b u v)(k:kq b c v x):kq a c u x:=by
 refine⟨h.1.trans k.1 (λi hi B=>?_),λi hi=>?_⟩
 .rcases h.2 i B with y|y
  .exact y
  .omega
 .rcases k.2 i hi with y|y
  .exact h.2 i y
  .exact Or.inr (dR h.1.size y)
theorem kq.below(h:Below w.heap.size w w')(v:Value):kq w w' v v:=⟨gV.jk h,λ_ h=>Or.inl h⟩
theorem kq.of{o:Obj}(y:(w.alloc o).grownBy w' v.ownBlock)(D:v'.ownBlock=v.ownBlock\/v'.ownBlock=some (w.heap.size+1)):kq w w' v v':=by
 have O:=y.size;simp at O;refine⟨⟨y.os,y.tape,y.output,by omega,λk B U=>?_⟩,λk B=>?_⟩
 .rw[y.block k (by simp; omega) (λe=>U e.symm),Below.heap_alloc _ _ _ B]
 .rcases D with h|h
  .exact Or.inl (by rw[<-h]; exact B)
  .rw[h]at B;simp at B;exact Or.inr (by omega)
theorem kq.TX(y:w.grownBy w' v.ownBlock)(D:v'.ownBlock=v.ownBlock\/v'.ownBlock=some w.heap.size):kq w w' v v':=by
 refine⟨⟨y.os,y.tape,y.output,y.size,λk B O=>y.block k B (λe=>O e.symm)⟩,λk B=>?_⟩;rcases D with h|h
 .exact Or.inl (by rw[<-h]; exact B)
 .rw[h]at B;simp at B;exact Or.inr (by omega)
def MP(base:Nat)(w:World)(v:Value)(l new:Wd)(e:Ending)(w':World):Prop:=∃v',e=.returned v'/\lj w' base v' (l++new)/\kq w w' v v'
theorem lj.below(h:lj w base v l)(hb:Below w.heap.size w w'):lj w' base v l:=iB h (λk y=>hb.block k (h.lt k y).2)
theorem kP(a b:Wd):j0 (a++b)=j0 a++j0 b:=by simp[j0]
theorem mI(base:Nat)(v:Value)(l:Wd)(s:ByteArray)(w:World)(h:lj w base v l)(hl:l.length<=1099511627776)(hs:s.size<=1099511627776)(ae:base<=w.heap.size) :
  dG prog 177 #[v,.string s] w (MP base w v l (io s.data.toList)):=by
 obtain⟨i0,hi,O,U,W⟩:=dH Fv;obtain⟨a,c,rfl,hc⟩:=ib h;have HO:eS (lj _ _ _ _):=h;clear h;go_enter func177,ntmps177
 go_wp2_with (first
  |(at_builtin; refine iQ _ rfl _ _ 60 rfl base 5 i0 (.int .u8 0) 1 dT hi O U W rfl _ _ _ rfl (HO.out.alloc _) _ [.int .u8 ((s.size:Int) % 256)] rfl (Rd.one ki) (by simp[fg]) ?c1 ?c2 ?c3 ?_))
 case c1=>simp; omega
 case c2=>unfold dD; simp; omega
 case c3=>simp; omega
 intro v1 w1 y Y aa
 have hO1:lj w1 base v1 (l++[u8 s.size]):=by
  unfold lj;rw[kP,oI,cc];exact y
 have ab:eS (kq w w1 (.slice a l.length c) v1):=kq.of Y aa
 have B:w1.ownsRow base 5 1 v1 (l.length+1) (j0 (l++[u8 s.size])):=by
  unfold lj at hO1;rw[cc]at hO1;exact hO1
 obtain⟨a1,c1,rfl,aj⟩:=ib B;have af:eS (w1.ownsRow base 5 1 (.slice a1 (l.length+1) c1) (l.length+1) (j0 (l++[u8 s.size]))):=B;have ai:=ab.out.1.size;clear y Y aa hO1 B
 go_wp2_with (first
  |(at_builtin; refine vJ _ rfl _ _ 60 9 rfl base 5 i0 dT dU hi O U W _ _ _ rfl af.out ?d1 s rfl ?d2 ?d3 ?_))
 case d1=>omega
 case d2=>omega
 case d3=>omega
 intro v2 w2 D ac ad
 have ag:eS (lj w2 base v2 (l++io s.data.toList)):=by
  show lj _ _ _ _;unfold lj io;have e:l++u8 s.data.toList.length::s.data.toList=(l++[u8 s.size])++s.data.toList:=by simp
  rw[e,kP,cc];have e2:s.data.toList.length=s.size:=by simp
  have e3:(l++[u8 s.size]).length=l.length+1:=by simp
  rw[e2,e3];exact D
 have ah:eS (kq w w2 (.slice a l.length c) v2):=ab.out.trans (kq.TX ac ad);clear D ac ad;go_wp2;go_ret;exact⟨v2,rfl,ag.out,ah.out⟩
theorem Rd.three{y z:Value}{t:dK}:Rd (w.alloc (.cells #[x,y,z] t)) (.slice (some ⟨w.heap.size,0,none⟩) 3 3) [x,y,z]:=by
 refine⟨some ⟨w.heap.size,0,none⟩,3,rfl,dN _,by unfold dD; omega,λj u h=>⟨w.heap.size,0,rfl,?_⟩⟩;rw[eY _ _ _ _ rfl,dQ]
 match j,h with
 |0,h=>simpa using h
 |1,h=>simpa using h
 |2,h=>simpa using h
 |j+3,h=>simp at h
theorem qN(base:Nat)(v:Value)(l:Wd)(n:Int)(w:World)(h:lj w base v l)(hl:l.length<=1099511627776)(ac:0<=n)(hn:n<=1000000)(O:base<=w.heap.size) :
  dG prog 178 #[v,.int .i64 n] w (MP base w v l (kY n)):=by
 obtain⟨i0,hi,U,W,Y⟩:=dH Fv;obtain⟨a,c,rfl,hc⟩:=ib h;have HO:eS (lj _ _ _ _):=h;clear h;go_enter func178,ntmps178
 go_wp2_with (first
  |(at_builtin; refine iQ _ rfl _ _ 60 rfl base 5 i0 (.int .u8 0) 1 dT hi U W Y rfl _ _ _ rfl (HO.out.alloc _) _ [.int .u8 (n / 65536),.int .u8 (n / 256 % 256),.int .u8 (n % 256)] rfl Rd.three (by simp[fg]) ?c1 ?c2 ?c3 ?_))
 case c1=>simp; omega
 case c2=>unfold dD; simp; omega
 case c3=>simp; omega
 intro v1 w1 y B D
 have aa:eS (lj w1 base v1 (l++kY n)):=by
  show lj _ _ _ _;unfold lj;rw[kP,cc]
  have e:j0 (kY n)=[.int .u8 (n / 65536),.int .u8 (n / 256 % 256),.int .u8 (n % 256)]:=by
   obtain⟨m,rfl⟩:∃m:Nat,n=(m:Int):=⟨n.toNat,by omega⟩;rw[wW m (by omega)];simp only[j0,dA,dB];rw[uy _ (by omega),uy _ (by omega),uy _ (by omega)];simp
  rw[e];exact y
 have ab:eS (kq w w1 (.slice a l.length c) v1):=kq.of B D;clear y B D;go_wp2;go_ret;exact⟨v1,rfl,aa.out,ab.out⟩
theorem lj.form(h:lj w base v l):∃a c,v=.slice a l.length c:=by
 obtain⟨a,c,e,_⟩:=ib h;exact⟨a,c,e⟩
theorem yy(base:Nat)(v:Value)(l:Wd)(e:gS)(w:World)(h:lj w base v l)(hl:l.length<=549755813888)(ah:Oy e)(a5:base<=w.heap.size) :
  dG prog 181 #[v,wz e] w (MP base w v l (pZ e)):=by
 obtain⟨i0,hi,a6,a7,a8⟩:=dH Fv;obtain⟨y,gn,tx,wt,tg⟩:=e;have h1:=(lA ah.2.1).2;have h2:=pJ ah.2.2.1;obtain⟨_,_,_,_,h3,h4,h5,h6⟩:=ah;simp only at h1 h2 h3 h4 h5 h6;obtain⟨a,c,rfl⟩:=h.form;obtain⟨w0,ai⟩:∃w0,w.alloc (.cells #[.string ⟨y.toArray⟩,.string ⟨tx.toArray⟩,.int .i64 wt,.int .i64 tg] 96)=w0:=⟨_,rfl⟩;have aa:Below w.heap.size w w0:=by rw[<-ai]; exact(eW _ _).alloc (dN _) _
 have aT:=aa.size;have aj:w0.heap[w.heap.size]?=some (.cells #[.string ⟨y.toArray⟩,.string ⟨tx.toArray⟩,.int .i64 wt,.int .i64 tg] 96 (0,0)):=by rw[<-ai]; exact heap_alloc_new w _
 have B:∀W:World,W.heap[w.heap.size]?=some (.cells #[.string ⟨y.toArray⟩,.string ⟨tx.toArray⟩,.int .i64 wt,.int .i64 tg] 96 (0,0))->W.cell? ⟨w.heap.size,0,none⟩=some (.string ⟨y.toArray⟩)/\W.cell? ⟨w.heap.size,1,none⟩=some (.string ⟨tx.toArray⟩)/\W.cell? ⟨w.heap.size,2,none⟩=some (.int .i64 wt)/\W.cell? ⟨w.heap.size,3,none⟩=some (.int .i64 tg):=by
  intro W hW;exact⟨by rw[Ps hW]; rfl,by rw[Ps hW]; rfl,by rw[Ps hW]; rfl,by rw[Ps hW]; rfl⟩
 have HC:eS (∀W:World,W.heap[w.heap.size]?=some (.cells #[.string ⟨y.toArray⟩,.string ⟨tx.toArray⟩,.int .i64 wt,.int .i64 tg] 96 (0,0))->W.cell? ⟨w.heap.size,0,none⟩=some (.string ⟨y.toArray⟩)/\W.cell? ⟨w.heap.size,1,none⟩=some (.string ⟨tx.toArray⟩)/\W.cell? ⟨w.heap.size,2,none⟩=some (.int .i64 wt)/\W.cell? ⟨w.heap.size,3,none⟩=some (.int .i64 tg)):=B;obtain⟨d0,_,_,_⟩:=B w0 aj;have ak:=h.below aa;have a9:(⟨y.toArray⟩:ByteArray).size<=1099511627776:=by show y.toArray.size<=_; simp; omega
 have a':(⟨tx.toArray⟩:ByteArray).size<=1099511627776:=by show tx.toArray.size<=_; simp; omega
 have au:=mI base _ l ⟨y.toArray⟩ w0 ak (by omega) a9 (by omega);have aA:eS (kq w w0 (.slice a l.length c) (.slice a l.length c)):=kq.below aa _;have al:eS (w0.heap[w.heap.size]?=some (.cells #[.string ⟨y.toArray⟩,.string ⟨tx.toArray⟩,.int .i64 wt,.int .i64 tg] 96 (0,0))):=aj;have av:∀(W:World)(v:Value)(k:Wd),lj W base v k->W.heap[w.heap.size]?=some (.cells #[.string ⟨y.toArray⟩,.string ⟨tx.toArray⟩,.int .i64 wt,.int .i64 tg] 96 (0,0))->v.ownBlock≠some w.heap.size:=λW v k ho hh=>nu hh ho (by decide);have am:eS (∀(W:World)(v:Value)(k:Wd),lj W base v k->W.heap[w.heap.size]?=some (.cells #[.string ⟨y.toArray⟩,.string ⟨tx.toArray⟩,.int .i64 wt,.int .i64 tg] 96 (0,0))->v.ownBlock≠some w.heap.size):=av;have aB:eS (lj _ _ _ _):=ak;clear h aa aj B av ak;unfold wz;go_enter func181,ntmps181;go_wp2_with fail;refine au.mono ?_;rintro e1 w1 ⟨v1,rfl,D,ab⟩;obtain⟨L1,ac⟩:∃L1,L1=l++io y:=⟨_,rfl⟩;have aX:L1.length<=l.length+30:=by rw[ac]; simp[io]; omega
 have aC:eS (L1=l++io y):=ac;change lj w1 base v1 (l++io y)at D;rw[<-ac]at D;have an:w1.heap[w.heap.size]?=some (.cells #[.string ⟨y.toArray⟩,.string ⟨tx.toArray⟩,.int .i64 wt,.int .i64 tg] 96 (0,0)):=by rw[ab.1.block _ (iN al.out) (am.out w0 _ _ aB.out al.out)]; exact al.out
 have aD:eS (kq w w1 (.slice a l.length c) v1):=aA.out.trans ab;obtain⟨a1,c1,rfl⟩:=D.form;have aw:eS (lj _ _ _ _):=D;have ao:eS (w1.heap[w.heap.size]?=some (.cells #[.string ⟨y.toArray⟩,.string ⟨tx.toArray⟩,.int .i64 wt,.int .i64 tg] 96 (0,0))):=an;obtain⟨aE,aF,aG,aH⟩:=HC.out w1 an;have aU:=ab.1.size;clear au D ab an ac;clear ai d0;have ax:=mI base _ L1 ⟨tx.toArray⟩ w1 aw.out (by omega) a' (by omega);go_wp2_with fail;refine ax.mono ?_;rintro e2 w2 ⟨v2,rfl,O,ad⟩;obtain⟨L2,ae⟩:∃L2,L2=L1++io tx:=⟨_,rfl⟩;have aY:L2.length<=L1.length+30:=by rw[ae]; simp[io]; omega
 have aI:eS (L2=L1++io tx):=ae;change lj w2 base v2 (L1++io tx)at O;rw[<-ae]at O;have ap:w2.heap[w.heap.size]?=some (.cells #[.string ⟨y.toArray⟩,.string ⟨tx.toArray⟩,.int .i64 wt,.int .i64 tg] 96 (0,0)):=by rw[ad.1.block _ (iN ao.out) (am.out w1 _ _ aw.out ao.out)]; exact ao.out
 have aJ:eS (kq w w2 (.slice a l.length c) v2):=aD.out.trans ad;obtain⟨a2,c2,rfl⟩:=O.form;have ay:eS (lj _ _ _ _):=O;have aq:eS (w2.heap[w.heap.size]?=some (.cells #[.string ⟨y.toArray⟩,.string ⟨tx.toArray⟩,.int .i64 wt,.int .i64 tg] 96 (0,0))):=ap;obtain⟨aK,aL,aM,aN⟩:=HC.out w2 ap;have aV:=ad.1.size;clear ax O ad ap ae;have az:=qN base _ L2 wt w2 ay.out (by omega) h3 h4 (by omega);clear aE aF aG aH;go_wp2_with fail;refine az.mono ?_;rintro e3 w3 ⟨v3,rfl,U,af⟩;obtain⟨L3,ag⟩:∃L3,L3=L2++kY wt:=⟨_,rfl⟩;have aZ:L3.length<=L2.length+30:=by rw[ag]; simp[kY]
 have aO:eS (L3=L2++kY wt):=ag;change lj w3 base v3 (L2++kY wt)at U;rw[<-ag]at U;have ar:w3.heap[w.heap.size]?=some (.cells #[.string ⟨y.toArray⟩,.string ⟨tx.toArray⟩,.int .i64 wt,.int .i64 tg] 96 (0,0)):=by rw[af.1.block _ (iN aq.out) (am.out w2 _ _ ay.out aq.out)]; exact aq.out
 have aP:eS (kq w w3 (.slice a l.length c) v3):=aJ.out.trans af;obtain⟨a3,c3,rfl⟩:=U.form;have aQ:eS (lj _ _ _ _):=U;have ba:eS (w3.heap[w.heap.size]?=some (.cells #[.string ⟨y.toArray⟩,.string ⟨tx.toArray⟩,.int .i64 wt,.int .i64 tg] 96 (0,0))):=ar;obtain⟨bc,bd,be,bf⟩:=HC.out w3 ar;have aW:=af.1.size;clear az U af ar ag;clear aK aL aM aN
 go_wp2_with (first
  |(at_builtin; refine iQ _ rfl _ _ 60 rfl base 5 i0 (.int .u8 0) 1 dT hi a6 a7 a8 rfl _ _ _ rfl (aQ.out.alloc _) _ [.int .u8 tg] rfl (Rd.one ki) (by simp[fg]) ?c1 ?c2 ?c3 ?_))
 case c1=>simp; omega
 case c2=>unfold dD; simp; omega
 case c3=>simp; omega
 intro v4 w4 Y a0 a4
 have aR:eS (lj w4 base v4 (l++pZ ⟨y,gn,tx,wt,tg⟩)):=by
  show lj _ _ _ _;have e:l++pZ ⟨y,gn,tx,wt,tg⟩=L3++[u8 tg]:=by rw[aO.out,aI.out,aC.out]; simp[pZ]
  rw[e];unfold lj;rw[kP,oI,cc,show tg % 256=tg by omega];exact Y
 have aS:eS (kq w w4 (.slice a l.length c) v4):=aP.out.trans (kq.of a0 a4);clear Y a0 a4;go_wp2;go_ret;exact⟨v4,rfl,aR.out,aS.out⟩
end
section
open Go.RowKit Go.Maps
variable {L:List gS} {b n o:Nat} {v:Value} {a:Wd} {w w':World}
structure wZ(w:World)(b o:Nat)(e:gS):Prop where
 path:w.cell? ⟨b,o,none⟩=some (.string ⟨(ie e).toArray⟩)
 name:w.cell? ⟨b,o+1,none⟩=some (.string ⟨e.name.toArray⟩)
 text:w.cell? ⟨b,o+2,none⟩=some (.string ⟨e.text.toArray⟩)
 gT:w.cell? ⟨b,o+3,none⟩=some (.int .i64 e.gT)
 il:w.cell? ⟨b,o+4,none⟩=some (.int .i64 e.il)
 blk:∃cs fz,w.heap[b]?=some (.cells cs 237 fz)
def wc(w:World)(v:Value)(L:List gS):Prop:=∃a cap,v=.slice a L.length cap/\L.length<=cap/\cap<=dD/\∀i(h:i<L.length),∃b off,a=some ⟨b,off,none⟩/\wZ w b (off+i*5) L[i]
theorem wZ.stay{e:gS}(h:wZ w b o e)(hb:w'.heap[b]?=w.heap[b]?):wZ w' b o e:=by
 have y:∀(o:Nat)(u:Value),w.cell? ⟨b,o,none⟩=some u->w'.cell? ⟨b,o,none⟩=some u:=λo u B=>by
  simp only[World.cell?]at B⊢;rw[hb];exact B
 exact⟨y _ _ h.path,y _ _ h.name,y _ _ h.text,y _ _ h.gT,y _ _ h.il,by rw[hb]; exact h.blk⟩
theorem wZ.lt{e:gS}(h:wZ w b o e):b<w.heap.size:=by
 obtain⟨cs,fz,y⟩:=h.blk;exact(eU.1 y).1
theorem wc.below(h:wc w v L)(hb:Below w.heap.size w w'):wc w' v L:=by
 obtain⟨a,cap,B,D,O,U⟩:=h;refine⟨a,cap,B,D,O,λi hi=>?_⟩;obtain⟨b,off,W,y⟩:=U i hi;exact⟨b,off,W,y.stay (hb.block b y.lt)⟩
theorem wc.wrote{u B:Value}{base:Nat}{l:Wd}(h:wc w v L)(D:lj w base u l)(O:kq w w' u B):wc w' v L:=by
 obtain⟨a,cap,U,W,Y,h4⟩:=h;refine⟨a,cap,U,W,Y,λi hi=>?_⟩;obtain⟨b,off,e1,y⟩:=h4 i hi;refine⟨b,off,e1,y.stay (O.1.block b y.lt (λe=>?_))⟩;obtain⟨cs,fz,hh⟩:=y.blk;exact nu hh D (by decide) e
theorem Es(v:Value)(L:List gS)(w:World)(h:wc w v L) :
  dG prog 179 #[v] w λe w'=>e=.returned (.int .i64 (k9 L))/\Below w.heap.size w w':=by
 obtain⟨a,cap,rfl,U,hm,D⟩:=h;have O:eS (∀i(h:i<L.length),∃b off,a=some ⟨b,off,none⟩/\wZ w b (off+i*5) L[i]):=D;unfold dD at hm;clear D;go_enter func179,ntmps179;go_wp2;go_loopw [3,8] (λg i wr=>∃k:Nat,k<=L.length/\i=.int .i64 k/\g=.int .i64 (k9 (L.take k))/\Below w.heap.size w wr) (λ_ i _=>L.length-(intOf i).toNat)
 case atStart=>exact⟨0,dM _,rfl,rfl,eW _ _⟩
 case round=>
  obtain⟨k,W,rfl,rfl,hb⟩:=hrel;have HB:eS (Below _ _ _):=hb;have hz:=hb.size;clear hb;by_cases B:k<L.length
  .obtain⟨b,off,rfl,y⟩:=O.out k B;have Y:=dC HB.out y.path;have q1:=dC HB.out y.name;have q2:=dC HB.out y.text;have q3:=dC HB.out y.gT;have q4:=dC HB.out y.il
   have HE:eS (k9 (L.take (k+1))=max (k9 (L.take k)) L[k].gT):=by
    show _=_;rw[cx B,qo,nC,show k9 []=0 from rfl];have:=nV (L.take k);omega
   clear y;go_wp2;go_roundw
   case rel=>exact⟨k+1,by omega,by go_num,by rw[HE.out],HB.out.alloc hz _⟩
   case measure=>simp[intOf]; omega
  .have HE:eS (L.take k=L):=dk (by omega);go_wp2;go_ret;exact⟨iJ (by rw[HE.out]),HB.out⟩
theorem Pn(L:List gS)(d:Nat):l7 L d<=L.length:=by
 unfold l7;exact(List.takeWhile_sublist _).length_le
theorem FP{d k:Nat}(y:k<=L.length)(B:∀j(h:j<k),(ie (L[j]'(by omega))).length=d)(D:∀h:k<L.length,(ie L[k]).length≠d):l7 L d=k:=by
 unfold l7;exact Bd _ _ k y (λj O=>by simpa using B j O) (λh=>by simpa using D h)
theorem yp(v:Value)(L:List gS)(d:Nat)(w:World)(h:wc w v L) :
  dG prog 180 #[v,.int .i64 d] w λe w'=>e=.returned (.int .i64 (l7 L d))/\Below w.heap.size w w':=by
 obtain⟨a,cap,rfl,hc,hm,Y⟩:=h;have HR:eS (∀i(h:i<L.length),∃b off,a=some ⟨b,off,none⟩/\wZ w b (off+i*5) L[i]):=Y;unfold dD at hm;clear Y;go_enter func180,ntmps180;go_wp2;go_loopw [5] (λi wr=>∃k:Nat,k<=L.length/\i=.int .i64 k/\(∀j(h:j<k)(h':j<L.length),(ie L[j]).length=d)/\Below w.heap.size w wr) (λi _=>L.length-(intOf i).toNat)
 case atStart=>exact⟨0,dM _,rfl,λj h=>by omega,eW _ _⟩
 case round=>
  obtain⟨k,hk,rfl,jO,hb⟩:=hrel;have D:eS (Below _ _ _):=hb;have O:eS (∀j(h:j<k)(h':j<L.length),(ie L[j]).length=d):=jO;clear hb jO;by_cases B:k<L.length
  .obtain⟨b,off,rfl,hL⟩:=HR.out k B;have q0:=dC D.out hL.path;have aa:(k:Int)<(L.length:Int):=by omega
   clear hL;by_cases y:(ie L[k]).length=d
   .have HD:eS ((ie L[k]).length=d):=y;have U:(((ie L[k]).length:Int)==(d:Int))=true:=beq_iff_eq.2 (by omega);clear y;go_wp2;go_roundw
    case rel=>exact⟨k+1,by omega,by go_num,λj h h'=>by
     by_cases e:j=k
     .subst e; exact HD.out
     .exact O.out j (by omega) h',D.out⟩
    case measure=>simp[intOf]; omega
   .have W:eS (l7 L d=k):=FP hk (λj h=>O.out j h (by omega)) (λ_=>y);have U:(((ie L[k]).length:Int)==(d:Int))=false:=beq_eq_false_iff_ne.2 (by omega);clear y;go_wp2;go_ret;exact⟨iJ (by rw[W.out]),D.out⟩
  .have W:eS (l7 L d=k):=FP hk (λj h=>O.out j h (by omega)) (λh=>absurd h B);go_wp2;go_ret;exact⟨iJ (by rw[W.out]),D.out⟩
theorem yQ{y:Type}{L:List y}(h:L≠[]):0<L.length:=List.length_pos_iff.2 h
theorem A2{b:Wd}(D:n<=a.length)(O:a.take n=b.take n)(U:n=a.length\/n=b.length\/a.getD n 0≠b.getD n 0):(tU a b).length=n:=by
 have W:a.take n <+: tU a b:=tF a b _ (dw _ _) (by rw[O]; exact dw _ _);have Y:=W.length_le;rw[dx,dO D]at Y;have B:=tC a b;have hb:=rV a b;rcases Nat.lt_or_ge n (tU a b).length with y|aa
 .have e1:=Fw B n y;have e2:=Fw hb n y;have:=B.length_le;have:=hb.length_le;rcases U with h|h|h
  .omega
  .omega
  .exact absurd (e1.trans e2.symm) h
 .omega
theorem KC{b:Wd}(y:n<a.length)(B:n<b.length)(D:a.take n=b.take n)(h:a.getD n 0=b.getD n 0):a.take (n+1)=b.take (n+1):=by
 rw[cx y,cx B,D];rw[di,db y,di,db B]at h;simp only[Option.getD_some]at h;rw[h]
theorem Od(h:L≠[]):lP L=tU (ie (L[0]'(yQ h))) (ie (L[L.length-1]'(by have:=yQ h; omega))):=by
 cases L with
 |nil=>exact absurd rfl h
 |cons e C=>
  unfold lP;simp only[dl];rw[List.getLast_eq_getElem]
theorem GI(v:Value)(L:List gS)(w:World)(h:wc w v L)(U:L≠[])(D:∀e∈L,(ie e).length<=24) :
  dG prog 183 #[v] w λe w'=>e=.returned (.int .i64 (lP L).length)/\Below w.heap.size w w':=by
 obtain⟨a,cap,rfl,hc,hm,hr⟩:=h;unfold dD at hm;have y:=yQ U;obtain⟨b,off,rfl,h0⟩:=hr 0 y;obtain⟨b',aj,e',h1⟩:=hr (L.length-1) (by omega);simp only[fi,fl,and_true]at e';obtain⟨rfl,rfl⟩:=e';have HC:eS (lP L=tU (ie (L[0]'y)) (ie (L[L.length-1]'(by omega)))):=Od U;have hA:(ie (L[0]'y)).length<=24:=D _ (ch _);have hB:(ie (L[L.length-1]'(by omega))).length<=24:=D _ (ch _);have c0:=h0.path;have c1:=h1.path;rw[dP,dS]at c0;obtain⟨m,ab⟩:∃m,L.length=m+1:=⟨L.length-1,by omega⟩;have O:L.length-1=m:=by omega
 rw[show off+(L.length-1)*5=off+m*5 by rw[O]]at c1;clear h0 h1 hr D;generalize ac:ie (L[0]'y)=A at *;generalize ad:ie (L[L.length-1]'(by omega))=B at *;clear ac ad U O y;rw[ab]at hc⊢;have al:IntKind.i64.wrap (((m+1:Nat):Int)-1)=(m:Int):=by simp only[IntKind.wrap_i64]; omega
 have ak:IntKind.i64.wrap ((m:Int)+1-1)=(m:Int):=by simp only[IntKind.wrap_i64]; omega
 have i0:(0:Int)<(m:Int)+1:=by omega
 have i1:(m:Int)<(m:Int)+1:=by omega
 have i2:(0:Int)<=(m:Int):=by omega
 have am:(⟨A.toArray⟩:ByteArray).size=A.length:=by show A.toArray.size=_; simp
 have an:(⟨B.toArray⟩:ByteArray).size=B.length:=by show B.toArray.size=_; simp
 have ae:eS (∀(n:Nat)(h:n<(⟨A.toArray⟩:ByteArray).size),(⟨A.toArray⟩:ByteArray)[n]=A.getD n 0):=λn h=>(nR ⟨A.toArray⟩ n h).symm;have af:eS (∀(n:Nat)(h:n<(⟨B.toArray⟩:ByteArray).size),(⟨B.toArray⟩:ByteArray)[n]=B.getD n 0):=λn h=>(nR ⟨B.toArray⟩ n h).symm;generalize (⟨A.toArray⟩:ByteArray)=bA at *;generalize (⟨B.toArray⟩:ByteArray)=bB at *;go_enter func183,ntmps183;go_wp2_with fail;go_quiet (fail);go_wp2;go_loopw [5] (λi wr=>∃n:Nat,n<=A.length/\n<=B.length/\i=.int .i64 n/\A.take n=B.take n/\Below w.heap.size w wr) (λi _=>A.length-(intOf i).toNat)
 case atStart=>exact⟨0,dM _,dM _,rfl,by simp,mA (eW _ _) _⟩
 case round=>
  obtain⟨n,W,ao,rfl,aa,hb⟩:=hrel;have HB:eS (Below _ _ _):=hb;have HE:eS (A.take n=B.take n):=aa;clear hb aa;by_cases h1:n<A.length
  .have ag:(n:Int)<(A.length:Int):=by omega
   by_cases h2:n<B.length
   .have ah:(n:Int)<(B.length:Int):=by omega
    have gA:=ae.out n (by omega);have gB:=af.out n (by omega);by_cases Y:A.getD n 0=B.getD n 0
    .have HT:eS (A.take (n+1)=B.take (n+1)):=KC h1 h2 HE.out Y;have ai:(((bA[n]'(by omega)).toNat:Int)==((bB[n]'(by omega)).toNat:Int))=true:=beq_iff_eq.2 (by rw[gA,gB,Y]);clear Y gA gB;go_wp2_with fail;go_quiet (fail);go_wp2;go_roundw
     case rel=>exact⟨n+1,by omega,by omega,by go_num,HT.out,mA HB.out _⟩
     case measure=>simp[intOf]; omega
    .have HT:eS ((lP L).length=n):=by show _=_; rw[HC.out]; exact A2 W HE.out (Or.inr (Or.inr Y))
     have ai:(((bA[n]'(by omega)).toNat:Int)==((bB[n]'(by omega)).toNat:Int))=false:=beq_eq_false_iff_ne.2 (by
      rw[gA,gB];intro hh
      exact Y (UInt8.toNat_inj.1 (by omega)))
     clear Y gA gB;go_wp2_with fail;go_quiet (fail);go_wp2;go_ret;exact⟨iJ (by rw[HT.out]),mA HB.out _⟩
   .have HT:eS ((lP L).length=n):=by show _=_; rw[HC.out]; exact A2 W HE.out (Or.inr (Or.inl (by omega)))
    have ah:decide ((n:Int)<(B.length:Int))=false:=decide_eq_false (by omega);go_wp2_with fail;go_quiet (fail);go_wp2;go_ret;exact⟨iJ (by rw[HT.out]),mA HB.out _⟩
  .have HT:eS ((lP L).length=n):=by show _=_; rw[HC.out]; exact A2 W HE.out (Or.inl (by omega))
   have ag:decide ((n:Int)<(A.length:Int))=false:=decide_eq_false (by omega);go_wp2_with fail;go_quiet (fail);go_wp2;go_ret;exact⟨iJ (by rw[HT.out]),mA HB.out _⟩
end
section
open Go.RowKit Go.Maps
variable {Cs:List (List gS)} {L:List gS} {v:Value} {w w':World}
theorem LX(d:Nat)(e:gS)(l:List gS):∃g gs,runs d (e::l)=(e::g)::gs:=by
 unfold runs;split
 .exact⟨[],[],rfl⟩
 .exact⟨[],_,rfl⟩
 .split
  .exact⟨_,_,rfl⟩
  .exact⟨[],_,rfl⟩
theorem Oj(d:Nat):∀(X:List gS)(j:Nat),j<X.length->(∀i,i<j->∀(O:i+1<X.length),jr d (X[i]'(by omega))=jr d X[i+1])->(∀h:j+1<X.length,jr d (X[j]'(by omega))≠jr d X[j+1])->
  runs d X=X.take (j+1)::runs d (X.drop (j+1)):=by
 intro X
 induction X with
 |nil=>intro j h; simp at h
 |cons e l ih=>
  intro j hj U W
  cases j with
  |zero=>
   cases l with
   |nil=>simp[runs]
   |cons x Y=>
    obtain⟨g,gs,hg⟩:=LX d x Y;have y:=W (by simp);simp only[dl,dq]at y;simp only[dm,List.take_zero,dt,List.drop_zero];rw[runs,hg];simp only;rw[if_neg y]
  |succ j=>
   have B:j<l.length:=by simpa using hj
   have h1:=ih j B (λi h O=>by have:=U (i+1) (by omega) (by simpa using O); simpa using this) (λh=>by have:=W (by simpa using h); simpa using this)
   cases l with
   |nil=>simp at B
   |cons x Y=>
    have D:=U 0 (by omega) (by simp);simp only[dl,dq]at D;rw[dm,dt,runs,h1,dm];simp only;rw[if_pos D]
theorem zN{d:Nat}{st k:Nat}(B:st<=k)(W:k<L.length)(D:∀i,st<=i->i<k->∀(y:i+1<L.length),jr d (L[i]'(by omega))=jr d L[i+1])(O:∀h:k+1<L.length,jr d (L[k]'(by omega))≠jr d L[k+1]) :
  runs d (L.drop st)=(L.drop st).take (k+1-st)::runs d (L.drop (k+1)):=by
 have h:=Oj d (L.drop st) (k-st) (by simp; omega) (λi hi y=>by
  rw[dc]at y;have:=D (st+i) (by omega) (by omega) (by omega)
  simpa[Nat.add_assoc]using this) (λy=>by
  rw[dc]at y;have:=O (by omega);have e:st+(k-st)=k:=by omega
  have U:st+(k-st+1)=k+1:=by omega
  simpa[e,U]using this)
 rw[h,List.drop_drop,show st+(k-st+1)=k+1 by omega,show k-st+1=k+1-st by omega]
theorem wc.sub{b off n cap:Nat}(h:wc w (.slice (some ⟨b,off,none⟩) n cap) L)(s t:Nat)(O:s<=t)(ht:t<=L.length):wc w (.slice (some ⟨b,off+s*5,none⟩) (t-s) (cap-s)) ((L.drop s).take (t-s)):=by
 obtain⟨a,c,e,h1,h2,U⟩:=h;simp only[eT]at e;obtain⟨rfl,_,rfl⟩:=e;have y:((L.drop s).take (t-s)).length=t-s:=by simp; omega
 refine⟨some ⟨b,off+s*5,none⟩,cap-s,by rw[y],by omega,by omega,λi hi=>?_⟩;rw[y]at hi;obtain⟨b',B,D,W⟩:=U (s+i) (by omega);simp only[fi,fl,and_true]at D;obtain⟨rfl,rfl⟩:=D;refine⟨b,off+s*5,rfl,?_⟩;have Y:((L.drop s).take (t-s))[i]'(by rw[y]; exact hi)=L[s+i]'(by omega):=by simp
 rw[Y,show off+s*5+i*5=off+(s+i)*5 by omega];exact W
def rD(w:World)(v:Value)(Cs:List (List gS)):Prop:=∃vs:List Value,w.ownsRow 0 190 1 v Cs.length vs/\Zip (wc w) vs Cs
theorem rD.below(h:rD w v Cs)(hb:Below w.heap.size w w'):rD w' v Cs:=by
 obtain⟨vs,y,B⟩:=h;exact⟨vs,iB y (λk D=>hb.block k (y.lt k D).2),B.mono (λu l O=>O.below hb)⟩
theorem rD.wrote{u U:Value}{base:Nat}{l:Wd}(h:rD w v Cs)(B:lj w base u l)(D:kq w w' u U):rD w' v Cs:=by
 obtain⟨vs,y,W⟩:=h;exact⟨vs,iB y (λk O=>D.1.block k (y.lt k O).2 (λe=>vW y B (by decide) k O e)),W.mono (λu l Y=>Y.wrote B D)⟩
theorem Sa:(prog.info? 190).map (λi=>(i.zero,i.size,i.bytes))=some (some (.slice none 0 0),1,24):=by kernel_rfl
theorem LA(v:Value)(L:List gS)(d:Nat)(w:World)(h:wc w v L)(hk:∀e∈L,d<(ie e).length)(ar:∀e∈L,(ie e).length<=24)(hl:L.length<=1048576) :
  dG prog 182 #[v,.int .i64 d] w λe w'=>∃v',e=.returned v'/\rD w' v' (runs d L)/\Below w.heap.size w w':=by
 obtain⟨i0,hi,au,av,aw⟩:=dH Sa;obtain⟨a,cap,rfl,hc,hm,hr⟩:=id h;have HL:eS (wc _ _ _):=h;have HR:eS (∀i(h:i<L.length),∃b off,a=some ⟨b,off,none⟩/\wZ w b (off+i*5) L[i]):=hr;have HK:eS (∀e∈L,d<(ie e).length):=hk;have ax:eS (∀e∈L,(ie e).length<=24):=ar;unfold dD at hm;clear hr h hk ar;go_enter func182,ntmps182;go_wp2;go_loopw [5,6,11] (λv s i wr=>∃(k st:Nat)(D:List (List gS))(vs:List Value),k<=L.length/\st<=k/\i=.int .i64 k/\s=.int .i64 st/\D.length<=k/\wr.ownsRow w.heap.size 190 1 v D.length vs/\Zip (wc w) vs D/\runs d L=D++runs d (L.drop st)/\(∀i(h:st<=i)(h2:i<k)(h':i+1<L.length),jr d (L[i]'(by omega))=jr d L[i+1])/\(k=L.length->st=k)/\Below w.heap.size w wr) (λ_ _ i _=>L.length-(intOf i).toNat)
 case atStart=>exact⟨0,0,[],[],dM _,dN _,rfl,rfl,dN _,eZ _ _ _ _,Zip.nil _,by simp,λi h h2=>by omega,λ_=>rfl,eW _ _⟩
 case round=>
  obtain⟨k,st,D,vs,aG,ay,rfl,rfl,aH,U,ai,W,Y,aa,hb⟩:=hrel;have HB:eS (Below _ _ _):=hb;have HO:eS (wr.ownsRow w.heap.size 190 1 _ D.length vs):=U;have HZ:eS (Zip _ _ _):=ai;have ae:eS (runs d L=D++runs d (L.drop st)):=W;have HS:eS (∀i(h:st<=i)(h2:i<k)(h':i+1<L.length),jr d (L[i]'(by omega))=jr d L[i+1]):=Y;obtain⟨aP,cP,rfl,aI⟩:=ib U;have hz:=hb.size;clear hb U ai W Y;by_cases ab:k<L.length
  .obtain⟨b,off,rfl,hL⟩:=HR.out k ab;have q0:=dC HB.out hL.path;have a8:(k:Int)<(L.length:Int):=by omega
   have az:eS (wc w (.slice (some ⟨b,off+st*5,none⟩) (k+1-st) (cap-st)) ((L.drop st).take (k+1-st))):=HL.out.sub st (k+1) (by omega) (by omega);have aJ:=HK.out _ (ch ab);clear hL aa;by_cases ac:k+1=L.length
   .have a2:(((k:Int)+1)==(L.length:Int))=true:=beq_iff_eq.2 (by omega);have HC:eS (runs d (L.drop st)=(L.drop st).take (k+1-st)::runs d (L.drop (k+1))):=zN ay ab (λi h h2 h'=>HS.out i h h2 h') (λh=>by omega);have a0:st<cap:=by omega
    have af:(k:Int)+1<=(cap:Int):=by omega
    clear ac;go_wp2_with fail;go_quiet (fail);have ad:eS ((wr.drewN nq).ownsRow w.heap.size 190 1 (.slice aP D.length cP) D.length vs):=HO.out;have ak:eS (Below w.heap.size w (wr.drewN nq)):=mA HB.out nq;have al:w.heap.size<=(wr.drewN nq).heap.size:=hz;clear HO;generalize wr.drewN nq=wd at *
    go_wp2_with (first
     |(at_builtin; refine jp _ rfl _ _ 239 rfl w.heap.size 190 i0 (.slice none 0 0) 24 ek hi au av aw rfl _ _ _ rfl (ad.out.alloc _) ⟨wd.heap.size,0,none⟩ _ rfl ki rfl ?c1 ?c2 ?c3 ?_))
    case c1=>omega
    case c2=>unfold dD; omega
    case c3=>first|omega|(simp; omega)
    intro v' w1 y B _
    have am:eS (w1.ownsRow w.heap.size 190 1 v' (D++[(L.drop st).take (k+1-st)]).length (vs++[.slice (some ⟨b,off+st*5,none⟩) (k+1-st) (cap-st)])):=by
     show w1.ownsRow _ _ _ _ _ _;rw[cc];exact y
    have an:eS (Below w.heap.size w w1):=(ak.out.alloc al _).grown B (by simp; omega) (λb hb=>(ad.out.lt b hb).1);have ao:eS (Zip (wc w) (vs++[.slice (some ⟨b,off+st*5,none⟩) (k+1-st) (cap-st)]) (D++[(L.drop st).take (k+1-st)])):=HZ.out.append (Zip.one az.out);clear y B;go_wp2;go_roundw
    case rel=>
     refine⟨k+1,k+1,_,_,by omega,dN _,by go_num,by go_num,by simp; omega,am.out,ao.out,?_,λi h h2=>by omega,λ_=>rfl,an.out⟩;rw[ae.out,HC.out];simp
    case measure=>simp[intOf]; omega
   .have a2:(((k:Int)+1)==(L.length:Int))=false:=beq_eq_false_iff_ne.2 (by omega);have af:k+1<L.length:=by omega
    have a9:(k:Int)+1<(L.length:Int):=by omega
    obtain⟨b',a',e',a1⟩:=HR.out (k+1) af;simp only[fi,fl,and_true]at e';obtain⟨rfl,rfl⟩:=e';have q1:=dC HB.out a1.path;have aA:=HK.out _ (ch af);have aB:=ax.out _ (ch ab);have aC:=ax.out _ (ch af);have a3:(⟨(ie L[k]).toArray⟩:ByteArray).size=(ie L[k]).length:=by show(ie L[k]).toArray.size=_; simp
    have a4:(⟨(ie L[k+1]).toArray⟩:ByteArray).size=(ie L[k+1]).length:=by show(ie L[k+1]).toArray.size=_; simp
    have gA:∀h:d<(⟨(ie L[k]).toArray⟩:ByteArray).size,(⟨(ie L[k]).toArray⟩:ByteArray)[d]=jr d L[k]:=λh=>(nR ⟨(ie L[k]).toArray⟩ d h).symm;have gB:∀h:d<(⟨(ie L[k+1]).toArray⟩:ByteArray).size,(⟨(ie L[k+1]).toArray⟩:ByteArray)[d]=jr d L[k+1]:=λh=>(nR ⟨(ie L[k+1]).toArray⟩ d h).symm;generalize (⟨(ie L[k]).toArray⟩:ByteArray)=bA at *;generalize (⟨(ie L[k+1]).toArray⟩:ByteArray)=bB at *;have ap:d<bA.size:=by omega
    have aq:d<bB.size:=by omega
    have aD:(d:Int)<(bA.size:Int):=by omega
    have aE:(d:Int)<(bB.size:Int):=by omega
    have ag:=gA ap;have ah:=gB aq;have aK:IntKind.i64.wrap ((k:Int)+1)=((k+1:Nat):Int):=by simp only[IntKind.wrap_i64]; omega
    have aF:((k+1:Nat):Int)<(L.length:Int):=by omega
    have a0:st<cap:=by omega
    have aL:(k:Int)+1<=(cap:Int):=by omega
    clear a1 a3 a4 ac gA gB;by_cases O:jr d L[k]=jr d L[k+1]
    .have a5:(((bA[d]'ap).toNat:Int) != ((bB[d]'aq).toNat:Int))=false:=by rw[ag,ah,O]; simp
     have a6:eS (jr d L[k]=jr d L[k+1]):=O;clear O ag ah;go_wp2_with fail;go_quiet (fail);go_wp2;go_roundw
     case rel=>
      refine⟨k+1,st,D,vs,by omega,by omega,by go_num,rfl,by omega,HO.out,HZ.out,ae.out,λi h h2 h'=>?_,λh=>by omega,mA HB.out _⟩;by_cases e:i=k
      .subst e; exact a6.out
      .exact HS.out i h (by omega) h'
     case measure=>simp[intOf]; omega
    .have a5:(((bA[d]'ap).toNat:Int) != ((bB[d]'aq).toNat:Int))=true:=by
      rw[ag,ah,bne_iff_ne];intro hh;exact O (UInt8.toNat_inj.1 (by omega))
     have HC:eS (runs d (L.drop st)=(L.drop st).take (k+1-st)::runs d (L.drop (k+1))):=zN ay ab (λi h h2 h'=>HS.out i h h2 h') (λ_=>O);clear O ag ah;go_wp2_with fail;go_quiet (fail);have ad:eS ((wr.drewN nq).ownsRow w.heap.size 190 1 (.slice aP D.length cP) D.length vs):=HO.out;have ak:eS (Below w.heap.size w (wr.drewN nq)):=mA HB.out nq;have al:w.heap.size<=(wr.drewN nq).heap.size:=hz;clear HO;generalize wr.drewN nq=wd at *
     go_wp2_with (first
      |(at_builtin; refine jp _ rfl _ _ 239 rfl w.heap.size 190 i0 (.slice none 0 0) 24 ek hi au av aw rfl _ _ _ rfl (ad.out.alloc _) ⟨wd.heap.size,0,none⟩ _ rfl ki rfl ?c1 ?c2 ?c3 ?_))
     case c1=>omega
     case c2=>unfold dD; omega
     case c3=>first|omega|(simp; omega)
     intro v' w1 y B _
     have am:eS (w1.ownsRow w.heap.size 190 1 v' (D++[(L.drop st).take (k+1-st)]).length (vs++[.slice (some ⟨b,off+st*5,none⟩) (k+1-st) (cap-st)])):=by
      show w1.ownsRow _ _ _ _ _ _;rw[cc];exact y
     have an:eS (Below w.heap.size w w1):=(ak.out.alloc al _).grown B (by simp; omega) (λb hb=>(ad.out.lt b hb).1);have ao:eS (Zip (wc w) (vs++[.slice (some ⟨b,off+st*5,none⟩) (k+1-st) (cap-st)]) (D++[(L.drop st).take (k+1-st)])):=HZ.out.append (Zip.one az.out);clear y B;go_wp2;go_roundw
     case rel=>
      refine⟨k+1,k+1,_,_,by omega,dN _,by go_num,by go_num,by simp; omega,am.out,ao.out,?_,λi h h2=>by omega,λ_=>rfl,an.out⟩;rw[ae.out,HC.out];simp
     case measure=>simp[intOf]; omega
  .have aj:k=L.length:=by omega
   have a7:=aa aj
   have HE:eS (runs d L=D):=by
    show _=_;rw[ae.out,a7,aj,List.drop_length];simp[runs]
   clear aa;go_wp2;go_ret;refine⟨_,rfl,?_,HB.out⟩;rw[HE.out];exact⟨vs,mH HO.out (dM _),HZ.out.mono (λu l hu=>hu.below HB.out)⟩
end
section
open Go.RowKit Go.Maps
variable {L:List gS} {n:Nat} {a:Option Addr} {p:Wd} {w:World}
def TP(f:Nat):Prop:=∀(base:Nat)(v:Value)(l:Wd)(label:ByteArray)(p:Wd)(h:Value)(L:List gS)(w:World),lj w base v l->wc w h L->base<=w.heap.size->(∀e∈L,Oy e/\p <+: ie e)->kT L->L.length<=255->p.length<=24->25<=f+p.length->
  l.length+(io label.data.toList++lz f p.length L).length<=549755813888->label.size<=1099511627776->
  dG prog 132 #[v,.string label,.int .i64 p.length,h] w (MP base w v l (io label.data.toList++lz f p.length L))
theorem wc.tail{cap:Nat}(h:wc w (.slice a n cap) L)(k:Nat)(D:k<=L.length):wc w (.slice (a.map λx=>x.add (k*5)) (L.length-k) (cap-k)) (L.drop k):=by
 obtain⟨O,U,e,W,Y,y⟩:=h;simp only[eT]at e;obtain⟨rfl,_,rfl⟩:=e;refine⟨_,cap-k,by rw[dc],by rw[dc]; omega,by omega,λi hi=>?_⟩;rw[dc]at hi;obtain⟨b,off,e,B⟩:=y (k+i) (by omega);refine⟨b,off+k*5,by rw[e]; simp only[Option.map_some,Addr.add]; split<;>simp_all,?_⟩;rw[List.getElem_drop,show off+k*5+i*5=off+(k+i)*5 by omega];exact B
theorem wc.SZ{c k:Nat}(h:wc w (.slice a n c) L)(y:c=k)(D:k<=L.length):wc w (.slice a (L.length-k) 0) (L.drop k):=by
 obtain⟨O,U,e,W,Y,h3⟩:=h;simp only[eT]at e;obtain⟨rfl,_,rfl⟩:=e;have B:L.drop k=[]:=List.drop_eq_nil_of_le (by omega);rw[B];exact⟨a,0,by simp; omega,dN _,dM _,λi hi=>by simp at hi⟩
theorem TQ{W:Nat}{C:List gS}(hL:kT L)(hp:∀e∈L,p <+: ie e)(hS:∀e∈L.drop W,ie e≠p)(hC:C∈runs p.length (L.drop W)) :
  C≠[]/\kT C/\(∀e∈C,e∈L/\lP C <+: ie e)/\p <+: lP C/\p.length<(lP C).length/\C.length<=L.length:=by
 obtain⟨Y,r1,r2,r3,r4,r5,r6⟩:=zt p _ (fm (List.drop_sublist W L) hL) (λe D=>⟨hp e (df D),hS e D⟩);rw[r1]at hC;obtain⟨x,O,rfl⟩:=dd.1 hC;have h:=(r3 x O).1;have U:=Ni x.2 h (r5 x O)
 have y:p++[x.1] <+: lP x.2:=by
  rw[<-U];refine(r9 h).2 _ (λs Y=>?_);obtain⟨e,D,rfl⟩:=dd.1 Y;exact(r3 x O).2 e D
 have B:x.2.Sublist (L.drop W):=by
  rw[<-r4];exact List.sublist_flatten_of_mem (dd.2 ⟨x,O,rfl⟩)
 refine⟨h,r5 x O,λe D=>⟨df (B.subset D),?_⟩,(List.prefix_append _ _).trans y,?_,?_⟩
 .rw[<-U];exact(r9 h).1 _ (dd.2 ⟨e,D,rfl⟩)
 .have:=y.length_le;simp at this;omega
 .have h1:=B.length_le;rw[dc]at h1;omega
theorem Nd{s:Wd}(h:p <+: s)(y:s≠p):p.length<s.length:=by
 have B:=h.length_le;by_cases e:p.length=s.length
 .exact absurd (h.eq_of_length e).symm y
 .omega
theorem NT(d:Nat):∀L:List gS,(runs d L).length<=L.length:=by
 intro L
 induction L with
 |nil=>simp[runs]
 |cons e l y=>
  unfold runs;split
  .simp
  .next h=>rw[h]at y; simp at y⊢; omega
  .next h=>
   rw[h]at y;split
   .simp at y⊢; omega
   .simp at y⊢; omega
theorem EC(f d:Nat)(L:List gS):lz (f+1) d L=kY (k9 L)++(u8 (l7 L d)::((L.take (l7 L d)).flatMap pZ++(u8 (runs d (L.drop (l7 L d))).length::(runs d (L.drop (l7 L d))).flatMap λC=>io ((lP C).drop d)++lz f (lP C).length C))):=rfl
theorem R3:∀f,TP f:=by
 intro f
 induction f with
 |zero=>intro base v l label p vL L w _ _ _ _ _ _ ca cb; omega
 |succ f ih=>
  intro base v l label p vL L w hO hL aR aS bz cv ca cb aI b0;obtain⟨i0,hi,b1,b2,b3⟩:=dH Fv;obtain⟨a,c,rfl⟩:=hO.form;obtain⟨aL,cL,rfl,cH,hmL,cd⟩:=id hL;have ce:eS (TP f):=ih;have ad:eS (∀e∈L,Oy e/\p <+: ie e):=aS;have b4:eS (kT L):=bz;have b5:eS (wc _ _ _):=hL;have b6:eS (lj _ _ _ _):=hO;obtain⟨N,hN⟩:∃N,N=l++(io label.data.toList++lz (f+1) p.length L):=⟨_,rfl⟩;have HN:eS (N=l++(io label.data.toList++lz (f+1) p.length L)):=hN;have cI:N.length<=549755813888:=by rw[hN,cc]; exact aI
  have cf:0<=k9 L:=nV L;have cg:k9 L<=1000000:=JI (λe Y=>(aS e Y).1.2.2.2.2.2.1);have aU:=Pn L p.length;have b8:=mI base _ l label w hO (by have:=congrArg List.length hN; simp at this; omega) b0 aR;unfold dD at hmL;clear ih aS bz hL hO aI hN cd;go_enter func132,ntmps132;go_wp2_with fail;refine b8.mono ?_;rintro e1 w1 ⟨v1,rfl,aw,ax⟩;obtain⟨L1,aV⟩:∃L1,L1=l++io label.data.toList:=⟨_,rfl⟩;have b9:eS (L1=l++io label.data.toList):=aV;rw[<-aV]at aw;have ag:eS (wc w1 (.slice aL L.length cL) L):=b5.out.wrote b6.out ax;have b':eS (kq _ _ _ _):=ax;obtain⟨a1,c1,rfl⟩:=aw.form;have bA:eS (lj _ _ _ _):=aw;have cw:=ax.1.size;have hG:=Es _ L w1 ag.out;clear b8 aw ax aV b5 b6;go_wp2_with fail;refine hG.mono ?_;rintro e2 w2 ⟨rfl,ah⟩;have aW:eS (lj w2 base (.slice a1 L1.length c1) L1):=bA.out.below ah;have aJ:eS (wc w2 (.slice aL L.length cL) L):=ag.out.below ah;have bB:eS (kq w w2 (.slice a l.length c) (.slice a1 L1.length c1)):=b'.out.trans (kq.below ah _);have cy:=ah.size;have cJ:L1.length<=N.length:=by rw[HN.out,b9.out]; simp
  have bD:=qN base _ L1 (k9 L) w2 aW.out (by omega) cf cg (by omega);clear hG ah bA ag b';go_wp2_with fail;refine bD.mono ?_;rintro e3 w3 ⟨v3,rfl,ay,az⟩;obtain⟨L3,aX⟩:∃L3,L3=L1++kY (k9 L):=⟨_,rfl⟩;have ci:eS (L3=L1++kY (k9 L)):=aX;rw[<-aX]at ay;have ai:eS (wc w3 (.slice aL L.length cL) L):=aJ.out.wrote aW.out az;have bE:eS (kq w w3 (.slice a l.length c) v3):=bB.out.trans az;obtain⟨a3,c3,rfl⟩:=ay.form;have bF:eS (lj _ _ _ _):=ay;have cz:=az.1.size;have hC:=yp _ L p.length w3 ai.out;clear bD ay az aX aW aJ bB;go_wp2_with fail;refine hC.mono ?_;rintro e4 w4 ⟨rfl,aj⟩;have aY:eS (lj w4 base (.slice a3 L3.length c3) L3):=bF.out.below aj;have aK:eS (wc w4 (.slice aL L.length cL) L):=ai.out.below aj;have bG:eS (kq w w4 (.slice a l.length c) (.slice a3 L3.length c3)):=bE.out.trans (kq.below aj _);have c':=aj.size;obtain⟨O,a0⟩:∃O,l7 L p.length=O:=⟨_,rfl⟩;have HH:eS (l7 L p.length=O):=a0;rw[a0]at aU⊢;obtain⟨Cs,aZ⟩:∃Cs,Cs=runs p.length (L.drop O):=⟨_,rfl⟩;have ba:eS (Cs=runs p.length (L.drop O)):=aZ
  have bH:eS (N=L3++[u8 O]++((L.take O).flatMap pZ++(u8 Cs.length::Cs.flatMap λC=>io ((lP C).drop p.length)++lz f (lP C).length C))):=by
   show _=_;rw[HN.out,ci.out,b9.out,EC,aZ,a0];simp
  clear aZ;have cK:L3.length+1<=N.length:=by rw[bH.out]; simp
  clear hC aj bF ai bE a0
  go_wp2_with (first
   |(at_builtin; refine iQ _ rfl _ _ 60 rfl base 5 i0 (.int .u8 0) 1 dT hi b1 b2 b3 rfl _ _ _ rfl (aY.out.alloc _) _ [.int .u8 (O:Int)] rfl (Rd.one ki) (by simp[fg]) ?c1 ?c2 ?c3 ?_))
  case c1=>simp; omega
  case c2=>unfold dD; simp; omega
  case c3=>simp; omega
  intro v5 w5 ak bc bd;obtain⟨L5,a2⟩:∃L5,L5=L3++[u8 O]:=⟨_,rfl⟩;have cM:eS (L5=L3++[u8 O]):=a2
  have be:eS (N=L5++((L.take O).flatMap pZ++(u8 Cs.length::Cs.flatMap λC=>io ((lP C).drop p.length)++lz f (lP C).length C))):=by
   show _=_;rw[bH.out,<-a2]
  have HO5:eS (lj w5 base v5 L5):=by
   show lj _ _ _ _;unfold lj;rw[a2,kP,oI,cc,show(O:Int) % 256=O by omega];exact ak
  have HW5:eS (kq w w5 (.slice a l.length c) v5):=bG.out.trans (kq.of bc bd);have HLv5:eS (wc w5 (.slice aL L.length cL) L):=aK.out.wrote aY.out (kq.of bc bd);obtain⟨a5,c5,rfl⟩:=HO5.out.form;have cA:=HW5.out.1.size;clear ak bc bd a2 aY aK bG;go_wp2_with fail;go_loopw [0,35] (λu i wr=>∃k:Nat,k<=O/\i=.int .i64 k/\lj wr base u (L5++(L.take k).flatMap pZ)/\kq w wr (.slice a l.length c) u/\wc wr (.slice aL L.length cL) L) (λ_ i _=>O-(intOf i).toNat)
  case atStart=>exact⟨0,dM _,rfl,by simpa using HO5.out,HW5.out,HLv5.out⟩
  case round=>
   obtain⟨k,hk,rfl,a4,bf,aM⟩:=hrel;obtain⟨L6,bg⟩:∃L6,L6=L5++(L.take k).flatMap pZ:=⟨_,rfl⟩;have a':eS (L6=L5++(L.take k).flatMap pZ):=bg;rw[<-bg]at a4;obtain⟨a6,c6,rfl⟩:=a4.form;have bh:eS (lj _ _ _ _):=a4;have bi:eS (kq _ _ _ _):=bf;have aa:eS (wc _ _ _):=aM;have cB:=bf.1.size;clear a4 bf aM bg HO5 HW5 HLv5;by_cases aA:k<O
   .obtain⟨_,_,e',_,_,hr⟩:=aa.out;simp only[eT,true_and]at e';obtain⟨rfl,rfl⟩:=e';obtain⟨b,off,rfl,U⟩:=hr k (by omega);have q0:=U.path;have q1:=U.name;have q2:=U.text;have q3:=U.gT;have q4:=U.il;clear U hr;obtain⟨wa,bj⟩:∃wa,wr.alloc (.cells #[.string ⟨(ie L[k]).toArray⟩,.string ⟨L[k].name.toArray⟩,.string ⟨L[k].text.toArray⟩,.int .i64 L[k].gT,.int .i64 L[k].il] 237)=wa:=⟨_,rfl⟩;have al:Below wr.heap.size wr wa:=by rw[<-bj]; exact(eW _ _).alloc (dN _) _
    have cj:eS (wr.alloc (.cells #[.string ⟨(ie L[k]).toArray⟩,.string ⟨L[k].name.toArray⟩,.string ⟨L[k].text.toArray⟩,.int .i64 L[k].gT,.int .i64 L[k].il] 237)=wa):=bj;have bI:eS (lj wa base (.slice a6 L6.length c6) L6):=bh.out.below al;have ck:eS (kq w wa (.slice a l.length c) (.slice a6 L6.length c6)):=bi.out.trans (kq.below al _);have bJ:eS (wc wa (.slice (some ⟨b,off,none⟩) L.length cL) L):=aa.out.below al;have cN:=al.size;have HT:eS (L.take (k+1)=L.take k++[L[k]]):=cx (by omega)
    have cl:L6.length<=N.length:=by
     have e:L.take O=L.take k++(L.take O).drop k:=by
      conv=>lhs; rw[<-dr k (L.take O)]
      rw[List.take_take,dO hk]
     rw[be.out,a'.out,e];simp
    have hA:=yy base _ L6 L[k] wa bI.out (by omega) (ad.out _ (ch _)).1 (by omega);unfold wz at hA;clear al bj;go_wp2_with fail;rw[cj.out];refine hA.mono ?_;rintro e7 w7 ⟨v7,rfl,bK,bk⟩;have am:eS (lj _ _ _ _):=bK;have aB:eS (kq w w7 (.slice a l.length c) v7):=ck.out.trans bk;have bL:eS (wc w7 (.slice (some ⟨b,off,none⟩) L.length cL) L):=bJ.out.wrote bI.out bk;clear hA bK bk q0 q1 q2 q3 q4;go_wp2;go_roundw
    case rel=>
     refine⟨k+1,by omega,by go_num,?_,aB.out,bL.out⟩;have e:L5++(L.take (k+1)).flatMap pZ=L6++pZ L[k]:=by rw[HT.out,a'.out,dh,dv]; simp only[de,dj,dg]
     rw[e];exact am.out
    case measure=>simp[intOf]; omega
   .have cm:k=O:=by omega
    subst cm
    have HS:eS (∀e∈L.drop k,ie e≠p):=by
     have:=(Aq b4.out (λe Y=>(ad.out e Y).2)).2;rw[HH.out]at this;exact this
    have an:eS (∀e∈L,(ie e).length<=24):=λe Y=>(uV (ad.out e Y).1).1;have bM:eS (∀(aT:Option Addr)(cT:Nat),wc wr (.slice aT (L.length-k) cT) (L.drop k)->dG prog 182 #[.slice aT (L.length-k) cT,.int .i64 p.length] wr λe w'=>∃v',e=.returned v'/\rD w' v' (runs p.length (L.drop k))/\Below wr.heap.size wr w'):=λaT cT h=>LA _ (L.drop k) p.length wr h (λe Y=>Nd (ad.out e (df Y)).2 (HS.out e Y)) (λe Y=>an.out e (df Y)) (by rw[dc]; omega);go_wp2_with fail
    all_goals(
     refine(bM.out _ _ (by first|exact aa.out.tail k aU|exact aa.out.SZ (by omega) aU)).mono ?_;rintro e7 w7 ⟨v7,rfl,aD,aE⟩;rw[<-ba.out]at aD;obtain⟨vs,ao,ab⟩:=id aD;obtain⟨a7,c7,rfl,cO⟩:=ib ao;have bN:eS (rD _ _ _):=aD;have am:eS (lj w7 base (.slice a6 L6.length c6) L6):=bh.out.below aE;have aB:eS (kq w w7 (.slice a l.length c) (.slice a6 L6.length c6)):=bi.out.trans (kq.below aE _);have cD:=aE.size
     have cP:Cs.length<=255:=by
      rw[ba.out];have:=NT p.length (L.drop k);rw[dc]at this;omega
     have cl:L6.length+1<=N.length:=by
      rw[be.out,a'.out];simp;omega
     clear bM aD ao ab aE bh bi aa
     go_wp2_with (first
      |(at_builtin; refine iQ _ rfl _ _ 60 rfl base 5 i0 (.int .u8 0) 1 dT hi b1 b2 b3 rfl _ _ _ rfl (am.out.alloc _) _ [.int .u8 (Cs.length:Int)] rfl (Rd.one ki) (by simp[fg]) ?c1 ?c2 ?c3 ?_))
     case c1=>simp; omega
     case c2=>unfold dD; simp; omega
     case c3=>simp; omega
     intro v8 w8 ap bl bm;obtain⟨L8,aF⟩:∃L8,L8=L6++[u8 Cs.length]:=⟨_,rfl⟩;have cQ:eS (L8=L6++[u8 Cs.length]):=aF
     have bO:eS (N=L8++Cs.flatMap λC=>io ((lP C).drop p.length)++lz f (lP C).length C):=by
      show _=_;rw[be.out,aF,a'.out];simp
     have HO8:eS (lj w8 base v8 L8):=by
      show lj _ _ _ _;unfold lj;rw[aF,kP,oI,cc,show(Cs.length:Int) % 256=Cs.length by omega];exact ap
     have HW8:eS (kq w w8 (.slice a l.length c) v8):=aB.out.trans (kq.of bl bm);have HP8:eS (rD w8 (.slice a7 Cs.length c7) Cs):=bN.out.wrote am.out (kq.of bl bm);obtain⟨a8,c8,rfl⟩:=HO8.out.form;have cE:=HW8.out.1.size;clear ap bl bm aF am bN aB;go_wp2_with fail;go_loopw [0,57] (λu i wx=>∃k:Nat,k<=Cs.length/\i=.int .i64 k/\lj wx base u (L8++(Cs.take k).flatMap λC=>io ((lP C).drop p.length)++lz f (lP C).length C)/\kq w wx (.slice a l.length c) u/\rD wx (.slice a7 Cs.length c7) Cs) (λ_ i _=>Cs.length-(intOf i).toNat)
     case atStart=>exact⟨0,dM _,rfl,by simpa using HO8.out,HW8.out,HP8.out⟩
     case round=>
      obtain⟨j,hj,rfl,aG,bn,bP⟩:=hrel;obtain⟨L9,bo⟩:∃L9,L9=L8++(Cs.take j).flatMap λC=>io ((lP C).drop p.length)++lz f (lP C).length C:=⟨_,rfl⟩;have bp:eS (L9=L8++(Cs.take j).flatMap λC=>io ((lP C).drop p.length)++lz f (lP C).length C):=bo;rw[<-bo]at aG;obtain⟨a9,c9,rfl⟩:=aG.form;have bq:eS (lj _ _ _ _):=aG;have br:eS (kq _ _ _ _):=bn;have bs:eS (rD _ _ _):=bP;have cF:=bn.1.size;clear aG bn bP bo HO8 HW8 HP8;by_cases aA:j<Cs.length
      .obtain⟨vs,ao,ab⟩:=id bs.out;have bt:j<vs.length:=by rw[ab.1]; exact aA
       obtain⟨b7,o7,rfl,aq⟩:=lV ao j vs[j] (db bt)
       have bu:eS (wc wr vs[j] Cs[j]):=by
        obtain⟨u,bQ,cn⟩:=ab.2 j aA;rw[db bt]at bQ;cases bQ;exact cn
       have HT:eS (Cs.take (j+1)=Cs.take j++[Cs[j]]):=cx aA;obtain⟨bv,aN,B,aO,cG,cR⟩:=TQ (C:=Cs[j]) b4.out (λe Y=>(ad.out e Y).2) HS.out (by rw[<-ba.out]; exact ch _)
       have cS:L9.length+(io ((lP Cs[j]).drop p.length)++lz f (lP Cs[j]).length Cs[j]).length<=N.length:=by
        have e:Cs=Cs.take (j+1)++Cs.drop (j+1):=(dr _ _).symm;rw[HT.out]at e;rw[bO.out,bp.out];conv=>rhs; rw[e]
        simp only[dh,de,dj,cc,dg];omega
       obtain⟨aC,cC,eC,cU,cV,bR⟩:=id bu.out;have ar:eS (wc wr (.slice aC Cs[j].length cC) Cs[j]):=by have h:=bu.out; rw[eC]at h; exact h
       rw[eC]at aq;have y:=yQ bv;obtain⟨bC,oC,rfl,U⟩:=bR 0 y;have q0:=U.path;rw[dP,dS]at q0;clear U bR bu ab ao eC bt;have aH:(lP Cs[j]).length<=24:=dR (B _ (ch y)).2.length_le (uV (ad.out _ (B _ (ch y)).1).1).1;have ae:eS (∀e∈Cs[j],e∈L/\lP Cs[j] <+: ie e):=B;have cW:(lP Cs[j]).length<=(ie Cs[j][0]).length:=(B _ (ch y)).2.length_le;have cq:(ie Cs[j][0]).length<=24:=an.out _ (B _ (ch y)).1;have cr:eS (kT _):=aN;have cX:eS (p <+: lP Cs[j]):=aO;have bS:=GI _ Cs[j] wr ar.out bv (λe Y=>an.out e (B e Y).1);have cY:(⟨(ie Cs[j][0]).toArray⟩:ByteArray).size=(ie Cs[j][0]).length:=by show(ie Cs[j][0]).toArray.size=_; simp
       clear B aN aO bv;go_wp2_with fail;refine bS.mono ?_;rintro cZ au ⟨rfl,D⟩;have ct:=dC D q0;have aP:eS (lj au base (.slice a9 L9.length c9) L9):=bq.out.below D;have bw:eS (wc au (.slice (some ⟨bC,oC,none⟩) Cs[j].length cC) Cs[j]):=ar.out.below D;have bT:eS (rD au (.slice (some ⟨b7,o7,none⟩) Cs.length c7) Cs):=bs.out.below D;have bU:eS (kq w au (.slice a l.length c) (.slice a9 L9.length c9)):=br.out.trans (kq.below D _);have cu:=D.size;clear bS D bq ar bs br q0 aq;obtain⟨ac,af⟩:∃ac,(⟨(ie Cs[j][0]).toArray⟩:ByteArray).extract p.length (lP Cs[j]).length=ac:=⟨_,rfl⟩
       have W:ac.data.toList=(lP Cs[j]).drop p.length:=by
        have h:=(ae.out _ (ch y)).2;rw[<-af,show(lP Cs[j]).length=p.length+((lP Cs[j]).length-p.length) by omega,JV];show(((ie Cs[j][0]).drop p.length).take _)=_;rw[<-List.drop_take,<-List.prefix_iff_eq_take.1 h]
       have bV:eS ((⟨(ie Cs[j][0]).toArray⟩:ByteArray).extract p.length (lP Cs[j]).length=ac):=af
       have bx:ac.size<=1099511627776:=by
        have:ac.size=ac.data.toList.length:=by simp
        rw[this,W];simp;omega
       have hR:=ce.out base _ L9 ac (lP Cs[j]) _ Cs[j] au aP.out bw.out (by omega) (λe Y=>⟨(ad.out e (ae.out e Y).1).1,(ae.out e Y).2⟩) cr.out (by omega) aH (by omega) (by rw[W]; omega) bx;rw[W]at hR;clear af W;go_wp2_with fail;rw[bV.out];refine hR.mono ?_;rintro da bW ⟨v11,rfl,aQ,av⟩;have bX:eS (lj _ _ _ _):=aQ;have bY:eS (kq w bW (.slice a l.length c) v11):=bU.out.trans av;have bZ:eS (rD bW (.slice (some ⟨b7,o7,none⟩) Cs.length c7) Cs):=bT.out.wrote aP.out av;clear hR aQ av ct;go_wp2;go_roundw
       case rel=>
        refine⟨j+1,by omega,by go_num,?_,bY.out,bZ.out⟩
        have e:(L8++(Cs.take (j+1)).flatMap λC=>io ((lP C).drop p.length)++lz f (lP C).length C)=L9++(io ((lP Cs[j]).drop p.length)++lz f (lP Cs[j]).length Cs[j]):=by
         rw[HT.out,bp.out,dh,dv];simp only[de,dj,dg]
        rw[e];exact bX.out
       case measure=>simp[intOf]; omega
      .have HE:eS (L9=l++(io label.data.toList++lz (f+1) p.length L)):=by
        show _=_;rw[<-HN.out,bO.out,bp.out,dk (by omega)]
       go_wp2;go_ret;refine⟨_,rfl,?_,br.out⟩;rw[<-HE.out]
       exact bq.out)
end
section
open Go.RowKit Go.Maps
def js(es:List gS):List Wd:=(es.filter λe=>e.gone).map gS.name
theorem Ip(l:List gS)(e:gS):js (l++[e])=js l++(if e.gone then [e.name]else []):=by
 unfold js;rw[List.filter_append,List.map_append];cases h:e.gone<;>simp[h]
theorem Ng(l:List gS):(js l).length<=l.length:=by unfold js; rw[dz]; exact List.length_filter_le _ _
theorem rC{l m:List gS}(h:l.Perm m):(js l).Perm (js m):=(h.filter _).map _
theorem CH{B es:List gS}(D:(es.map gS.name).Nodup)(h:B.Perm es):(js B).mergeSort (λx y=>decide (x<=y))=js (jo es):=by
 have W:((js B).mergeSort (λx y=>decide (x<=y))).Perm (js (jo es)):=(List.mergeSort_perm _ _).trans (rC (h.trans (jM es).symm));refine List.Perm.eq_of_pairwise (le:=λa b:Wd=>a<=b) (λa b _ _ O U=>List.le_antisymm O U) ?_ ?_ W
 .have:=List.pairwise_mergeSort (le:=λx y:Wd=>decide (x<=y)) (by
   intro a b c O U;simp only[decide_eq_true_eq]at *
   exact List.le_trans O U) (by
   intro a b;simp only[Bool.or_eq_true,decide_eq_true_eq]
   exact List.le_total a b) (js B)
  exact this.imp (λh=>by simpa using h)
 .unfold js;rw[du];refine fo ?_ (fm List.filter_sublist (p8 es D));intro a b hab;unfold yO at hab;rw[bytesLess_eq,decide_eq_true_eq]at hab;exact List.le_of_lt hab
theorem K0(base:Nat)(a:Option Addr)(c:Nat)(G:List Wd)(w:World)(D:w.ownsRow base 9 1 (.slice a G.length c) G.length (gQ G))(hl:G.length<=1099511627776) :
  dG prog 162 #[.slice a G.length c] w λe w'=>e=.returned (.tuple #[])/\w'.ownsRow base 9 1 (.slice a G.length c) G.length (gQ (G.mergeSort λx y=>decide (x<=y)))/\Below base w w':=by
 rcases D.2 with⟨U,W⟩|⟨g,cap,Y,U,O,hb,h1,h2,h3,h4⟩
 .have hG:G=[]:=dp.1 (by simpa using W);subst hG;have h:=Any.slices_Sort_string_none yN a c w;refine h.mono ?_;rintro e w' ⟨rfl,rfl⟩;exact⟨rfl,by simpa using D,eW _ _⟩
 .simp only[eT]at U;obtain⟨rfl,_,rfl⟩:=U;have h:=Any.slices_Sort_string yN g 0 c G w (holds_of_block hb (by simpa[gQ,encStr]using h4)) (eU.1 hb).1 (by omega);refine h.mono ?_;rintro e w' ⟨rfl,n,os,rfl⟩;refine⟨rfl,?_,?_⟩
  .exact ownsRow_sorted (by simp) O hb h1 h2 h3
  .have B:w.grownBy _ (some g):=grownBy_sorted (w:=w) (g:=g) (n:=n) (os:=os) (G.mergeSort λx y=>decide (x<=y)).toArray;exact⟨B.os,B.tape,B.output,B.size,λk hk=>B.block k (dL hk (by have:=(eU.1 hb).1; omega)) (by intro e; cases e; omega)⟩
theorem ya{w:World}{v:Value}{t:dK}{g:Nat}(h:g=w.heap.size):(w.alloc (.cells #[v] t)).cell? ⟨g,0,none⟩=some v:=by subst h; exact ki
theorem Ky:∀S:List Wd,(∀x∈S,x.length<=255)->(S.flatMap io).length<=S.length*256:=by
 intro S
 induction S with
 |nil=>intro _; simp
 |cons x S B=>
  intro h;have O:=B (λy D=>h y (List.mem_cons_of_mem _ D));have U:=h x (List.mem_cons_self ..);rw[de,cc,dy];have:(io x).length=x.length+1:=by simp[io]
  omega
theorem kq.low{w0 w w':World}{v v':Value}{base:Nat}{l:Wd}(h:kq w w' v v')(hb:Below w0.heap.size w0 w)(y:lj w base v l)(D:w0.heap.size<=base):Below w0.heap.size w0 w':=by
 refine hb.trans ⟨h.1.os,h.1.tape,h.1.output,h.1.size,λk B=>h.1.block k (dL B hb.size) (λe=>?_)⟩;have:=(y.lt k e).1;omega
def xq(es:List gS):Wd:=u8 (js (jo es)).length::(js (jo es)).flatMap io
theorem A4(B:Nat)(es:List gS)(w:World)(hs:je w B es)(hl:es.length<1099511627776)(hg:kV es<=255)(ay:∀e∈es,e.gone=true->e.name.length<=255) :
  dG prog 131 #[.slice none 0 0,.map (some B)] w λen w'=>∃v,en=.returned v/\lj w' w.heap.size v (xq es)/\Below w.heap.size w w':=by
 obtain⟨i0,hi,aH,aI,aJ⟩:=dH Fv;obtain⟨i9,aK,aL,aM,aN⟩:=dH tW;have az:=hs.nodup;have HS:eS (je _ _ _):=hs;have aO:eS ((es.map gS.name).Nodup):=az;have aP:eS (∀e∈es,e.gone=true->e.name.length<=255):=ay;have bc:=ir.lt hs;clear hs az ay;go_enter func131,ntmps131;go_wp2_with (first|(at_range; refine mP _ rfl _ rfl rfl HS.out ?_; intro w1 hrg0 hg0 bd));go_frame;go_loopw [5] (λg wr=>∃(h W:List gS),(h++W).Perm es/\uq wr B w.heap.size es W/\wr.ownsRow (w.heap.size+1) 9 1 g (js h).length (gQ (js h))/\Below w.heap.size w wr/\w.heap.size+1<=wr.heap.size) (λ_ wr=>wr.rangeLeft B w.heap.size)
 case atStart=>exact⟨[],es,List.Perm.refl _,hrg0,eZ _ _ _ _,(eW _ _).grown hg0 (dN _) (λk hk=>by cases hk),by omega⟩
 case round=>
  obtain⟨h,W,iS,hr,aa,hb,hz⟩:=hrel;have HP:eS ((h++W).Perm es):=iS;have HR:eS (uq _ _ _ _ _):=hr;obtain⟨ag,cg,rfl,aQ⟩:=ib aa;have HO:eS (wr.ownsRow (w.heap.size+1) 9 1 (.slice ag (js h).length cg) (js h).length (gQ (js h))):=aa;have HB:eS (Below _ _ _):=hb
  have aR:(js h).length<=es.length:=by
   have h1:=Ng h;have h2:=iS.length_eq;rw[cc]at h2;omega
  clear iS hr hb aa;go_wp2_with (first|(at_next; refine nK _ rfl _ rfl w.heap.size W rfl HR.out ?_ ?_))
  .intro h0
   have hE:h.Perm es:=by
    have:=HP.out;rw[h0,dg]at this;exact this
   obtain⟨S,hS⟩:∃S,S=js (jo es):=⟨_,rfl⟩;have am:=K0 (w.heap.size+1) ag cg (js h) wr HO.out (by omega);rw[CH aO.out hE,<-hS]at am;have an:eS (S.length=(js h).length):=by show _=_; rw[hS]; exact(rC (hE.trans (jM es).symm)).length_eq.symm
   have be:S.length<=255:=by
    rw[hS];have h1:=(rC (jM es)).length_eq;have h2:(js es).length=kV es:=by simp[js,kV]
    omega
   have a0:eS (∀x∈S,x.length<=255):=by
    intro x hx;rw[hS]at hx;have hx2:=(rC (jM es)).mem_iff.1 hx;unfold js at hx2;obtain⟨e,he,rfl⟩:=dd.1 hx2;rw[List.mem_filter]at he;exact aP.out e he.1 (by simpa using he.2)
   have aS:eS (S=js (jo es)):=hS;clear h0 hE hS;go_wp2_with fail;refine am.mono ?_;rintro e2 w2 ⟨rfl,ao,ap⟩;have a1:=ap.size;have ac:eS (Below w.heap.size w w2):=HB.out.trans (ap.mono (by omega));have aT:(js h).length<=255:=by have:=an.out; omega
   rw[<-an.out]at ao⊢;have ab:eS (w2.ownsRow (w.heap.size+1) 9 1 (.slice ag S.length cg) S.length (gQ S)):=ao;have a2:eS (w2.ownsRow w.heap.size 5 1 (.slice none 0 0) 0 []):=eZ _ _ _ _;clear am ao ap HO HR aT aR;clear aQ an
   go_wp2_with (first
    |(at_builtin; refine iQ _ rfl _ _ 60 rfl w.heap.size 5 i0 (.int .u8 0) 1 dT hi aH aI aJ rfl _ _ _ rfl (a2.out.alloc _) _ [.int .u8 (S.length:Int)] rfl (Rd.one ki) (by simp[fg]) ?c1 ?c2 ?c3 ?_))
   case c1=>simp
   case c2=>unfold dD; simp
   case c3=>simp; omega
   intro v3 w3 y D a5
   have HO3:eS (lj w3 w.heap.size v3 [u8 S.length]):=by
    show lj _ _ _ _;unfold lj;rw[oI,show(S.length:Int) % 256=S.length by omega];simpa using y
   have Y:kq w2 w3 (.slice none 0 0) v3:=kq.of D a5;have ad:Below w2.heap.size w2 w3:=⟨Y.1.os,Y.1.tape,Y.1.output,Y.1.size,λk hk=>Y.1.block k hk (by simp[Value.ownBlock])⟩;have HB3:eS (Below w.heap.size w w3):=ac.out.trans (ad.mono (by omega));have HG3:eS (w3.ownsRow (w.heap.size+1) 9 1 (.slice ag S.length cg) S.length (gQ S)):=iB ab.out (λk hk=>ad.block k (ab.out.lt k hk).2);obtain⟨a3,c3,rfl⟩:=HO3.out.form;have bf:=ad.size;clear y D a5 Y ad a2 ab ac
   have aU:eS (∀k,k<=S.length->(u8 S.length::(S.take k).flatMap io).length<=65536):=by
    intro k hk;have h1:=Ky (S.take k) (λx hx=>a0.out x (List.mem_of_mem_take hx));rw[dx,dO hk]at h1;rw[dy];omega
   go_wp2_with fail;go_loopw [0,33] (λu i wx=>∃k:Nat,k<=S.length/\i=.int .i64 k/\lj wx w.heap.size u (u8 S.length::(S.take k).flatMap io)/\wx.ownsRow (w.heap.size+1) 9 1 (.slice ag S.length cg) S.length (gQ S)/\Below w.heap.size w wx) (λ_ i _=>S.length-(intOf i).toNat)
   case atStart=>exact⟨0,dM _,rfl,by simpa using HO3.out,HG3.out,HB3.out⟩
   case round=>
    obtain⟨k,hk,rfl,ae,a6,aq⟩:=hrel;obtain⟨L4,af⟩:∃L4,L4=u8 S.length::(S.take k).flatMap io:=⟨_,rfl⟩;have a7:eS (L4=u8 S.length::(S.take k).flatMap io):=af;have bh:L4.length<=65536:=by rw[af]; exact aU.out k hk
    rw[<-af]at ae;obtain⟨a4,c4,rfl⟩:=ae.form;have ah:eS (lj _ _ _ _):=ae;have ai:eS (wr.ownsRow (w.heap.size+1) 9 1 (.slice ag S.length cg) S.length (gQ S)):=a6;have a8:eS (Below _ _ _):=aq;have aV:=aq.size;clear ae a6 aq af HO3 HG3 HB3;by_cases ar:k<S.length
    .obtain⟨bg,og,rfl,au⟩:=lV ai.out k _ (kW S k ar);have hx:=a0.out _ (ch ar);have HT:eS (S.take (k+1)=S.take k++[S[k]]):=cx ar;have hA:=mI w.heap.size _ L4 ⟨S[k].toArray⟩ wr ah.out (by omega) (by show S[k].toArray.size<=_; simp; omega) aV;go_wp2_with fail;refine hA.mono ?_;rintro e5 w5 ⟨v5,rfl,a9,av⟩;have aW:eS (lj _ _ _ _):=a9;have aX:eS (Below w.heap.size w w5):=av.low a8.out ah.out (dN _);have aY:eS (w5.ownsRow (w.heap.size+1) 9 1 (.slice (some ⟨bg,og,none⟩) S.length cg) S.length (gQ S)):=iB ai.out (λj hj=>av.1.block j (ai.out.lt j hj).2 (λe=>vW ai.out ah.out (by decide) j hj e));clear hA a9 av au;go_wp2;go_roundw
     case rel=>
      refine⟨_,_,_,_,_,_,_,_,_,_,⟨k+1,by omega,by go_num,?_,aY.out,aX.out⟩,rfl⟩
      have e:(u8 S.length::(S.take (k+1)).flatMap io)=L4++io S[k]:=by
       rw[HT.out,a7.out,dh,List.cons_append];simp only[de,dj,dg]
      rw[e];exact aW.out
     case measure=>simp[intOf]; omega
    .have HE:eS (L4=xq es):=by
      show _=_;unfold xq;rw[a7.out,dk (by omega),aS.out]
     go_wp2;go_ret;refine⟨_,rfl,?_,a8.out⟩;rw[<-HE.out];exact ah.out
  .intro e U w2 a' aj al aw aZ bi;have aA:=iP.lt aj;have aB:=ir.lt (iP.owns aj);have aC:eS (Below w.heap.size w w2):=ox HB.out aw (dN _);have aD:eS (uq _ _ _ _ _):=aj;have aE:eS (w2.rangeLeft B w.heap.size<wr.rangeLeft B w.heap.size):=al;have aF:eS (W.Perm (e::U)):=a';have O:eS (w2.ownsRow (w.heap.size+1) 9 1 (.slice ag (js h).length cg) (js h).length (gQ (js h))):=iB HO.out (λk hk=>aw.block k (HO.out.lt k hk).2 (by have:=(HO.out.lt k hk).1; intro e; cases e; omega));have ak:=Ip h e;have a1:w.heap.size+1<=w2.heap.size:=by omega
   clear a' aj al aw aZ;obtain⟨nm,gn,tx,wt,tg⟩:=e
   cases gn with
   |false=>
    have ax:eS (js (h++[⟨nm,false,tx,wt,tg⟩])=js h):=by show _=_; rw[ak]; simp
    clear ak;go_wp2;go_roundw
    case rel=>
     exact⟨h++[⟨nm,false,tx,wt,tg⟩],U,lW HP.out aF.out,aD.out.alloc _,by rw[ax.out]; exact O.out.alloc _,aC.out.alloc (by omega) _,by simp; omega⟩
    case measure=>
     rw[lL aB aA];exact aE.out
   |true=>
    have ax:eS (js (h++[⟨nm,true,tx,wt,tg⟩])=js h++[nm]):=by show _=_; rw[ak]; simp
    clear ak
    go_wp2_with (first
      |(at_builtin; refine jp _ rfl _ _ 31 rfl (w.heap.size+1) 9 i9 (.string ⟨#[]⟩) 16 eE aK aL aM aN rfl _ _ _ rfl ((O.out.alloc _).alloc _) ⟨w2.heap.size+1,0,none⟩ _ rfl (ya (by simp)) rfl ?c1 ?c2 ?c3 ?_))
    case c1=>omega
    case c2=>unfold dD; omega
    case c3=>first|omega|(simp; omega)
    intro v3 w3 y D _;have aG:Below w.heap.size w w3:=((aC.out.alloc (by omega) _).alloc (by simp; omega) _).grown D (by simp; omega) (λb hb=>by have:=(O.out.lt b hb).1; omega);have ac:eS (Below _ _ _):=aG;have bj:w2.heap.size<=w3.heap.size:=by have:=D.size; simp at this; omega
    have ba:eS (uq w3 B w.heap.size es U):=iP.kept ((aD.out.alloc _).alloc _) D (λe=>by have:=(O.out.lt B e.symm).1; omega) (λe=>by have:=(O.out.lt _ e.symm).1; omega)
    have ab:eS (w3.ownsRow (w.heap.size+1) 9 1 v3 (js (h++[⟨nm,true,tx,wt,tg⟩])).length (gQ (js (h++[⟨nm,true,tx,wt,tg⟩])))):=by
     show w3.ownsRow _ _ _ _ _ _;rw[ax.out,lH];rw[cc];exact y
    have HL2:eS (w3.rangeLeft B w.heap.size<wr.rangeLeft B w.heap.size):=by
     show _<_;rw[iP.mJ (D.block B (by simp; omega) (λe=>by have:=(O.out.lt B e.symm).1; omega)) (D.block w.heap.size (by simp; omega) (λe=>by have:=(O.out.lt _ e.symm).1; omega)),lL (by simp; omega) (by simp; omega),lL aB aA];exact aE.out
    clear y D aG;go_wp2;go_roundw
    case rel=>
     exact⟨h++[⟨nm,true,tx,wt,tg⟩],U,lW HP.out aF.out,ba.out,ab.out,ac.out,by omega⟩
    case measure=>exact HL2.out
end
section
open Go.RowKit Go.Maps Go.Sort
def tS(x y:Wd):Int:=if eX x y=true then -1 else if eX y x=true then 1 else 0
theorem Cu(x:ByteArray)(w:World):dG prog 175 #[.string x] w λe w'=>e=.returned (.bool false)/\w=w':=by
 go_enter func175,ntmps175;go_wp2;go_ret;exact⟨rfl,rfl⟩
theorem sk(x y:Wd)(w:World):dG prog 128 #[.string ⟨x.toArray⟩,.string ⟨y.toArray⟩] w λe w'=>e=.returned (.int .i64 (tS x y))/\w=w':=by
 have U:=Cu ⟨x.toArray⟩ w;have W:=Cu ⟨y.toArray⟩ w;unfold tS;by_cases O:eX x y=true
 .rw[if_pos O];go_enter eL,ef;go_wp2_with fail;refine U.mono ?_;rintro e w' ⟨rfl,rfl⟩;go_wp2_with fail;refine W.mono ?_;rintro e w' ⟨rfl,rfl⟩;go_wp2;go_ret;exact⟨rfl,rfl⟩
 .rw[if_neg O];have D:eX x y=false:=by simpa using O
  clear O;by_cases B:eX y x=true
  .rw[if_pos B];have Y:(x==y)=false:=beq_eq_false_iff_ne.2 (λe=>by subst e; rw[D]at B; cases B);clear B;go_enter eL,ef;go_wp2_with fail;refine U.mono ?_;rintro e w' ⟨rfl,rfl⟩;go_wp2_with fail;refine W.mono ?_;rintro e w' ⟨rfl,rfl⟩;go_wp2;go_ret;exact⟨rfl,rfl⟩
  .rw[if_neg B]
   obtain rfl:x=y:=by
    rcases kS x y with h|h|h
    .rw[D]at h; cases h
    .exact h
    .exact absurd h B
   clear B;go_enter eL,ef;go_wp2_with fail;refine U.mono ?_;rintro e w' ⟨rfl,rfl⟩;go_wp2_with fail;refine W.mono ?_;rintro e w' ⟨rfl,rfl⟩;go_wp2;go_ret;exact⟨rfl,rfl⟩
def nB(e:gS):List Value:=[.string ⟨(ie e).toArray⟩,.string ⟨e.name.toArray⟩,.string ⟨e.text.toArray⟩,.int .i64 e.gT,.int .i64 e.il]
def QU(x y:gS):Int:=if tS (ie x) (ie y)≠0 then tS (ie x) (ie y)else tS x.name y.name
theorem OH(x y:gS)(w:World):dG prog 185 #[.agg #[.string ⟨(ie x).toArray⟩,.string ⟨x.name.toArray⟩,.string ⟨x.text.toArray⟩,.int .i64 x.gT,.int .i64 x.il],.agg #[.string ⟨(ie y).toArray⟩,.string ⟨y.name.toArray⟩,.string ⟨y.text.toArray⟩,.int .i64 y.gT,.int .i64 y.il]] w λe w'=>e=.returned (.int .i64 (QU x y))/\∃k os,w'=grow (w.drewN k) os:=by
 have h1:=λW=>sk (ie x) (ie y) W;have h2:=λW=>sk x.name y.name W;unfold QU;obtain⟨z,hz⟩:∃z,z=tS (ie x) (ie y):=⟨_,rfl⟩;obtain⟨t,ht⟩:∃t,t=tS x.name y.name:=⟨_,rfl⟩;rw[<-hz]at h1⊢;rw[<-ht]at h2⊢;obtain⟨ux,Y⟩:∃ux,ux=if z≠0 then z else t:=⟨_,rfl⟩
 rw[<-Y]
 have ac:∀(g:Nat)(W:World),W.cell? ⟨g,0,none⟩=some (.int .i64 z)->W.cell? ⟨g,1,none⟩=some (.int .i64 t)->dG prog 126 #[.slice (some ⟨g,0,none⟩) 2 2] W λe w'=>e=.returned (.int .i64 ux)/\W=w':=λg W k1 k2=>by
  rw[Y];exact CW z t g W k1 k2
 clear hz ht Y;generalize ie x=kx at *;generalize ie y=ky at *;obtain⟨nx,_,tx,wx,gx⟩:=x;obtain⟨ny,_,ty,wy,gy⟩:=y;simp only at h2⊢;obtain⟨U,aa⟩:∃U,U=(w.alloc (.cells #[.string ⟨kx.toArray⟩,.string ⟨nx.toArray⟩,.string ⟨tx.toArray⟩,.int .i64 wx,.int .i64 gx] 237)).alloc (.cells #[.string ⟨ky.toArray⟩,.string ⟨ny.toArray⟩,.string ⟨ty.toArray⟩,.int .i64 wy,.int .i64 gy] 237):=⟨_,rfl⟩
 have hA:∀j,U.cell? ⟨w.heap.size,j,none⟩=(#[Value.string ⟨kx.toArray⟩,.string ⟨nx.toArray⟩,.string ⟨tx.toArray⟩,.int .i64 wx,.int .i64 gx]:Array Value)[j]?:=λj=>by
  rw[aa,World.cell?_alloc_past _ _ _ (by simp),eY _ _ _ _ rfl]
 have ab:∀j,U.cell? ⟨w.heap.size+1,j,none⟩=(#[Value.string ⟨ky.toArray⟩,.string ⟨ny.toArray⟩,.string ⟨ty.toArray⟩,.int .i64 wy,.int .i64 gy]:Array Value)[j]?:=λj=>by
  rw[aa,eY _ _ _ _ (by simp)]
 have ad:∃os,U=grow w os:=⟨_,by rw[aa,fc,fc,grow_grow]⟩;have a0:U.cell? ⟨w.heap.size,0,none⟩=some (.string ⟨kx.toArray⟩):=hA 0;have a1:U.cell? ⟨w.heap.size,1,none⟩=some (.string ⟨nx.toArray⟩):=hA 1;have b0:U.cell? ⟨w.heap.size+1,0,none⟩=some (.string ⟨ky.toArray⟩):=ab 0;have b1:U.cell? ⟨w.heap.size+1,1,none⟩=some (.string ⟨ny.toArray⟩):=ab 1;clear hA ab;go_enter func185,ntmps185;go_wp2_with fail;rw[<-aa];clear aa;have D:(λw':World=>w'.cell? ⟨w.heap.size,0,none⟩=some (.string ⟨kx.toArray⟩)/\w'.cell? ⟨w.heap.size,1,none⟩=some (.string ⟨nx.toArray⟩)/\w'.cell? ⟨w.heap.size+1,0,none⟩=some (.string ⟨ky.toArray⟩)/\w'.cell? ⟨w.heap.size+1,1,none⟩=some (.string ⟨ny.toArray⟩)) U.drew:=⟨a0,a1,b0,b1⟩;clear a0 a1 b0 b1;refine dI (S:=λw'=>w'.cell? ⟨w.heap.size,0,none⟩=some (.string ⟨kx.toArray⟩)/\w'.cell? ⟨w.heap.size,1,none⟩=some (.string ⟨nx.toArray⟩)/\w'.cell? ⟨w.heap.size+1,0,none⟩=some (.string ⟨ky.toArray⟩)/\w'.cell? ⟨w.heap.size+1,1,none⟩=some (.string ⟨ny.toArray⟩)) (by kernel_rfl) ?_;refine iV 0 ?_ D ?_<|iV 1 ?_ D ?_<|iV 2 ?_ D ?_<|iV 3 ?_ D ?_<|iV 5 ?_ D ?_<|iV 6 ?_ D ?_<|iV 7 ?_ D ?_<|iV 8 ?_ D ?_<|iV 9 ?_ D ?_<|iV 10 ?_ D ?_ ?_
 any_goals(rintro w' ⟨s0,s1,s2,s3⟩; go_simp; first|done|with_reducible rfl)
 refine dE (rs:=[4]) (by kernel_rfl) (by simp) ?_;intro i hi;simp only[cp]at hi;subst hi;refine dF (by rfl) λK' O=>?_;rw[if_pos (by rfl)];unfold fh;go_simp;refine(h1 _).mono ?_;rintro e w' ⟨rfl,rfl⟩;refine O _ _ ⟨D,?_⟩;clear O;refine dE (rs:=[11]) (by kernel_rfl) (by simp) ?_;intro i hi;simp only[cp]at hi;subst hi;refine dF (by rfl) λK' O=>?_;rw[if_pos (by rfl)];unfold fh;go_simp;refine(h2 _).mono ?_;rintro e w' ⟨rfl,rfl⟩;refine O _ _ ⟨D,?_⟩;clear O;refine dE (rs:=[12]) (by kernel_rfl) (by simp) ?_;intro i hi;simp only[cp]at hi;subst hi;refine dF (by rfl) λK' O=>?_;rw[if_pos (by rfl)];unfold fh;go_simp
 have B:Below U.heap.size U (U.alloc (.cells #[.int .i64 z,.int .i64 t] 3)).drew:=by
  have h:Below U.heap.size U (U.alloc (.cells #[.int .i64 z,.int .i64 t] 3)):=(eW _ _).alloc (dN _) _;exact⟨h.os,h.tape,h.output,h.size,h.block⟩
 refine O _ _ ⟨⟨dC B D.1,dC B D.2.1,dC B D.2.2.1,dC B D.2.2.2⟩,?_⟩;clear O;refine dE (rs:=[13]) (by kernel_rfl) (by simp) ?_;intro i hi;simp only[cp]at hi;subst hi;refine dF (by rfl) λK' O=>?_;rw[if_pos (by rfl)];unfold fh;go_simp;refine(ac U.heap.size (U.alloc (.cells #[.int .i64 z,.int .i64 t] 3)).drew (BZ (w:=U) (by rfl)).1 (BZ (w:=U) (by rfl)).2).mono ?_;rintro e w' ⟨rfl,rfl⟩;refine O _ _ ⟨⟨dC B D.1,dC B D.2.1,dC B D.2.2.1,dC B D.2.2.2⟩,?_⟩;clear O;have ae:(λw':World=>w'.cell? ⟨w.heap.size,0,none⟩=some (.string ⟨kx.toArray⟩)/\w'.cell? ⟨w.heap.size,1,none⟩=some (.string ⟨nx.toArray⟩)/\w'.cell? ⟨w.heap.size+1,0,none⟩=some (.string ⟨ky.toArray⟩)/\w'.cell? ⟨w.heap.size+1,1,none⟩=some (.string ⟨ny.toArray⟩)) (U.alloc (.cells #[.int .i64 z,.int .i64 t] 3)).drew:=⟨dC B D.1,dC B D.2.1,dC B D.2.2.1,dC B D.2.2.2⟩;refine iV 14 ?_ ae ?_ ?_;rotate_left
 .rintro w' ⟨s0,s1,s2,s3⟩; go_simp; first|done|with_reducible rfl
 refine dJ (by kernel_rfl) ?_ _;go_wp2;go_ret;obtain⟨os,rfl⟩:=ad;exact⟨rfl,1,_,by rw[fc,grow_grow]; rfl⟩
end
section
open Go.RowKit Go.Maps Go.Sort
variable {a b:gS} {base g:Nat} {w:World}
theorem yR(x y:Wd):tS x y<0↔eX x y=true:=by
 unfold tS;by_cases h:eX x y=true
 .simp[h]
 .by_cases B:eX y x=true
  .simp[h,B]
  .simp[h,B]
theorem tw(x y:Wd):tS x y=0↔x=y:=by
 unfold tS;constructor
 .intro h;rcases kS x y with B|B|B
  .rw[if_pos B]at h; cases h
  .exact B
  .rw[if_neg (by rw[so B]; simp),if_pos B]at h; cases h
 .rintro rfl;simp[kN]
theorem wM(x y:gS):ltOf QU x y=true↔Eu x y:=by
 unfold ltOf QU Eu;rw[decide_eq_true_eq];by_cases h:ie x=ie y
 .rw[if_neg (by rw[ne_eq,Classical.not_not]; exact(tw _ _).2 h),yR,h,kN];simp
 .rw[if_pos (λe=>h ((tw _ _).1 e)),yR];simp[h]
theorem Cr{c:gS}(y:Eu a b)(h:Eu b c):Eu a c:=by
 rcases y with y|⟨y,B⟩
 .rcases h with h|⟨h,_⟩
  .exact Or.inl (oN _ _ _ y h)
  .exact Or.inl (by rw[<-h]; exact y)
 .rcases h with h|⟨h,D⟩
  .exact Or.inl (by rw[y]; exact h)
  .exact Or.inr ⟨y.trans h,oN _ _ _ B D⟩
theorem CD(a b:gS):Eu a b\/(ie a=ie b/\a.name=b.name)\/Eu b a:=by
 rcases kS (ie a) (ie b)with h|h|h
 .exact Or.inl (Or.inl h)
 .rcases kS a.name b.name with y|y|y
  .exact Or.inl (Or.inr ⟨h,y⟩)
  .exact Or.inr (Or.inl ⟨h,y⟩)
  .exact Or.inr (Or.inr (Or.inr ⟨h.symm,y⟩))
 .exact Or.inr (Or.inr (Or.inl h))
theorem ID(a:gS):¬Eu a a:=by
 unfold Eu;simp[kN]
theorem Nh{c:gS}(h:ie a=ie b/\a.name=b.name)(y:Eu a c):Eu b c:=by
 unfold Eu at *;rw[<-h.1,<-h.2];exact y
theorem Qj:SWO (ltOf QU) where
 irrefl x:=by
  have:=ID x;rw[<-wM]at this;simpa using this
 trans x y z h1 h2:=by rw[wM]at *; exact Cr h1 h2
 ntrans x y z h1 h2:=by
  cases B:ltOf QU x z with
  |false=>rfl
  |true=>
   rw[wM]at B;have D:¬Eu x y:=by rw[<-wM,h1]; simp
   have n2:¬Eu y z:=by rw[<-wM,h2]; simp
   rcases CD x y with h|h|h
   .exact absurd h D
   .exact absurd (Nh h B) n2
   .exact absurd (Cr h B) n2
def l9(es:List gS):List Value:=es.flatMap nB
theorem B4(es:List gS)(x:gS):l9 (es++[x])=l9 es++nB x:=by simp[l9]
theorem CR:∀(ws:List gS)(i c:Nat)(h:i<ws.length),c<5->(l9 ws)[i*5+c]?=(nB ws[i])[c]?:=by
 intro ws
 induction ws with
 |nil=>intro i c h; simp at h
 |cons a l y=>
  intro i c h B;have e:l9 (a::l)=nB a++l9 l:=by simp[l9]
  rw[e]
  cases i with
  |zero=>rw[List.getElem?_append_left (by simp[nB]; omega)]; simp
  |succ i=>
   rw[List.getElem?_append_right (by simp[nB]; omega)];have D:(nB a).length=5:=rfl;rw[D,show(i+1)*5+c-5=i*5+c by omega,y i c (by simpa using h) B];simp
theorem Cp(x:gS):∀v∈nB x,v.oneCell'=true:=by
 intro v h;simp[nB]at h;rcases h with rfl|rfl|rfl|rfl|rfl<;>rfl
instance:Inhabited gS:=⟨⟨[],false,[],0,0⟩⟩
theorem A7{e n m cap:Nat}{ws:List gS}(h:w.ownsRow base e 5 (.slice (some ⟨g,0,none⟩) m cap) n (l9 ws))(hn:n=ws.length):HoldsK nB 5 w g 0 ws.toArray:=by
 subst hn;intro j O;rw[size_flatK]at O;have B:j<ws.length*5:=by simpa using O
 have U:j / 5<ws.length:=by omega
 have y:(l9 ws)[j]?=some ((flatK nB 5 ws.toArray)[j]!):=by
  rw[get_flatK _ _ _ _ (by simpa using B)];have:=CR ws (j / 5) (j % 5) U (by omega);rw[show j / 5*5+j % 5=j by omega]at this;rw[this];have e1:ws.toArray[j / 5]! = ws[j / 5]:=by rw[getElem!_pos _ _ (by simpa using U)]; simp
  rw[e1];have W:j % 5<(nB ws[j / 5]).length:=by simp[nB]; omega
  rw[db W,getElem!_pos (nB ws[j / 5]) (j % 5) W]
 rcases h.2 with⟨h0,_⟩|⟨g',Y,aa,he,_,hg,_,_,ab,D⟩
 .simp at h0
 .simp only[eT,fi,fl]at he;obtain⟨⟨rfl,_⟩,_,rfl⟩:=he;refine⟨?_,?_⟩
  .rw[Ps hg];rw[<-D,List.getElem?_take,if_pos (by omega)]at y;rw[dQ];simpa using y
  .simp[World.frozen?,hg]
theorem xl{k blk off m:Nat}{enc:gS->List Value}{d:Array gS}{os:Array Obj}(hb:base<=blk)(h:blk<w.heap.size):Below base w (fj enc k w blk off m d os):=by
 refine⟨rfl,rfl,rfl,?_,λj y=>?_⟩
 .unfold fj fe ff grow fd;simp[fa]
 .unfold fj fe ff grow fd;simp[fa];rw[Array.getElem?_append_left (by simp; omega),eV,if_neg (by omega)]
theorem Gm{k m:Nat}{enc:gS->List Value}{d:Array gS}{os:Array Obj}{h:Array Value}{e:dK}{fr:Nat×Nat}(hb:w.heap[g]?=some (.cells h e fr)):∃cs,(fj enc k w g 0 m d os).heap[g]?=some (.cells cs e fr):=by
 have y:g<w.heap.size:=(eU.1 hb).1;refine⟨putCells id 0 (flatK enc k d) h,?_⟩;unfold fj fe;rw[heap_grow_old _ _ (by simpa using y)];simp[ff,fd,fa,eV,hb,onCells]
theorem KG(blk off size:Nat)(w:World):CmpLays prog 185 #[] nB 5 QU blk off size w:=by
 intro m os h _ x y;exact OH x y _
theorem Kq(base:Nat)(au:Option Addr)(U:Nat)(es:List gS)(w:World)(D:w.ownsRow base 237 5 (.slice au es.length U) es.length (l9 es))(ac:(es.map gS.name).Nodup)(hl:es.length<=1048576) :
  dG prog 184 #[.slice au es.length U,.func (.func 185) #[] #[]] w λe w2=>e=.returned (.tuple #[])/\Below base w w2/\
   ∃L:List gS,L.Perm es/\kT L/\wc w2 (.slice au es.length U) L:=by
 rcases D.2 with⟨he,hn⟩|⟨g,cap,ag,he,W,hb,h1,h2,h3,h4⟩
 .have hG:es=[]:=dp.1 (by simpa using hn);subst hG;have y:=AnyF.slices_SortFunc_none Gi au U (.func (.func 185) #[] #[]) w;change dG prog 184 _ _ _ at y;simp only[eT]at he;refine y.mono ?_;rintro e w2 ⟨rfl,rfl⟩;exact⟨rfl,eW _ _,[],List.Perm.refl _,List.Pairwise.nil,au,U,rfl,dM _,by rw[he.2.2]; exact dM _,λi h=>by simp at h⟩
 .simp only[eT]at he;obtain⟨rfl,_,rfl⟩:=he;have Y:g<w.heap.size:=(eU.1 hb).1
  have y:=AnyQ.slices_SortFunc Gi 5 isAgg237 sizeOf237 nB (λ_=>rfl) Cp QU Qj 185 #[] g 0 U es.toArray w
   (enters_of func185 (by kernel_rfl) rfl) (KG g 0 _ w) (A7 D rfl) Y (by simp; omega)
  change dG prog 184 _ _ _ at y;refine y.mono ?_;rintro e w2 ⟨rfl,d',nq,os,hp,hs,rfl⟩;have aa:d'.size=es.length:=by rw[hp.1]; simp
  have hH:HoldsK nB 5 (fj nB 5 w g 0 nq d' os) g 0 d':=by
   unfold fj;refine holdsK_grow _ _ _ _ _ _ _ ?_ (holdsK_putRowK _ _ _ _ _ es.toArray _ (holdsK_ahead _ _ _ _ _ _ _ (A7 D rfl)) hp.1);unfold fe ff fd;simp[fa];exact Y
  obtain⟨cs,ad⟩:=Gm (enc:=nB) (k:=5) (m:=nq) (d:=d') (os:=os) hb
  have iS:d'.toList.Perm es:=by
   have e1:d'.extract 0 es.toArray.size=d':=by rw[<-hp.1]; simp
   have e2:es.toArray.extract 0 es.toArray.size=es.toArray:=by simp
   have p3:=hp.2.2;rw[e1,e2]at p3;exact p3
  have ae:kT d'.toList:=by
   have O:(d'.toList.map gS.name).Nodup:=(iS.map _).nodup_iff.2 ac;unfold kT;rw[dn];intro i j hi hj ab;have af:d'.toList.length=es.toArray.size:=by simpa using aa
   have h:=hs i j (dM _) ab (by omega);have gi:d'[i]! = d'.toList[i]:=by rw[getElem!_pos d' i (by simpa using hi)]; rfl
   have gj:d'[j]! = d'.toList[j]:=by rw[getElem!_pos d' j (by simpa using hj)]; rfl
   rw[gi,gj]at h;rcases CD d'.toList[i] d'.toList[j]with h'|h'|h'
   .exact h'
   .rw[List.Nodup,du,dn]at O;exact absurd h'.2 (O i j hi hj ab)
   .rw[<-wM,h]at h';cases h'
  refine⟨rfl,xl W Y,d'.toList,iS,ae,some ⟨g,0,none⟩,U,by rw[show d'.toList.length=es.length by simpa using aa],by rw[show d'.toList.length=es.length by simpa using aa]; exact h1,h2,λi hi=>?_⟩;have B:i<d'.size:=by simpa using hi
  have g0:=(fk hH B (c:=0) (by decide)).1;have g1:=(fk hH B (c:=1) (by decide)).1;have g2:=(fk hH B (c:=2) (by decide)).1;have g3:=(fk hH B (c:=3) (by decide)).1;have g4:=(fk hH B (c:=4) (by decide)).1;have e2:d'[i]! = d'.toList[i]:=by rw[getElem!_pos d' i B]; rfl
  rw[e2]at g0 g1 g2 g3 g4;refine⟨g,0,rfl,g0,?_,?_,?_,?_,cs,(0,0),ad⟩
  .exact g1
  .exact g2
  .exact g3
  .exact g4
end
end Go.Proofs.YtocbogeoffeolaaGreatDoor
