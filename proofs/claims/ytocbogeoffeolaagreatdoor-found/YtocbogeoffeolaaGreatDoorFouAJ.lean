import Derived.Test.YtocbogeoffeolaaGreatDoorFouAI
set_option linter.all false
set_option maxHeartbeats 8000000
set_option maxRecDepth 1000000
open List renaming getD_eq_getElem?_getD->aA,mem_filter->aB,getElem?_eq_getElem->aC,range->aD,filter_sublist->aE,getElem_mem->aF,map_map->aG,mem_cons->aH,take_of_length_le->aI,map_congr_left->aJ,pairwise_map->aK,all_eq_true->aL,filter_map->aM,replicate->aN,mem_range->aO,map->aP
open Nat renaming le_trans->aQ,mul_comm->aR,lt_irrefl->aS,lt_of_lt_of_le->aT,le_of_ble_eq_true->aU,zero_le->aV,le_refl->aW
open Int renaming tdiv_eq_ediv_of_nonneg->aX,neg_tdiv->aY
open Go.RowKit renaming Hid->aZ
open Array renaming getElem?_eq_some_iff->ba,getElem?_setIfInBounds->bc,ext_getElem?->bd
open Go renaming Calls->be,maxLen->bf,FuncId->bg,yielded->bh,results->bi,cell_later->bj
open ByteArray renaming size_extract->bk,size_append->bl,size->bm,data_extract->bn,data_append->bo
open Go.Region renaming wanted->bp
open Go.World renaming block_lt_of_cell?->bq,cell?->br
open Bool renaming and_eq_true->bs
open Go renaming undef->bt
namespace Go.Proofs.YtocbogeoffeolaaGreatDoor
open Go.Proofs.Tryz
section
open Go.Conc Go.RowKit Go.Maps
variable {ops:Array Oper} {rest:List Nat} {xs:List Wd} {c:Nat} {o:Oper} {y:World}
def WT(w:World):Prop:=Nb w/\lX w
theorem tU{w:World}(h:lX w/\5<=w.heap.size)(B:mU w y):lX y:=GS h.1 λr O=>B.block r (by omega)
theorem R'{w:World}(h:WT w)(U:5<=w.heap.size)(O:mU w y):WT y:=by
 have B:∀j,y.cell? ⟨0,j,none⟩=w.cell? ⟨0,j,none⟩:=λj=>by simp only[br];rw[O.block 0 (by omega)]
 exact⟨⟨(B 0).trans h.1.1,(B 1).trans h.1.2.1,(B 2).trans h.1.2.2⟩,tU ⟨h.2,U⟩ O⟩
structure rE(w0 w:World)(b:Nat)(buf:List dq)(ss:List (List dq))(ts:List (List Wd))(us:List (Value×List Wd)):Prop where
 x:∃F1 F2:Nat->Prop,AW w0 w F1 F2 b buf ss ts/\∀p∈us,Kept w F1 F2 p.1 p.2
section
variable {w0 w w':World} {b:Nat} {buf buf':List dq} {ss ss':List (List dq)} {ts ts':List (List Wd)} {us:List (Value×List Wd)}
theorem rE.low(h:rE w0 w b buf ss ts us)(B:mU w w'):rE w0 w' b buf ss ts us:=by
 obtain⟨F1,F2,O,U⟩:=h;exact⟨F1,F2,O.same B,λp Y=>(U p Y).step (St.same B)⟩
theorem rE.of{f:bg}{args:Array Value}{r:Value}(h:rE w0 w b buf ss ts us)(U:∀F1 F2,AW w0 w F1 F2 b buf ss ts->be prog f args w λe w'=>e=.returned r/\∃B O,AW w0 w' B O b buf' ss' ts'/\St w w' F1 F2 B O) :
  be prog f args w λe w'=>e=.returned r/\rE w0 w' b buf' ss' ts' us:=by
 obtain⟨F1,F2,Y,h2⟩:=h;refine(U F1 F2 Y).mono ?_;rintro e w' ⟨rfl,B,O,k1,k2⟩;exact⟨rfl,B,O,k1,λp hp=>(h2 p hp).step k2⟩
theorem rE.RY(h:rE w0 w b buf ss ts us)(s t:ByteArray)(x y:Int)(e:js buf ss s.data.toList t.data.toList x y=(c,buf'))(B:s.size<=bf:=by decide)(O:t.size<=bf:=by decide) :
  be prog 38 #[.pointer (some ⟨b,0,none⟩),.string s,.string t,.int .i64 x,.int .i64 y] w λe w'=>e=.returned (.int .i64 c)/\rE w0 w' b buf' ss ts us:=
 h.of λF1 F2 k=>by
  have:=k.RY s t x y B O;rw[e]at this;exact this.mono λ_ _ ⟨h,U,k⟩=>⟨h,U,F2,k⟩
theorem rE.del(h:rE w0 w b buf ss ts us)(s:ByteArray)(e:kH buf ss s.data.toList=(c,buf'))(B:s.size<=bf:=by decide):be prog 37 #[.pointer (some ⟨b,0,none⟩),.string s] w λe w'=>e=.returned (.int .i64 c)/\rE w0 w' b buf' ss ts us:=
 h.of λF1 F2 k=>by
  have:=k.del s B;rw[e]at this;exact this.mono λ_ _ ⟨h,O,k⟩=>⟨h,O,F2,k⟩
theorem rE.flush(h:rE w0 w b buf ss ts us)(e:eX buf ss=(c,buf',ss')):be prog 29 #[.pointer (some ⟨b,0,none⟩)] w λe w'=>e=.returned (.int .i64 c)/\rE w0 w' b buf' ss' ts us:=
 h.of λF1 F2 k=>by
  have:=k.flush;rw[e]at this;exact this.mono λ_ _ ⟨h,B,k⟩=>⟨h,B,F2,k⟩
theorem rE.merge(h:rE w0 w b buf ss ts us)(n:Int)(e:eP ss n=(c,ss')):be prog 39 #[.pointer (some ⟨b,0,none⟩),.int .i64 n] w λe w'=>e=.returned (.int .i64 c)/\rE w0 w' b buf ss' ts us:=
 h.of λF1 F2 k=>by
  have:=k.merge n;rw[e]at this;exact this.mono λ_ _ ⟨h,B,k⟩=>⟨h,B,F2,k⟩
theorem rE.observe(h:rE w0 w b buf ss ts us)(s:ByteArray)(e:sW ts s.data.toList=(c,ts'))(B:gu ts<=16777216:=by exact aU (by kernel_rfl))(O:s.size<=bf:=by decide):be prog 34 #[.pointer (some ⟨b,0,none⟩),.string s] w λe w'=>e=.returned (.int .i64 c)/\rE w0 w' b buf ss ts' us:=
 h.of λF1 F2 k=>by
  have:=k.observe s B O;rw[e]at this;exact this.mono λ_ _ ⟨h,U,k⟩=>⟨h,F1,U,k⟩
theorem rE.Cp(h:rE w0 w b buf ss ts us)(O:WT w)(s:ByteArray)(most:Int)(e:uT ts s.data.toList most=(xs,0))(U:gu ts<=16777216:=by exact aU (by kernel_rfl))(Y:s.size<=bf:=by decide) :
  be prog 35 #[.pointer (some ⟨b,0,none⟩),.string s,.int .i64 most] w λe w'=>∃a n,e=.returned (.tuple #[.slice a xs.length n,.int .i64 (0:Nat)])/\rE w0 w' b buf ss ts ((.slice a xs.length n,xs)::us):=by
 obtain⟨F1,F2,h1,h2⟩:=h;have:=h1.Cp O.1 s most U Y;rw[e]at this;refine this.mono ?_;rintro e w' ⟨v,rfl,k1,k2,k3⟩;obtain⟨a,n,rfl,_⟩:=dK k1.1;refine⟨a,n,rfl,F1,F2,k2,λp B=>?_⟩;rcases aH.1 B with rfl|B
 exact k1;exact(h2 p B).step (St.same k3)
theorem rE.kept(h:rE w0 w b buf ss ts us){v:Value}(B:(v,xs)∈us):∃F1 F2,Kept w F1 F2 v xs:=by
 obtain⟨F1,F2,U,O⟩:=h;exact⟨F1,F2,O _ B⟩
theorem rE.Tt(h:rE w0 w b buf ss ts us):∃B O F1,tk B O w F1 b buf ss:=by
 obtain⟨F1,F2,U,h2⟩:=h;obtain⟨B,O,Y⟩:=U.Tt;exact⟨B,O,F1,Y⟩
theorem rE.base(h:rE w0 w b buf ss ts us):mU w0 w:=by
 obtain⟨F1,F2,B,O⟩:=h;exact B.low
end
section
variable {Z:jN prog} {W0:World} {Mp:Nat->Prop} {fn:bg} {tm:Array Value} {os:List OF} {wl:World} {k:List Item} {V:List (Nat×Option (List Value))}
theorem rE.comp{w0:World}{b:Nat}{buf:List dq}{ss:List (List dq)}{ts:List (List Wd)}{us:List (Value×List Wd)}{i:Nat}{xs:Array Operand}{tys:Array TypeId}(mode dA most n:Nat)(qb:ByteArray){ls:List Wd}(h:rE w0 wl b buf ss ts us)(h5:5<=w0.heap.size)(O:lX wl)(e:(um (eO ss buf) mode qb.data.toList dA most).1=ls)
  (hn:∀(w2:World)(a:Option Addr)(c:Nat),rE w0 w2 b buf ss ts ((.slice a n c,ls)::us)->dl (fJ Z W0 Mp) (⟨fn,eM o.dst tm (.tuple #[.slice a n c,.int .i64 0]),.inRegion ops rest::k⟩::os) w2 []) (hl:ls.length=n:=by rfl) (hq:eu qb.data.toList=true:=by decide)
  (hi:ops[i]?=some o:=by rfl) (aa:bp o (bh ops tm)=true:=by rfl) (ho:o.op=.call {callee:=.value (.func 17),args:=xs,argTypes:=tys}:=by rfl) (ab:∀x∈xs.toList,dP (fJ Z W0 Mp).fw (fJ Z W0 Mp).gl x:=by simp[dP,Plain])
  (ha:xs.map (iS tm)=#[.pointer (some ⟨b,0,none⟩),.int .i64 (mode:Int),.string qb,.int .i64 (dA:Int),.int .i64 (most:Int)]:=by kernel_rfl) (hm:mode<=3:=by omega) (ht:dA<=255:=by omega) (U:1<=most:=by omega) (Y:most<=20:=by omega):dl (fJ Z W0 Mp) (⟨fn,tm,.inRegion ops (i::rest)::k⟩::os) wl []:=by
 obtain⟨F1,F2,h1,h2⟩:=h;obtain⟨vM,vK,_,_,_,B⟩:=h1.Tt;have hI:=B.inv;refine h1.RP h5 O hq (λw2 u L k1 ac B hs hk=>?_) hi aa ho ab ha hm ht U Y;rw[vI (rh hI) (λe he=>(Bf hI he).1) hm ht U Y hq B hs,e]at hk;obtain⟨a,c,rfl,_⟩:=dK hk.1;rw[hl];refine hn w2 a c ⟨F1,F2,k1,λp B=>?_⟩;rcases aH.1 B with rfl|B
 rw[<-hl];exact hk;exact(h2 p B).step (St.same ac)
theorem gV{c d:Code}(h:∀O,aZ (O=.code d::k)->∀y,mU wl y->c.wp prog (Io (fJ Z W0 Mp) fn O os V) ⟨tm,[]⟩ y)(B:jK (λo=>Ga prog uc qV true o.op) c=true:=by kernel_rfl)(U:(Item.code d::k).all kz=true:=by rfl):dl (fJ Z W0 Mp) (⟨fn,tm,.code (.seq c d)::k⟩::os) wl V:=
 dl.seq (dl.Ju (oO B) U (.inr nofun) λτ _=>h _ rfl _ ⟨rfl,aW _,λ_ _=>rfl⟩)
theorem fj{P:Program}{E:Env P}{tmps:Array Value}{w':World}{B:List Item}(O:aZ (B=k))(h:dl E (⟨fn,tmps,k⟩::os) w' V):Io E fn B os V .normal ⟨tmps,[]⟩ w':=by
 rw[O.out];exact gr h
theorem Hd{i:Nat}(hi:ops[i]?=some o)(hW:WT wl)(h5:5<=wl.heap.size)(hn:∀w2:World,mU wl w2->dl (fJ Z W0 Mp) (⟨fn,eM o.dst tm (.bool true),.inRegion ops rest::k⟩::os) w2 []) :
  dl (fJ Z W0 Mp) (⟨32,#[bt,bt,bt,bt,bt,bt,bt,bt,bt,bt,bt,bt,bt,bt,bt,bt,bt,bt,bt,bt,bt,bt,bt,bt,bt,bt,bt,bt,bt,bt,bt,bt,bt,bt,bt,bt,bt,bt,bt,bt,bt,bt,bt,bt,bt,bt,bt,bt,bt,bt,bt,bt,bt,bt,bt,bt,bt,bt,bt,bt,bt,bt,bt,bt,bt,bt,bt,bt,bt,bt,bt,bt,bt,bt,bt,bt,bt,bt,bt,bt,bt,bt,bt,bt,bt,bt,bt,bt,bt,bt,bt,bt,bt,bt,bt,bt,bt,bt,bt,bt,bt,bt,bt,bt,bt,bt,bt,bt,bt,bt,bt,bt,bt,bt,bt,bt,bt,bt,bt,bt,bt,bt,bt,bt,bt,bt,bt,bt,bt,bt,bt,bt,bt,bt,bt,bt,bt,bt,bt,bt,bt,bt,bt,bt,bt,bt,bt,bt,bt,bt,bt,bt,bt,bt],[.code (ey f32)]⟩::⟨fn,tm,.inRegion ops (i::rest)::k⟩::os) wl []:=by
 have HN:aZ _:=And.intro hW (And.intro h5 hn);clear hW h5 hn;show dl _ (⟨_,_,[.code (.seq (.region 0 _ false) (.seq (.region 1 _ false) (.seq (.seq (.region 2 _ false) (.cond _ _ .skip)) (.seq (.region 4 _ false) (.seq (.region 5 _ false) (.seq (.region 6 _ false) (.seq (.region 7 _ false) (.seq (.region 8 _ false) (.seq (.region 9 _ false) (.seq (.region 10 _ false) (.seq (.region 11 _ false) (.seq (.region 12 _ false) (.seq (.region 13 _ false) (.seq (.region 14 _ false) (.seq (.region 15 _ false) (.seq (.region 16 _ false) (.seq (.region 17 _ false) (.seq (.seq (.region 18 _ false) (.cond _ _ .skip)) (.seq (.region 20 _ false) (.seq (.region 21 _ false) (.seq (.region 22 _ false) (.seq (.region 23 _ false) (.seq (.region 24 _ false) (.seq (.region 25 _ false) .ret))))))))))))))))))))))))]⟩::_) _ _;refine dl.sr λY B=>?_
 (refine dT ?_;go_simp);refine dl.ie B ?_;clear B Y;refine gV λY B y O=>?_;have C:=Uv y;have HL:aZ _:=O;clear O;go_wp2_with fail;refine C.mono ?_;clear C;rintro e w ⟨b,F1,F2,rfl,hA,hb⟩
 have U:aZ (rE wl w b [] [] [] []):=by
  have h0:=HL.out;exact⟨F1,F2,⟨hA.j,λk hk=>aQ h0.size (hA.To k hk),λk hk=>aQ h0.size (hA.Qj k hk),h0.trans hA.low⟩,λp hp=>by cases hp⟩
 clear hA hb HL;go_wp2;refine fj B ?_;clear B Y;refine dl.seq (dl.sr λY B=>?_)
 (iterate 2 (refine dT ?_;go_simp));refine dl.ie B ?_;clear B Y;refine dl.qu trivial rfl (dl.skip ?_);refine gV λY B y O=>?_;have C:=(U.out.low O).RY ⟨#[97]⟩ ⟨#[78,101,119,32,89,111,114,107]⟩ 50 1 t1;clear O;go_wp2_with fail;refine C.mono ?_;clear C;rintro e w ⟨rfl,hA⟩;have U:aZ _:=hA;clear hA;go_wp2;refine fj B ?_;clear B Y;refine gV λY B y O=>?_;have C:=(U.out.low O).RY ⟨#[98]⟩ ⟨#[78,101,119,97,114,107]⟩ 70 3 t2;clear O;go_wp2_with fail;refine C.mono ?_;clear C;rintro e w ⟨rfl,hA⟩;have U:aZ _:=hA;clear hA;go_wp2;refine fj B ?_;clear B Y;refine gV λY B y O=>?_;have C:=(U.out.low O).RY ⟨#[99]⟩ ⟨#[89,111,114,107]⟩ 60 1 t3;clear O;go_wp2_with fail;refine C.mono ?_;clear C;rintro e w ⟨rfl,hA⟩;have U:aZ _:=hA;clear hA;go_wp2;refine fj B ?_;clear B Y;refine dl.sr λY B=>?_
 (refine dT ?_;go_simp);refine U.out.comp (i:=1) 0 0 5 2 ⟨#[110,101,119]⟩ HN.out.2.1 (tU ⟨HN.out.1.2,HN.out.2.1⟩ U.out.base) t4 λw a0 c0 hA=>?_;have U:aZ _:=hA;clear hA;rw[gL];go_simp
 (iterate 5 (refine dT ?_;go_simp));refine dl.ie B ?_;clear B Y;refine dl.sr λY B=>?_
 (refine dT ?_;go_simp);refine U.out.comp (i:=1) 1 0 5 2 ⟨#[89,79,82,75]⟩ HN.out.2.1 (tU ⟨HN.out.1.2,HN.out.2.1⟩ U.out.base) t5 λw a1 c1 hA=>?_;have U:aZ _:=hA;clear hA;rw[gL];go_simp
 (iterate 5 (refine dT ?_;go_simp));refine dl.ie B ?_;clear B Y;refine dl.sr λY B=>?_
 (refine dT ?_;go_simp);refine U.out.comp (i:=1) 2 2 5 1 ⟨#[110,119,101]⟩ HN.out.2.1 (tU ⟨HN.out.1.2,HN.out.2.1⟩ U.out.base) t6 λw a2 c2 hA=>?_;have U:aZ _:=hA;clear hA;rw[gL];go_simp
 (iterate 5 (refine dT ?_;go_simp));refine dl.ie B ?_;clear B Y;refine gV λY B y O=>?_;have C:=(U.out.low O).flush t7;clear O;go_wp2_with fail;refine C.mono ?_;clear C;rintro e w ⟨rfl,hA⟩;have U:aZ _:=hA;clear hA;go_wp2;refine fj B ?_;clear B Y;refine gV λY B y O=>?_;have C:=(U.out.low O).del ⟨#[98]⟩ t8;clear O;go_wp2_with fail;refine C.mono ?_;clear C;rintro e w ⟨rfl,hA⟩;have U:aZ _:=hA;clear hA;go_wp2;refine fj B ?_;clear B Y;refine gV λY B y O=>?_;have C:=(U.out.low O).flush t9;clear O;go_wp2_with fail;refine C.mono ?_;clear C;rintro e w ⟨rfl,hA⟩;have U:aZ _:=hA;clear hA;go_wp2;refine fj B ?_;clear B Y;refine gV λY B y O=>?_;obtain⟨vM,vK,F1,hp⟩:=(U.out.low O).Tt;have C:=Uc y F1 b [] [[ea,eb,ec],[gb]] 1 hp;rw[t10]at C;have U:aZ _:=U.out.low O;clear hp;clear O;go_wp2_with fail;refine C.mono ?_;clear C;rintro e w ⟨rfl,rfl⟩;go_wp2;refine fj B ?_;clear B Y;refine gV λY B y O=>?_;have C:=(U.out.low O).merge 0 (Prod.ext t11.1 rfl);clear O;go_wp2_with fail;refine C.mono ?_;clear C;rintro e w ⟨rfl,hA⟩;have U:aZ _:=hA;clear hA;go_wp2;refine fj B ?_;clear B Y;refine gV λY B y O=>?_;have C:=(U.out.low O).observe ⟨#[116,104,101,32,99,97,116,32,115,97,116]⟩ t12;clear O;go_wp2_with fail;refine C.mono ?_;clear C;rintro e w ⟨rfl,hA⟩;have U:aZ _:=hA;clear hA;go_wp2;refine fj B ?_;clear B Y;refine gV λY B y O=>?_;have C:=(U.out.low O).observe ⟨#[116,104,101,32,99,97,116,32,114,97,110]⟩ t13;clear O;go_wp2_with fail;refine C.mono ?_;clear C;rintro e w ⟨rfl,hA⟩;have U:aZ _:=hA;clear hA;go_wp2;refine fj B ?_;clear B Y;refine gV λY B y O=>?_;have A:=U.out.low O;have C:=A.Cp (R' HN.out.1 HN.out.2.1 A.base) ⟨#[116,104,101,32,99,97,116]⟩ 2 t14;clear A;clear O;go_wp2_with fail;refine C.mono ?_;clear C;rintro e w ⟨a4,c4,rfl,hA⟩;have U:aZ _:=hA;clear hA;go_wp2;refine fj B ?_;clear B Y;refine dl.seq (gV λY B y O=>?_);have U:aZ _:=U.out.low O;clear O;go_wp2;refine fj B ?_;clear B Y;refine dl.qu trivial rfl (dl.skip ?_);refine gV λY B y O=>?_;have U:aZ _:=U.out.low O;obtain⟨F1,F2,h⟩:=U.out.kept (.tail _ (.tail _ (.tail _ (.head _))));have C:=NI _ _ h;simp only[t15,t16,t17]at C;clear h;clear O;go_wp2_with fail;refine C.mono ?_;clear C;rintro e w ⟨rfl,rfl⟩;go_wp2;refine fj B ?_;clear B Y;refine gV λY B y O=>?_;have U:aZ _:=U.out.low O;obtain⟨F1,F2,h⟩:=U.out.kept (.tail _ (.tail _ (.head _)));have C:=NI _ _ h;simp only[t15,t16,t17]at C;clear h;clear O;go_wp2_with fail;refine C.mono ?_;clear C;rintro e w ⟨rfl,rfl⟩;go_wp2;refine fj B ?_;clear B Y;refine gV λY B y O=>?_;have U:aZ _:=U.out.low O;obtain⟨F1,F2,h⟩:=U.out.kept (.tail _ (.head _));have C:=TC _ ⟨#[]⟩ h;simp only[t15,t16,t17]at C;clear h;clear O;go_wp2_with fail;refine C.mono ?_;clear C;rintro e w ⟨rfl,rfl⟩;go_wp2;refine fj B ?_;clear B Y;refine gV λY B y O=>?_;have U:aZ _:=U.out.low O;obtain⟨F1,F2,h⟩:=U.out.kept (.head _);have C:=NI _ _ h;clear h;clear O;go_wp2_with fail;refine C.mono ?_;clear C;rintro e w ⟨rfl,rfl⟩;go_wp2;refine fj B ?_;clear B Y;refine gV λY B y O=>?_;have U:aZ _:=U.out.low O;obtain⟨vM,vK,F1,hp⟩:=U.out.Tt;have C:=BP y F1 b [] (eP [[ea,eb,ec],[gb]] 0).2 hp;rw[t11.2]at C;clear hp;clear O;go_wp2_with fail;refine C.mono ?_;clear C;rintro e w ⟨rfl,rfl⟩;go_wp2;refine fj B ?_;clear B Y;refine gV λY B y O=>?_;have U:aZ _:=U.out.low O;clear O;go_wp2;refine fj B ?_;clear B Y;refine dl.back (v:=.bool true) (.inr ⟨_,rfl⟩) func32 hi (λτ=>by simp[bi,results32,go_sem]) ?_;exact HN.out.2.2 _ U.out.base
end
theorem PJ.stay{w w':World}{F1 F2:Nat->Prop}{b:Nat}{buf:List dq}{ss:List (List dq)}{ts:List (List Wd)}(h:PJ w F1 F2 b buf ss ts)(U:w.heap.size<=w'.heap.size)(hb:∀k,F1 k\/F2 k->w'.heap[k]?=w.heap[k]?):PJ w' F1 F2 b buf ss ts:=by
 obtain⟨Y,h2,h3,Bb,vS,B,n,vK,kn,h4,h5⟩:=h;exact⟨λk O=>aT (Y k O) U,λk O=>aT (h2 k O) U,h3,Bb,vS,B,n,vK,kn,h4.stay λk O=>hb k (.inl O),h5.stay λk O=>hb k (.inr O)⟩
theorem H5:f32.name≠ "runtime.NumGoroutine":=by
 decide
structure A5(w:World)(ra:Option Addr)(rs:List Int):Prop where
 cell:∀j(h:j<rs.length),∃b off,ra=some ⟨b,off,none⟩/\w.cell? ⟨b,off+j,none⟩=some (.int .i64 rs[j])
 lo:∀x∈rs,-9223372036854775808<=x
 hi:∀x∈rs,x<=9223372036854775807
variable {i k:Nat}
def kq(k:np):Nat->Value
 |0=>.string ⟨k.name.toArray⟩|1=>.string ⟨k.text.toArray⟩|2=>.int .i64 k.dp|3=>.int .i64 k.dA|_=>.bool k.there
def qX(b:Nat)(K:List np)(j:Nat):Value:=if j=0 then .pointer (some ⟨b,0,none⟩)else kq (K.getD ((j-1) / 5) eU) ((j-1) % 5)
def kX(b:Nat)(K:List np):Array Value:=Array.ofFn (n:=61) λj=>qX b K j.val
theorem n4(b:Nat)(K:List np)(j:Nat):(kX b K)[j]?=if j<61 then some (qX b K j)else none:=by
 unfold kX;rw[Array.getElem?_ofFn];split<;>rfl
theorem Ka(b:Nat)(K:List np):(kX b K).size=61:=by unfold kX;simp
theorem J5{b:Nat}{K:List np}(B:K.length=12)(O:k<12)(hi:i<5):(kX b K)[1+5*k+i]?=some (kq (K[k]'(by omega)) i):=by
 rw[n4,if_pos (by omega)];unfold qX;rw[if_neg (by omega),show(1+5*k+i-1) / 5=k by omega,show(1+5*k+i-1) % 5=i by omega,aA,aC _];rfl
theorem Gr{b:Nat}{K:List np}(U:K.length=12){j:Nat}(Y:k<12)(kn:np)(B:∀i,i<5->j≠1+5*k+i):qX b (K.set k kn) j=qX b K j:=by
 unfold qX;split;rfl;have O:(j-1) / 5≠k:=λe=>B ((j-1) % 5) (by omega) (by omega);rw[aA,aA,List.getElem?_set_ne (by omega)]
theorem qj{b:Nat}{K:List np}(B:K.length=12)(O:k<12)(hi:i<5)(kn:np):qX b (K.set k kn) (1+5*k+i)=kq kn i:=by
 unfold qX;rw[if_neg (by omega),show(1+5*k+i-1) / 5=k by omega,show(1+5*k+i-1) % 5=i by omega,aA,List.getElem?_set_self (by omega)];rfl
theorem Qv{b:Nat}{K:List np}(B:K.length=12)(O:k<12)(kn:np) :
  ((((((kX b K).setIfInBounds (1+5*k) (kq kn 0)).setIfInBounds (1+5*k+1) (kq kn 1)).setIfInBounds (1+5*k+2) (kq kn 2)).setIfInBounds (1+5*k+3) (kq kn 3)).setIfInBounds (1+5*k+4) (kq kn 4))=kX b (K.set k kn):=by
 apply bd;intro j;simp only[bc,Array.size_setIfInBounds,Ka,n4];by_cases U:1+5*k+4=j;subst U;simp only[if_true];rw[if_pos (by omega),if_pos (by omega),qj B O (by omega)];rw[if_neg U];by_cases Y:1+5*k+3=j;subst Y;simp only[if_true];rw[if_pos (by omega),if_pos (by omega),qj B O (by omega)];rw[if_neg Y];by_cases h2:1+5*k+2=j;subst h2;simp only[if_true];rw[if_pos (by omega),if_pos (by omega),qj B O (by omega)];rw[if_neg h2];by_cases h1:1+5*k+1=j;subst h1;simp only[if_true];rw[if_pos (by omega),if_pos (by omega),qj B O (by omega)];rw[if_neg h1];by_cases h0:1+5*k=j;subst h0;simp only[if_true];rw[show 1+5*k=1+5*k+0 from rfl,qj B O (by omega)];rw[if_neg h0,Gr B O kn λi hi=>by omega]
theorem Q6{b:Nat}{K:List np}(U:K.length=12)(Y:k<12) :
  (kX b K).setIfInBounds (1+5*k+4) (.bool false)=kX b (K.set k {K.getD k eU with there:=false}):=by
 have B:K.getD k eU=K[k]'(by omega):=by rw[aA,aC _];rfl
 apply bd;intro j;simp only[bc,Ka,n4];by_cases h4:1+5*k+4=j;subst h4;simp only[if_true];rw[if_pos (by omega),if_pos (by omega),qj U Y (by omega)];rfl;rw[if_neg h4];split;by_cases O:∃i,i<4/\j=1+5*k+i;obtain⟨i,hi,rfl⟩:=O;rw[qj U Y (by omega),B];have:=J5 (b:=b) U Y (show i<5 by omega);rw[n4,if_pos (by omega)]at this;rw[this];rcases(by omega:i=0\/i=1\/i=2\/i=3)with rfl|rfl|rfl|rfl<;>rfl
 rw[Gr U Y _ λi hi e=>?_];by_cases h:i<4;exact O ⟨i,h,e⟩;exact h4 (by omega);rfl
structure WB(w0 w:World)(F1 F2:Nat->Prop)(b W:Nat)(K:List np):Prop where
 blk:w.heap[W]?=some (.cells (kX b K) 39 (0,0))
 a1:¬F1 W
 a2:¬F2 W
 hi:w0.heap.size<=W
section
variable {w0 w w':World} {F1 F2:Nat->Prop} {b W:Nat} {buf:List dq} {ss:List (List dq)} {ts:List (List Wd)} {K:List np}
theorem WB.lt(h:WB w0 w F1 F2 b W K):W<w.heap.size:=(ba.1 h.blk).1
theorem WB.low(h:WB w0 w F1 F2 b W K)(B:mU w w'):WB w0 w' F1 F2 b W K:=⟨(B.block W h.lt).trans h.blk,h.a1,h.a2,h.hi⟩
theorem WB.step{B O:Nat->Prop}(h:WB w0 w F1 F2 b W K)(st:St w w' F1 F2 B O):WB w0 w' B O b W K:=by
 have:=h.lt;refine⟨(st.block W h.lt h.a1 h.a2).trans h.blk,λY=>?_,λY=>?_,h.hi⟩;rcases st.f1 W Y with U|U
 exact h.a1 U;omega;rcases st.f2 W Y with U|U
 exact h.a2 U;omega
theorem AW.other(h:AW w0 w F1 F2 b buf ss ts)(Y:¬F1 W)(h2:¬F2 W)(hi:w0.heap.size<=W)(U:w.heap.size<=w'.heap.size)(O:w'.os=w.os)(hb:∀k,k<w.heap.size->k≠W->w'.heap[k]?=w.heap[k]?):AW w0 w' F1 F2 b buf ss ts:=by
 refine⟨h.j.stay U λk B=>hb k (B.elim (h.j.T3 k) (h.j.Uz k)) λe=>?_,h.To,h.Qj,⟨O.trans h.low.os,aQ h.low.size U,λk B=>(hb k (aT B h.low.size) (by omega)).trans (h.low.block k B)⟩⟩;subst e;exact B.elim Y h2
theorem sx(h:kV w w'):mU w w':=by
 obtain⟨τ,B⟩:=h;exact⟨B.os,B.size,B.block⟩
end
section
variable {w0 w w':World} {F1 F2:Nat->Prop} {b W:Nat} {buf:List dq} {ss:List (List dq)} {ts:List (List Wd)} {K:List np}
theorem TK{k:Nat}(h:k<12):pk (k:Int) 12=k:=by
 unfold pk;omega
theorem Q7(hA:AW w0 w F1 F2 b buf ss ts)(hB:WB w0 w F1 F2 b W K)(hS:Sk K buf ss)(x:Raw)(hx:x.Ok)(aa:x.dp<0) :
  be prog 43 #[.pointer (some ⟨W,0,none⟩),rk x] w λe w'=>e=.returned (.bool true)/\∃U buf',AW w0 w' U F2 b buf' ss ts/\WB w0 w' U F2 b W (qA K x)/\Sk (qA K x) buf' ss:=by
 have ad:=hS.del x aa;have ab:=hS.len;have ac:=lA x.name 12 (by omega);have Y:=Q6 (b:=b) ab ac;have al:qA K x=K.set (pk x.name 12) {K.getD (pk x.name 12) eU with there:=false}:=by unfold qA;rw[if_pos aa]
 rw[<-al]at Y;generalize qA K x=K' at *;obtain⟨xn,xt,xw,xg⟩:=x;obtain⟨n0,n1,t0,t1,q0,q1,g0,g1⟩:=hx;simp only at n0 n1 t0 t1 q0 q1 g0 g1 aa ad ac Y⊢;unfold rk;simp only;obtain⟨wa,ae⟩:∃wa,wa=w.alloc (.cells #[.int .i64 xn,.int .i64 xt,.int .i64 xw,.int .i64 xg] 48):=⟨_,rfl⟩;have ai:eV w wa:=by rw[ae];exact eV.alloc _ _
 have aj:wa.heap[w.heap.size]?=some (.cells #[.int .i64 xn,.int .i64 xt,.int .i64 xw,.int .i64 xg] 48 (0,0)):=by rw[ae];exact o8 _ _
 have d0:wa.cell? ⟨w.heap.size,0,none⟩=some (.int .i64 xn):=by rw[dh aj];rfl
 have d2:wa.cell? ⟨w.heap.size,2,none⟩=some (.int .i64 xw):=by rw[dh aj];rfl
 have HA:aZ _:=hA.same (.of ai);have HB:aZ _:=hB.low (.of ai);have hp:=fS xn 12 wa n0 n1 (by omega) (by omega);obtain⟨k,hk⟩:∃k,k=pk xn 12:=⟨_,rfl⟩;rw[<-hk]at hp ac Y ad
 have HN:aZ (∀y,be prog 23 #[.int .i64 (k:Int)] y λe w'=>e=.returned (.string ⟨(sT k).toArray⟩)/\y=w'):=λy=>by
  have:=BQ (k:Int) y (by omega) (by omega);rw[TK ac]at this;exact this
 have HX:aZ _:=And.intro ad Y;have HL:aZ _:=And.intro ab ac;clear hA hB hS ad Y ai aj hk ab al;go_enter func43,ntmps43;go_wp2_with fail;rw[<-ae];refine hp.mono ?_;rintro e w1 ⟨rfl,rfl⟩;clear hp ae;go_wp2_with fail;have HU:aZ (∀y,kV wa y->y.cell? ⟨W,0,none⟩=some (.pointer (some ⟨b,0,none⟩))):=λy hy=>eN hy (by rw[dh HB.out.blk,n4];rfl);refine gz (Sd:=λa y=>mD _ _ _ [6,7] a y) (last:=6) (tl:=[7]) (by kernel_rfl) ?_ (λa y h _=>h);refine dC 0 ?_ ?_<|dC 1 ?_ ?_<|dC 2 ?_ ?_<|dC 3 ?_ ?_<|dC 4 ?_ ?_ ?_
 any_goals(intro y hy;have q0:=HU.out y hy;unfold gm;go_simp;refine⟨eV.refl _,?_⟩;with_reducible rfl)
 go_simp;refine dC 5 ?_ ?_ ?_;rotate_left
 .intro y hy;unfold gm;go_simp;refine⟨rfl,(HN.out y).mono ?_⟩;rintro e y2 ⟨rfl,rfl⟩;refine⟨_,rfl,eV.refl _,?_⟩;with_reducible rfl
 go_simp;refine mP (by kernel_rfl) (λt=>tK (by kernel_rfl) (by kernel_rfl) _ _) ?_;intro y hy;have am:aZ _:=HA.out.same (sx hy);have an:aZ _:=HB.out.low (sx hy);clear hy HA HB HU HN d0 d2;refine jv rfl rfl ?_;unfold gm;go_simp;refine⟨rfl,(am.out.del ⟨(sT k).toArray⟩ (by unfold bf;simp[sT,bm])).mono ?_⟩;rintro e y2 ⟨rfl,U,ao,st⟩;have O:aZ _:=an.out.step st;have ak:aZ _:=ao;clear ao st am an;refine⟨_,rfl,?_⟩;refine jv rfl rfl ?_;unfold gm;go_simp;refine na ?_;change aZ (AW w0 y2 U F2 b (kH buf ss (sT k)).2 ss ts)at ak;have ag:K.getD k eU=K[k]'(by have:=HL.out;omega):=by rw[aA,aC (by have:=HL.out;omega)];rfl
 have c4:y2.cell? ⟨W,1+k*5+4,none⟩=some (.bool (K.getD k eU).there):=by
  have:=J5 (b:=b) HL.out.1 HL.out.2 (show 4<5 by omega);rw[aR 5 k]at this;rw[dh O.out.blk,this,ag];rfl
 have f4:=dI O.out.blk (1+k*5+4);obtain⟨y3,af⟩:∃y3,y2.setCell ⟨W,1+k*5+4,none⟩ (.bool false)=y3:=⟨_,rfl⟩
 have ah:aZ (∃U buf',AW w0 y3 U F2 b buf' ss ts/\WB w0 y3 U F2 b W K'/\Sk K' buf' ss):=by
  refine⟨U,_,ak.out.other O.out.a1 O.out.a2 O.out.hi ?_ ?_ ?_,⟨?_,O.out.a1,O.out.a2,O.out.hi⟩,HX.out.1.2⟩;rw[<-af];simp;rw[<-af];rfl;intro j _ hj;rw[<-af,Below.heap_setCell _ _ _ _ hj];rw[<-af,heap_set O.out.blk,aR k 5,HX.out.2]
 have B:=HX.out.1.1;clear ak O HX ag
 cases ht:(K.getD k eU).there with
 |true=>
  rw[ht]at B c4;simp only[if_true]at B;rw[B];clear B ht;go_wp2;go_ret;exact⟨rfl,ah.out⟩
 |false=>
  rw[ht]at B c4;simp only[Bool.false_eq_true,if_false]at B;rw[B];clear B ht;go_wp2;go_ret;exact⟨rfl,ah.out⟩
end
section
variable {w0 w w':World} {F1 F2:Nat->Prop} {b W:Nat} {buf:List dq} {ss:List (List dq)} {ts:List (List Wd)} {K:List np}
theorem QT(hA:AW w0 w F1 F2 b buf ss ts)(hB:WB w0 w F1 F2 b W K)(hS:Sk K buf ss)(x:Raw)(hx:x.Ok)(ac:¬x.dp<0) :
  be prog 43 #[.pointer (some ⟨W,0,none⟩),rk x] w λe w'=>e=.returned (.bool true)/\∃aa buf',AW w0 w' aa F2 b buf' ss ts/\WB w0 w' aa F2 b W (qA K x)/\Sk (qA K x) buf' ss:=by
 have aj:=hS.RY x ac;have ad:=hS.len;have ae:=lA x.name 12 (by omega);have Y:=Qv (b:=b) ad ae (k6 x);have ax:qA K x=K.set (pk x.name 12) (k6 x):=by unfold qA;rw[if_neg ac]
 have ay:=(Kr (lA x.text 258 (by omega))).2.2;have hC:=λy=>Hs x hx y;unfold Kx at hC;rw[<-ax]at Y;generalize qA K x=K' at *;have az:(k6 x).there=true:=rfl;have ak:(k6 x).text.length<=20:=ay;have al:(k6 x).name.length<=20:=by show[UInt8.ofNat (97+pk x.name 12)].length<=20;simp
 generalize k6 x=kn at *;obtain⟨kN,kT,kW,kG,kB⟩:=kn;simp only at az ak al aj hC;subst az;simp only[kq]at Y;obtain⟨xn,xt,xw,xg⟩:=x;obtain⟨n0,n1,t0,t1,q0,q1,g0,g1⟩:=hx;simp only at n0 n1 t0 t1 q0 q1 g0 g1 ac ae Y hC;unfold rk at hC⊢;simp only at hC⊢;obtain⟨wa,ah⟩:∃wa,wa=w.alloc (.cells #[.int .i64 xn,.int .i64 xt,.int .i64 xw,.int .i64 xg] 48):=⟨_,rfl⟩;have am:eV w wa:=by rw[ah];exact eV.alloc _ _
 have af:wa.heap[w.heap.size]?=some (.cells #[.int .i64 xn,.int .i64 xt,.int .i64 xw,.int .i64 xg] 48 (0,0)):=by rw[ah];exact o8 _ _
 have d0:wa.cell? ⟨w.heap.size,0,none⟩=some (.int .i64 xn):=by rw[dh af];rfl
 have d1:wa.cell? ⟨w.heap.size,1,none⟩=some (.int .i64 xt):=by rw[dh af];rfl
 have d2:wa.cell? ⟨w.heap.size,2,none⟩=some (.int .i64 xw):=by rw[dh af];rfl
 have d3:wa.cell? ⟨w.heap.size,3,none⟩=some (.int .i64 xg):=by rw[dh af];rfl
 have HA:aZ _:=hA.same (.of am);have HB:aZ _:=hB.low (.of am);have hp:=fS xn 12 wa n0 n1 (by omega) (by omega);obtain⟨k,hk⟩:∃k,k=pk xn 12:=⟨_,rfl⟩;rw[<-hk]at hp ae Y;have HX:aZ _:=And.intro aj Y;have HL:aZ _:=And.intro ad (And.intro ae (And.intro ak al));have HC:aZ _:=hC;obtain⟨sn,an⟩:∃sn:ByteArray,sn=⟨kN.toArray⟩:=⟨_,rfl⟩;obtain⟨st,ao⟩:∃st:ByteArray,st=⟨kT.toArray⟩:=⟨_,rfl⟩;rw[<-an,<-ao]at HC HX;have HT:aZ _:=And.intro an ao;clear hA hB hS aj Y am af hk ad ax ay ak al hC an ao;go_enter func43,ntmps43;go_wp2_with fail;rw[<-ah];refine hp.mono ?_;rintro e w1 ⟨rfl,rfl⟩;clear hp ah;go_wp2_with fail;refine(HC.out _).mono ?_;rintro e w1 ⟨rfl,ap⟩;have HA:aZ _:=HA.out.same (.of ap);have HB:aZ _:=HB.out.low (.of ap);clear ap d0 d1 d2 d3 HC;go_wp2_with fail;obtain⟨wb,ai⟩:∃wb,w1.alloc (.cells #[.string sn,.string st,.int .i64 kW,.int .i64 kG,.bool true] 36)=wb:=⟨_,rfl⟩;rw[ai];have aq:eV w1 wb:=by rw[<-ai];exact eV.alloc _ _
 have ar:wb.heap[w1.heap.size]?=some (.cells #[.string sn,.string st,.int .i64 kW,.int .i64 kG,.bool true] 36 (0,0)):=by rw[<-ai];exact o8 _ _
 have au:aZ (¬F1 w1.heap.size/\¬F2 w1.heap.size):=⟨λhf=>absurd (HA.out.j.T3 _ hf) (aS _),λhf=>absurd (HA.out.j.Uz _ hf) (aS _)⟩;have HA:aZ _:=HA.out.same (.of aq);have HB:aZ _:=HB.out.low (.of aq);have HE:aZ (∀y,kV wb y->y.cell? ⟨W,0,none⟩=some (.pointer (some ⟨b,0,none⟩))/\y.heap[w1.heap.size]?=some (.cells #[.string sn,.string st,.int .i64 kW,.int .i64 kG,.bool true] 36 (0,0))):=λy B=>⟨eN B (by rw[dh HB.out.blk,n4];rfl),((sx B).block _ (ba.1 ar).1).trans ar⟩
 have U:aZ (∀y,kV wb y->y.cell? ⟨W,0,none⟩=some (.pointer (some ⟨b,0,none⟩))/\y.cell? ⟨w1.heap.size,0,none⟩=some (.string sn)/\y.cell? ⟨w1.heap.size,1,none⟩=some (.string st)/\y.cell? ⟨w1.heap.size,2,none⟩=some (.int .i64 kW)/\y.cell? ⟨w1.heap.size,3,none⟩=some (.int .i64 kG)/\y.cell? ⟨w1.heap.size,4,none⟩=some (.bool true)):=λy B=>by
  obtain⟨h1,h2⟩:=HE.out y B;exact⟨h1,by rw[dh h2];rfl,by rw[dh h2];rfl,by rw[dh h2];rfl,by rw[dh h2];rfl,by rw[dh h2];rfl⟩
 clear ai aq ar;refine gz (Sd:=λa y=>mD _ _ _ [12,13] a y) (last:=12) (tl:=[13]) (by kernel_rfl) ?_ (λa y h _=>h);refine dC 0 ?_ ?_<|dC 1 ?_ ?_<|dC 2 ?_ ?_<|dC 3 ?_ ?_ ?_
 any_goals(intro y B;have q0:=(U.out y B).1;unfold gm;go_simp;refine⟨eV.refl _,?_⟩;with_reducible rfl)
 go_simp;refine dC 4 ?_ ?_<|dC 5 ?_ ?_ ?_
 any_goals(intro y B;have q0:=(U.out y B).2.1;unfold gm;go_simp;refine⟨eV.refl _,?_⟩;with_reducible rfl)
 go_simp;refine dC 6 ?_ ?_<|dC 7 ?_ ?_ ?_
 any_goals(intro y B;have q0:=(U.out y B).2.2.1;unfold gm;go_simp;refine⟨eV.refl _,?_⟩;with_reducible rfl)
 go_simp;refine dC 8 ?_ ?_<|dC 9 ?_ ?_ ?_
 any_goals(intro y B;have q0:=(U.out y B).2.2.2.1;unfold gm;go_simp;refine⟨eV.refl _,?_⟩;with_reducible rfl)
 go_simp;refine dC 10 ?_ ?_<|dC 11 ?_ ?_ ?_
 any_goals(intro y B;have q0:=(U.out y B).2.2.2.2.1;unfold gm;go_simp;refine⟨eV.refl _,?_⟩;with_reducible rfl)
 go_simp;refine mP (by kernel_rfl) (λt=>tK (by kernel_rfl) (by kernel_rfl) _ _) ?_;intro y B;have a0:aZ _:=HA.out.same (sx B);have a3:aZ _:=HB.out.low (sx B);have av:aZ _:=(HE.out y B).2;clear B HA HB HE U;refine jv rfl rfl ?_;unfold gm;go_simp;refine⟨rfl,(a0.out.RY sn st kW kG ?_ ?_).mono ?_⟩;rw[HT.out.1];have:=HL.out.2.2.2;unfold bf;show kN.toArray.size<=_;simp;omega
 .rw[HT.out.2];have:=HL.out.2.2.1;unfold bf;show kT.toArray.size<=_;simp;omega
 rintro e y2 ⟨rfl,aa,a4,aw⟩;have a5:aZ _:=a3.out.step aw;have a6:aZ _:=a4;have U:aZ (y2.heap[w1.heap.size]?=some (.cells #[.string sn,.string st,.int .i64 kW,.int .i64 kG,.bool true] 36 (0,0))):=(aw.block _ (ba.1 av.out).1 au.out.1 au.out.2).trans av.out;clear a4 aw a0 a3 av au;refine⟨_,rfl,?_⟩;refine jv rfl rfl ?_;unfold gm;go_simp;refine na ?_;have ag:(js buf ss sn.data.toList st.data.toList kW kG).1=0:=by rw[HT.out.1,HT.out.2];exact HX.out.1.1
 have a7:aZ (Sk K' (js buf ss sn.data.toList st.data.toList kW kG).2 ss):=by show Sk _ _ _;rw[HT.out.1,HT.out.2];exact HX.out.1.2
 rw[ag];clear ag;generalize (js buf ss sn.data.toList st.data.toList kW kG).2=a' at *;go_wp2_with fail
 have HM:aZ (∀y,kV y2 y->y.cell? ⟨w1.heap.size,0,none⟩=some (.string sn)/\y.cell? ⟨w1.heap.size,1,none⟩=some (.string st)/\y.cell? ⟨w1.heap.size,2,none⟩=some (.int .i64 kW)/\y.cell? ⟨w1.heap.size,3,none⟩=some (.int .i64 kG)/\y.cell? ⟨w1.heap.size,4,none⟩=some (.bool true)):=λy B=>by
  have h2:=((sx B).block _ (ba.1 U.out).1).trans U.out;exact⟨by rw[dh h2];rfl,by rw[dh h2];rfl,by rw[dh h2];rfl,by rw[dh h2];rfl,by rw[dh h2];rfl⟩
 refine gz (Sd:=λa y=>mD _ _ _ [6] a y) (last:=6) (tl:=[]) (by kernel_rfl) ?_ (λa y h _=>h);refine dC 0 ?_ ?_<|dC 1 ?_ ?_ ?_
 any_goals(intro y B;unfold gm;go_simp;refine⟨eV.refl _,?_⟩;with_reducible rfl)
 go_simp;refine dC 2 ?_ ?_ ?_;rotate_left
 .intro y B;obtain⟨q0,q1,q2,q3,q4⟩:=HM.out y B;unfold gm;go_simp;refine⟨eV.refl _,?_⟩;with_reducible rfl
 go_simp;refine dC 3 ?_ ?_<|dC 4 ?_ ?_ ?_
 any_goals(intro y B;unfold gm;go_simp;refine⟨eV.refl _,?_⟩;with_reducible rfl)
 go_simp;refine dC 5 ?_ ?_ ?_;rotate_left
 .intro y B;have q:=ae;have q2:(k:Int)<12:=by omega
  unfold gm;go_simp;refine⟨eV.refl _,?_⟩;with_reducible rfl
 go_simp;refine mP (by kernel_rfl) (λt=>Cz (by kernel_rfl) _ _) ?_;intro y B;have a8:aZ _:=a6.out.same (sx B);have O:aZ _:=a5.out.low (sx B);clear B a6 a5 U HM;refine jv rfl rfl ?_;have ab:=λi (hi:i<5)=>J5 (b:=b) HL.out.1 HL.out.2.1 hi;rw[aR 5 k]at ab;have c0:y.cell? ⟨W,1+k*5,none⟩=some (kq (K[k]'(by have:=HL.out;omega)) 0):=by rw[dh O.out.blk];exact ab 0 (by omega)
 have c1:y.cell? ⟨W,1+k*5+1,none⟩=some (kq (K[k]'(by have:=HL.out;omega)) 1):=by rw[dh O.out.blk];exact ab 1 (by omega)
 have c2:y.cell? ⟨W,1+k*5+2,none⟩=some (kq (K[k]'(by have:=HL.out;omega)) 2):=by rw[dh O.out.blk];exact ab 2 (by omega)
 have c3:y.cell? ⟨W,1+k*5+3,none⟩=some (kq (K[k]'(by have:=HL.out;omega)) 3):=by rw[dh O.out.blk];exact ab 3 (by omega)
 have c4:y.cell? ⟨W,1+k*5+4,none⟩=some (kq (K[k]'(by have:=HL.out;omega)) 4):=by rw[dh O.out.blk];exact ab 4 (by omega)
 have f0:=dI O.out.blk;clear ab;unfold gm;go_simp;refine na ?_;have S:=JR (o:=1+k*5) O.out.blk (.string sn) (.string st) (.int .i64 kW) (.int .i64 kG) (.bool true);clear c0 c1 c2 c3 c4 f0;generalize ((((y.setCell ⟨W,1+k*5,none⟩ (.string sn)).setCell ⟨W,1+k*5+1,none⟩ (.string st)).setCell ⟨W,1+k*5+2,none⟩ (.int .i64 kW)).setCell ⟨W,1+k*5+3,none⟩ (.int .i64 kG)).setCell ⟨W,1+k*5+4,none⟩ (.bool true)=y5 at *
 have a9:aZ (∃aa buf',AW w0 y5 aa F2 b buf' ss ts/\WB w0 y5 aa F2 b W K'/\Sk K' buf' ss):=by
  refine⟨aa,_,a8.out.other O.out.a1 O.out.a2 O.out.hi (by rw[S.size];exact aW _) S.os (λj _ hj=>S.other j hj),⟨?_,O.out.a1,O.out.a2,O.out.hi⟩,a7.out⟩;rw[S.blk,aR k 5,<-HX.out.2,HT.out.1,HT.out.2]
 clear S a8 O a7 HX HT HL;go_wp2;go_ret;exact⟨rfl,a9.out⟩
theorem NP(U:AW w0 w F1 F2 b buf ss ts)(Y:WB w0 w F1 F2 b W K)(hS:Sk K buf ss)(x:Raw)(hx:x.Ok) :
  be prog 43 #[.pointer (some ⟨W,0,none⟩),rk x] w λe w'=>e=.returned (.bool true)/\∃O buf',AW w0 w' O F2 b buf' ss ts/\WB w0 w' O F2 b W (qA K x)/\Sk (qA K x) buf' ss:=by
 by_cases B:x.dp<0;exact Q7 U Y hS x hx B;exact QT U Y hS x hx B
end
section
variable {w0 w w':World} {F1 F2:Nat->Prop} {b W:Nat} {buf:List dq} {ss:List (List dq)} {ts:List (List Wd)} {K:List np}
theorem Jc(hA:AW w0 w F1 F2 b buf ss ts)(hB:WB w0 w F1 F2 b W K)(hS:Sk K buf ss)(c:Int)(c0 : -9223372036854775808<=c)(c1:c<=9223372036854775807)(hz:¬pk c 3=0) :
  be prog 44 #[.pointer (some ⟨W,0,none⟩),.int .i64 c] w λe w'=>e=.returned (.bool true)/\∃O buf' ss',AW w0 w' O F2 b buf' ss' ts/\WB w0 w' O F2 b W K/\Sk K buf' ss':=by
 have u0:w.cell? ⟨W,0,none⟩=some (.pointer (some ⟨b,0,none⟩)):=by rw[dh hB.blk,n4];rfl
 have hp:=fS c 3 w c0 c1 (by omega) (by omega);have ak:=lA c 3 (by omega);have hC:=hA.jp;have hF:=hA.flush;have B:=hS.flush;have ai:=hS.inv.ql;have ad:=B.1.inv.ql;generalize (eX buf ss).2.1=aj at *;generalize (eX buf ss).2.2=ae at *;generalize (eX buf ss).1=cd at *;obtain⟨B,U⟩:=B;generalize pk c 3=k at *;have al:¬(k:Int)=0:=by omega
 have HB:aZ _:=hB;have af:aZ _:=B;generalize hn:ss.length=n at *;generalize aa:ae.length=n2 at *;have ag:aZ _:=aa;clear hA hB hS B hn aa;go_enter func44,ntmps44;go_wp2_with fail;refine hC.mono ?_;rintro e w1 ⟨rfl,rfl⟩;clear hC;go_wp2_with fail;refine hp.mono ?_;rintro e w1 ⟨rfl,rfl⟩;clear hp;go_wp2_with fail;refine hF.mono ?_;rintro e y2 ⟨rfl,O,Y,ab⟩;have ac:aZ _:=HB.out.step ab;have ah:aZ _:=Y;have hC:=Y.jp;rw[ag.out]at hC;have u1:y2.cell? ⟨W,0,none⟩=some (.pointer (some ⟨b,0,none⟩)):=by rw[dh ac.out.blk,n4];rfl
 clear hF Y ab HB u0;go_wp2_with fail;refine hC.mono ?_;rintro e w1 ⟨rfl,rfl⟩;clear hC;rcases U with⟨rfl,rfl|⟨rfl,rfl⟩⟩|⟨rfl|rfl,rfl⟩
 all_goals
  go_wp2;go_ret;exact⟨rfl,O,_,_,ah.out,ac.out,af.out⟩
theorem I6(hA:AW w0 w F1 F2 b buf ss ts)(hB:WB w0 w F1 F2 b W K)(hS:Sk K buf ss)(c:Int)(c0 : -9223372036854775808<=c)(c1:c<=9223372036854775807)(hz:pk c 3=0) :
  be prog 44 #[.pointer (some ⟨W,0,none⟩),.int .i64 c] w λe w'=>e=.returned (.bool true)/\∃B buf' ss',AW w0 w' B F2 b buf' ss' ts/\WB w0 w' B F2 b W K/\Sk K buf' ss':=by
 have u0:w.cell? ⟨W,0,none⟩=some (.pointer (some ⟨b,0,none⟩)):=by rw[dh hB.blk,n4];rfl
 have hp:=fS c 3 w c0 c1 (by omega) (by omega);obtain⟨d,hd⟩:∃d,c.tdiv 3=d:=⟨_,rfl⟩
 have ab : -9223372036854775808<=d/\d<=9223372036854775807:=by
  by_cases h0:0<=c;have:=aX (a:=c) (b:=3) h0;omega;have:=aX (a:=-c) (b:=3) (by omega);rw[aY]at this;omega
 have al:IntKind.i64.wrap d=d:=by simp only[IntKind.wrap_i64];omega
 have HP:aZ (∀y,be prog 15 #[.int .i64 d,.int .i64 7] y λe w'=>e=.returned (.int .i64 (pk d 7:Nat))/\y=w'):=λy=>fS d 7 y ab.1 ab.2 (by omega) (by omega);have hC:=hA.jp;have O:=hS.merge (pk d 7:Nat);have HF:aZ (∀y,mU w y->be prog 39 #[.pointer (some ⟨b,0,none⟩),.int .i64 (pk d 7:Nat)] y λe w'=>e=.returned (.int .i64 (eP ss (pk d 7:Nat)).1)/\∃B,AW w0 w' B F2 b buf (eP ss (pk d 7:Nat)).2 ts/\St y w' F1 F2 B F2):=λy U=>(hA.same U).merge _;have ak:=hS.inv.ql;have af:=O.1.inv.ql;generalize (eP ss (pk d 7:Nat)).2=ag at *;generalize (eP ss (pk d 7:Nat)).1=cd at *;obtain⟨O,Y⟩:=O;generalize ((pk d 7:Nat):Int)=dk at *;rw[hz]at hp;have HB:aZ _:=hB;have ah:aZ _:=O;generalize hn:ss.length=n at *;generalize ac:ag.length=n2 at *;have ai:aZ _:=ac;clear hA hB hS O hn ac hz;go_enter func44,ntmps44;go_wp2_with fail;refine hC.mono ?_;rintro e w1 ⟨rfl,rfl⟩;clear hC;go_wp2_with fail;refine hp.mono ?_;rintro e w1 ⟨rfl,rfl⟩;clear hp;go_wp2_with fail;refine gz (Sd:=λa y=>mD _ _ _ [7,8] a y) (last:=7) (tl:=[8]) (by kernel_rfl) ?_ (λa y h _=>h);refine dC 0 ?_ ?_<|dC 1 ?_ ?_<|dC 2 ?_ ?_<|dC 3 ?_ ?_<|dC 4 ?_ ?_ ?_
 any_goals(intro y U;have q0:=eN U u0;unfold gm;go_simp;refine⟨eV.refl _,?_⟩;with_reducible rfl)
 go_simp;refine dC 5 ?_ ?_ ?_;rotate_left
 .intro y U;unfold gm;go_simp;refine⟨eV.refl _,?_⟩;with_reducible rfl
 go_simp;refine dC 6 ?_ ?_ ?_;rotate_left
 .intro y U;unfold gm;go_simp;refine⟨rfl,(HP.out y).mono ?_⟩;rintro e y2 ⟨rfl,rfl⟩;refine⟨_,rfl,eV.refl _,?_⟩;with_reducible rfl
 go_simp;refine mP (by kernel_rfl) (λt=>tK (by kernel_rfl) (by kernel_rfl) _ _) ?_;intro y U;have hF:=HF.out y (sx U);have HB:aZ _:=HB.out.low (sx U);clear U u0 HF HP;refine jv rfl rfl ?_;unfold gm;go_simp;refine⟨rfl,hF.mono ?_⟩;rintro e y2 ⟨rfl,B,aa,ad⟩;have ae:aZ _:=HB.out.step ad;have aj:aZ _:=aa;have hC:=aa.jp;rw[ai.out]at hC;have u1:y2.cell? ⟨W,0,none⟩=some (.pointer (some ⟨b,0,none⟩)):=by rw[dh ae.out.blk,n4];rfl
 clear hF aa ad HB;refine⟨_,rfl,?_⟩;refine jv rfl rfl ?_;unfold gm;go_simp;refine na ?_;go_wp2_with fail;refine hC.mono ?_;rintro e w1 ⟨rfl,rfl⟩;clear hC;rcases Y with⟨rfl,rfl|rfl⟩|⟨rfl,rfl⟩
 all_goals
  go_wp2;go_ret;exact⟨rfl,B,_,_,aj.out,ae.out,ah.out⟩
theorem MB(O:AW w0 w F1 F2 b buf ss ts)(U:WB w0 w F1 F2 b W K)(Y:Sk K buf ss)(c:Int)(c0 : -9223372036854775808<=c)(c1:c<=9223372036854775807) :
  be prog 44 #[.pointer (some ⟨W,0,none⟩),.int .i64 c] w λe w'=>e=.returned (.bool true)/\∃B buf' ss',AW w0 w' B F2 b buf' ss' ts/\WB w0 w' B F2 b W K/\Sk K buf' ss':=by
 by_cases hz:pk c 3=0;exact I6 O U Y c c0 c1 hz;exact Jc O U Y c c0 c1 hz
end
variable {ls:List Raw} {la:Option Addr} {w:World}
theorem Ge:Tryz.f21.name≠ "runtime.NumGoroutine":=by
 decide
theorem AW.base{wl U:World}{F1 F2:Nat->Prop}{b:Nat}{buf:List dq}{ss:List (List dq)}{ts:List (List Wd)}(h:AW U w F1 F2 b buf ss ts)(B:mU wl U):AW wl w F1 F2 b buf ss ts:=
 ⟨h.j,λk O=>aQ B.size (h.To k O),λk O=>aQ B.size (h.Qj k O),B.trans h.low⟩
section
variable {Z:jN prog} {W0:World} {Mp:Nat->Prop} {fn:bg} {tm:Array Value} {os:List OF} {wl:World} {k:List Item}
theorem FY{i:Nat}(hi:ops[i]?=some o)(hW:WT wl)(h5:5<=wl.heap.size)
  (hn:∀(w2:World)(F1 F2:Nat->Prop)(b W:Nat),AW wl w2 F1 F2 b [] [] []->WB wl w2 F1 F2 b W (aN 12 eU)->dl (fJ Z W0 Mp) (⟨fn,eM o.dst tm (.pointer (some ⟨W,0,none⟩)),.inRegion ops rest::k⟩::os) w2 []) :
  dl (fJ Z W0 Mp) (⟨21,#[bt,bt,bt,bt,bt,bt,bt,bt,bt,bt,bt,bt,bt,bt],[.code (ey Tryz.f21)]⟩::⟨fn,tm,.inRegion ops (i::rest)::k⟩::os) wl []:=by
 have HN:aZ _:=And.intro hW (And.intro h5 hn);clear hW h5 hn;show dl _ (⟨_,_,[.code (.seq (.region 0 _ false) (.seq (.region 1 _ false) (.seq (.region 2 _ false) (.seq (.seq (.region 3 _ false) (.cond _ _ .skip)) (.seq (.region 5 _ false) .ret)))))]⟩::_) _ _;refine dl.sr λU B=>?_
 (refine dT ?_;go_simp);refine dl.ie B ?_;clear B U;refine dl.sr λU B=>?_;refine dl.qK (#[bt,bt,bt,bt,bt,bt,bt,bt,bt,bt,bt,bt,bt,bt,bt,bt,bt,bt,bt,bt,bt,bt,bt,bt,bt,bt,bt,bt,bt,bt,bt,bt,bt,bt,bt,bt,bt,bt,bt,bt,bt,bt,bt,bt,bt,bt,bt,bt,bt,bt,bt,bt,bt,bt,bt,bt,bt,bt,bt,bt,bt,bt,bt,bt,bt,bt,bt,bt,bt,bt,bt,bt,bt,bt,bt,bt,bt,bt,bt,bt,bt,bt,bt,bt,bt,bt,bt,bt,bt,bt,bt,bt,bt,bt,bt,bt,bt,bt,bt,bt,bt,bt,bt,bt,bt,bt,bt,bt,bt,bt,bt,bt,bt,bt,bt,bt,bt,bt,bt,bt,bt,bt,bt,bt,bt,bt,bt,bt,bt,bt,bt,bt,bt,bt,bt,bt,bt,bt,bt,bt,bt,bt,bt,bt,bt,bt,bt,bt,bt,bt,bt,bt,bt,bt]:Array Value) (i:=0) (gO:=f32) (c:=ey f32) rfl rfl func32 (by kernel_rfl) H5 rfl (by simp[dP]) (by kernel_rfl) ?_;refine Hd rfl HN.out.1 HN.out.2.1 λw1 O=>?_;have aa:aZ (mU _ _):=O;clear O;rw[gL];go_simp
 (refine dT ?_;go_simp);refine dl.ie B ?_;clear B U;refine gV λU B y0 Y=>?_;have C:=Uv y0;have HL:aZ (mU wl y0):=aa.out.trans Y;clear Y;go_wp2_with fail;refine C.mono ?_;clear C;rintro e w2 ⟨b,F1,F2,rfl,hA,hb⟩;have HA:aZ (AW wl w2 F1 F2 b [] [] []):=hA.base HL.out;clear hA hb;go_wp2;refine fj B ?_;clear B U;refine dl.seq (gV λU B y1 Y=>?_);have HA:aZ _:=HA.out.same Y;clear Y;go_wp2;refine fj B ?_;clear B U;refine dl.qu trivial rfl (dl.skip (gV λU B y2 Y=>?_));have HA:aZ _:=HA.out.same Y;clear Y;go_wp2;refine fj B ?_;clear B U;refine dl.back (v:=.pointer (some ⟨y2.heap.size,0,none⟩)) (.inr ⟨_,rfl⟩) func21 hi (λτ=>by simp[bi,results21,go_sem]) ?_;refine HN.out.2.2 _ F1 F2 b _ (HA.out.same (.of (eV.alloc _ _))) ⟨(o8 _ _).trans ?_,λhf=>absurd (HA.out.j.T3 _ hf) (aS _),λhf=>absurd (HA.out.j.Uz _ hf) (aS _),HA.out.low.size⟩;kernel_rfl
end
structure sq(w:World)(la:Option Addr)(ls:List Raw):Prop where
 cell:∀j(h:j<ls.length),∃b off,la=some ⟨b,off,none⟩/\w.cell? ⟨b,off+j*4,none⟩=some (.int .i64 ls[j].name)/\w.cell? ⟨b,off+j*4+1,none⟩=some (.int .i64 ls[j].text)/\w.cell? ⟨b,off+j*4+2,none⟩=some (.int .i64 ls[j].dp)/\w.cell? ⟨b,off+j*4+3,none⟩=some (.int .i64 ls[j].dA)
 ok:∀x∈ls,x.Ok
theorem qQ{a:Addr}{v:Value}(B:mU w y)(h:w.cell? a=some v):y.cell? a=some v:=by
 rw[<-h];exact World.cell?_of_block (B.block _ (bq w a h))
theorem sq.low(h:sq w la ls)(B:mU w y):sq y la ls:=⟨λj O=>by
 obtain⟨b,off,e,U,Y,h3,h4⟩:=h.cell j O
 exact⟨b,off,e,qQ B U,qQ B Y,qQ B h3,qQ B h4⟩,h.ok⟩
theorem A5.low{ls:List Int}(h:A5 w la ls)(B:mU w y):A5 y la ls:=⟨λj O=>by
 obtain⟨b,off,e,U⟩:=h.cell j O
 exact⟨b,off,e,qQ B U⟩,h.lo,h.hi⟩
def lS(ls:List Raw)(c:Nat):List np:=(ls.take c).foldl qA (aN 12 eU)
def nG(ls:List Raw):List np:=lS ls 80
theorem DV(ls:List Raw)(c:Nat)(h:c<ls.length):lS ls (c+1)=qA (lS ls c) ls[c]:=by
 unfold lS;rw[List.take_succ_eq_append_getElem h,List.foldl_append];rfl
theorem E9:Tryz.f14.name≠ "runtime.NumGoroutine":=by
 decide
section
variable {Z:jN prog} {W0:World} {Mp:Nat->Prop} {fn:bg} {tm:Array Value} {os:List OF} {wl:World} {k:List Item}
theorem Em{i:Nat}{ta:Option Addr}{rs:List Int}{lc rc:Nat}(hi:ops[i]?=some o)(hW:WT wl)(h5:5<=wl.heap.size)(hL:sq wl la ls)(hT:A5 wl ta rs)(ae:ls.length<=lc)(af:rs.length<=rc)(ag:ls.length<=9223372036854775807)(ah:rs.length<=9223372036854775807)
  (hn:∀(w2:World)(F1 F2:Nat->Prop)(b W:Nat)(buf:List dq)(ss:List (List dq)),AW wl w2 F1 F2 b buf ss []->WB wl w2 F1 F2 b W (nG ls)->Sk (nG ls) buf ss->dl (fJ Z W0 Mp) (⟨fn,eM o.dst tm (.pointer (some ⟨W,0,none⟩)),.inRegion ops rest::k⟩::os) w2 []) :
  dl (fJ Z W0 Mp) (⟨14,#[.slice la ls.length lc,.slice ta rs.length rc,bt,bt,bt,bt,bt,bt,bt,bt,bt,bt,bt,bt,bt,bt,bt,bt,bt,bt,bt,bt,bt,bt,bt,bt,bt,bt,bt,bt,bt,bt,bt,bt,bt,bt,bt,bt,bt,bt,bt,bt,bt,bt,bt,bt,bt,bt,bt,bt,bt],[.code (ey Tryz.f14)]⟩::⟨fn,tm,.inRegion ops (i::rest)::k⟩::os) wl []:=by
 have HN:aZ _:=And.intro hW (And.intro h5 hn);have HR:aZ _:=And.intro hL (And.intro hT (And.intro ae (And.intro af (And.intro ag ah))));clear hW h5 hn hL hT ae af ag ah;show dl _ (⟨_,_,[.code (.seq (.region 0 _ false) (.seq (.region 1 _ false) (.seq (.seq (.region 2 _ false) (.cond _ _ .skip)) (.seq (.seq (.region 4 _ false) (.block 0 _)) (.seq (.region 14 _ false) .ret)))))]⟩::_) _ _;refine dl.sr λkk B=>?_
 (refine dT ?_;go_simp);refine dl.ie B ?_;clear B kk;refine dl.sr λkk B=>?_;refine dl.qK (#[bt,bt,bt,bt,bt,bt,bt,bt,bt,bt,bt,bt,bt,bt]:Array Value) (i:=0) (gO:=Tryz.f21) (c:=ey Tryz.f21) rfl rfl func21 (by kernel_rfl) Ge rfl (by simp[dP]) (by kernel_rfl) ?_;refine FY rfl HN.out.1 HN.out.2.1 λw1 F1 F2 b W O U=>?_;have HA:aZ (AW _ _ _ _ _ _ _ _):=O;have HB:aZ (WB _ _ _ _ _ _ _):=U;clear O U;rw[gL];go_simp
 (refine dT ?_;go_simp);refine dl.ie B ?_;clear B kk;refine dl.seq (gV λkk B y1 hl=>?_);have HA:aZ _:=HA.out.same hl;have HB:aZ _:=HB.out.low hl;clear hl;go_wp2;refine fj B ?_;clear B kk;refine dl.qu trivial rfl (dl.skip (gV λkk B y2 hl=>?_));have HA:aZ _:=HA.out.same hl;have HB:aZ _:=HB.out.low hl;clear hl;have ae:=HR.out.2.2.1;have af:=HR.out.2.2.2.1;have ag:=HR.out.2.2.2.2.1;have ah:=HR.out.2.2.2.2.2;go_wp2;go_loopw [6] (λi wr=>∃(c:Nat)(Y:Nat->Prop)(buf:List dq)(ss:List (List dq)),c<=80/\c<=ls.length/\i=.int .i64 (c:Nat)/\AW wl wr Y F2 b buf ss []/\WB wl wr Y F2 b W (lS ls c)/\Sk (lS ls c) buf ss) (λi _=>ls.length-(intOf i).toNat)
 case atStart=>exact⟨0,F1,[],[],aV _,aV _,rfl,HA.out,HB.out,Sk.new⟩
 case round=>
  obtain⟨c,Y,buf,ss,ar,jP,rfl,O,U,hS⟩:=hrel;have aa:aZ _:=O;have ac:aZ _:=U;have ad:aZ _:=hS;clear O U hS HA HB;by_cases h1:c<ls.length
  .have ak:(c:Int)<(ls.length:Int):=by omega
   by_cases h2:c<80
   .have al:(c:Int)<80:=by omega
    obtain⟨lb,lo,rfl,c0,c1,c2,c3⟩:=(HR.out.1.low aa.out.low).cell c h1;have C:=NP aa.out ac.out ad.out ls[c] (HR.out.1.ok _ (aF h1));rw[<-DV ls c h1]at C;unfold rk at C;generalize ls[c].name=xn at *;generalize ls[c].text=xt at *;generalize ls[c].dp=xw at *;generalize ls[c].dA=xg at *;clear aa ac ad;go_wp2_with fail;refine C.mono ?_;clear C;rintro e w2 ⟨rfl,F3,buf2,O,U,hS⟩;have HA3:aZ _:=O;have HB3:aZ _:=U;have HS3:aZ _:=hS;clear O U hS c0 c1 c2 c3;by_cases h3:c<rs.length
    .have am:(c:Int)<(rs.length:Int):=by omega
     obtain⟨tb,au,rfl,d0⟩:=(HR.out.2.1.low HA3.out.low).cell c h3;have an:=HR.out.2.1.lo rs[c] (aF h3);have ao:=HR.out.2.1.hi rs[c] (aF h3);generalize rs[c]=x at *;have C:be prog 15 #[.int .i64 x,.int .i64 4] w2 λe w'=>e=.returned (.int .i64 (pk x 4:Nat))/\w2=w':=fS x 4 w2 an ao (by omega) (by omega);by_cases hz:pk x 4=0
     .rw[hz]at C;obtain⟨d,hd⟩:∃d,x.tdiv 4=d:=⟨_,rfl⟩
      have ai : -9223372036854775808<=d/\d<=9223372036854775807:=by
       by_cases h0:0<=x;have:=aX (a:=x) (b:=4) h0;omega;have:=aX (a:=-x) (b:=4) (by omega);rw[aY]at this;omega
      have ap:IntKind.i64.wrap d=d:=by simp only[IntKind.wrap_i64];omega
      have D:=MB HA3.out HB3.out HS3.out d ai.1 ai.2;clear hz HA3 HB3 HS3 ai;go_wp2_with fail;refine C.mono ?_;clear C;rintro e w3 ⟨rfl,rfl⟩;go_wp2_with fail;refine D.mono ?_;clear D;rintro e w3 ⟨rfl,F4,buf3,ss3,O,U,hS⟩;have HA4:aZ _:=O;have HB4:aZ _:=U;have HS4:aZ _:=hS;clear O U hS d0 hd ap;go_wp2;go_roundw
      case rel=>exact⟨c+1,F4,buf3,ss3,by omega,by omega,by go_num,HA4.out,HB4.out,HS4.out⟩
      case measure=>simp[intOf];omega
     generalize pk x 4=pz at *;have av:¬(pz:Int)=0:=by omega
     go_wp2_with fail;refine C.mono ?_;clear C;rintro e w3 ⟨rfl,rfl⟩;go_wp2;go_roundw
     case rel=>exact⟨c+1,F3,buf2,ss,by omega,by omega,by go_num,HA3.out,HB3.out,HS3.out⟩
     case measure=>simp[intOf];omega
    have am:¬(c:Int)<(rs.length:Int):=by omega
    go_wp2;go_roundw
    case rel=>exact⟨c+1,F3,buf2,ss,by omega,by omega,by go_num,HA3.out,HB3.out,HS3.out⟩
    case measure=>simp[intOf];omega
   have al:¬(c:Int)<80:=by omega
   have ab:aZ (lS ls c=nG ls):=by
    show lS ls c=lS ls 80;rw[show c=80 by omega]
   go_wp2;refine fj B ?_;refine dl.seq ?_;refine lO λaq aj=>?_;refine dl.region ?_
   (iterate 2 (refine dT ?_;go_simp));refine dl.inRegion ?_;rw[aj.out];refine dl.back (v:=.pointer (some ⟨W,0,none⟩)) (.inr ⟨_,rfl⟩) func14 hi (λτ=>by simp[bi,results14,go_sem]) ?_;exact HN.out.2.2 _ Y F2 b W buf ss aa.out (ab.out▸ac.out) (ab.out▸ad.out)
  have ak:¬(c:Int)<(ls.length:Int):=by omega
  have ab:aZ (lS ls c=nG ls):=by
   show lS ls c=lS ls 80;unfold lS;rw[aI (by omega),aI (by omega)]
  go_wp2;refine fj B ?_;refine dl.seq ?_;refine lO λaq aj=>?_;refine dl.region ?_
  (iterate 2 (refine dT ?_;go_simp));refine dl.inRegion ?_;rw[aj.out];refine dl.back (v:=.pointer (some ⟨W,0,none⟩)) (.inr ⟨_,rfl⟩) func14 hi (λτ=>by simp[bi,results14,go_sem]) ?_;exact HN.out.2.2 _ Y F2 b W buf ss aa.out (ab.out▸ac.out) (ab.out▸ad.out)
end
variable {ss:List (List dq)} {buf:List dq} {K:List np}
def OU(K:List np):List dq:=(K.filter λk=>k.there).map qW
theorem Kk(h:Sk K buf ss):((OU K).map dq.name).Nodup:=by
 unfold OU;rw[aG];show(aP ..).Pairwise _;rw[aK,List.pairwise_filter,List.pairwise_iff_getElem];intro i j hi B U Y h2 e;have O:K[i].name=K[j].name:=e;rw[(h.tq i hi Y).1,(h.tq j B h2).1]at O;have:=Hq (by rw[<-h.len];exact hi) (by rw[<-h.len];exact B) O;omega
theorem NL{e:dq}:e∈OU K↔∃i,∃h:i<K.length,K[i].there=true/\e=qW K[i]:=by
 unfold OU;rw[List.mem_map];constructor;rintro⟨a,O,rfl⟩;obtain⟨B,U⟩:=aB.1 O;obtain⟨i,hi,rfl⟩:=List.mem_iff_getElem.1 B;exact⟨i,hi,U,rfl⟩;rintro⟨i,hi,B,rfl⟩;exact⟨K[i],aB.2 ⟨aF hi,B⟩,rfl⟩
theorem qU{l:List dq}(h:(l.map dq.name).Nodup):l.Nodup:=by
 unfold List.Nodup at h⊢;rw[aK]at h;exact h.imp λh e=>h (by rw[e])
theorem Sk.perm(h:Sk K buf ss):(eO ss buf).Perm (OU K):=by
 rw[List.perm_ext_iff_of_nodup (qU (rh h.inv)) (qU (Kk h))];intro e;rw[h.there e,NL]
theorem tj.low{w w':World}{s n:Nat}{v:Value}{xs:List Value}(h:tj w s v n xs)(U:mU w w'):tj w' s v n xs:=h.later λa u B=>by
 have O:=bq w a B;simp only[br]at B⊢;rw[U.block _ O];exact B
theorem Mr(Y vb:Value)(xs:List Wd)(w:World)(ha:tj w 1 Y xs.length (dn xs))(hb:tj w 1 vb xs.length (dn xs))(hx:xs.length<=1000000) :
  be prog 19 #[Y,vb] w λe w'=>e=.returned (.bool true)/\Below w.heap.size w w':=by
 obtain⟨aa,ca,rfl,ac,O,_,hA⟩:=ha;obtain⟨ab,cb,rfl,ad,U,_,hB⟩:=hb;have HA:aZ (∀j(h:j<xs.length),∃b off,aa=some ⟨b,off,none⟩/\w.cell? ⟨b,off+j,none⟩=some (.string ⟨xs[j].toArray⟩)):=λj h=>hA j _ (Ef xs j h);have HB:aZ (∀j(h:j<xs.length),∃b off,ab=some ⟨b,off,none⟩/\w.cell? ⟨b,off+j,none⟩=some (.string ⟨xs[j].toArray⟩)):=λj h=>hB j _ (Ef xs j h);clear hA hB O U;go_enter func19,ntmps19;go_wp2;go_loopw [5] (λi wr=>∃n:Nat,n<=xs.length/\i=.int .i64 n/\Below _ w wr) (λi _=>xs.length-(intOf i).toNat)
 case atStart=>exact⟨0,aV _,rfl,Below.refl ..⟩
 case round=>
  obtain⟨n,hn,rfl,hb⟩:=hrel;have HBW:aZ _:=hb;by_cases B:n<xs.length
  .obtain⟨b1,o1,rfl,c1⟩:=HA.out n B;obtain⟨b2,o2,rfl,c2⟩:=HB.out n B;have d1:=bj HBW.out c1;have d2:=bj HBW.out c2;go_wp2;go_quiet (fail);go_wp2;go_roundw
   case rel=>exact⟨n+1,by omega,by go_num,ib HBW.out _⟩
   case measure=>simp[intOf];omega
  go_wp2;go_ret;exact⟨rfl,HBW.out⟩
theorem FZ{q:ByteArray}(B:q.size<=24)(O:∀c∈q.data.toList,oA c=true):eu q.data.toList=true:=by
 unfold eu;simp only[bs,decide_eq_true_eq,aL];exact⟨B,O⟩
theorem rH{q:Wd}(h:eu q=true):q.length<=24/\∀c∈q,oA c=true:=by
 unfold eu at h;simp only[bs,decide_eq_true_eq,aL]at h;exact h
theorem ext_mem{s:ByteArray}{a b:Nat}{c:UInt8}(h:c∈(s.extract a b).data.toList):c∈s.data.toList:=by
 have e:(s.extract a b).data.toList=(s.data.toList.drop a).take (b-a):=by simp[bn]
 rw[e]at h;exact List.mem_of_mem_drop (List.mem_of_mem_take h)
theorem Ma(c fr too ch:Int)(w:World)(c0 : -9223372036854775808<=c)(c1:c<=9223372036854775807)(f0 : -9223372036854775808<=fr)(f1:fr<=9223372036854775807)(t0 : -9223372036854775808<=too)(t1:too<=9223372036854775807)(h0 : -9223372036854775808<=ch)(h1:ch<=9223372036854775807) :
  be prog 16 #[.int .i64 c,.int .i64 fr,.int .i64 too,.int .i64 ch] w λe w'=>∃q:ByteArray,e=.returned (.string q)/\eu q.data.toList=true/\Below w.heap.size w w':=by
 have C:=Bu c w c0 c1;obtain⟨x1,_,x3⟩:=Kr (lA c 258 (by omega));obtain⟨s,hs⟩:∃s:ByteArray,s=⟨(Ap (pk c 258)).toArray⟩:=⟨_,rfl⟩;have ai:s.size<=20:=by rw[hs];show(Ap (pk c 258)).toArray.size<=20;simpa using x3
 have ag:aZ (∀d∈s.data.toList,oA d=true):=by rw[hs];exact(rH x1).2
 rw[<-hs]at C;clear hs x1 x3;have A:=λy=>fS fr (s.size+1) y f0 f1 (by omega) (by omega);have ha:=lA fr (s.size+1) (by omega);generalize pk fr (s.size+1)=a at *;have B:=λy=>fS too (s.size-a+1) y t0 t1 (by omega) (by omega);have hb:=lA too (s.size-a+1) (by omega);generalize pk too (s.size-a+1)=b at *;have e1:((s.size+1:Nat):Int)=(s.size:Int)+1:=by omega
 have e2:((s.size-a+1:Nat):Int)=(s.size:Int)-(a:Int)+1:=by omega
 rw[e1]at A;rw[e2]at B;have aa:aZ _:=A;have ab:aZ _:=B;clear A B e1 e2;have ah:min (a+b) s.size=a+b:=by omega
 have HQ:aZ (eu (s.extract a (a+b)).data.toList=true):=FZ (by rw[bk];omega) λd U=>ag.out d (ext_mem U);by_cases hz:ch.tmod 3=0
 .by_cases ae:0<b
  .have af:0<(b:Int):=by omega
   obtain⟨d,U⟩:∃d,ch.tdiv 3=d:=⟨_,rfl⟩
   have ad : -9223372036854775808<=d/\d<=9223372036854775807:=by
    by_cases h0:0<=ch;have:=aX (a:=ch) (b:=3) h0;omega;have:=aX (a:=-ch) (b:=3) (by omega);rw[aY]at this;omega
   have aj:IntKind.i64.wrap d=d:=by simp only[IntKind.wrap_i64];omega
   have D:=λy=>fS d b y ad.1 ad.2 ae (by omega);have hk:=lA d b ae;generalize pk d b=k at *;have HD:aZ _:=D;clear D ad;go_enter func16,ntmps16;go_wp2_with fail;refine C.mono ?_;clear C;rintro e w1 ⟨rfl,O⟩;have Y:aZ (Below _ _ _):=O;clear O;go_wp2_with fail;refine(aa.out w1).mono ?_;rintro e w2 ⟨rfl,rfl⟩;go_wp2_with fail;refine(ab.out w1).mono ?_;rintro e w2 ⟨rfl,rfl⟩;go_wp2_with fail;refine(HD.out w1).mono ?_;rintro e w2 ⟨rfl,rfl⟩;obtain⟨s2,ac⟩:∃s2,s2=s.extract a (a+b):=⟨_,rfl⟩;have ak:s2.size=b:=by rw[ac,bk];omega
   rw[<-ac];rw[<-ac]at HQ;clear ac HD aa ab;have al:(k:Int)+1<=(b:Int):=by omega
   have am:min k s2.size=k:=by omega
   have an:min k b=k:=by omega
   go_wp2;go_quiet (fail);go_wp2;go_ret;refine⟨_,rfl,FZ ?_ λd U=>?_,ib Y.out _⟩;simp only[bl,bk];show _+1+_<=24;omega;simp only[bo,Array.toList_append,List.mem_append]at U;rcases U with(U|U)|U
   exact(rH HQ.out).2 d (ext_mem U);have:d=88:=by simpa using U
   rw[this];decide;exact(rH HQ.out).2 d (ext_mem U)
  have af:¬0<(b:Int):=by omega
  go_enter func16,ntmps16;go_wp2_with fail;refine C.mono ?_;clear C;rintro e w1 ⟨rfl,O⟩;have Y:aZ (Below _ _ _):=O;clear O;go_wp2_with fail;refine(aa.out w1).mono ?_;rintro e w2 ⟨rfl,rfl⟩;go_wp2_with fail;refine(ab.out w1).mono ?_;rintro e w2 ⟨rfl,rfl⟩;go_wp2;go_ret;exact⟨_,rfl,HQ.out,Y.out⟩
 go_enter func16,ntmps16;go_wp2_with fail;refine C.mono ?_;clear C;rintro e w1 ⟨rfl,O⟩;have Y:aZ (Below _ _ _):=O;clear O;go_wp2_with fail;refine(aa.out w1).mono ?_;rintro e w2 ⟨rfl,rfl⟩;go_wp2_with fail;refine(ab.out w1).mono ?_;rintro e w2 ⟨rfl,rfl⟩;go_wp2;go_ret;exact⟨_,rfl,HQ.out,Y.out⟩
def nQ(w0 w:World)(b W:Nat)(K:List np):Prop:=5<=w0.heap.size/\∃(F1 F2:Nat->Prop)(buf:List dq)(ss:List (List dq)),AW w0 w F1 F2 b buf ss []/\WB w0 w F1 F2 b W K/\Sk K buf ss
theorem nQ.low{w0 w w':World}{b W:Nat}{K:List np}(h:nQ w0 w b W K)(B:mU w w'):nQ w0 w' b W K:=by
 obtain⟨O,F1,F2,buf,ss,U,Y,h3⟩:=h;exact⟨O,F1,F2,buf,ss,U.same B,Y.low B,h3⟩
theorem nQ.cell{w0 w:World}{b W:Nat}{K:List np}(h:nQ w0 w b W K):w.cell? ⟨W,0,none⟩=some (.pointer (some ⟨b,0,none⟩)):=by
 obtain⟨O,F1,F2,buf,ss,U,B,Y⟩:=h;rw[dh B.blk,n4];rfl
def oF(K:List np)(mode:Nat)(qb:ByteArray)(dA most:Nat):List Wd:=(um (OU K) mode qb.data.toList dA most).1
def uq(w:World)(v:Value)(xs:List Wd):Prop:=tj w 1 v xs.length (dn xs)
theorem uq.low{w w':World}{v:Value}{xs:List Wd}(h:uq w v xs)(B:mU w w'):uq w' v xs:=tj.low h B
structure SA(w0 w:World)(b W:Nat)(K:List np)(n:Nat)(u:Value)(xs:List Wd):Prop where
 x:5<=w0.heap.size/\∃(F1 F2:Nat->Prop)(buf:List dq)(ss:List (List dq)),AW w0 w F1 F2 b buf ss []/\WB w0 w F1 F2 b W K/\Sk K buf ss/\ss.length=n/\Kept w F1 F2 u xs
theorem SA.says{w0 w:World}{b W n:Nat}{K:List np}{u:Value}{xs:List Wd}(h:SA w0 w b W K n u xs):uq w u xs:=by
 obtain⟨O,F1,F2,buf,ss,U,Y,h3,h4,B⟩:=h;exact tj.jb B.1
theorem Cc(l:List dq)(ok:Nat->Bool):∀(n:Nat)(t:List Nat),(fM l ok n t).length<=n
 |0,_=>by simp[fM]
 |n+1,t=>by
  unfold fM;split;simp;exact Nat.succ_le_succ (Cc l ok n _)
theorem It(K:List np)(mode:Nat)(qb:ByteArray)(dA most:Nat):(oF K mode qb dA most).length<=most:=by
 unfold oF um;split;simp;split;simp only[List.length_map];exact Cc ..;simp
section
variable {Z:jN prog} {W0:World} {Mp:Nat->Prop} {fn:bg} {tm:Array Value} {os:List OF} {wl w0:World} {k:List Item} {b W:Nat} {K:List np} {ops:Array Oper} {i:Nat} {rest:List Nat} {o:Oper} {xs:Array Operand} {tys:Array TypeId}
theorem nQ.UG(mode dA most:Nat)(qb:ByteArray)(h:nQ w0 wl b W K)(B:lX wl)(hq:eu qb.data.toList=true)
  (hn:∀(w2:World)(u:Value)(n:Nat),mU wl w2->SA w0 w2 b W K n u (oF K mode qb dA most)->dl (fJ Z W0 Mp) (⟨fn,eM o.dst tm (.tuple #[u,.int .i64 0]),.inRegion ops rest::k⟩::os) w2 [])
  (hi:ops[i]?=some o:=by rfl) (Y:bp o (bh ops tm)=true:=by rfl) (ho:o.op=.call {callee:=.value (.func 17),args:=xs,argTypes:=tys}:=by rfl) (aa:∀x∈xs.toList,dP (fJ Z W0 Mp).fw (fJ Z W0 Mp).gl x:=by simp[dP,Plain])
  (ha:xs.map (iS tm)=#[.pointer (some ⟨b,0,none⟩),.int .i64 (mode:Int),.string qb,.int .i64 (dA:Int),.int .i64 (most:Int)]:=by kernel_rfl) (hm:mode<=3:=by omega) (ht:dA<=255:=by omega) (O:1<=most:=by omega) (U:most<=20:=by omega) :
  dl (fJ Z W0 Mp) (⟨fn,tm,.inRegion ops (i::rest)::k⟩::os) wl []:=by
 obtain⟨h5,F1,F2,buf,ss,h1,h2,h3⟩:=h;refine h1.RP h5 B hq (λw2 u L k1 hl hp hs hk=>hn w2 u _ hl ⟨h5,F1,F2,buf,ss,k1,h2.low hl,h3,rfl,?_⟩) hi Y ho aa ha hm ht O U;unfold oF;rw[<-vI (Kk h3) (λe he=>by obtain⟨i,_,_,rfl⟩:=NL.1 he;rfl) hm ht O U hq (hp.trans (h3.perm.filter _)) hs];exact hk
theorem nQ.ask(mode dA most:Nat)(qb:ByteArray)(h:nQ w0 wl b W K)(B:lX wl)(hq:eu qb.data.toList=true)
  (hn:∀(w2:World)(u:Value),mU wl w2->uq w2 u (oF K mode qb dA most)->dl (fJ Z W0 Mp) (⟨fn,eM o.dst tm (.tuple #[u,.int .i64 0]),.inRegion ops rest::k⟩::os) w2 [])
  (hi:ops[i]?=some o:=by rfl) (O:bp o (bh ops tm)=true:=by rfl) (ho:o.op=.call {callee:=.value (.func 17),args:=xs,argTypes:=tys}:=by rfl) (U:∀x∈xs.toList,dP (fJ Z W0 Mp).fw (fJ Z W0 Mp).gl x:=by simp[dP,Plain])
  (ha:xs.map (iS tm)=#[.pointer (some ⟨b,0,none⟩),.int .i64 (mode:Int),.string qb,.int .i64 (dA:Int),.int .i64 (most:Int)]:=by kernel_rfl) (hm:mode<=3:=by omega) (ht:dA<=255:=by omega) (Y:1<=most:=by omega) (aa:most<=20:=by omega) :
  dl (fJ Z W0 Mp) (⟨fn,tm,.inRegion ops (i::rest)::k⟩::os) wl []:=
 h.UG mode dA most qb B hq (λw2 u _ hl hk=>hn w2 u hl hk.says) hi O ho U ha hm ht Y aa
theorem nQ.fill(la ta:Option Addr)(ls:List Raw)(rs:List Int)(lc rc:Nat)(hW:WT wl)(h5:5<=wl.heap.size)(hL:sq wl la ls)(hT:A5 wl ta rs)(B:ls.length<=lc)(O:rs.length<=rc)(U:ls.length<=9223372036854775807)(Y:rs.length<=9223372036854775807)
  (hn:∀(w2:World)(b W:Nat),mU wl w2->nQ wl w2 b W (nG ls)->dl (fJ Z W0 Mp) (⟨fn,eM o.dst tm (.pointer (some ⟨W,0,none⟩)),.inRegion ops rest::k⟩::os) w2 [])
  (hi:ops[i]?=some o:=by rfl) (aa:bp o (bh ops tm)=true:=by rfl) (ho:o.op=.call {callee:=.value (.func 14),args:=xs,argTypes:=tys}:=by rfl) (ab:∀x∈xs.toList,dP (fJ Z W0 Mp).fw (fJ Z W0 Mp).gl x:=by simp[dP,Plain]) (ha:xs.map (iS tm)=#[.slice la ls.length lc,.slice ta rs.length rc]:=by kernel_rfl) :
  dl (fJ Z W0 Mp) (⟨fn,tm,.inRegion ops (i::rest)::k⟩::os) wl []:=by
 have ac:xs.size=2:=by have:=congrArg Array.size ha;simpa using this
 refine dl.qK _ (gO:=Tryz.f14) (c:=ey Tryz.f14) hi aa func14 (by kernel_rfl) E9 ho ab ?_ (Em hi hW h5 hL hT B O U Y λw2 F1 F2 b W buf ss h1 h2 h3=>hn w2 b W h1.low ⟨h5,F1,F2,buf,ss,h1,h2,h3⟩);rw[ha,ac];kernel_rfl
end
end
section
open Go.RowKit
theorem J7:∀(l:List dq),(l.map dq.name).Nodup->∃S:List dq,S.Perm l/\S.Pairwise λx y=>dY x y=true
 |[],_=>⟨[],.refl _,.nil⟩
 |x::l,h=>by
  rw[List.map_cons,List.nodup_cons]at h
  obtain⟨S,Y,hs⟩:=J7 l h.2
  have hx:∀y∈S,dY x y = !dY y x:=λy O=>by
   have U:x.name≠y.name:=λe=>h.1 (by rw[e];exact List.mem_map_of_mem (Y.mem_iff.1 O));rcases vX U with B|B
   rw[B,tc B];rfl;rw[B,tc B];rfl
  refine⟨S.filter (λy=>dY y x)++x::S.filter (λy=>!dY y x),?_,?_⟩;exact List.perm_middle.trans (.cons _ ((List.filter_append_perm _ S).trans Y));rw[List.pairwise_append];refine⟨hs.sublist aE,?_,λa ha b hb=>?_⟩;rw[List.pairwise_cons];exact⟨λy O=>by rw[hx y (aB.1 O).1];exact(aB.1 O).2,hs.sublist aE⟩;have B:=(aB.1 ha).2;rcases aH.1 hb with rfl|hb
  exact B;have h2:=aB.1 hb;exact ml B (by rw[hx b h2.1];exact h2.2)
variable {K:List np} {i:Nat}
def lE(K:List np):List dq:=(aD 12).map λi=>{qW (K.getD i eU)with name:=sT i}
def Jj(K:List np)(m t:Nat)(q:Wd)(i:Nat):Bool:=(K.getD i eU).there&&lG m t q (qW (K.getD i eU))
theorem Kt(K:List np):(lE K).length=12:=by simp[lE]
theorem Se(K:List np)(h:i<12):(lE K).getD i fP={qW (K.getD i eU)with name:=sT i}:=by
 unfold lE;rw[aA,List.getElem?_map,List.getElem?_range h];rfl
theorem K1(K:List np):((lE K).map dq.name).Nodup:=by
 have:(lE K).map dq.name=(aD 12).map sT:=by simp[lE]
 rw[this];decide
def zm(K:List np):Prop:=K.length=12/\∀i,i<12->(K.getD i eU).there=true->(K.getD i eU).name=sT i
theorem zm.at(h:zm K)(hi:i<12)(B:(K.getD i eU).there=true):(lE K).getD i fP=qW (K.getD i eU):=by
 rw[Se K hi,<-h.2 i hi B];rfl
theorem KR(h:K.length=12):K=(aD 12).map λi=>K.getD i eU:=by
 apply List.ext_getElem;simp[h];intro i B O;simp[aA,B]
theorem PB(h:zm K):OU K=((aD 12).filter λi=>(K.getD i eU).there).map λi=>qW (K.getD i eU):=by
 unfold OU;conv=>lhs;rw[KR h.1]
 rw[aM,aG];rfl
theorem S3(h:zm K)(m t:Nat)(q:Wd):(lB (lE K) (Jj K m t q) []).map (λi=>(lE K).getD i fP)=(OU K).filter λe=>lG m t q e:=by
 rw[PB h,aM,List.filter_filter]
 have e:lB (lE K) (Jj K m t q) []=(aD 12).filter λi=>((λe=>lG m t q e) ∘ λi=>qW (K.getD i eU)) i&&(K.getD i eU).there:=by
  unfold lB;rw[Kt];refine List.filter_congr λi _=>?_;simp[Jj,Bool.and_comm]
 rw[e];refine aJ λi hi=>?_;obtain⟨O,B⟩:=aB.1 hi;rw[bs]at B;exact h.at (aO.1 O) B.2
theorem Bt(h:zm K):((OU K).map dq.name).Nodup:=by
 rw[PB h,aG]
 have:((aD 12).filter λi=>(K.getD i eU).there).map (dq.name ∘ λi=>qW (K.getD i eU))=((aD 12).filter λi=>(K.getD i eU).there).map sT:=aJ λi hi=>by
  obtain⟨B,O⟩:=aB.1 hi;exact h.2 i (aO.1 B) O
 rw[this];exact List.Nodup.sublist (aE.map _) (show((aD 12).map sT).Nodup by decide)
theorem GK(h:zm K){m t n:Nat}{qb:ByteArray}(hm:m<=3)(ht:t<=255)(hn:1<=n)(U:n<=20)(Y:eu qb.data.toList=true) :
  oF K m qb t n=(fM (lE K) (Jj K m t qb.data.toList) n []).map λi=>fq ((lE K).getD i fP):=by
 obtain⟨S,B,O⟩:=J7 ((OU K).filter λe=>lG m t qb.data.toList e) ((Bt h).sublist (aE.map _));have h1:=tX (mode:=(m:Int)) (dA:=(t:Int)) (most:=(n:Int)) (q:=qb.data.toList) (Bt h) O (by simpa using B);have h2:=sf (lE K) (K1 K) (Jj K m t qb.data.toList) n [] S O (by rw[S3 h];exact B);have e:(λi=>fq ((lE K).getD i fP))=fq ∘ λi=>(lE K).getD i fP:=rfl;rw[e,<-aG,h2];unfold oF um;rw[if_neg (by omega),if_pos Y];show aP _ _=_;rw[h1];simp
open Go.Conc Go.Maps
variable {ss:List (List dq)} {buf:List dq} {W b:Nat} {w:World}
theorem Sk.named(h:Sk K buf ss):zm K:=by
 refine⟨h.len,λi hi B=>?_⟩;have O:i<K.length:=by rw[h.len];exact hi
 rw[aA,aC O]at B⊢;exact(h.tq i O B).1
theorem Rs(K:List np)(m t:Nat)(q:Wd):(λi=>(K.getD i eU).there&&lG m t q ((lE K).getD i fP))=Jj K m t q\/K.length≠12:=by
 by_cases B:K.length=12;refine .inl (funext λi=>?_);unfold Jj;by_cases h:i<12;rw[Se K h];rfl;rw[show K.getD i eU=eU by rw[aA,List.getElem?_eq_none (by omega)];rfl];rfl;exact .inr B
theorem MT(hw:w.heap[W]?=some (.cells (kX b K) 39 (0,0)))(h:Sk K buf ss):P3 w W (lE K) λi=>(K.getD i eU).there:=by
 intro i hi;have Y:i<K.length:=by rw[h.len];exact hi
 have U:K.getD i eU=K[i]:=by rw[aA,aC Y];rfl
 have B:∀j,j<5->w.cell? ⟨W,1+i*5+j,none⟩=some (kq K[i] j):=λj hj=>by rw[dh hw,aR i 5,J5 h.len hi hj]
 refine⟨qW K[i],B 0 (by omega),B 1 (by omega),B 2 (by omega),B 3 (by omega),?_,λO=>?_⟩;show _=some (Value.bool (K.getD i eU).there);rw[U];exact B 4 (by omega);replace O:(K.getD i eU).there=true:=O;rw[U]at O;obtain⟨h1,⟨n,hn,h2⟩,h3,h4,h5,h6⟩:=h.tq i Y O;refine⟨by rw[h.named.at hi (by rw[U];exact O),U],?_,?_,h3,h4,h5,h6⟩;show K[i].text.length<=400;rw[h2];have:=(Kr hn).2.2;omega;show K[i].name.length<=400;rw[h1];simp[sT]
theorem nQ.wanted{w0:World}(h:nQ w0 w b W K)(m t n:Nat)(qb:ByteArray)(hm:m<=3)(ht:t<=255)(hn:1<=n)(B:n<=20)(hq:eu qb.data.toList=true) :
  be prog 18 #[.pointer (some ⟨W,0,none⟩),.int .i64 m,.string qb,.int .i64 t,.int .i64 n] w λe w'=>∃v,e=.returned v/\uq w' v (oF K m qb t n)/\mU w w':=by
 obtain⟨h5,F1,F2,buf,ss,h1,h2,U⟩:=h;have Y:qb.size<=400:=by have:=(rH hq).1;rw[Array.length_toList]at this;exact aQ this (by omega)
 have C:=DM (m:=m) (t:=t) (n:=n) (qb:=qb) (MT h2.blk U) (Kt K) (K1 K) hm ht B Y;refine C.mono ?_;rintro e w' ⟨v,rfl,O,hb⟩;refine⟨v,rfl,?_,.of hb⟩;have O:=tj.jb O;rw[(Rs K m t qb.data.toList).resolve_right λaa=>aa U.len]at O;unfold uq;rw[GK U.named hm ht hn B hq];simpa[o9]using O
structure U6(md c fr too ch tg mst:Int):Prop where
 Tr : -9223372036854775808<=md
 Tv:md<=9223372036854775807
 c0 : -9223372036854775808<=c
 c1:c<=9223372036854775807
 Ts : -9223372036854775808<=fr
 Tw:fr<=9223372036854775807
 MM : -9223372036854775808<=too
 LC:too<=9223372036854775807
 Tn : -9223372036854775808<=ch
 Ty:ch<=9223372036854775807
 Tz : -9223372036854775808<=tg
 Tp:tg<=9223372036854775807
 Mw : -9223372036854775808<=mst
 Lw:mst<=9223372036854775807
section
variable {Z:jN prog} {W0:World} {Mp:Nat->Prop} {wl:World}
theorem H9{la ta:Option Addr}{ls:List Raw}{rs:List Int}{lc rc:Nat}{md c fr too ch tg aa:Int}(hW:WT wl)(h5:5<=wl.heap.size)(ab:sq wl la ls)(hT:A5 wl ta rs)(ac:ls.length<=lc)(ad:rs.length<=rc)(ae:ls.length<=9223372036854775807)(af:rs.length<=9223372036854775807)
  (Tr : -9223372036854775808<=md) (Tv:md<=9223372036854775807) (c0 : -9223372036854775808<=c) (c1:c<=9223372036854775807) (Ts : -9223372036854775808<=fr) (Tw:fr<=9223372036854775807) (MM : -9223372036854775808<=too) (LC:too<=9223372036854775807) (Tn : -9223372036854775808<=ch) (Ty:ch<=9223372036854775807) (Tz : -9223372036854775808<=tg) (Tp:tg<=9223372036854775807) (Mw : -9223372036854775808<=aa) (Lw:aa<=9223372036854775807)
  (hn:∀(w:World)(ag:Array Value),mU wl w->ag[18]?=some (.bool true)->dl (fJ Z W0 Mp) [⟨6,ag,[.code .ret]⟩] w []) :
  dl (fJ Z W0 Mp) [⟨6,#[.slice la ls.length lc,.slice ta rs.length rc,.int .i64 md,.int .i64 c,.int .i64 fr,.int .i64 too,.int .i64 ch,.int .i64 tg,.int .i64 aa,bt,bt,bt,bt,bt,bt,bt,bt,bt,bt,bt,bt,bt,bt,bt,bt,bt,bt,bt,bt,bt,bt,bt,bt,bt,bt,bt,bt,bt,bt,bt,bt,bt,bt,bt,bt,bt,bt,bt,bt,bt,bt,bt,bt,bt,bt,bt,bt,bt,bt,bt,bt,bt,bt,bt,bt,bt,bt,bt,bt,bt,bt],[.code (ey Tryz.f6)]⟩] wl []:=by
 have HR:aZ _:=And.intro hW (And.intro h5 (And.intro ab (And.intro hT (And.intro ac (And.intro ad (And.intro ae af))))));have HX:aZ (U6 md c fr too ch tg aa):=⟨Tr,Tv,c0,c1,Ts,Tw,MM,LC,Tn,Ty,Tz,Tp,Mw,Lw⟩;have HN:aZ _:=hn;clear hW h5 ab hT ac ad ae af Tr Tv c0 c1 Ts Tw MM LC Tn Ty Tz Tp Mw Lw hn;show dl _ [⟨_,_,[.code (.seq (.region 0 _ false) (.seq (.region 1 _ false) (.seq (.seq (.region 2 _ false) (.cond _ _ .skip)) (.seq (.region 4 _ false) (.seq (.region 5 _ false) (.seq (.region 6 _ false) (.seq (.region 7 _ false) (.seq (.region 8 _ false) (.seq (.region 9 _ false) (.seq (.region 10 _ false) (.seq (.region 11 _ false) .ret)))))))))))]⟩] _ _;refine dl.sr λY O=>?_
 (refine dT ?_;go_simp);refine dl.ie O ?_;clear O Y;refine dl.sr λY O=>?_
 (iterate 2 (refine dT ?_;go_simp));refine nQ.fill (i:=2) la ta ls rs lc rc HR.out.1 HR.out.2.1 HR.out.2.2.1 HR.out.2.2.2.1 HR.out.2.2.2.2.1 HR.out.2.2.2.2.2.1 HR.out.2.2.2.2.2.2.1 HR.out.2.2.2.2.2.2.2 λw b W B he=>?_;have E:aZ (nQ wl w b W (nG ls)):=he;have U:aZ _:=B;clear B he;rw[gL];go_simp
 (refine dT ?_;go_simp);refine dl.ie O ?_;clear O Y;refine dl.seq (gV λY O y B=>?_);have E:aZ (nQ wl y b W (nG ls)):=E.out.low B;have U:aZ (mU wl y):=U.out.trans B;clear B;go_wp2;refine fj O ?_;clear O Y;refine dl.qu trivial rfl (dl.skip ?_);refine gV λY O y B=>?_;have C:=fS md 4 y HX.out.Tr HX.out.Tv (by omega) (by omega);have hm:=lA md 4 (by omega);generalize pk md 4=m at *;have E:aZ (nQ wl y b W (nG ls)):=E.out.low B;have U:aZ (mU wl y):=U.out.trans B;clear B;go_wp2_with fail;refine C.mono ?_;clear C;rintro e w2 ⟨rfl,rfl⟩;go_wp2;refine fj O ?_;clear O Y;refine gV λY O y B=>?_;have C:=Ma c fr too ch y HX.out.c0 HX.out.c1 HX.out.Ts HX.out.Tw HX.out.MM HX.out.LC HX.out.Tn HX.out.Ty;have E:aZ (nQ wl y b W (nG ls)):=E.out.low B;have U:aZ (mU wl y):=U.out.trans B;clear B;go_wp2_with fail;refine C.mono ?_;clear C;rintro e w2 ⟨qb,rfl,hq,hb⟩;have E:aZ (nQ wl w2 b W (nG ls)):=E.out.low (.of hb);have U:aZ (mU wl w2):=U.out.trans (.of hb);have HQ:aZ _:=hq;clear hq hb;go_wp2;refine fj O ?_;clear O Y;refine gV λY O y B=>?_;have C:=fS tg 256 y HX.out.Tz HX.out.Tp (by omega) (by omega);have ht:=lA tg 256 (by omega);generalize pk tg 256=t at *;have E:aZ (nQ wl y b W (nG ls)):=E.out.low B;have U:aZ (mU wl y):=U.out.trans B;clear B;go_wp2_with fail;refine C.mono ?_;clear C;rintro e w2 ⟨rfl,rfl⟩;go_wp2;refine fj O ?_;clear O Y;refine gV λY O y B=>?_;have C:=fS aa 20 y HX.out.Mw HX.out.Lw (by omega) (by omega);have hn:=lA aa 20 (by omega);generalize pk aa 20=n at *;have E:aZ (nQ wl y b W (nG ls)):=E.out.low B;have U:aZ (mU wl y):=U.out.trans B;clear B;go_wp2_with fail;refine C.mono ?_;clear C;rintro e w2 ⟨rfl,rfl⟩;go_wp2;refine fj O ?_;clear O Y;rw[show(1:Int)+(n:Int)=((1+n:Nat):Int) by omega];have ah:1<=1+n:=by omega
 have ai:1+n<=20:=by omega
 generalize 1+n=N at *;clear hn;refine dl.sr λY O=>?_
 (iterate 3 (refine dT ?_;go_simp));refine SD rfl (by rfl) (by kernel_rfl) λτ=>?_;have q:(tp y τ).cell? _=_:=E.out.cell;unfold gm;go_simp;simp only[iK];refine dl.Cy τ ?_;clear q
 (iterate 4 (refine dT ?_;go_simp));refine nQ.ask (i:=8) m t N qb E.out (tU ⟨HR.out.1.2,HR.out.2.1⟩ U.out) HQ.out λw1 u1 B hs=>?_;have U:aZ (mU wl w1):=U.out.trans B;have S1:aZ (uq w1 u1 (oF (nG ls) m qb t N)):=hs;have E:aZ (nQ wl w1 b W (nG ls)):=E.out.low B;clear B hs;rw[gL];go_simp
 (iterate 5 (refine dT ?_;go_simp));refine dl.ie O ?_;clear O Y;refine gV λY O y B=>?_;have C:=(E.out.low B).wanted m t N qb (by omega) (by omega) ah ai HQ.out;have S1:aZ (uq y u1 (oF (nG ls) m qb t N)):=S1.out.low B;have U:aZ (mU wl y):=U.out.trans B;clear B E;go_wp2_with fail;refine C.mono ?_;clear C;rintro e w2 ⟨u2,rfl,hs,B⟩;have S1:aZ (uq w2 u1 (oF (nG ls) m qb t N)):=S1.out.low B;have S2:aZ (uq w2 u2 (oF (nG ls) m qb t N)):=hs;have U:aZ (mU wl w2):=U.out.trans B;clear B hs;go_wp2;refine fj O ?_;clear O Y;refine gV λY O y B=>?_;have C:=Mr u1 u2 _ y (S1.out.low B) (S2.out.low B) (by have:=It (nG ls) m qb t N;omega);have U:aZ (mU wl y):=U.out.trans B;clear B S1 S2;go_wp2_with fail;refine C.mono ?_;clear C;rintro e w3 ⟨rfl,hb⟩;have U:aZ (mU wl w3):=U.out.trans (.of hb);clear hb;go_wp2;refine fj O ?_;clear O Y;refine gV λY O y B=>?_;have U:aZ (mU wl y):=U.out.trans B;clear B;go_wp2;refine fj O ?_;exact HN.out _ _ U.out rfl
end
end
end Go.Proofs.YtocbogeoffeolaaGreatDoor
