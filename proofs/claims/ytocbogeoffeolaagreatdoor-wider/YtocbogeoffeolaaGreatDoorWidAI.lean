import Derived.Test.YtocbogeoffeolaaGreatDoorWidAH
set_option linter.all false
set_option maxHeartbeats 8000000
set_option maxRecDepth 1000000
open List renaming getD_eq_getElem?_getD->aK,mem_filter->aL,getElem?_eq_getElem->aM,getElem?_append_left->aN,mem_cons->aO,getElem_mem->aP,any_eq_true->aQ,all_eq_true->aR,take_of_length_le->aT,filter_sublist->aU,length_filter_le->aV,dropLast_prefix->aW,mem_singleton->aX,pairwise_map->aY,length_map->aZ,replicate->ba,mem_map->bc
open Nat renaming le_trans->bd,lt_of_lt_of_le->be,le_refl->bf,lt_irrefl->bg,mul_comm->bh,zero_le->bi,le_of_ble_eq_true->bj,testBit_and->bk,div_le_self->bl,and_le_left->bm,pow_succ->bn
open Go.Region renaming ready->bo,wanted->bp
open Array renaming getElem?_eq_some_iff->bq,getElem?_setIfInBounds->br,size_setIfInBounds->bs,length_toList->bt,ext_getElem?->bu
open Int renaming tdiv_eq_ediv_of_nonneg->bv,tmod_eq_emod_of_nonneg->bw,neg_tdiv->bx
open Go.Region.linearise renaming go->bz
open Go.RowKit renaming Hid->b0
open Go.IntKind renaming wrap_i64->b3
open Go renaming Calls->b4,maxLen->b5,FuncId->b6,yielded->b7,results->b8,cell_later->b9
open Bool renaming and_eq_true->b'
open ByteArray renaming size_extract->bA,size_append->bB,size->bC,data_extract->bD,data_append->bE
open Go.World renaming block_lt_of_cell?->bF,cell?_of_block->bG,cell?->bH
open Go renaming undef->bI
namespace Go.Proofs.YtocbogeoffeolaaGreatDoor
open Go.Proofs.Tryz
section
open Go.Conc Go.RowKit Go.Maps
variable {ops:Array Oper} {rest:List Nat} {xs:List Wd} {c:Nat} {o:Oper} {y:World}
theorem Uk{w:World}(B:y.heap=w.heap)(O:y.os=w.os):o9 w y:=⟨O,by rw[B]; exact bf _,λk _=>by rw[B]⟩
def WT(w:World):Prop:=M9 w/\kD w
theorem mE{w:World}(h:kD w/\5<=w.heap.size)(B:o9 w y):kD y:=Ix h.1 λr O=>B.block r (by omega)
theorem PS{w:World}(h:WT w)(U:5<=w.heap.size)(O:o9 w y):WT y:=by
 have B:∀j,y.cell? ⟨0,j,none⟩=w.cell? ⟨0,j,none⟩:=λj=>by simp only[bH]; rw[O.block 0 (by omega)]
 exact⟨⟨(B 0).trans h.1.1,(B 1).trans h.1.2.1,(B 2).trans h.1.2.2⟩,mE ⟨h.2,U⟩ O⟩
structure rJ(w0 w:World)(b:Nat)(buf:List dq)(ss:List (List dq))(ts:List (List Wd))(us:List (Value×List Wd)):Prop where
 x:∃F1 F2:Nat->Prop,AW w0 w F1 F2 b buf ss ts/\∀p∈us,Kept w F1 F2 p.1 p.2
section
variable {w0 w w':World} {b:Nat} {buf buf':List dq} {ss ss':List (List dq)} {ts ts':List (List Wd)} {us:List (Value×List Wd)}
theorem rJ.low(h:rJ w0 w b buf ss ts us)(B:o9 w w'):rJ w0 w' b buf ss ts us:=by
 obtain⟨F1,F2,O,U⟩:=h;exact⟨F1,F2,O.same B,λp Y=>(U p Y).step (St.same B)⟩
theorem rJ.of{f:b6}{args:Array Value}{r:Value}(h:rJ w0 w b buf ss ts us)(U:∀F1 F2,AW w0 w F1 F2 b buf ss ts->b4 prog f args w λe w'=>e=.returned r/\∃B O,AW w0 w' B O b buf' ss' ts'/\St w w' F1 F2 B O) :
  b4 prog f args w λe w'=>e=.returned r/\rJ w0 w' b buf' ss' ts' us:=by
 obtain⟨F1,F2,Y,h2⟩:=h;refine(U F1 F2 Y).mono ?_;rintro e w' ⟨rfl,B,O,k1,k2⟩;exact⟨rfl,B,O,k1,λp hp=>(h2 p hp).step k2⟩
theorem rJ.Rq(h:rJ w0 w b buf ss ts us)(s t:ByteArray)(x y:Int)(e:jp buf ss s.data.toList t.data.toList x y=(c,buf'))(B:s.size<=b5:=by decide)(O:t.size<=b5:=by decide) :
  b4 prog 38 #[.pointer (some ⟨b,0,none⟩),.string s,.string t,.int .i64 x,.int .i64 y] w λe w'=>e=.returned (.int .i64 c)/\rJ w0 w' b buf' ss ts us:=
 h.of λF1 F2 k=>by
  have:=k.Rq s t x y B O;rw[e]at this;exact this.mono λ_ _ ⟨h,U,k⟩=>⟨h,U,F2,k⟩
theorem rJ.del(h:rJ w0 w b buf ss ts us)(s:ByteArray)(e:kI buf ss s.data.toList=(c,buf'))(B:s.size<=b5:=by decide):b4 prog 37 #[.pointer (some ⟨b,0,none⟩),.string s] w λe w'=>e=.returned (.int .i64 c)/\rJ w0 w' b buf' ss ts us:=
 h.of λF1 F2 k=>by
  have:=k.del s B;rw[e]at this;exact this.mono λ_ _ ⟨h,O,k⟩=>⟨h,O,F2,k⟩
theorem rJ.flush(h:rJ w0 w b buf ss ts us)(e:eV buf ss=(c,buf',ss')):b4 prog 29 #[.pointer (some ⟨b,0,none⟩)] w λe w'=>e=.returned (.int .i64 c)/\rJ w0 w' b buf' ss' ts us:=
 h.of λF1 F2 k=>by
  have:=k.flush;rw[e]at this;exact this.mono λ_ _ ⟨h,B,k⟩=>⟨h,B,F2,k⟩
theorem rJ.merge(h:rJ w0 w b buf ss ts us)(n:Int)(e:eP ss n=(c,ss')):b4 prog 39 #[.pointer (some ⟨b,0,none⟩),.int .i64 n] w λe w'=>e=.returned (.int .i64 c)/\rJ w0 w' b buf ss' ts us:=
 h.of λF1 F2 k=>by
  have:=k.merge n;rw[e]at this;exact this.mono λ_ _ ⟨h,B,k⟩=>⟨h,B,F2,k⟩
theorem rJ.observe(h:rJ w0 w b buf ss ts us)(s:ByteArray)(e:s7 ts s.data.toList=(c,ts'))(B:gu ts<=16777216:=by exact bj (by kernel_rfl))(O:s.size<=b5:=by decide):b4 prog 34 #[.pointer (some ⟨b,0,none⟩),.string s] w λe w'=>e=.returned (.int .i64 c)/\rJ w0 w' b buf ss ts' us:=
 h.of λF1 F2 k=>by
  have:=k.observe s B O;rw[e]at this;exact this.mono λ_ _ ⟨h,U,k⟩=>⟨h,F1,U,k⟩
theorem rJ.Dq(h:rJ w0 w b buf ss ts us)(O:WT w)(s:ByteArray)(most:Int)(e:uq ts s.data.toList most=(xs,0))(U:gu ts<=16777216:=by exact bj (by kernel_rfl))(Y:s.size<=b5:=by decide) :
  b4 prog 35 #[.pointer (some ⟨b,0,none⟩),.string s,.int .i64 most] w λe w'=>∃a n,e=.returned (.tuple #[.slice a xs.length n,.int .i64 (0:Nat)])/\rJ w0 w' b buf ss ts ((.slice a xs.length n,xs)::us):=by
 obtain⟨F1,F2,h1,h2⟩:=h;have:=h1.Dq O.1 s most U Y;rw[e]at this;refine this.mono ?_;rintro e w' ⟨v,rfl,k1,k2,k3⟩;obtain⟨a,n,rfl,_⟩:=dN k1.1;refine⟨a,n,rfl,F1,F2,k2,λp B=>?_⟩;rcases aO.1 B with rfl|B
 .exact k1
 .exact(h2 p B).step (St.same k3)
theorem rJ.kept(h:rJ w0 w b buf ss ts us){v:Value}(B:(v,xs)∈us):∃F1 F2,Kept w F1 F2 v xs:=by
 obtain⟨F1,F2,U,O⟩:=h;exact⟨F1,F2,O _ B⟩
theorem rJ.SO(h:rJ w0 w b buf ss ts us):∃B O F1,sX B O w F1 b buf ss:=by
 obtain⟨F1,F2,U,h2⟩:=h;obtain⟨B,O,Y⟩:=U.SO;exact⟨B,O,F1,Y⟩
theorem rJ.base(h:rJ w0 w b buf ss ts us):o9 w0 w:=by
 obtain⟨F1,F2,B,O⟩:=h;exact B.low
end
section
variable {Z:iS prog} {W0:World} {Mp:Nat->Prop} {fn:b6} {tm:Array Value} {os:List OF} {wl:World} {k:List Item} {V:List (Nat×Option (List Value))}
theorem rJ.comp{w0:World}{b:Nat}{buf:List dq}{ss:List (List dq)}{ts:List (List Wd)}{us:List (Value×List Wd)}{i:Nat}{xs:Array Operand}{tys:Array TypeId}(mode dD most n:Nat)(qb:ByteArray){ls:List Wd}(h:rJ w0 wl b buf ss ts us)(h5:5<=w0.heap.size)(O:kD wl)(e:(tz (eO ss buf) mode qb.data.toList dD most).1=ls)
  (hn:∀(w2:World)(a:Option Addr)(c:Nat),rJ w0 w2 b buf ss ts ((.slice a n c,ls)::us)->dn (fi Z W0 Mp) (⟨fn,eI o.dst tm (.tuple #[.slice a n c,.int .i64 0]),.inRegion ops rest::k⟩::os) w2 []) (hl:ls.length=n:=by rfl) (hq:dU qb.data.toList=true:=by decide)
  (hi:ops[i]?=some o:=by rfl) (aa:bp o (b7 ops tm)=true:=by rfl) (ho:o.op=.call {callee:=.value (.func 17),args:=xs,argTypes:=tys}:=by rfl) (ab:∀x∈xs.toList,dP (fi Z W0 Mp).fu (fi Z W0 Mp).gl x:=by simp[dP,Plain])
  (ha:xs.map (iJ tm)=#[.pointer (some ⟨b,0,none⟩),.int .i64 (mode:Int),.string qb,.int .i64 (dD:Int),.int .i64 (most:Int)]:=by kernel_rfl) (hm:mode<=3:=by omega) (ht:dD<=255:=by omega) (U:1<=most:=by omega) (Y:most<=20:=by omega):dn (fi Z W0 Mp) (⟨fn,tm,.inRegion ops (i::rest)::k⟩::os) wl []:=by
 obtain⟨F1,F2,h1,h2⟩:=h;obtain⟨vM,vK,_,_,_,B⟩:=h1.SO;have hI:=B.inv;refine h1.R3 h5 O hq (λw2 u L k1 ac B hs hk=>?_) hi aa ho ab ha hm ht U Y;rw[vX (rm hI) (λe he=>(Bz hI he).1) hm ht U Y hq B hs,e]at hk;obtain⟨a,c,rfl,_⟩:=dN hk.1;rw[hl];refine hn w2 a c ⟨F1,F2,k1,λp B=>?_⟩;rcases aO.1 B with rfl|B
 .rw[<-hl]; exact hk
 .exact(h2 p B).step (St.same ac)
theorem fx{c d:Code}(h:∀O,b0 (O=.code d::k)->∀y,o9 wl y->c.wp prog (EV (fi Z W0 Mp) fn O os V) ⟨tm,[]⟩ y)(B:js (λo=>Cu prog rL qd true o.op) c=true:=by kernel_rfl)(U:(Item.code d::k).all jL=true:=by rfl):dn (fi Z W0 Mp) (⟨fn,tm,.code (.seq c d)::k⟩::os) wl V:=
 dn.seq (dn.EC (nf B) U (.inr nofun) λτ _=>h _ rfl _ ⟨rfl,bf _,λ_ _=>rfl⟩)
theorem eA{P:Program}{E:Env P}{tmps:Array Value}{w':World}{B:List Item}(O:b0 (B=k))(h:dn E (⟨fn,tmps,k⟩::os) w' V):EV E fn B os V .normal ⟨tmps,[]⟩ w':=by
 rw[O.out];exact gp h
theorem Ig{i:Nat}(hi:ops[i]?=some o)(hW:WT wl)(h5:5<=wl.heap.size)(hn:∀w2:World,o9 wl w2->dn (fi Z W0 Mp) (⟨fn,eI o.dst tm (.bool true),.inRegion ops rest::k⟩::os) w2 []) :
  dn (fi Z W0 Mp) (⟨32,#[bI,bI,bI,bI,bI,bI,bI,bI,bI,bI,bI,bI,bI,bI,bI,bI,bI,bI,bI,bI,bI,bI,bI,bI,bI,bI,bI,bI,bI,bI,bI,bI,bI,bI,bI,bI,bI,bI,bI,bI,bI,bI,bI,bI,bI,bI,bI,bI,bI,bI,bI,bI,bI,bI,bI,bI,bI,bI,bI,bI,bI,bI,bI,bI,bI,bI,bI,bI,bI,bI,bI,bI,bI,bI,bI,bI,bI,bI,bI,bI,bI,bI,bI,bI,bI,bI,bI,bI,bI,bI,bI,bI,bI,bI,bI,bI,bI,bI,bI,bI,bI,bI,bI,bI,bI,bI,bI,bI,bI,bI,bI,bI,bI,bI,bI,bI,bI,bI,bI,bI,bI,bI,bI,bI,bI,bI,bI,bI,bI,bI,bI,bI,bI,bI,bI,bI,bI,bI,bI,bI,bI,bI,bI,bI,bI,bI,bI,bI,bI,bI,bI,bI,bI,bI],[.code (dT f32)]⟩::⟨fn,tm,.inRegion ops (i::rest)::k⟩::os) wl []:=by
 have HN:b0 _:=And.intro hW (And.intro h5 hn);clear hW h5 hn;show dn _ (⟨_,_,[.code (.seq (.region 0 _ false) (.seq (.region 1 _ false) (.seq (.seq (.region 2 _ false) (.cond _ _ .skip)) (.seq (.region 4 _ false) (.seq (.region 5 _ false) (.seq (.region 6 _ false) (.seq (.region 7 _ false) (.seq (.region 8 _ false) (.seq (.region 9 _ false) (.seq (.region 10 _ false) (.seq (.region 11 _ false) (.seq (.region 12 _ false) (.seq (.region 13 _ false) (.seq (.region 14 _ false) (.seq (.region 15 _ false) (.seq (.region 16 _ false) (.seq (.region 17 _ false) (.seq (.seq (.region 18 _ false) (.cond _ _ .skip)) (.seq (.region 20 _ false) (.seq (.region 21 _ false) (.seq (.region 22 _ false) (.seq (.region 23 _ false) (.seq (.region 24 _ false) (.seq (.region 25 _ false) .ret))))))))))))))))))))))))]⟩::_) _ _;refine dn.sr λY B=>?_
 (refine dG ?_; go_simp);refine dn.ie B ?_;clear B Y;refine fx λY B y O=>?_;have C:=Tp y;have HL:b0 _:=O;clear O;go_wp2_with fail;refine C.mono ?_;clear C;rintro e w ⟨b,F1,F2,rfl,hA,hb⟩
 have U:b0 (rJ wl w b [] [] [] []):=by
  have h0:=HL.out;exact⟨F1,F2,⟨hA.j,λk hk=>bd h0.size (hA.TU k hk),λk hk=>bd h0.size (hA.PT k hk),h0.trans hA.low⟩,λp hp=>by cases hp⟩
 clear hA hb HL;go_wp2;refine eA B ?_;clear B Y;refine dn.seq (dn.sr λY B=>?_)
 (iterate 2 (refine dG ?_; go_simp));refine dn.ie B ?_;clear B Y;refine dn.lY trivial rfl (dn.skip ?_);refine fx λY B y O=>?_;have C:=(U.out.low O).Rq ⟨#[97]⟩ ⟨#[78,101,119,32,89,111,114,107]⟩ 50 1 t1;clear O;go_wp2_with fail;refine C.mono ?_;clear C;rintro e w ⟨rfl,hA⟩;have U:b0 _:=hA;clear hA;go_wp2;refine eA B ?_;clear B Y;refine fx λY B y O=>?_;have C:=(U.out.low O).Rq ⟨#[98]⟩ ⟨#[78,101,119,97,114,107]⟩ 70 3 t2;clear O;go_wp2_with fail;refine C.mono ?_;clear C;rintro e w ⟨rfl,hA⟩;have U:b0 _:=hA;clear hA;go_wp2;refine eA B ?_;clear B Y;refine fx λY B y O=>?_;have C:=(U.out.low O).Rq ⟨#[99]⟩ ⟨#[89,111,114,107]⟩ 60 1 t3;clear O;go_wp2_with fail;refine C.mono ?_;clear C;rintro e w ⟨rfl,hA⟩;have U:b0 _:=hA;clear hA;go_wp2;refine eA B ?_;clear B Y;refine dn.sr λY B=>?_
 (refine dG ?_; go_simp);refine U.out.comp (i:=1) 0 0 5 2 ⟨#[110,101,119]⟩ HN.out.2.1 (mE ⟨HN.out.1.2,HN.out.2.1⟩ U.out.base) t4 λw a0 c0 hA=>?_;have U:b0 _:=hA;clear hA;rw[fF];go_simp
 (iterate 5 (refine dG ?_; go_simp));refine dn.ie B ?_;clear B Y;refine dn.sr λY B=>?_
 (refine dG ?_; go_simp);refine U.out.comp (i:=1) 1 0 5 2 ⟨#[89,79,82,75]⟩ HN.out.2.1 (mE ⟨HN.out.1.2,HN.out.2.1⟩ U.out.base) t5 λw a1 c1 hA=>?_;have U:b0 _:=hA;clear hA;rw[fF];go_simp
 (iterate 5 (refine dG ?_; go_simp));refine dn.ie B ?_;clear B Y;refine dn.sr λY B=>?_
 (refine dG ?_; go_simp);refine U.out.comp (i:=1) 2 2 5 1 ⟨#[110,119,101]⟩ HN.out.2.1 (mE ⟨HN.out.1.2,HN.out.2.1⟩ U.out.base) t6 λw a2 c2 hA=>?_;have U:b0 _:=hA;clear hA;rw[fF];go_simp
 (iterate 5 (refine dG ?_; go_simp));refine dn.ie B ?_;clear B Y;refine fx λY B y O=>?_;have C:=(U.out.low O).flush t7;clear O;go_wp2_with fail;refine C.mono ?_;clear C;rintro e w ⟨rfl,hA⟩;have U:b0 _:=hA;clear hA;go_wp2;refine eA B ?_;clear B Y;refine fx λY B y O=>?_;have C:=(U.out.low O).del ⟨#[98]⟩ t8;clear O;go_wp2_with fail;refine C.mono ?_;clear C;rintro e w ⟨rfl,hA⟩;have U:b0 _:=hA;clear hA;go_wp2;refine eA B ?_;clear B Y;refine fx λY B y O=>?_;have C:=(U.out.low O).flush t9;clear O;go_wp2_with fail;refine C.mono ?_;clear C;rintro e w ⟨rfl,hA⟩;have U:b0 _:=hA;clear hA;go_wp2;refine eA B ?_;clear B Y;refine fx λY B y O=>?_;obtain⟨vM,vK,F1,hp⟩:=(U.out.low O).SO;have C:=Tx y F1 b [] [[ea,eb,ec],[gb]] 1 hp;rw[t10]at C;have U:b0 _:=U.out.low O;clear hp;clear O;go_wp2_with fail;refine C.mono ?_;clear C;rintro e w ⟨rfl,rfl⟩;go_wp2;refine eA B ?_;clear B Y;refine fx λY B y O=>?_;have C:=(U.out.low O).merge 0 (Prod.ext t11.1 rfl);clear O;go_wp2_with fail;refine C.mono ?_;clear C;rintro e w ⟨rfl,hA⟩;have U:b0 _:=hA;clear hA;go_wp2;refine eA B ?_;clear B Y;refine fx λY B y O=>?_;have C:=(U.out.low O).observe ⟨#[116,104,101,32,99,97,116,32,115,97,116]⟩ t12;clear O;go_wp2_with fail;refine C.mono ?_;clear C;rintro e w ⟨rfl,hA⟩;have U:b0 _:=hA;clear hA;go_wp2;refine eA B ?_;clear B Y;refine fx λY B y O=>?_;have C:=(U.out.low O).observe ⟨#[116,104,101,32,99,97,116,32,114,97,110]⟩ t13;clear O;go_wp2_with fail;refine C.mono ?_;clear C;rintro e w ⟨rfl,hA⟩;have U:b0 _:=hA;clear hA;go_wp2;refine eA B ?_;clear B Y;refine fx λY B y O=>?_;have A:=U.out.low O;have C:=A.Dq (PS HN.out.1 HN.out.2.1 A.base) ⟨#[116,104,101,32,99,97,116]⟩ 2 t14;clear A;clear O;go_wp2_with fail;refine C.mono ?_;clear C;rintro e w ⟨a4,c4,rfl,hA⟩;have U:b0 _:=hA;clear hA;go_wp2;refine eA B ?_;clear B Y;refine dn.seq (fx λY B y O=>?_);have U:b0 _:=U.out.low O;clear O;go_wp2;refine eA B ?_;clear B Y;refine dn.lY trivial rfl (dn.skip ?_);refine fx λY B y O=>?_;have U:b0 _:=U.out.low O;obtain⟨F1,F2,h⟩:=U.out.kept (.tail _ (.tail _ (.tail _ (.head _))));have C:=N7 _ _ h;simp only[t15,t16,t17]at C;clear h;clear O;go_wp2_with fail;refine C.mono ?_;clear C;rintro e w ⟨rfl,rfl⟩;go_wp2;refine eA B ?_;clear B Y;refine fx λY B y O=>?_;have U:b0 _:=U.out.low O;obtain⟨F1,F2,h⟩:=U.out.kept (.tail _ (.tail _ (.head _)));have C:=N7 _ _ h;simp only[t15,t16,t17]at C;clear h;clear O;go_wp2_with fail;refine C.mono ?_;clear C;rintro e w ⟨rfl,rfl⟩;go_wp2;refine eA B ?_;clear B Y;refine fx λY B y O=>?_;have U:b0 _:=U.out.low O;obtain⟨F1,F2,h⟩:=U.out.kept (.tail _ (.head _));have C:=Tq _ ⟨#[]⟩ h;simp only[t15,t16,t17]at C;clear h;clear O;go_wp2_with fail;refine C.mono ?_;clear C;rintro e w ⟨rfl,rfl⟩;go_wp2;refine eA B ?_;clear B Y;refine fx λY B y O=>?_;have U:b0 _:=U.out.low O;obtain⟨F1,F2,h⟩:=U.out.kept (.head _);have C:=N7 _ _ h;clear h;clear O;go_wp2_with fail;refine C.mono ?_;clear C;rintro e w ⟨rfl,rfl⟩;go_wp2;refine eA B ?_;clear B Y;refine fx λY B y O=>?_;have U:b0 _:=U.out.low O;obtain⟨vM,vK,F1,hp⟩:=U.out.SO;have C:=BU y F1 b [] (eP [[ea,eb,ec],[gb]] 0).2 hp;rw[t11.2]at C;clear hp;clear O;go_wp2_with fail;refine C.mono ?_;clear C;rintro e w ⟨rfl,rfl⟩;go_wp2;refine eA B ?_;clear B Y;refine fx λY B y O=>?_;have U:b0 _:=U.out.low O;clear O;go_wp2;refine eA B ?_;clear B Y;refine dn.back (v:=.bool true) (.inr ⟨_,rfl⟩) func32 hi (λτ=>by simp[b8,results32,go_sem]) ?_;exact HN.out.2.2 _ U.out.base
end
end
section
open Go.Conc Go.RowKit Go.Maps
theorem PJ.stay{w w':World}{F1 F2:Nat->Prop}{b:Nat}{buf:List dq}{ss:List (List dq)}{ts:List (List Wd)}(h:PJ w F1 F2 b buf ss ts)(U:w.heap.size<=w'.heap.size)(hb:∀k,F1 k\/F2 k->w'.heap[k]?=w.heap[k]?):PJ w' F1 F2 b buf ss ts:=by
 obtain⟨Y,h2,h3,Bb,vS,B,n,vK,kn,h4,h5⟩:=h;exact⟨λk O=>be (Y k O) U,λk O=>be (h2 k O) U,h3,Bb,vS,B,n,vK,kn,h4.stay λk O=>hb k (.inl O),h5.stay λk O=>hb k (.inr O)⟩
theorem H7:f32.name≠ "runtime.NumGoroutine":=by
 decide
section
variable {Z:iS prog} {W0:World} {Mp:Nat->Prop} {fn:b6} {tm:Array Value} {os:List OF} {wl:World} {V:List (Nat×Option (List Value))} {k:List Item}
theorem SL{c:Code}(B:js (λo=>Cu prog rL qd true o.op) c=true)(U:k.all jL=true)(h:∀O:World,O.heap=wl.heap->O.os=wl.os->c.wp prog (EV (fi Z W0 Mp) fn k os V) ⟨tm,[]⟩ O):dn (fi Z W0 Mp) (⟨fn,tm,.code c::k⟩::os) wl V:=
 dn.EC (nf B) U (.inr nofun) λτ _=>h _ rfl rfl
end
structure Ah(w:World)(ra:Option Addr)(rs:List Int):Prop where
 cell:∀j(h:j<rs.length),∃b off,ra=some ⟨b,off,none⟩/\w.cell? ⟨b,off+j,none⟩=some (.int .i64 rs[j])
 lo:∀x∈rs,-9223372036854775808<=x
 hi:∀x∈rs,x<=9223372036854775807
end
section
open Go.Conc Go.RowKit Go.Maps
variable {i k:Nat}
def kR(k:nI):Nat->Value
 |0=>.string ⟨k.name.toArray⟩
 |1=>.string ⟨k.text.toArray⟩
 |2=>.int .i64 k.du
 |3=>.int .i64 k.dD
 |_=>.bool k.there
def ri(b:Nat)(K:List nI)(j:Nat):Value:=if j=0 then .pointer (some ⟨b,0,none⟩)else kR (K.getD ((j-1) / 5) lN) ((j-1) % 5)
def lS(b:Nat)(K:List nI):Array Value:=Array.ofFn (n:=61) λj=>ri b K j.val
theorem n4(b:Nat)(K:List nI)(j:Nat):(lS b K)[j]?=if j<61 then some (ri b K j)else none:=by
 unfold lS;rw[Array.getElem?_ofFn];split<;>rfl
theorem J7(b:Nat)(K:List nI):(lS b K).size=61:=by unfold lS; simp
theorem OV{b:Nat}{K:List nI}(B:K.length=12)(O:k<12)(hi:i<5):(lS b K)[1+5*k+i]?=some (kR (K[k]'(by omega)) i):=by
 rw[n4,if_pos (by omega)];unfold ri;rw[if_neg (by omega),show(1+5*k+i-1) / 5=k by omega,show(1+5*k+i-1) % 5=i by omega,aK,aM _];rfl
theorem FW{b:Nat}{K:List nI}(U:K.length=12){j:Nat}(Y:k<12)(kn:nI)(B:∀i,i<5->j≠1+5*k+i):ri b (K.set k kn) j=ri b K j:=by
 unfold ri;split
 .rfl
 .have O:(j-1) / 5≠k:=λe=>B ((j-1) % 5) (by omega) (by omega);rw[aK,aK,List.getElem?_set_ne (by omega)]
theorem pn{b:Nat}{K:List nI}(B:K.length=12)(O:k<12)(hi:i<5)(kn:nI):ri b (K.set k kn) (1+5*k+i)=kR kn i:=by
 unfold ri;rw[if_neg (by omega),show(1+5*k+i-1) / 5=k by omega,show(1+5*k+i-1) % 5=i by omega,aK,List.getElem?_set_self (by omega)];rfl
theorem Q5{b:Nat}{K:List nI}(B:K.length=12)(O:k<12)(kn:nI) :
  ((((((lS b K).setIfInBounds (1+5*k) (kR kn 0)).setIfInBounds (1+5*k+1) (kR kn 1)).setIfInBounds (1+5*k+2) (kR kn 2)).setIfInBounds (1+5*k+3) (kR kn 3)).setIfInBounds (1+5*k+4) (kR kn 4))=lS b (K.set k kn):=by
 apply bu;intro j;simp only[br,bs,J7,n4];by_cases U:1+5*k+4=j
 .subst U; simp only[if_true]; rw[if_pos (by omega),if_pos (by omega),pn B O (by omega)]
 .rw[if_neg U];by_cases Y:1+5*k+3=j
  .subst Y; simp only[if_true]; rw[if_pos (by omega),if_pos (by omega),pn B O (by omega)]
  .rw[if_neg Y];by_cases h2:1+5*k+2=j
   .subst h2; simp only[if_true]; rw[if_pos (by omega),if_pos (by omega),pn B O (by omega)]
   .rw[if_neg h2];by_cases h1:1+5*k+1=j
    .subst h1; simp only[if_true]; rw[if_pos (by omega),if_pos (by omega),pn B O (by omega)]
    .rw[if_neg h1];by_cases h0:1+5*k=j
     .subst h0; simp only[if_true]; rw[show 1+5*k=1+5*k+0 from rfl,pn B O (by omega)]
     .rw[if_neg h0,FW B O kn λi hi=>by omega]
theorem PR{b:Nat}{K:List nI}(U:K.length=12)(Y:k<12) :
  (lS b K).setIfInBounds (1+5*k+4) (.bool false)=lS b (K.set k {K.getD k lN with there:=false}):=by
 have B:K.getD k lN=K[k]'(by omega):=by rw[aK,aM _]; rfl
 apply bu;intro j;simp only[br,J7,n4];by_cases h4:1+5*k+4=j
 .subst h4; simp only[if_true]; rw[if_pos (by omega),if_pos (by omega),pn U Y (by omega)]; rfl
 .rw[if_neg h4];split
  .by_cases O:∃i,i<4/\j=1+5*k+i
   .obtain⟨i,hi,rfl⟩:=O;rw[pn U Y (by omega),B];have:=OV (b:=b) U Y (show i<5 by omega);rw[n4,if_pos (by omega)]at this;rw[this];rcases(by omega:i=0\/i=1\/i=2\/i=3)with rfl|rfl|rfl|rfl<;>rfl
   .rw[FW U Y _ λi hi e=>?_];by_cases h:i<4
    .exact O ⟨i,h,e⟩
    .exact h4 (by omega)
  .rfl
structure WB(w0 w:World)(F1 F2:Nat->Prop)(b W:Nat)(K:List nI):Prop where
 blk:w.heap[W]?=some (.cells (lS b K) 39 (0,0))
 a1:¬F1 W
 a2:¬F2 W
 hi:w0.heap.size<=W
section
variable {w0 w w':World} {F1 F2:Nat->Prop} {b W:Nat} {buf:List dq} {ss:List (List dq)} {ts:List (List Wd)} {K:List nI}
theorem WB.lt(h:WB w0 w F1 F2 b W K):W<w.heap.size:=(bq.1 h.blk).1
theorem WB.low(h:WB w0 w F1 F2 b W K)(B:o9 w w'):WB w0 w' F1 F2 b W K:=⟨(B.block W h.lt).trans h.blk,h.a1,h.a2,h.hi⟩
theorem WB.step{B O:Nat->Prop}(h:WB w0 w F1 F2 b W K)(st:St w w' F1 F2 B O):WB w0 w' B O b W K:=by
 have:=h.lt;refine⟨(st.block W h.lt h.a1 h.a2).trans h.blk,λY=>?_,λY=>?_,h.hi⟩
 .rcases st.f1 W Y with U|U
  .exact h.a1 U
  .omega
 .rcases st.f2 W Y with U|U
  .exact h.a2 U
  .omega
theorem AW.other(h:AW w0 w F1 F2 b buf ss ts)(Y:¬F1 W)(h2:¬F2 W)(hi:w0.heap.size<=W)(U:w.heap.size<=w'.heap.size)(O:w'.os=w.os)(hb:∀k,k<w.heap.size->k≠W->w'.heap[k]?=w.heap[k]?):AW w0 w' F1 F2 b buf ss ts:=by
 refine⟨h.j.stay U λk B=>hb k (B.elim (h.j.S5 k) (h.j.Th k)) λe=>?_,h.TU,h.PT,⟨O.trans h.low.os,bd h.low.size U,λk B=>(hb k (be B h.low.size) (by omega)).trans (h.low.block k B)⟩⟩;subst e;exact B.elim Y h2
theorem qJ(h:kY w w'):o9 w w':=by
 obtain⟨τ,B⟩:=h;exact⟨B.os,B.size,B.block⟩
end
end
section
open Go.Conc Go.RowKit Go.Maps
section
variable {w0 w w':World} {F1 F2:Nat->Prop} {b W:Nat} {buf:List dq} {ss:List (List dq)} {ts:List (List Wd)} {K:List nI}
theorem Ts{k:Nat}(h:k<12):pk (k:Int) 12=k:=by
 unfold pk;omega
theorem QG(hA:AW w0 w F1 F2 b buf ss ts)(hB:WB w0 w F1 F2 b W K)(hS:Sk K buf ss)(x:Raw)(hx:x.Ok)(aa:x.du<0) :
  b4 prog 43 #[.pointer (some ⟨W,0,none⟩),qQ x] w λe w'=>e=.returned (.bool true)/\∃U buf',AW w0 w' U F2 b buf' ss ts/\WB w0 w' U F2 b W (qw K x)/\Sk (qw K x) buf' ss:=by
 have ad:=hS.del x aa;have ab:=hS.len;have ac:=lC x.name 12 (by omega);have Y:=PR (b:=b) ab ac;have al:qw K x=K.set (pk x.name 12) {K.getD (pk x.name 12) lN with there:=false}:=by unfold qw; rw[if_pos aa]
 rw[<-al]at Y;generalize qw K x=K' at *;obtain⟨xn,xt,xw,xg⟩:=x;obtain⟨n0,n1,t0,t1,q0,q1,g0,g1⟩:=hx;simp only at n0 n1 t0 t1 q0 q1 g0 g1 aa ad ac Y⊢;unfold qQ;simp only;obtain⟨wa,ae⟩:∃wa,wa=w.alloc (.cells #[.int .i64 xn,.int .i64 xt,.int .i64 xw,.int .i64 xg] 48):=⟨_,rfl⟩;have ai:eU w wa:=by rw[ae]; exact eU.alloc _ _
 have aj:wa.heap[w.heap.size]?=some (.cells #[.int .i64 xn,.int .i64 xt,.int .i64 xw,.int .i64 xg] 48 (0,0)):=by rw[ae]; exact uA _ _
 have d0:wa.cell? ⟨w.heap.size,0,none⟩=some (.int .i64 xn):=by rw[dh aj]; rfl
 have d2:wa.cell? ⟨w.heap.size,2,none⟩=some (.int .i64 xw):=by rw[dh aj]; rfl
 have HA:b0 _:=hA.same (.of ai);have HB:b0 _:=hB.low (.of ai);have hp:=fQ xn 12 wa n0 n1 (by omega) (by omega);obtain⟨k,hk⟩:∃k,k=pk xn 12:=⟨_,rfl⟩;rw[<-hk]at hp ac Y ad
 have HN:b0 (∀y,b4 prog 23 #[.int .i64 (k:Int)] y λe w'=>e=.returned (.string ⟨(xz k).toArray⟩)/\y=w'):=λy=>by
  have:=Bl (k:Int) y (by omega) (by omega);rw[Ts ac]at this;exact this
 have HX:b0 _:=And.intro ad Y;have HL:b0 _:=And.intro ab ac;clear hA hB hS ad Y ai aj hk ab al;go_enter func43,ntmps43;go_wp2_with fail;rw[<-ae];refine hp.mono ?_;rintro e w1 ⟨rfl,rfl⟩;clear hp ae;go_wp2_with fail;have HU:b0 (∀y,kY wa y->y.cell? ⟨W,0,none⟩=some (.pointer (some ⟨b,0,none⟩))):=λy hy=>jA hy (by rw[dh HB.out.blk,n4]; rfl);refine gX (Sd:=λa y=>nh _ _ _ [6,7] a y) (last:=6) (tl:=[7]) (by kernel_rfl) ?_ (λa y h _=>h);refine dB 0 ?_ ?_<|dB 1 ?_ ?_<|dB 2 ?_ ?_<|dB 3 ?_ ?_<|dB 4 ?_ ?_ ?_
 any_goals(intro y hy; have q0:=HU.out y hy; unfold gh; go_simp; refine⟨eU.refl _,?_⟩; with_reducible rfl)
 go_simp;refine dB 5 ?_ ?_ ?_;rotate_left
 .intro y hy; unfold gh; go_simp; refine⟨rfl,(HN.out y).mono ?_⟩; rintro e y2 ⟨rfl,rfl⟩; refine⟨_,rfl,eU.refl _,?_⟩; with_reducible rfl
 go_simp;refine mF (by kernel_rfl) (λt=>xx (by kernel_rfl) (by kernel_rfl) _ _) ?_;intro y hy;have am:b0 _:=HA.out.same (qJ hy);have an:b0 _:=HB.out.low (qJ hy);clear hy HA HB HU HN d0 d2;refine kO rfl rfl ?_;unfold gh;go_simp;refine⟨rfl,(am.out.del ⟨(xz k).toArray⟩ (by unfold b5; simp[xz,bC])).mono ?_⟩;rintro e y2 ⟨rfl,U,ao,st⟩;have O:b0 _:=an.out.step st;have ak:b0 _:=ao;clear ao st am an;refine⟨_,rfl,?_⟩;refine kO rfl rfl ?_;unfold gh;go_simp;refine pa ?_;change b0 (AW w0 y2 U F2 b (kI buf ss (xz k)).2 ss ts)at ak;have ag:K.getD k lN=K[k]'(by have:=HL.out; omega):=by rw[aK,aM (by have:=HL.out; omega)]; rfl
 have c4:y2.cell? ⟨W,1+k*5+4,none⟩=some (.bool (K.getD k lN).there):=by
  have:=OV (b:=b) HL.out.1 HL.out.2 (show 4<5 by omega);rw[bh 5 k]at this;rw[dh O.out.blk,this,ag];rfl
 have f4:=dK O.out.blk (1+k*5+4);obtain⟨y3,af⟩:∃y3,y2.setCell ⟨W,1+k*5+4,none⟩ (.bool false)=y3:=⟨_,rfl⟩
 have ah:b0 (∃U buf',AW w0 y3 U F2 b buf' ss ts/\WB w0 y3 U F2 b W K'/\Sk K' buf' ss):=by
  refine⟨U,_,ak.out.other O.out.a1 O.out.a2 O.out.hi ?_ ?_ ?_,⟨?_,O.out.a1,O.out.a2,O.out.hi⟩,HX.out.1.2⟩
  .rw[<-af]; simp
  .rw[<-af]; rfl
  .intro j _ hj;rw[<-af,Below.heap_setCell _ _ _ _ hj]
  .rw[<-af,heap_set O.out.blk,bh k 5,HX.out.2]
 have B:=HX.out.1.1;clear ak O HX ag
 cases ht:(K.getD k lN).there with
 |true=>
  rw[ht]at B c4;simp only[if_true]at B;rw[B];clear B ht;go_wp2;go_ret;exact⟨rfl,ah.out⟩
 |false=>
  rw[ht]at B c4;simp only[Bool.false_eq_true,if_false]at B;rw[B];clear B ht;go_wp2;go_ret;exact⟨rfl,ah.out⟩
end
end
section
open Go.Conc Go.RowKit Go.Maps
section
variable {w0 w w':World} {F1 F2:Nat->Prop} {b W:Nat} {buf:List dq} {ss:List (List dq)} {ts:List (List Wd)} {K:List nI}
theorem Qh(hA:AW w0 w F1 F2 b buf ss ts)(hB:WB w0 w F1 F2 b W K)(hS:Sk K buf ss)(x:Raw)(hx:x.Ok)(ac:¬x.du<0) :
  b4 prog 43 #[.pointer (some ⟨W,0,none⟩),qQ x] w λe w'=>e=.returned (.bool true)/\∃aa buf',AW w0 w' aa F2 b buf' ss ts/\WB w0 w' aa F2 b W (qw K x)/\Sk (qw K x) buf' ss:=by
 have aj:=hS.Rq x ac;have ad:=hS.len;have ae:=lC x.name 12 (by omega);have Y:=Q5 (b:=b) ad ae (kz x);have ax:qw K x=K.set (pk x.name 12) (kz x):=by unfold qw; rw[if_neg ac]
 have ay:=(NH (lC x.text 258 (by omega))).2.2;have hC:=λy=>G6 x hx y;unfold JX at hC;rw[<-ax]at Y;generalize qw K x=K' at *;have az:(kz x).there=true:=rfl;have ak:(kz x).text.length<=20:=ay;have al:(kz x).name.length<=20:=by show[UInt8.ofNat (97+pk x.name 12)].length<=20; simp
 generalize kz x=kn at *;obtain⟨kN,kT,kW,kG,kB⟩:=kn;simp only at az ak al aj hC;subst az;simp only[kR]at Y;obtain⟨xn,xt,xw,xg⟩:=x;obtain⟨n0,n1,t0,t1,q0,q1,g0,g1⟩:=hx;simp only at n0 n1 t0 t1 q0 q1 g0 g1 ac ae Y hC;unfold qQ at hC⊢;simp only at hC⊢;obtain⟨wa,ah⟩:∃wa,wa=w.alloc (.cells #[.int .i64 xn,.int .i64 xt,.int .i64 xw,.int .i64 xg] 48):=⟨_,rfl⟩;have am:eU w wa:=by rw[ah]; exact eU.alloc _ _
 have af:wa.heap[w.heap.size]?=some (.cells #[.int .i64 xn,.int .i64 xt,.int .i64 xw,.int .i64 xg] 48 (0,0)):=by rw[ah]; exact uA _ _
 have d0:wa.cell? ⟨w.heap.size,0,none⟩=some (.int .i64 xn):=by rw[dh af]; rfl
 have d1:wa.cell? ⟨w.heap.size,1,none⟩=some (.int .i64 xt):=by rw[dh af]; rfl
 have d2:wa.cell? ⟨w.heap.size,2,none⟩=some (.int .i64 xw):=by rw[dh af]; rfl
 have d3:wa.cell? ⟨w.heap.size,3,none⟩=some (.int .i64 xg):=by rw[dh af]; rfl
 have HA:b0 _:=hA.same (.of am);have HB:b0 _:=hB.low (.of am);have hp:=fQ xn 12 wa n0 n1 (by omega) (by omega);obtain⟨k,hk⟩:∃k,k=pk xn 12:=⟨_,rfl⟩;rw[<-hk]at hp ae Y;have HX:b0 _:=And.intro aj Y;have HL:b0 _:=And.intro ad (And.intro ae (And.intro ak al));have HC:b0 _:=hC;obtain⟨sn,an⟩:∃sn:ByteArray,sn=⟨kN.toArray⟩:=⟨_,rfl⟩;obtain⟨st,ao⟩:∃st:ByteArray,st=⟨kT.toArray⟩:=⟨_,rfl⟩;rw[<-an,<-ao]at HC HX;have HT:b0 _:=And.intro an ao;clear hA hB hS aj Y am af hk ad ax ay ak al hC an ao;go_enter func43,ntmps43;go_wp2_with fail;rw[<-ah];refine hp.mono ?_;rintro e w1 ⟨rfl,rfl⟩;clear hp ah;go_wp2_with fail;refine(HC.out _).mono ?_;rintro e w1 ⟨rfl,ap⟩;have HA:b0 _:=HA.out.same (.of ap);have HB:b0 _:=HB.out.low (.of ap);clear ap d0 d1 d2 d3 HC;go_wp2_with fail;obtain⟨wb,ai⟩:∃wb,w1.alloc (.cells #[.string sn,.string st,.int .i64 kW,.int .i64 kG,.bool true] 36)=wb:=⟨_,rfl⟩;rw[ai];have aq:eU w1 wb:=by rw[<-ai]; exact eU.alloc _ _
 have ar:wb.heap[w1.heap.size]?=some (.cells #[.string sn,.string st,.int .i64 kW,.int .i64 kG,.bool true] 36 (0,0)):=by rw[<-ai]; exact uA _ _
 have au:b0 (¬F1 w1.heap.size/\¬F2 w1.heap.size):=⟨λhf=>absurd (HA.out.j.S5 _ hf) (bg _),λhf=>absurd (HA.out.j.Th _ hf) (bg _)⟩;have HA:b0 _:=HA.out.same (.of aq);have HB:b0 _:=HB.out.low (.of aq);have HE:b0 (∀y,kY wb y->y.cell? ⟨W,0,none⟩=some (.pointer (some ⟨b,0,none⟩))/\y.heap[w1.heap.size]?=some (.cells #[.string sn,.string st,.int .i64 kW,.int .i64 kG,.bool true] 36 (0,0))):=λy B=>⟨jA B (by rw[dh HB.out.blk,n4]; rfl),((qJ B).block _ (bq.1 ar).1).trans ar⟩
 have U:b0 (∀y,kY wb y->y.cell? ⟨W,0,none⟩=some (.pointer (some ⟨b,0,none⟩))/\y.cell? ⟨w1.heap.size,0,none⟩=some (.string sn)/\y.cell? ⟨w1.heap.size,1,none⟩=some (.string st)/\y.cell? ⟨w1.heap.size,2,none⟩=some (.int .i64 kW)/\y.cell? ⟨w1.heap.size,3,none⟩=some (.int .i64 kG)/\y.cell? ⟨w1.heap.size,4,none⟩=some (.bool true)):=λy B=>by
  obtain⟨h1,h2⟩:=HE.out y B;exact⟨h1,by rw[dh h2]; rfl,by rw[dh h2]; rfl,by rw[dh h2]; rfl,by rw[dh h2]; rfl,by rw[dh h2]; rfl⟩
 clear ai aq ar;refine gX (Sd:=λa y=>nh _ _ _ [12,13] a y) (last:=12) (tl:=[13]) (by kernel_rfl) ?_ (λa y h _=>h);refine dB 0 ?_ ?_<|dB 1 ?_ ?_<|dB 2 ?_ ?_<|dB 3 ?_ ?_ ?_
 any_goals(intro y B; have q0:=(U.out y B).1; unfold gh; go_simp; refine⟨eU.refl _,?_⟩; with_reducible rfl)
 go_simp;refine dB 4 ?_ ?_<|dB 5 ?_ ?_ ?_
 any_goals(intro y B; have q0:=(U.out y B).2.1; unfold gh; go_simp; refine⟨eU.refl _,?_⟩; with_reducible rfl)
 go_simp;refine dB 6 ?_ ?_<|dB 7 ?_ ?_ ?_
 any_goals(intro y B; have q0:=(U.out y B).2.2.1; unfold gh; go_simp; refine⟨eU.refl _,?_⟩; with_reducible rfl)
 go_simp;refine dB 8 ?_ ?_<|dB 9 ?_ ?_ ?_
 any_goals(intro y B; have q0:=(U.out y B).2.2.2.1; unfold gh; go_simp; refine⟨eU.refl _,?_⟩; with_reducible rfl)
 go_simp;refine dB 10 ?_ ?_<|dB 11 ?_ ?_ ?_
 any_goals(intro y B; have q0:=(U.out y B).2.2.2.2.1; unfold gh; go_simp; refine⟨eU.refl _,?_⟩; with_reducible rfl)
 go_simp;refine mF (by kernel_rfl) (λt=>xx (by kernel_rfl) (by kernel_rfl) _ _) ?_;intro y B;have a0:b0 _:=HA.out.same (qJ B);have a3:b0 _:=HB.out.low (qJ B);have av:b0 _:=(HE.out y B).2;clear B HA HB HE U;refine kO rfl rfl ?_;unfold gh;go_simp;refine⟨rfl,(a0.out.Rq sn st kW kG ?_ ?_).mono ?_⟩
 .rw[HT.out.1]; have:=HL.out.2.2.2; unfold b5; show kN.toArray.size<=_; simp; omega
 .rw[HT.out.2]; have:=HL.out.2.2.1; unfold b5; show kT.toArray.size<=_; simp; omega
 rintro e y2 ⟨rfl,aa,a4,aw⟩;have a5:b0 _:=a3.out.step aw;have a6:b0 _:=a4;have U:b0 (y2.heap[w1.heap.size]?=some (.cells #[.string sn,.string st,.int .i64 kW,.int .i64 kG,.bool true] 36 (0,0))):=(aw.block _ (bq.1 av.out).1 au.out.1 au.out.2).trans av.out;clear a4 aw a0 a3 av au;refine⟨_,rfl,?_⟩;refine kO rfl rfl ?_;unfold gh;go_simp;refine pa ?_;have ag:(jp buf ss sn.data.toList st.data.toList kW kG).1=0:=by rw[HT.out.1,HT.out.2]; exact HX.out.1.1
 have a7:b0 (Sk K' (jp buf ss sn.data.toList st.data.toList kW kG).2 ss):=by show Sk _ _ _; rw[HT.out.1,HT.out.2]; exact HX.out.1.2
 rw[ag];clear ag;generalize (jp buf ss sn.data.toList st.data.toList kW kG).2=a' at *;go_wp2_with fail
 have HM:b0 (∀y,kY y2 y->y.cell? ⟨w1.heap.size,0,none⟩=some (.string sn)/\y.cell? ⟨w1.heap.size,1,none⟩=some (.string st)/\y.cell? ⟨w1.heap.size,2,none⟩=some (.int .i64 kW)/\y.cell? ⟨w1.heap.size,3,none⟩=some (.int .i64 kG)/\y.cell? ⟨w1.heap.size,4,none⟩=some (.bool true)):=λy B=>by
  have h2:=((qJ B).block _ (bq.1 U.out).1).trans U.out;exact⟨by rw[dh h2]; rfl,by rw[dh h2]; rfl,by rw[dh h2]; rfl,by rw[dh h2]; rfl,by rw[dh h2]; rfl⟩
 refine gX (Sd:=λa y=>nh _ _ _ [6] a y) (last:=6) (tl:=[]) (by kernel_rfl) ?_ (λa y h _=>h);refine dB 0 ?_ ?_<|dB 1 ?_ ?_ ?_
 any_goals(intro y B; unfold gh; go_simp; refine⟨eU.refl _,?_⟩; with_reducible rfl)
 go_simp;refine dB 2 ?_ ?_ ?_;rotate_left
 .intro y B; obtain⟨q0,q1,q2,q3,q4⟩:=HM.out y B; unfold gh; go_simp; refine⟨eU.refl _,?_⟩; with_reducible rfl
 go_simp;refine dB 3 ?_ ?_<|dB 4 ?_ ?_ ?_
 any_goals(intro y B; unfold gh; go_simp; refine⟨eU.refl _,?_⟩; with_reducible rfl)
 go_simp;refine dB 5 ?_ ?_ ?_;rotate_left
 .intro y B; have q:=ae; have q2:(k:Int)<12:=by omega
  unfold gh; go_simp; refine⟨eU.refl _,?_⟩; with_reducible rfl
 go_simp;refine mF (by kernel_rfl) (λt=>CU (by kernel_rfl) _ _) ?_;intro y B;have a8:b0 _:=a6.out.same (qJ B);have O:b0 _:=a5.out.low (qJ B);clear B a6 a5 U HM;refine kO rfl rfl ?_;have ab:=λi (hi:i<5)=>OV (b:=b) HL.out.1 HL.out.2.1 hi;rw[bh 5 k]at ab;have c0:y.cell? ⟨W,1+k*5,none⟩=some (kR (K[k]'(by have:=HL.out; omega)) 0):=by rw[dh O.out.blk]; exact ab 0 (by omega)
 have c1:y.cell? ⟨W,1+k*5+1,none⟩=some (kR (K[k]'(by have:=HL.out; omega)) 1):=by rw[dh O.out.blk]; exact ab 1 (by omega)
 have c2:y.cell? ⟨W,1+k*5+2,none⟩=some (kR (K[k]'(by have:=HL.out; omega)) 2):=by rw[dh O.out.blk]; exact ab 2 (by omega)
 have c3:y.cell? ⟨W,1+k*5+3,none⟩=some (kR (K[k]'(by have:=HL.out; omega)) 3):=by rw[dh O.out.blk]; exact ab 3 (by omega)
 have c4:y.cell? ⟨W,1+k*5+4,none⟩=some (kR (K[k]'(by have:=HL.out; omega)) 4):=by rw[dh O.out.blk]; exact ab 4 (by omega)
 have f0:=dK O.out.blk;clear ab;unfold gh;go_simp;refine pa ?_;have S:=Jw (o:=1+k*5) O.out.blk (.string sn) (.string st) (.int .i64 kW) (.int .i64 kG) (.bool true);clear c0 c1 c2 c3 c4 f0;generalize ((((y.setCell ⟨W,1+k*5,none⟩ (.string sn)).setCell ⟨W,1+k*5+1,none⟩ (.string st)).setCell ⟨W,1+k*5+2,none⟩ (.int .i64 kW)).setCell ⟨W,1+k*5+3,none⟩ (.int .i64 kG)).setCell ⟨W,1+k*5+4,none⟩ (.bool true)=y5 at *
 have a9:b0 (∃aa buf',AW w0 y5 aa F2 b buf' ss ts/\WB w0 y5 aa F2 b W K'/\Sk K' buf' ss):=by
  refine⟨aa,_,a8.out.other O.out.a1 O.out.a2 O.out.hi (by rw[S.size]; exact bf _) S.os (λj _ hj=>S.other j hj),⟨?_,O.out.a1,O.out.a2,O.out.hi⟩,a7.out⟩;rw[S.blk,bh k 5,<-HX.out.2,HT.out.1,HT.out.2]
 clear S a8 O a7 HX HT HL;go_wp2;go_ret;exact⟨rfl,a9.out⟩
theorem O6(U:AW w0 w F1 F2 b buf ss ts)(Y:WB w0 w F1 F2 b W K)(hS:Sk K buf ss)(x:Raw)(hx:x.Ok) :
  b4 prog 43 #[.pointer (some ⟨W,0,none⟩),qQ x] w λe w'=>e=.returned (.bool true)/\∃O buf',AW w0 w' O F2 b buf' ss ts/\WB w0 w' O F2 b W (qw K x)/\Sk (qw K x) buf' ss:=by
 by_cases B:x.du<0
 .exact QG U Y hS x hx B
 .exact Qh U Y hS x hx B
end
end
section
open Go.Conc Go.RowKit Go.Maps
section
variable {w0 w w':World} {F1 F2:Nat->Prop} {b W:Nat} {buf:List dq} {ss:List (List dq)} {ts:List (List Wd)} {K:List nI}
theorem Hg(hA:AW w0 w F1 F2 b buf ss ts)(hB:WB w0 w F1 F2 b W K)(hS:Sk K buf ss)(c:Int)(c0 : -9223372036854775808<=c)(c1:c<=9223372036854775807)(hz:¬pk c 3=0) :
  b4 prog 44 #[.pointer (some ⟨W,0,none⟩),.int .i64 c] w λe w'=>e=.returned (.bool true)/\∃O buf' ss',AW w0 w' O F2 b buf' ss' ts/\WB w0 w' O F2 b W K/\Sk K buf' ss':=by
 have u0:w.cell? ⟨W,0,none⟩=some (.pointer (some ⟨b,0,none⟩)):=by rw[dh hB.blk,n4]; rfl
 have hp:=fQ c 3 w c0 c1 (by omega) (by omega);have ak:=lC c 3 (by omega);have hC:=hA.jf;have hF:=hA.flush;have B:=hS.flush;have ai:=hS.inv.qk;have ad:=B.1.inv.qk;generalize (eV buf ss).2.1=aj at *;generalize (eV buf ss).2.2=ae at *;generalize (eV buf ss).1=cd at *;obtain⟨B,U⟩:=B;generalize pk c 3=k at *;have al:¬(k:Int)=0:=by omega
 have HB:b0 _:=hB;have af:b0 _:=B;generalize hn:ss.length=n at *;generalize aa:ae.length=n2 at *;have ag:b0 _:=aa;clear hA hB hS B hn aa;go_enter func44,ntmps44;go_wp2_with fail;refine hC.mono ?_;rintro e w1 ⟨rfl,rfl⟩;clear hC;go_wp2_with fail;refine hp.mono ?_;rintro e w1 ⟨rfl,rfl⟩;clear hp;go_wp2_with fail;refine hF.mono ?_;rintro e y2 ⟨rfl,O,Y,ab⟩;have ac:b0 _:=HB.out.step ab;have ah:b0 _:=Y;have hC:=Y.jf;rw[ag.out]at hC;have u1:y2.cell? ⟨W,0,none⟩=some (.pointer (some ⟨b,0,none⟩)):=by rw[dh ac.out.blk,n4]; rfl
 clear hF Y ab HB u0;go_wp2_with fail;refine hC.mono ?_;rintro e w1 ⟨rfl,rfl⟩;clear hC;rcases U with⟨rfl,rfl|⟨rfl,rfl⟩⟩|⟨rfl|rfl,rfl⟩
 all_goals
  go_wp2;go_ret;exact⟨rfl,O,_,_,ah.out,ac.out,af.out⟩
theorem It(hA:AW w0 w F1 F2 b buf ss ts)(hB:WB w0 w F1 F2 b W K)(hS:Sk K buf ss)(c:Int)(c0 : -9223372036854775808<=c)(c1:c<=9223372036854775807)(hz:pk c 3=0) :
  b4 prog 44 #[.pointer (some ⟨W,0,none⟩),.int .i64 c] w λe w'=>e=.returned (.bool true)/\∃B buf' ss',AW w0 w' B F2 b buf' ss' ts/\WB w0 w' B F2 b W K/\Sk K buf' ss':=by
 have u0:w.cell? ⟨W,0,none⟩=some (.pointer (some ⟨b,0,none⟩)):=by rw[dh hB.blk,n4]; rfl
 have hp:=fQ c 3 w c0 c1 (by omega) (by omega);obtain⟨d,hd⟩:∃d,c.tdiv 3=d:=⟨_,rfl⟩
 have ab : -9223372036854775808<=d/\d<=9223372036854775807:=by
  by_cases h0:0<=c
  .have:=bv (a:=c) (b:=3) h0;omega
  .have:=bv (a:=-c) (b:=3) (by omega);rw[bx]at this;omega
 have al:IntKind.i64.wrap d=d:=by simp only[b3]; omega
 have HP:b0 (∀y,b4 prog 15 #[.int .i64 d,.int .i64 7] y λe w'=>e=.returned (.int .i64 (pk d 7:Nat))/\y=w'):=λy=>fQ d 7 y ab.1 ab.2 (by omega) (by omega);have hC:=hA.jf;have O:=hS.merge (pk d 7:Nat);have HF:b0 (∀y,o9 w y->b4 prog 39 #[.pointer (some ⟨b,0,none⟩),.int .i64 (pk d 7:Nat)] y λe w'=>e=.returned (.int .i64 (eP ss (pk d 7:Nat)).1)/\∃B,AW w0 w' B F2 b buf (eP ss (pk d 7:Nat)).2 ts/\St y w' F1 F2 B F2):=λy U=>(hA.same U).merge _;have ak:=hS.inv.qk;have af:=O.1.inv.qk;generalize (eP ss (pk d 7:Nat)).2=ag at *;generalize (eP ss (pk d 7:Nat)).1=cd at *;obtain⟨O,Y⟩:=O;generalize ((pk d 7:Nat):Int)=dk at *;rw[hz]at hp;have HB:b0 _:=hB;have ah:b0 _:=O;generalize hn:ss.length=n at *;generalize ac:ag.length=n2 at *;have ai:b0 _:=ac;clear hA hB hS O hn ac hz;go_enter func44,ntmps44;go_wp2_with fail;refine hC.mono ?_;rintro e w1 ⟨rfl,rfl⟩;clear hC;go_wp2_with fail;refine hp.mono ?_;rintro e w1 ⟨rfl,rfl⟩;clear hp;go_wp2_with fail;refine gX (Sd:=λa y=>nh _ _ _ [7,8] a y) (last:=7) (tl:=[8]) (by kernel_rfl) ?_ (λa y h _=>h);refine dB 0 ?_ ?_<|dB 1 ?_ ?_<|dB 2 ?_ ?_<|dB 3 ?_ ?_<|dB 4 ?_ ?_ ?_
 any_goals(intro y U; have q0:=jA U u0; unfold gh; go_simp; refine⟨eU.refl _,?_⟩; with_reducible rfl)
 go_simp;refine dB 5 ?_ ?_ ?_;rotate_left
 .intro y U; unfold gh; go_simp; refine⟨eU.refl _,?_⟩; with_reducible rfl
 go_simp;refine dB 6 ?_ ?_ ?_;rotate_left
 .intro y U; unfold gh; go_simp; refine⟨rfl,(HP.out y).mono ?_⟩; rintro e y2 ⟨rfl,rfl⟩; refine⟨_,rfl,eU.refl _,?_⟩; with_reducible rfl
 go_simp;refine mF (by kernel_rfl) (λt=>xx (by kernel_rfl) (by kernel_rfl) _ _) ?_;intro y U;have hF:=HF.out y (qJ U);have HB:b0 _:=HB.out.low (qJ U);clear U u0 HF HP;refine kO rfl rfl ?_;unfold gh;go_simp;refine⟨rfl,hF.mono ?_⟩;rintro e y2 ⟨rfl,B,aa,ad⟩;have ae:b0 _:=HB.out.step ad;have aj:b0 _:=aa;have hC:=aa.jf;rw[ai.out]at hC;have u1:y2.cell? ⟨W,0,none⟩=some (.pointer (some ⟨b,0,none⟩)):=by rw[dh ae.out.blk,n4]; rfl
 clear hF aa ad HB;refine⟨_,rfl,?_⟩;refine kO rfl rfl ?_;unfold gh;go_simp;refine pa ?_;go_wp2_with fail;refine hC.mono ?_;rintro e w1 ⟨rfl,rfl⟩;clear hC;rcases Y with⟨rfl,rfl|rfl⟩|⟨rfl,rfl⟩
 all_goals
  go_wp2;go_ret;exact⟨rfl,B,_,_,aj.out,ae.out,ah.out⟩
theorem Kr(O:AW w0 w F1 F2 b buf ss ts)(U:WB w0 w F1 F2 b W K)(Y:Sk K buf ss)(c:Int)(c0 : -9223372036854775808<=c)(c1:c<=9223372036854775807) :
  b4 prog 44 #[.pointer (some ⟨W,0,none⟩),.int .i64 c] w λe w'=>e=.returned (.bool true)/\∃B buf' ss',AW w0 w' B F2 b buf' ss' ts/\WB w0 w' B F2 b W K/\Sk K buf' ss':=by
 by_cases hz:pk c 3=0
 .exact It O U Y c c0 c1 hz
 .exact Hg O U Y c c0 c1 hz
end
end
section
open Go.Conc Go.RowKit Go.Maps
variable {ops:Array Oper} {rest:List Nat} {ls:List Raw} {o:Oper} {la:Option Addr} {w y:World}
theorem Gl:Tryz.f21.name≠ "runtime.NumGoroutine":=by
 decide
theorem AW.base{wl U:World}{F1 F2:Nat->Prop}{b:Nat}{buf:List dq}{ss:List (List dq)}{ts:List (List Wd)}(h:AW U w F1 F2 b buf ss ts)(B:o9 wl U):AW wl w F1 F2 b buf ss ts:=
 ⟨h.j,λk O=>bd B.size (h.TU k O),λk O=>bd B.size (h.PT k O),B.trans h.low⟩
section
variable {Z:iS prog} {W0:World} {Mp:Nat->Prop} {fn:b6} {tm:Array Value} {os:List OF} {wl:World} {k:List Item}
theorem E0{i:Nat}(hi:ops[i]?=some o)(hW:WT wl)(h5:5<=wl.heap.size)
  (hn:∀(w2:World)(F1 F2:Nat->Prop)(b W:Nat),AW wl w2 F1 F2 b [] [] []->WB wl w2 F1 F2 b W (ba 12 lN)->dn (fi Z W0 Mp) (⟨fn,eI o.dst tm (.pointer (some ⟨W,0,none⟩)),.inRegion ops rest::k⟩::os) w2 []) :
  dn (fi Z W0 Mp) (⟨21,#[bI,bI,bI,bI,bI,bI,bI,bI,bI,bI,bI,bI,bI,bI],[.code (dT Tryz.f21)]⟩::⟨fn,tm,.inRegion ops (i::rest)::k⟩::os) wl []:=by
 have HN:b0 _:=And.intro hW (And.intro h5 hn);clear hW h5 hn;show dn _ (⟨_,_,[.code (.seq (.region 0 _ false) (.seq (.region 1 _ false) (.seq (.region 2 _ false) (.seq (.seq (.region 3 _ false) (.cond _ _ .skip)) (.seq (.region 5 _ false) .ret)))))]⟩::_) _ _;refine dn.sr λU B=>?_
 (refine dG ?_; go_simp);refine dn.ie B ?_;clear B U;refine dn.sr λU B=>?_;refine dn.qA (#[bI,bI,bI,bI,bI,bI,bI,bI,bI,bI,bI,bI,bI,bI,bI,bI,bI,bI,bI,bI,bI,bI,bI,bI,bI,bI,bI,bI,bI,bI,bI,bI,bI,bI,bI,bI,bI,bI,bI,bI,bI,bI,bI,bI,bI,bI,bI,bI,bI,bI,bI,bI,bI,bI,bI,bI,bI,bI,bI,bI,bI,bI,bI,bI,bI,bI,bI,bI,bI,bI,bI,bI,bI,bI,bI,bI,bI,bI,bI,bI,bI,bI,bI,bI,bI,bI,bI,bI,bI,bI,bI,bI,bI,bI,bI,bI,bI,bI,bI,bI,bI,bI,bI,bI,bI,bI,bI,bI,bI,bI,bI,bI,bI,bI,bI,bI,bI,bI,bI,bI,bI,bI,bI,bI,bI,bI,bI,bI,bI,bI,bI,bI,bI,bI,bI,bI,bI,bI,bI,bI,bI,bI,bI,bI,bI,bI,bI,bI,bI,bI,bI,bI,bI,bI]:Array Value) (i:=0) (gK:=f32) (c:=dT f32) rfl rfl func32 (by kernel_rfl) H7 rfl (by simp[dP]) (by kernel_rfl) ?_;refine Ig rfl HN.out.1 HN.out.2.1 λw1 O=>?_;have aa:b0 (o9 _ _):=O;clear O;rw[fF];go_simp
 (refine dG ?_; go_simp);refine dn.ie B ?_;clear B U;refine fx λU B y0 Y=>?_;have C:=Tp y0;have HL:b0 (o9 wl y0):=aa.out.trans Y;clear Y;go_wp2_with fail;refine C.mono ?_;clear C;rintro e w2 ⟨b,F1,F2,rfl,hA,hb⟩;have HA:b0 (AW wl w2 F1 F2 b [] [] []):=hA.base HL.out;clear hA hb;go_wp2;refine eA B ?_;clear B U;refine dn.seq (fx λU B y1 Y=>?_);have HA:b0 _:=HA.out.same Y;clear Y;go_wp2;refine eA B ?_;clear B U;refine dn.lY trivial rfl (dn.skip (fx λU B y2 Y=>?_));have HA:b0 _:=HA.out.same Y;clear Y;go_wp2;refine eA B ?_;clear B U;refine dn.back (v:=.pointer (some ⟨y2.heap.size,0,none⟩)) (.inr ⟨_,rfl⟩) func21 hi (λτ=>by simp[b8,results21,go_sem]) ?_;refine HN.out.2.2 _ F1 F2 b _ (HA.out.same (.of (eU.alloc _ _))) ⟨(uA _ _).trans ?_,λhf=>absurd (HA.out.j.S5 _ hf) (bg _),λhf=>absurd (HA.out.j.Th _ hf) (bg _),HA.out.low.size⟩;kernel_rfl
end
structure sw(w:World)(la:Option Addr)(ls:List Raw):Prop where
 cell:∀j(h:j<ls.length),∃b off,la=some ⟨b,off,none⟩/\w.cell? ⟨b,off+j*4,none⟩=some (.int .i64 ls[j].name)/\w.cell? ⟨b,off+j*4+1,none⟩=some (.int .i64 ls[j].text)/\w.cell? ⟨b,off+j*4+2,none⟩=some (.int .i64 ls[j].du)/\w.cell? ⟨b,off+j*4+3,none⟩=some (.int .i64 ls[j].dD)
 ok:∀x∈ls,x.Ok
theorem rk{a:Addr}{v:Value}(B:o9 w y)(h:w.cell? a=some v):y.cell? a=some v:=by
 rw[<-h];exact bG (B.block _ (bF w a h))
theorem sw.low(h:sw w la ls)(B:o9 w y):sw y la ls:=⟨λj O=>by
 obtain⟨b,off,e,U,Y,h3,h4⟩:=h.cell j O
 exact⟨b,off,e,rk B U,rk B Y,rk B h3,rk B h4⟩,h.ok⟩
theorem Ah.low{ls:List Int}(h:Ah w la ls)(B:o9 w y):Ah y la ls:=⟨λj O=>by
 obtain⟨b,off,e,U⟩:=h.cell j O
 exact⟨b,off,e,rk B U⟩,h.lo,h.hi⟩
def lP(ls:List Raw)(c:Nat):List nI:=(ls.take c).foldl qw (ba 12 lN)
def qg(ls:List Raw):List nI:=lP ls 80
theorem FR(ls:List Raw)(c:Nat)(h:c<ls.length):lP ls (c+1)=qw (lP ls c) ls[c]:=by
 unfold lP;rw[List.take_succ_eq_append_getElem h,List.foldl_append];rfl
theorem ES:Tryz.f14.name≠ "runtime.NumGoroutine":=by
 decide
section
variable {Z:iS prog} {W0:World} {Mp:Nat->Prop} {fn:b6} {tm:Array Value} {os:List OF} {wl:World} {k:List Item}
theorem Ey{i:Nat}{ta:Option Addr}{rs:List Int}{lc rc:Nat}(hi:ops[i]?=some o)(hW:WT wl)(h5:5<=wl.heap.size)(hL:sw wl la ls)(hT:Ah wl ta rs)(ae:ls.length<=lc)(af:rs.length<=rc)(ag:ls.length<=9223372036854775807)(ah:rs.length<=9223372036854775807)
  (hn:∀(w2:World)(F1 F2:Nat->Prop)(b W:Nat)(buf:List dq)(ss:List (List dq)),AW wl w2 F1 F2 b buf ss []->WB wl w2 F1 F2 b W (qg ls)->Sk (qg ls) buf ss->dn (fi Z W0 Mp) (⟨fn,eI o.dst tm (.pointer (some ⟨W,0,none⟩)),.inRegion ops rest::k⟩::os) w2 []) :
  dn (fi Z W0 Mp) (⟨14,#[.slice la ls.length lc,.slice ta rs.length rc,bI,bI,bI,bI,bI,bI,bI,bI,bI,bI,bI,bI,bI,bI,bI,bI,bI,bI,bI,bI,bI,bI,bI,bI,bI,bI,bI,bI,bI,bI,bI,bI,bI,bI,bI,bI,bI,bI,bI,bI,bI,bI,bI,bI,bI,bI,bI,bI,bI],[.code (dT Tryz.f14)]⟩::⟨fn,tm,.inRegion ops (i::rest)::k⟩::os) wl []:=by
 have HN:b0 _:=And.intro hW (And.intro h5 hn);have HR:b0 _:=And.intro hL (And.intro hT (And.intro ae (And.intro af (And.intro ag ah))));clear hW h5 hn hL hT ae af ag ah;show dn _ (⟨_,_,[.code (.seq (.region 0 _ false) (.seq (.region 1 _ false) (.seq (.seq (.region 2 _ false) (.cond _ _ .skip)) (.seq (.seq (.region 4 _ false) (.block 0 _)) (.seq (.region 14 _ false) .ret)))))]⟩::_) _ _;refine dn.sr λkk B=>?_
 (refine dG ?_; go_simp);refine dn.ie B ?_;clear B kk;refine dn.sr λkk B=>?_;refine dn.qA (#[bI,bI,bI,bI,bI,bI,bI,bI,bI,bI,bI,bI,bI,bI]:Array Value) (i:=0) (gK:=Tryz.f21) (c:=dT Tryz.f21) rfl rfl func21 (by kernel_rfl) Gl rfl (by simp[dP]) (by kernel_rfl) ?_;refine E0 rfl HN.out.1 HN.out.2.1 λw1 F1 F2 b W O U=>?_;have HA:b0 (AW _ _ _ _ _ _ _ _):=O;have HB:b0 (WB _ _ _ _ _ _ _):=U;clear O U;rw[fF];go_simp
 (refine dG ?_; go_simp);refine dn.ie B ?_;clear B kk;refine dn.seq (fx λkk B y1 hl=>?_);have HA:b0 _:=HA.out.same hl;have HB:b0 _:=HB.out.low hl;clear hl;go_wp2;refine eA B ?_;clear B kk;refine dn.lY trivial rfl (dn.skip (fx λkk B y2 hl=>?_));have HA:b0 _:=HA.out.same hl;have HB:b0 _:=HB.out.low hl;clear hl;have ae:=HR.out.2.2.1;have af:=HR.out.2.2.2.1;have ag:=HR.out.2.2.2.2.1;have ah:=HR.out.2.2.2.2.2;go_wp2;go_loopw [6] (λi wr=>∃(c:Nat)(Y:Nat->Prop)(buf:List dq)(ss:List (List dq)),c<=80/\c<=ls.length/\i=.int .i64 (c:Nat)/\AW wl wr Y F2 b buf ss []/\WB wl wr Y F2 b W (lP ls c)/\Sk (lP ls c) buf ss) (λi _=>ls.length-(intOf i).toNat)
 case atStart=>exact⟨0,F1,[],[],bi _,bi _,rfl,HA.out,HB.out,Sk.new⟩
 case round=>
  obtain⟨c,Y,buf,ss,ar,jQ,rfl,O,U,hS⟩:=hrel;have aa:b0 _:=O;have ac:b0 _:=U;have ad:b0 _:=hS;clear O U hS HA HB;by_cases h1:c<ls.length
  .have ak:(c:Int)<(ls.length:Int):=by omega
   by_cases h2:c<80
   .have al:(c:Int)<80:=by omega
    obtain⟨lb,lo,rfl,c0,c1,c2,c3⟩:=(HR.out.1.low aa.out.low).cell c h1;have C:=O6 aa.out ac.out ad.out ls[c] (HR.out.1.ok _ (aP h1));rw[<-FR ls c h1]at C;unfold qQ at C;generalize ls[c].name=xn at *;generalize ls[c].text=xt at *;generalize ls[c].du=xw at *;generalize ls[c].dD=xg at *;clear aa ac ad;go_wp2_with fail;refine C.mono ?_;clear C;rintro e w2 ⟨rfl,F3,buf2,O,U,hS⟩;have HA3:b0 _:=O;have HB3:b0 _:=U;have HS3:b0 _:=hS;clear O U hS c0 c1 c2 c3;by_cases h3:c<rs.length
    .have am:(c:Int)<(rs.length:Int):=by omega
     obtain⟨tb,au,rfl,d0⟩:=(HR.out.2.1.low HA3.out.low).cell c h3;have an:=HR.out.2.1.lo rs[c] (aP h3);have ao:=HR.out.2.1.hi rs[c] (aP h3);generalize rs[c]=x at *;have C:b4 prog 15 #[.int .i64 x,.int .i64 4] w2 λe w'=>e=.returned (.int .i64 (pk x 4:Nat))/\w2=w':=fQ x 4 w2 an ao (by omega) (by omega);by_cases hz:pk x 4=0
     .rw[hz]at C;obtain⟨d,hd⟩:∃d,x.tdiv 4=d:=⟨_,rfl⟩
      have ai : -9223372036854775808<=d/\d<=9223372036854775807:=by
       by_cases h0:0<=x
       .have:=bv (a:=x) (b:=4) h0;omega
       .have:=bv (a:=-x) (b:=4) (by omega);rw[bx]at this;omega
      have ap:IntKind.i64.wrap d=d:=by simp only[b3]; omega
      have D:=Kr HA3.out HB3.out HS3.out d ai.1 ai.2;clear hz HA3 HB3 HS3 ai;go_wp2_with fail;refine C.mono ?_;clear C;rintro e w3 ⟨rfl,rfl⟩;go_wp2_with fail;refine D.mono ?_;clear D;rintro e w3 ⟨rfl,F4,buf3,ss3,O,U,hS⟩;have HA4:b0 _:=O;have HB4:b0 _:=U;have HS4:b0 _:=hS;clear O U hS d0 hd ap;go_wp2;go_roundw
      case rel=>exact⟨c+1,F4,buf3,ss3,by omega,by omega,by go_num,HA4.out,HB4.out,HS4.out⟩
      case measure=>simp[intOf]; omega
     .generalize pk x 4=pz at *;have av:¬(pz:Int)=0:=by omega
      go_wp2_with fail;refine C.mono ?_;clear C;rintro e w3 ⟨rfl,rfl⟩;go_wp2;go_roundw
      case rel=>exact⟨c+1,F3,buf2,ss,by omega,by omega,by go_num,HA3.out,HB3.out,HS3.out⟩
      case measure=>simp[intOf]; omega
    .have am:¬(c:Int)<(rs.length:Int):=by omega
     go_wp2;go_roundw
     case rel=>exact⟨c+1,F3,buf2,ss,by omega,by omega,by go_num,HA3.out,HB3.out,HS3.out⟩
     case measure=>simp[intOf]; omega
   .have al:¬(c:Int)<80:=by omega
    have ab:b0 (lP ls c=qg ls):=by
     show lP ls c=lP ls 80;rw[show c=80 by omega]
    go_wp2;refine eA B ?_;refine dn.seq ?_;refine k9 λaq aj=>?_;refine dn.region ?_
    (iterate 2 (refine dG ?_; go_simp));refine dn.inRegion ?_;rw[aj.out];refine dn.back (v:=.pointer (some ⟨W,0,none⟩)) (.inr ⟨_,rfl⟩) func14 hi (λτ=>by simp[b8,results14,go_sem]) ?_;exact HN.out.2.2 _ Y F2 b W buf ss aa.out (ab.out▸ac.out) (ab.out▸ad.out)
  .have ak:¬(c:Int)<(ls.length:Int):=by omega
   have ab:b0 (lP ls c=qg ls):=by
    show lP ls c=lP ls 80;unfold lP;rw[aT (by omega),aT (by omega)]
   go_wp2;refine eA B ?_;refine dn.seq ?_;refine k9 λaq aj=>?_;refine dn.region ?_
   (iterate 2 (refine dG ?_; go_simp));refine dn.inRegion ?_;rw[aj.out];refine dn.back (v:=.pointer (some ⟨W,0,none⟩)) (.inr ⟨_,rfl⟩) func14 hi (λτ=>by simp[b8,results14,go_sem]) ?_;exact HN.out.2.2 _ Y F2 b W buf ss aa.out (ab.out▸ac.out) (ab.out▸ad.out)
end
end
section
open Go.Conc Go.RowKit Go.Maps
variable {ss:List (List dq)} {buf:List dq} {K:List nI}
def I0(K:List nI):List dq:=(K.filter λk=>k.there).map Ct
theorem CX(h:Sk K buf ss):((I0 K).map dq.name).Nodup:=by
 unfold I0;rw[List.map_map];show(List.map ..).Pairwise _;rw[aY,List.pairwise_filter,List.pairwise_iff_getElem];intro i j hi B U Y h2 e;have O:K[i].name=K[j].name:=e;rw[(h.wQ i hi Y).1,(h.wQ j B h2).1]at O;have:=Hs (by rw[<-h.len]; exact hi) (by rw[<-h.len]; exact B) O;omega
theorem MK{e:dq}:e∈I0 K↔∃i,∃h:i<K.length,K[i].there=true/\e=Ct K[i]:=by
 unfold I0;rw[bc];constructor
 .rintro⟨a,O,rfl⟩;obtain⟨B,U⟩:=aL.1 O;obtain⟨i,hi,rfl⟩:=List.mem_iff_getElem.1 B;exact⟨i,hi,U,rfl⟩
 .rintro⟨i,hi,B,rfl⟩;exact⟨K[i],aL.2 ⟨aP hi,B⟩,rfl⟩
theorem rb{l:List dq}(h:(l.map dq.name).Nodup):l.Nodup:=by
 unfold List.Nodup at h⊢;rw[aY]at h;exact h.imp λh e=>h (by rw[e])
theorem Sk.perm(h:Sk K buf ss):(eO ss buf).Perm (I0 K):=by
 rw[List.perm_ext_iff_of_nodup (rb (rm h.inv)) (rb (CX h))];intro e;rw[h.there e,MK]
end
section
open Go.Conc Go.RowKit Go.Maps
variable {xs:List Value} {c n s:Nat} {a:Option Addr} {w:World}
theorem ql.low{w':World}{v:Value}(h:ql w s v n xs)(U:o9 w w'):ql w' s v n xs:=h.later λa u B=>by
 have O:=bF w a B;simp only[bH]at B⊢;rw[U.block _ O];exact B
theorem ql.str{xs:List Wd}(h:ql w 1 (.slice a xs.length c) xs.length (dp xs))(j:Nat)(B:j<xs.length):∃b off,a=some ⟨b,off,none⟩/\w.cell? ⟨b,off+j,none⟩=some (.string ⟨xs[j].toArray⟩):=by
 obtain⟨U,Y,e,_,_,_,O⟩:=h;obtain⟨rfl,_,rfl⟩:=e;exact O j _ (zU xs j B)
theorem ql.cap(h:ql w s (.slice a n c) n xs):n<=c/\c<=b5:=by
 obtain⟨U,Y,e,B,O,_⟩:=h;obtain⟨_,_,rfl⟩:=e;exact⟨B,O⟩
end
section
open Go.Conc Go.RowKit Go.Maps
theorem EP{q:ByteArray}(B:q.size<=24)(O:∀c∈q.data.toList,ow c=true):dU q.data.toList=true:=by
 unfold dU;simp only[b',decide_eq_true_eq,aR];exact⟨B,O⟩
theorem uT{q:Wd}(h:dU q=true):q.length<=24/\∀c∈q,ow c=true:=by
 unfold dU at h;simp only[b',decide_eq_true_eq,aR]at h;exact h
theorem ext_mem{s:ByteArray}{a b:Nat}{c:UInt8}(h:c∈(s.extract a b).data.toList):c∈s.data.toList:=by
 have e:(s.extract a b).data.toList=(s.data.toList.drop a).take (b-a):=by simp[bD]
 rw[e]at h;exact List.mem_of_mem_drop (List.mem_of_mem_take h)
theorem KR(c fr too ch:Int)(w:World)(c0 : -9223372036854775808<=c)(c1:c<=9223372036854775807)(f0 : -9223372036854775808<=fr)(f1:fr<=9223372036854775807)(t0 : -9223372036854775808<=too)(t1:too<=9223372036854775807)(h0 : -9223372036854775808<=ch)(h1:ch<=9223372036854775807) :
  b4 prog 16 #[.int .i64 c,.int .i64 fr,.int .i64 too,.int .i64 ch] w λe w'=>∃q:ByteArray,e=.returned (.string q)/\dU q.data.toList=true/\Below w.heap.size w w':=by
 have C:=Bv c w c0 c1;obtain⟨x1,_,x3⟩:=NH (lC c 258 (by omega));obtain⟨s,hs⟩:∃s:ByteArray,s=⟨(AB (pk c 258)).toArray⟩:=⟨_,rfl⟩;have ai:s.size<=20:=by rw[hs]; show(AB (pk c 258)).toArray.size<=20; simpa using x3
 have ag:b0 (∀d∈s.data.toList,ow d=true):=by rw[hs]; exact(uT x1).2
 rw[<-hs]at C;clear hs x1 x3;have A:=λy=>fQ fr (s.size+1) y f0 f1 (by omega) (by omega);have ha:=lC fr (s.size+1) (by omega);generalize pk fr (s.size+1)=a at *;have B:=λy=>fQ too (s.size-a+1) y t0 t1 (by omega) (by omega);have hb:=lC too (s.size-a+1) (by omega);generalize pk too (s.size-a+1)=b at *;have e1:((s.size+1:Nat):Int)=(s.size:Int)+1:=by omega
 have e2:((s.size-a+1:Nat):Int)=(s.size:Int)-(a:Int)+1:=by omega
 rw[e1]at A;rw[e2]at B;have aa:b0 _:=A;have ab:b0 _:=B;clear A B e1 e2;have ah:min (a+b) s.size=a+b:=by omega
 have HQ:b0 (dU (s.extract a (a+b)).data.toList=true):=EP (by rw[bA]; omega) λd U=>ag.out d (ext_mem U);by_cases hz:ch.tmod 3=0
 .by_cases ae:0<b
  .have af:0<(b:Int):=by omega
   obtain⟨d,U⟩:∃d,ch.tdiv 3=d:=⟨_,rfl⟩
   have ad : -9223372036854775808<=d/\d<=9223372036854775807:=by
    by_cases h0:0<=ch
    .have:=bv (a:=ch) (b:=3) h0;omega
    .have:=bv (a:=-ch) (b:=3) (by omega);rw[bx]at this;omega
   have aj:IntKind.i64.wrap d=d:=by simp only[b3]; omega
   have D:=λy=>fQ d b y ad.1 ad.2 ae (by omega);have hk:=lC d b ae;generalize pk d b=k at *;have HD:b0 _:=D;clear D ad;go_enter func16,ntmps16;go_wp2_with fail;refine C.mono ?_;clear C;rintro e w1 ⟨rfl,O⟩;have Y:b0 (Below _ _ _):=O;clear O;go_wp2_with fail;refine(aa.out w1).mono ?_;rintro e w2 ⟨rfl,rfl⟩;go_wp2_with fail;refine(ab.out w1).mono ?_;rintro e w2 ⟨rfl,rfl⟩;go_wp2_with fail;refine(HD.out w1).mono ?_;rintro e w2 ⟨rfl,rfl⟩;obtain⟨s2,ac⟩:∃s2,s2=s.extract a (a+b):=⟨_,rfl⟩;have ak:s2.size=b:=by rw[ac,bA]; omega
   rw[<-ac];rw[<-ac]at HQ;clear ac HD aa ab;have al:(k:Int)+1<=(b:Int):=by omega
   have am:min k s2.size=k:=by omega
   have an:min k b=k:=by omega
   go_wp2;go_quiet (fail);go_wp2;go_ret;refine⟨_,rfl,EP ?_ λd U=>?_,gV Y.out _⟩
   .simp only[bB,bA];show _+1+_<=24;omega
   .simp only[bE,Array.toList_append,List.mem_append]at U;rcases U with(U|U)|U
    .exact(uT HQ.out).2 d (ext_mem U)
    .have:d=88:=by simpa using U
     rw[this]; decide
    .exact(uT HQ.out).2 d (ext_mem U)
  .have af:¬0<(b:Int):=by omega
   go_enter func16,ntmps16;go_wp2_with fail;refine C.mono ?_;clear C;rintro e w1 ⟨rfl,O⟩;have Y:b0 (Below _ _ _):=O;clear O;go_wp2_with fail;refine(aa.out w1).mono ?_;rintro e w2 ⟨rfl,rfl⟩;go_wp2_with fail;refine(ab.out w1).mono ?_;rintro e w2 ⟨rfl,rfl⟩;go_wp2;go_ret;exact⟨_,rfl,HQ.out,Y.out⟩
 .go_enter func16,ntmps16;go_wp2_with fail;refine C.mono ?_;clear C;rintro e w1 ⟨rfl,O⟩;have Y:b0 (Below _ _ _):=O;clear O;go_wp2_with fail;refine(aa.out w1).mono ?_;rintro e w2 ⟨rfl,rfl⟩;go_wp2_with fail;refine(ab.out w1).mono ?_;rintro e w2 ⟨rfl,rfl⟩;go_wp2;go_ret;exact⟨_,rfl,HQ.out,Y.out⟩
end
section
open Go.Conc Go.RowKit Go.Maps
def nL(w0 w:World)(b W:Nat)(K:List nI):Prop:=5<=w0.heap.size/\∃(F1 F2:Nat->Prop)(buf:List dq)(ss:List (List dq)),AW w0 w F1 F2 b buf ss []/\WB w0 w F1 F2 b W K/\Sk K buf ss
theorem nL.low{w0 w w':World}{b W:Nat}{K:List nI}(h:nL w0 w b W K)(B:o9 w w'):nL w0 w' b W K:=by
 obtain⟨O,F1,F2,buf,ss,U,Y,h3⟩:=h;exact⟨O,F1,F2,buf,ss,U.same B,Y.low B,h3⟩
theorem nL.cell{w0 w:World}{b W:Nat}{K:List nI}(h:nL w0 w b W K):w.cell? ⟨W,0,none⟩=some (.pointer (some ⟨b,0,none⟩)):=by
 obtain⟨O,F1,F2,buf,ss,U,B,Y⟩:=h;rw[dh B.blk,n4];rfl
def fh(K:List nI)(mode:Nat)(qb:ByteArray)(dD most:Nat):List Wd:=(tz (I0 K) mode qb.data.toList dD most).1
def wj(w:World)(v:Value)(xs:List Wd):Prop:=ql w 1 v xs.length (dp xs)
theorem wj.low{w w':World}{v:Value}{xs:List Wd}(h:wj w v xs)(B:o9 w w'):wj w' v xs:=ql.low h B
structure RZ(w0 w:World)(b W:Nat)(K:List nI)(n:Nat)(u:Value)(xs:List Wd):Prop where
 x:5<=w0.heap.size/\∃(F1 F2:Nat->Prop)(buf:List dq)(ss:List (List dq)),AW w0 w F1 F2 b buf ss []/\WB w0 w F1 F2 b W K/\Sk K buf ss/\ss.length=n/\Kept w F1 F2 u xs
theorem RZ.says{w0 w:World}{b W n:Nat}{K:List nI}{u:Value}{xs:List Wd}(h:RZ w0 w b W K n u xs):wj w u xs:=by
 obtain⟨O,F1,F2,buf,ss,U,Y,h3,h4,B⟩:=h;exact ql.jl B.1
theorem BC(l:List dq)(ok:Nat->Bool):∀(n:Nat)(t:List Nat),(pD l ok n t).length<=n
 |0,_=>by simp[pD]
 |n+1,t=>by
  unfold pD;split
  .simp
  .exact Nat.succ_le_succ (BC l ok n _)
theorem j5(K:List nI)(mode:Nat)(qb:ByteArray)(dD most:Nat):(fh K mode qb dD most).length<=most:=by
 unfold fh tz;split
 .simp
 .split
  .simp only[aZ];exact BC ..
  .simp
section
variable {Z:iS prog} {W0:World} {Mp:Nat->Prop} {fn:b6} {tm:Array Value} {os:List OF} {wl w0:World} {k:List Item} {b W:Nat} {K:List nI} {ops:Array Oper} {i:Nat} {rest:List Nat} {o:Oper} {xs:Array Operand} {tys:Array TypeId}
theorem nL.Uw(mode dD most:Nat)(qb:ByteArray)(h:nL w0 wl b W K)(B:kD wl)(hq:dU qb.data.toList=true)
  (hn:∀(w2:World)(u:Value)(n:Nat),o9 wl w2->RZ w0 w2 b W K n u (fh K mode qb dD most)->dn (fi Z W0 Mp) (⟨fn,eI o.dst tm (.tuple #[u,.int .i64 0]),.inRegion ops rest::k⟩::os) w2 [])
  (hi:ops[i]?=some o:=by rfl) (Y:bp o (b7 ops tm)=true:=by rfl) (ho:o.op=.call {callee:=.value (.func 17),args:=xs,argTypes:=tys}:=by rfl) (aa:∀x∈xs.toList,dP (fi Z W0 Mp).fu (fi Z W0 Mp).gl x:=by simp[dP,Plain])
  (ha:xs.map (iJ tm)=#[.pointer (some ⟨b,0,none⟩),.int .i64 (mode:Int),.string qb,.int .i64 (dD:Int),.int .i64 (most:Int)]:=by kernel_rfl) (hm:mode<=3:=by omega) (ht:dD<=255:=by omega) (O:1<=most:=by omega) (U:most<=20:=by omega) :
  dn (fi Z W0 Mp) (⟨fn,tm,.inRegion ops (i::rest)::k⟩::os) wl []:=by
 obtain⟨h5,F1,F2,buf,ss,h1,h2,h3⟩:=h;refine h1.R3 h5 B hq (λw2 u L k1 hl hp hs hk=>hn w2 u _ hl ⟨h5,F1,F2,buf,ss,k1,h2.low hl,h3,rfl,?_⟩) hi Y ho aa ha hm ht O U;unfold fh;rw[<-vX (CX h3) (λe he=>by obtain⟨i,_,_,rfl⟩:=MK.1 he; rfl) hm ht O U hq (hp.trans (h3.perm.filter _)) hs];exact hk
theorem nL.ask(mode dD most:Nat)(qb:ByteArray)(h:nL w0 wl b W K)(B:kD wl)(hq:dU qb.data.toList=true)
  (hn:∀(w2:World)(u:Value),o9 wl w2->wj w2 u (fh K mode qb dD most)->dn (fi Z W0 Mp) (⟨fn,eI o.dst tm (.tuple #[u,.int .i64 0]),.inRegion ops rest::k⟩::os) w2 [])
  (hi:ops[i]?=some o:=by rfl) (O:bp o (b7 ops tm)=true:=by rfl) (ho:o.op=.call {callee:=.value (.func 17),args:=xs,argTypes:=tys}:=by rfl) (U:∀x∈xs.toList,dP (fi Z W0 Mp).fu (fi Z W0 Mp).gl x:=by simp[dP,Plain])
  (ha:xs.map (iJ tm)=#[.pointer (some ⟨b,0,none⟩),.int .i64 (mode:Int),.string qb,.int .i64 (dD:Int),.int .i64 (most:Int)]:=by kernel_rfl) (hm:mode<=3:=by omega) (ht:dD<=255:=by omega) (Y:1<=most:=by omega) (aa:most<=20:=by omega) :
  dn (fi Z W0 Mp) (⟨fn,tm,.inRegion ops (i::rest)::k⟩::os) wl []:=
 h.Uw mode dD most qb B hq (λw2 u _ hl hk=>hn w2 u hl hk.says) hi O ho U ha hm ht Y aa
theorem nL.fill(la ta:Option Addr)(ls:List Raw)(rs:List Int)(lc rc:Nat)(hW:WT wl)(h5:5<=wl.heap.size)(hL:sw wl la ls)(hT:Ah wl ta rs)(B:ls.length<=lc)(O:rs.length<=rc)(U:ls.length<=9223372036854775807)(Y:rs.length<=9223372036854775807)
  (hn:∀(w2:World)(b W:Nat),o9 wl w2->nL wl w2 b W (qg ls)->dn (fi Z W0 Mp) (⟨fn,eI o.dst tm (.pointer (some ⟨W,0,none⟩)),.inRegion ops rest::k⟩::os) w2 [])
  (hi:ops[i]?=some o:=by rfl) (aa:bp o (b7 ops tm)=true:=by rfl) (ho:o.op=.call {callee:=.value (.func 14),args:=xs,argTypes:=tys}:=by rfl) (ab:∀x∈xs.toList,dP (fi Z W0 Mp).fu (fi Z W0 Mp).gl x:=by simp[dP,Plain]) (ha:xs.map (iJ tm)=#[.slice la ls.length lc,.slice ta rs.length rc]:=by kernel_rfl) :
  dn (fi Z W0 Mp) (⟨fn,tm,.inRegion ops (i::rest)::k⟩::os) wl []:=by
 have ac:xs.size=2:=by have:=congrArg Array.size ha; simpa using this
 refine dn.qA _ (gK:=Tryz.f14) (c:=dT Tryz.f14) hi aa func14 (by kernel_rfl) ES ho ab ?_ (Ey hi hW h5 hL hT B O U Y λw2 F1 F2 b W buf ss h1 h2 h3=>hn w2 b W h1.low ⟨h5,F1,F2,buf,ss,h1,h2,h3⟩);rw[ha,ac];kernel_rfl
end
end
section
open Go.RowKit
variable {e:dq} {s:Wd}
theorem Jq:∀(l:List dq),(l.map dq.name).Nodup->∃S:List dq,S.Perm l/\S.Pairwise λx y=>eK x y=true
 |[],_=>⟨[],.refl _,.nil⟩
 |x::l,h=>by
  rw[List.map_cons,List.nodup_cons]at h
  obtain⟨S,Y,hs⟩:=Jq l h.2
  have hx:∀y∈S,eK x y = !eK y x:=λy O=>by
   have U:x.name≠y.name:=λe=>h.1 (by rw[e]; exact List.mem_map_of_mem (Y.mem_iff.1 O));rcases vp U with B|B
   .rw[B,sH B]; rfl
   .rw[B,sH B]; rfl
  refine⟨S.filter (λy=>eK y x)++x::S.filter (λy=>!eK y x),?_,?_⟩
  .exact List.perm_middle.trans (.cons _ ((List.filter_append_perm _ S).trans Y))
  .rw[List.pairwise_append];refine⟨hs.sublist aU,?_,λa ha b hb=>?_⟩
   .rw[List.pairwise_cons];exact⟨λy O=>by rw[hx y (aL.1 O).1]; exact(aL.1 O).2,hs.sublist aU⟩
   .have B:=(aL.1 ha).2;rcases aO.1 hb with rfl|hb
    .exact B
    .have h2:=aL.1 hb;exact mf B (by rw[hx b h2.1]; exact h2.2)
section
variable {K:List nI} {m t:Nat} {qb:ByteArray}
theorem AQ(B:((I0 K).map dq.name).Nodup)(hm:m<=3)(ht:t<=255)(U:dU qb.data.toList=true):∃S:List dq,S.Perm ((I0 K).filter λe=>ix m t qb.data.toList e)/\∀n,1<=n->n<=20->fh K m qb t n=(S.take n).map fZ:=by
 obtain⟨S,O,Y⟩:=Jq _ (B.sublist (aU.map _));refine⟨S,O,λn h1 h2=>?_⟩;have h:=tL (mode:=m) (dD:=t) (most:=n) (q:=qb.data.toList) B Y (by simpa using O);unfold fh tz;rw[if_neg (by omega),if_pos U];rw[h];simp
theorem SH(h:K.length=12):(I0 K).length<=12:=by
 unfold I0;rw[aZ,<-h];exact aV ..
theorem qK(U:K.length=12)(Y:((I0 K).map dq.name).Nodup)(hm:m<=3)(ht:t<=255)(hq:dU qb.data.toList=true)(x:Wd):x∈fh K m qb t 20↔∃e∈I0 K,ix m t qb.data.toList e=true/\x=fZ e:=by
 obtain⟨S,B,h⟩:=AQ Y hm ht hq
 have hS:S.length<=20:=by
  have:=B.length_eq;have:=aV (λe=>ix m t qb.data.toList e) (I0 K);have:=SH U;omega
 rw[h 20 (by omega) (by omega),aT hS,bc];constructor
 .rintro⟨e,O,rfl⟩;have:=aL.1 (B.mem_iff.1 O);exact⟨e,this.1,this.2,rfl⟩
 .rintro⟨e,O,hw,rfl⟩;exact⟨e,B.mem_iff.2 (aL.2 ⟨O,hw⟩),rfl⟩
theorem LH(O:((I0 K).map dq.name).Nodup)(hm:m<=3)(U:t<=255)(Y:dU qb.data.toList=true)(n:Nat)(h1:1<=n)(B:n<=20):fh K m qb t n=(fh K m qb t 20).take n:=by
 obtain⟨S,_,h⟩:=AQ O hm U Y;rw[h n h1 B,h 20 (by omega) (by omega),<-List.map_take,List.take_take,Nat.min_eq_left B]
end
theorem QU{m t u:Nat}{q:Wd}(h:ix m (t ||| u) q e=true):ix m t q e=true:=by
 unfold ix at h⊢;rw[b']at h⊢;refine⟨?_,h.2⟩;have h1:=h.1;unfold oq at h1⊢;rw[beq_iff_eq]at h1⊢;apply Nat.eq_of_testBit_eq;intro j;have B:(e.dD.toNat &&& (t ||| u)).testBit j=(t ||| u).testBit j:=by rw[h1]
 simp only[bk,Nat.testBit_or]at B⊢;cases O:e.dD.toNat.testBit j<;>cases U:t.testBit j<;>simp_all
theorem R6(t u:Nat):t+u=(t ||| u)+(t &&& u):=by
 induction t using Nat.strongRecOn generalizing u with
 |_ t B=>
  rcases Nat.eq_zero_or_pos t with rfl|O
  .simp
  .have h:=B (t / 2) (by omega) (u / 2);rw[<-Nat.or_div_two,<-Nat.and_div_two]at h
   have U:(t ||| u) % 2=1↔(t % 2=1\/u % 2=1):=by
    simpa using this
   have Y:(t &&& u) % 2=1↔(t % 2=1/\u % 2=1):=by
    simpa using this
   omega
theorem FD{q:Wd}(h:nN s q=true):nN s q.dropLast=true:=by
 unfold nN at h⊢;rw[decide_eq_true_eq]at h⊢;exact(aW q).trans h
theorem Mv(q:Wd):ed q.dropLast=(ed q).dropLast:=by unfold ed; rw[List.map_dropLast]
theorem KE{m t:Nat}{q:Wd}(hm:m<2)(h:ix m t q e=true):ix m t q.dropLast e=true:=by
 unfold ix at h⊢;rw[b']at h⊢;refine⟨h.1,?_⟩;have h2:=h.2;rw[Mv];unfold jo at h2⊢;rcases(by omega:m=0\/m=1)with rfl|rfl
 .exact FD h2
 .simp only[if_true]at h2⊢;rw[if_neg (by omega)]at h2⊢;rw[aQ]at h2⊢;obtain⟨i,hi,hb⟩:=h2;rw[b']at hb;exact⟨i,hi,by rw[b']; exact⟨hb.1,FD hb.2⟩⟩
theorem KU(a:Wd)(c:UInt8)(row:List Nat)(z:Nat):∀n j,j<n->(gU a c row z n).getD (j+1) 0=min (min (row.getD j 0+(if a.getD j 0=c then 0 else 1)) (row.getD (j+1) 0+1)) ((gU a c row z n).getD j 0+1):=by
 intro n
 induction n with
 |zero=>omega
 |succ n O=>
  intro j h;have U:=j0 a c row z n;rw[gU];simp only[aK];rcases Nat.lt_or_ge j n with B|B
  .have:=O j B;rw[aN (by omega),aN (by omega)];exact this
  .obtain rfl:j=n:=by omega
   rw[List.getElem?_append_right (by omega),aN (by omega),U];simp
theorem K4{a:Wd}(h:a <+: s):∀k,k<=a.length->(jI a s k).getD k 0=0:=by
 intro k
 induction k with
 |zero=>simp[jI]
 |succ k B=>
  intro O;rw[jI,KU _ _ _ _ _ k (by omega)]
  have:a.getD k 0=s.getD k 0:=by
   obtain⟨r,rfl⟩:=h;rw[aK,aK,aN (by omega)]
  rw[if_pos this];omega
theorem Me{t:Nat}{q:Wd}(h:ix 0 t q e=true):ix 2 t q e=true:=by
 unfold ix at h⊢;rw[b']at h⊢;refine⟨h.1,?_⟩;have h2:=h.2;unfold jo nN at h2;simp only[if_true,decide_eq_true_eq]at h2;unfold jo;rw[if_neg (by omega),if_neg (by omega),aQ];have B:=h2.length_le;refine⟨(ed q).length,List.mem_range.2 (by omega),?_⟩;unfold wz;rw[K4 h2 _ (bf _)];decide
theorem LK{t:Nat}{q:Wd}(h:ix 2 t q e=true):ix 3 t q e=true:=by
 unfold ix at h⊢;rw[b']at h⊢;refine⟨h.1,?_⟩;have h2:=h.2;unfold jo at h2⊢;rw[if_neg (by omega),if_neg (by omega),aQ]at h2⊢;obtain⟨k,B,O⟩:=h2;exact⟨k,B,by rw[decide_eq_true_eq]at O⊢; omega⟩
theorem xC{q:Wd}(h:dU q=true):dU q.dropLast=true:=by
 unfold dU at h⊢;rw[b',decide_eq_true_eq,aR]at h⊢;exact⟨by rw[List.length_dropLast]; omega,λx B=>h.2 x ((aW q).subset B)⟩
end
section
open Go.Conc Go.RowKit Go.Maps
variable {xs:List Wd} {i:Nat} {u v:Value}
structure k6(w0 w:World)(b W:Nat)(K:List nI)(A:Nat)(cs:Array Value)(us:List (Value×List Wd)):Prop where
 x:5<=w0.heap.size/\∃(F1 F2:Nat->Prop)(buf:List dq)(ss:List (List dq)),AW w0 w F1 F2 b buf ss []/\WB w0 w F1 F2 b W K/\Sk K buf ss/\w.heap[A]?=some (.cells cs 45 (0,0))/\¬F1 A/\¬F2 A/\A≠W/\w0.heap.size<=A/\(∀(i:Nat)(v:Value),cs[i]?=some v->∃a n c,v=Value.slice a n c)/\∀p∈us,wj w p.1 p.2
section
variable {w0 w w':World} {b W A:Nat} {K:List nI} {cs:Array Value} {us:List (Value×List Wd)}
theorem k6.R4(h:k6 w0 w b W K A cs us):nL w0 w b W K:=by
 obtain⟨B,F1,F2,buf,ss,O,U,Y,_⟩:=h.x;exact⟨B,F1,F2,buf,ss,O,U,Y⟩
theorem k6.base(h:k6 w0 w b W K A cs us):o9 w0 w:=by
 obtain⟨O,F1,F2,buf,ss,B,_⟩:=h.x;exact B.low
theorem k6.names(h:k6 w0 w b W K A cs us):K.length=12/\((I0 K).map dq.name).Nodup:=by
 obtain⟨O,F1,F2,buf,ss,_,_,B,_⟩:=h.x;exact⟨B.len,CX B⟩
theorem k6.cell(h:k6 w0 w b W K A cs us)(hi:cs[i]?=some v):w.cell? ⟨A,i,none⟩=some v:=by
 obtain⟨_,F1,F2,buf,ss,_,_,_,B,_⟩:=h.x;rw[dh B];exact hi
theorem k6.soft(h:k6 w0 w b W K A cs us)(i:Nat):w.frozen? ⟨A,i,none⟩=false:=by
 obtain⟨_,F1,F2,buf,ss,_,_,_,B,_⟩:=h.x;exact dK B i
theorem k6.low(h:k6 w0 w b W K A cs us)(B:o9 w w'):k6 w0 w' b W K A cs us:=by
 obtain⟨U,F1,F2,buf,ss,Y,h2,h3,O,a1,a2,a3,a4,a5,a6⟩:=h.x;have hA:=(bq.1 O).1;exact⟨U,F1,F2,buf,ss,Y.same B,h2.low B,h3,(B.block A hA).trans O,a1,a2,a3,a4,a5,λp hp=>(a6 p hp).low B⟩
theorem k6.add(h:k6 w0 w b W K A cs us)(O:wj w u xs):k6 w0 w b W K A cs ((u,xs)::us):=by
 obtain⟨U,F1,F2,buf,ss,Y,h2,h3,h4,a1,a2,a3,a4,a5,a6⟩:=h.x;refine⟨U,F1,F2,buf,ss,Y,h2,h3,h4,a1,a2,a3,a4,a5,λp B=>?_⟩;rcases aO.1 B with rfl|B
 .exact O
 .exact a6 p B
theorem k6.says(h:k6 w0 w b W K A cs us)(B:(u,xs)∈us):wj w u xs:=by
 obtain⟨U,F1,F2,buf,ss,Y,h2,h3,h4,a1,a2,a3,a4,a5,O⟩:=h.x;exact O _ B
theorem k6.T0(h:k6 w0 w b W K A cs us){vs:List (Value×List Wd)}(B:∀p∈vs,p∈us):k6 w0 w b W K A cs vs:=by
 obtain⟨O,F1,F2,buf,ss,U,Y,h3,h4,a1,a2,a3,a4,a5,a6⟩:=h.x;exact⟨O,F1,F2,buf,ss,U,Y,h3,h4,a1,a2,a3,a4,a5,λp hp=>a6 p (B p hp)⟩
theorem k6.made(h:nL w0 w b W K):k6 w0 (w.alloc (.cells #[.slice none 0 0,.slice none 0 0,.slice none 0 0,.slice none 0 0] 45)) b W K w.heap.size #[.slice none 0 0,.slice none 0 0,.slice none 0 0,.slice none 0 0] []:=by
 obtain⟨h5,F1,F2,buf,ss,B,Y,h3⟩:=h;have hl:o9 w (w.alloc (.cells #[.slice none 0 0,.slice none 0 0,.slice none 0 0,.slice none 0 0] 45)):=.of ((Below.refl ..).alloc (bf _) _);refine⟨h5,F1,F2,buf,ss,B.same hl,Y.low hl,h3,lW ..,λO=>absurd (B.j.S5 _ O) (by omega),λO=>absurd (B.j.Th _ O) (by omega),λe=>absurd Y.lt (by omega),B.low.size,λi v U=>?_,nofun⟩;rcases(by have:=(bq.1 U).1; simp at this; omega:i=0\/i=1\/i=2\/i=3)with rfl|rfl|rfl|rfl <;>(simp at U; exact⟨_,_,_,U.symm⟩)
theorem k6.store(h:k6 w0 w b W K A cs us)(i:Nat)(a:Option Addr)(n c:Nat):k6 w0 (w.setCell ⟨A,i,none⟩ (.slice a n c)) b W K A (cs.setIfInBounds i (.slice a n c)) us:=by
 obtain⟨h5,F1,F2,buf,ss,h1,U,h3,h4,a1,a2,a3,a4,a5,a6⟩:=h.x;have hz:(w.setCell ⟨A,i,none⟩ (.slice a n c)).heap.size=w.heap.size:=by simp[World.setCell]
 have hb:∀k,k≠A->(w.setCell ..).heap[k]?=w.heap[k]?:=λk Y=>qB [.slice a n c] i w k Y;refine⟨h5,F1,F2,buf,ss,h1.other a1 a2 a4 (by omega) rfl λk _ Y=>hb k Y,⟨(hb W (Ne.symm a3)).trans U.blk,U.a1,U.a2,U.hi⟩,h3,heap_set h4 i _,a1,a2,a3,a4,λj v B=>?_,λp hp=>?_⟩
 .rw[br]at B;split at B
  .split at B
   .simp at B; exact⟨_,_,_,B.symm⟩
   .cases B
  .exact a5 j v B
 .obtain⟨a',cap,e,r1,r2,r3,r4⟩:=a6 p hp;refine⟨a',cap,e,r1,r2,r3,λj v B=>?_⟩;obtain⟨bb,off,e1,hc⟩:=r4 j v B;refine⟨bb,off,e1,?_⟩;by_cases O:bb=A
  .subst O;rw[dh h4]at hc;obtain⟨x,y,z,rfl⟩:=a5 _ _ hc;simp[dp]at B
  .rw[bG (hb bb O)]; exact hc
end
section
variable {Z:iS prog} {W0:World} {Mp:Nat->Prop} {fn:b6} {tm:Array Value} {os:List OF} {wl:World} {k:List Item} {V:List (Nat×Option (List Value))}
theorem I'{ops:Array Oper}{rest:List Nat}{o:Oper}{a:Addr}(O:wl.cell? a=some v)(h:dn (fi Z W0 Mp) (⟨fn,(Act.put ⟨tm,[]⟩ o.dst v).tmps,.inRegion ops rest::k⟩::os) wl V)(hi:ops[i]?=some o:=by rfl)(U:∀y:World,y.cell? a=some v->gh prog o ⟨tm,[]⟩ y (λu Y=>Same y Y/\u=v):=by intro y q; unfold gh; go_simp; refine⟨rfl,?_⟩; with_reducible rfl)
  (B:bp o (b7 ops tm)=true:=by rfl) (ho:Cu prog rL qd true o.op=true:=by kernel_rfl):dn (fi Z W0 Mp) (⟨fn,tm,.inRegion ops (i::rest)::k⟩::os) wl V:=
 S3 hi B ho λτ=>(U (tp wl τ) O).mono λ_ _ hh=>by
  obtain⟨rfl,rfl⟩:=hh;exact dn.CL τ h
end
end
section
open Go.Conc Go.RowKit Go.Maps
variable {ops:Array Oper} {cs tm:Array Value} {us:List (Value×List Wd)} {md:Region.Mode} {w:World}
theorem nY{xs B:List Wd}(h:∀x∈xs,x∈B):jn xs B=true:=by
 unfold jn NY;rw[aR];intro x O;rw[aQ];exact⟨x,h x O,by simp⟩
theorem FH{listed:Array Bool}{rs:List Nat}(hr:bo md ops listed=rs)(U:rs≠[])(B t:Nat):∃j∈rs,∃t',bz md ops (B+1) t listed []=j::bz md ops B t' (listed.setIfInBounds j true) []:=by
 simp only[bz];have Y:t % (bo md ops listed).length<(bo md ops listed).length:=Nat.mod_lt _ (List.length_pos_iff.2 (by rw[hr]; exact U));split
 .rename_i q hq;have O:(bo md ops listed)[t % (bo md ops listed).length]?=some q:=hq;refine⟨q,by rw[<-hr]; exact List.mem_of_getElem? O,t / (bo md ops listed).length,?_⟩;rw[linearise_go_acc];rfl
 .rename_i hq;have O:(bo md ops listed)[t % (bo md ops listed).length]?=none:=hq;rw[List.getElem?_eq_none_iff]at O;exact absurd Y (by omega)
def sC(g:Nat->Value):Array Value:=#[g 0,g 1,g 2,g 3,g 4,g 5,g 6,g 7,g 8,g 9,g 10,g 11,g 12,g 13,g 14,g 15,g 16,g 17,g 18,g 19,g 20,g 21,g 22,g 23,g 24,g 25,g 26,g 27,g 28,g 29,g 30,g 31,g 32,g 33,g 34,g 35,g 36,g 37,g 38,g 39,g 40,g 41,g 42,g 43,g 44,g 45,g 46,g 47,g 48,g 49,g 50,g 51,g 52,g 53,g 54,g 55,g 56,g 57,g 58,g 59,g 60,g 61,g 62,g 63,g 64,g 65,g 66,g 67,g 68,g 69,g 70,g 71,g 72,g 73,g 74,g 75,g 76,g 77,g 78,g 79,g 80,g 81,g 82,g 83,g 84,g 85,g 86,g 87,g 88,g 89,g 90,g 91,g 92,g 93,g 94,g 95,g 96,g 97,g 98,g 99,g 100,g 101,g 102,g 103,g 104,g 105,g 106,g 107,g 108,g 109,g 110,g 111,g 112,g 113,g 114,g 115,g 116,g 117,g 118,g 119,g 120,g 121,g 122,g 123,g 124,g 125,g 126,g 127,g 128,g 129,g 130,g 131,g 132,g 133,g 134,g 135,g 136,g 137,g 138,g 139,g 140,g 141,g 142,g 143,g 144,g 145,g 146,g 147,g 148,g 149,g 150,g 151,g 152,g 153,g 154,g 155,g 156,g 157,g 158,g 159,g 160,g 161,g 162,g 163,g 164,g 165,g 166,g 167,g 168,g 169,g 170,g 171,g 172,g 173,g 174,g 175,g 176,g 177,g 178,g 179,g 180,g 181,g 182,g 183,g 184,g 185,g 186,g 187,g 188,g 189,g 190,g 191,g 192,g 193,g 194,g 195,g 196,g 197,g 198,g 199,g 200,g 201,g 202,g 203,g 204,g 205,g 206,g 207,g 208,g 209,g 210,g 211,g 212,g 213,g 214,g 215,g 216,g 217,g 218,g 219]
theorem KS(tm:Array Value)(n:Nat)(h:tm.size=n):tm.toList=(List.range n).map λi=>tm.getD i bI:=by
 apply List.ext_getElem
 .simp[h]
 .intro i B O;simp at B;simp[B]
theorem La(tm:Array Value)(h:tm.size=220):tm=sC λi=>tm.getD i bI:=by
 apply Array.toList_inj.1;rw[KS tm 220 h];rfl
theorem ob{i:Nat}{v:Value}(h:tm[i]?=some v):tm.getD i bI=v:=by
 rw[Array.getD_eq_getD_getElem?,h];rfl
structure WC(tm:Array Value)(W A t tb n:Nat)(qb:ByteArray)(m:Nat):Prop where
 size:tm.size=220
 UG:tm[17]?=some (.pointer (some ⟨W,0,none⟩))
 UF:tm[18]?=some (.string qb)
 UK:tm[19]?=some (.int .i64 (t:Int))
 UM:tm[21]?=some (.int .i64 (tb:Int))
 UN:tm[23]?=some (.int .i64 (n:Int))
 US:tm[24]?=some (.pointer (some ⟨A,0,none⟩))
 UJ:tm[25]?=some (.int .i64 (m:Int))
theorem WC.lit{W A t tb n m:Nat}{qb:ByteArray}(h:WC tm W A t tb n qb m):∃g:Nat->Value,tm=sC g/\(∀i v,tm[i]?=some v->g i=v)/\g 17=.pointer (some ⟨W,0,none⟩)/\g 18=.string qb/\g 19=.int .i64 (t:Int)/\g 21=.int .i64 (tb:Int)/\g 23=.int .i64 (n:Int)/\g 24=.pointer (some ⟨A,0,none⟩)/\g 25=.int .i64 (m:Int):=
 ⟨_,La tm h.size,λ_ _ B=>ob B,ob h.UG,ob h.UF,ob h.UK,ob h.UM,ob h.UN,ob h.US,ob h.UJ⟩
def sq(c:Code):Code:=match c with
 |.seq _ (.seq _ (.seq _ (.seq _ (.seq _ (.seq _ (.seq _ (.seq _ (.seq _ (.seq _ (.seq (.seq _ (.block _ (.loop x))) _))))))))))=>x
 |_=>.skip
def FU(c:Code):Code:=match c with
 |.seq _ (.seq _ (.seq _ (.seq _ (.seq _ (.seq _ (.seq _ (.seq _ (.seq _ (.seq _ (.seq (.seq _ (.block _ (.loop _))) y))))))))))=>y
 |_=>.skip
def Tj(c:Code):Code:=match c with
 |.seq _ (.seq (.block _ (.seq _ (.seq _ (.seq _ (.seq _ e))))) _)=>e
 |_=>.skip
def Ug(c:Code):Code:=match Tj c with
 |.seq _ (.seq _ (.seq _ e))=>e
 |_=>.skip
def Sf(c:Code):Code:=match c with
 |.seq _ (.seq _ e)=>e
 |_=>.skip
section
variable (Z:iS prog) (W0:World) (Mp:Nat->Prop) (wl:World) (b W A t tb n:Nat) (K:List nI) (qb:ByteArray)
def TY(m:Nat):Prop:=∀(w:World)(cs:Array Value)(us:List (Value×List Wd))(tm:Array Value),WC tm W A t tb n qb m->k6 wl w b W K A cs us->(∀j,j<m->∃v,cs[j]?=some v/\(v,fh K j qb t 20)∈us)->cs.size=4->
 dn (fi Z W0 Mp) [⟨8,tm,[.code (sq (dT Tryz.f8)),.inLoop (sq (dT Tryz.f8)),.inBlock 2,.code (FU (dT Tryz.f8))]⟩] w []
end
section
variable {Z:iS prog} {W0:World} {Mp:Nat->Prop} {wl:World} {b W A t tb n m:Nat} {K:List nI} {qb:ByteArray}
theorem Uf{L:Array Bool}(a b c d e:Nat)(h0:bo md ops L=[a]:=by kernel_rfl)(h1:bo md ops (L.setIfInBounds a true)=[b,c]:=by kernel_rfl)(h2:bo md ops ((L.setIfInBounds a true).setIfInBounds b true)=[c,d]:=by kernel_rfl)(h3:bo md ops (((L.setIfInBounds a true).setIfInBounds b true).setIfInBounds c true)=[d]:=by kernel_rfl)(h4:bo md ops ((((L.setIfInBounds a true).setIfInBounds b true).setIfInBounds c true).setIfInBounds d true)=[e]:=by kernel_rfl)
  (h5:bo md ops (((L.setIfInBounds a true).setIfInBounds b true).setIfInBounds d true)=[c]:=by kernel_rfl) (h6:bo md ops ((((L.setIfInBounds a true).setIfInBounds b true).setIfInBounds d true).setIfInBounds c true)=[e]:=by kernel_rfl) (h7:bo md ops ((L.setIfInBounds a true).setIfInBounds c true)=[b]:=by kernel_rfl) (h8:bo md ops (((L.setIfInBounds a true).setIfInBounds c true).setIfInBounds b true)=[d]:=by kernel_rfl) (h9:bo md ops ((((L.setIfInBounds a true).setIfInBounds c true).setIfInBounds b true).setIfInBounds d true)=[e]:=by kernel_rfl) (t:Nat) :
  bz md ops 5 t L []=[a,b,c,d,e]\/bz md ops 5 t L []=[a,b,d,c,e]\/bz md ops 5 t L []=[a,c,b,d,e]:=by
 have one:∀{L:Array Bool}{x:Nat}(n t:Nat),bo md ops L=[x]->∃t',bz md ops (n+1) t L []=x::bz md ops n t' (L.setIfInBounds x true) []:=λn t h=>by
  obtain⟨j,B,t',e⟩:=FH h (by simp) n t;obtain rfl:=aX.1 B;exact⟨t',e⟩
 have two:∀{L:Array Bool}{x y:Nat}(n t:Nat),bo md ops L=[x,y]->(∃t',bz md ops (n+1) t L []=x::bz md ops n t' (L.setIfInBounds x true) [])\/∃t',bz md ops (n+1) t L []=y::bz md ops n t' (L.setIfInBounds y true) []:=λn t h=>by
  obtain⟨j,B,t',e⟩:=FH h (by simp) n t;rcases aO.1 B with rfl|B
  .exact .inl ⟨t',e⟩
  .obtain rfl:=aX.1 B;exact .inr ⟨t',e⟩
 obtain⟨t1,e1⟩:=one 4 t h0;rcases two 3 t1 h1 with⟨t2,e2⟩|⟨t2,e2⟩
 .rcases two 2 t2 h2 with⟨t3,O⟩|⟨t3,O⟩
  .obtain⟨t4,U⟩:=one 1 t3 h3;obtain⟨t5,Y⟩:=one 0 t4 h4;left; rw[e1,e2,O,U,Y]; rfl
  .obtain⟨t4,U⟩:=one 1 t3 h5;obtain⟨t5,Y⟩:=one 0 t4 h6;right; left; rw[e1,e2,O,U,Y]; rfl
 .obtain⟨t3,O⟩:=one 2 t2 h7;obtain⟨t4,U⟩:=one 1 t3 h8;obtain⟨t5,Y⟩:=one 0 t4 h9;right; right; rw[e1,e2,O,U,Y]; rfl
theorem zy(qb:ByteArray)(z:Nat)(h:qb.size=z+1):(qb.extract 0 z).data.toList=qb.data.toList.dropLast:=by
 have B:qb.data.toList.length=z+1:=by rw[bt]; exact h
 rw[List.dropLast_eq_take,B];simp
theorem ur(ad:m<4)(hI:TY Z W0 Mp wl b W A t tb n K qb (m+1))(hc:WC tm W A t tb n qb m)(hA:k6 wl w b W K A cs us)(hv:∀j,j<m+1->∃v,cs[j]?=some v/\(v,fh K j qb t 20)∈us)(hz:cs.size=4) :
  dn (fi Z W0 Mp) [⟨8,tm,[.inBlock 3,.code (Sf (sq (dT Tryz.f8))),.inLoop (sq (dT Tryz.f8)),.inBlock 2,.code (FU (dT Tryz.f8))]⟩] w []:=by
 obtain⟨g,rfl,hg,B,O,U,Y,aa,ab,ac⟩:=hc.lit;have HI:b0 _:=And.intro hI (And.intro hA (And.intro hv hz));clear hc hg hI hA hv hz;unfold sC;simp only[B,O,U,Y,aa,ab,ac];clear B O U Y aa ab ac;refine dn.inBlock ?_;show dn _ [⟨_,_,.code (.region 17 _ false)::_⟩] _ _;refine k9 λkk HK=>?_;refine dn.region ?_
 (iterate 3 (refine dG ?_; go_simp));refine dn.ie HK ?_;clear HK kk;refine dn.inLoop ?_;have ew:IntKind.i64.wrap ((m:Int)+1)=((m+1:Nat):Int):=by simp only[b3]; omega
 rw[ew];exact HI.out.1 _ cs us _ ⟨rfl,rfl,rfl,rfl,rfl,rfl,rfl,rfl⟩ HI.out.2.1 HI.out.2.2.1 HI.out.2.2.2
theorem LR{aA:Option Addr}{la cA:Nat}(aa:kD wl)(h5:5<=wl.heap.size)(hq:dU qb.data.toList=true)(ht:t<=255)(ap:tb<=255)(aq:1<=n)(ar:n<=20)(ab:m<4)(ac:la=(fh K m qb t 20).length)(hI:TY Z W0 Mp wl b W A t tb n K qb (m+1))(hc:WC tm W A t tb n qb m)(Y:tm[26]?=some (.slice aA la cA))(hA:k6 wl w b W K A cs us)(hu:(.slice aA la cA,fh K m qb t 20)∈us)(hv:∀j,j<m+1->∃v,cs[j]?=some v/\(v,fh K j qb t 20)∈us)(hz:cs.size=4) :
  dn (fi Z W0 Mp) [⟨8,tm,[.code (Ug (sq (dT Tryz.f8))),.inBlock 3,.code (Sf (sq (dT Tryz.f8))),.inLoop (sq (dT Tryz.f8)),.inBlock 2,.code (FU (dT Tryz.f8))]⟩] w []:=by
 obtain⟨g,rfl,hg,ad,ae,af,ag,ah,ai,aj⟩:=hc.lit;have Y:=hg _ _ Y;have HX:b0 _:=And.intro aa (And.intro h5 (And.intro hq hu));have HI:b0 _:=And.intro hI (And.intro hv hz);have B:b0 _:=hA;have ak:b0 _:=ac;have HN:b0 _:=hA.names;clear hc hg aa h5 hq hI hA hv hz ac;unfold sC;simp only[ad,ae,af,ag,ah,ai,aj,Y];clear ad ae af ag ah ai aj Y;show dn _ [⟨_,_,.code (.seq (.region 30 _ false) (.cond _ (.seq (.region 31 _ true) (.seq (.region 32 _ false) (.seq (.region 33 _ false) (.cond _ _ .skip)))) .skip))::_⟩] _ _;have h3:¬(m:Int)<2\/((m:Int)<2/\¬(0:Int)<(qb.size:Int))\/((m:Int)<2/\(0:Int)<(qb.size:Int)):=by omega
 refine fx λkk U y O=>?_;have B:b0 _:=B.out.low O;clear O;rcases h3 with h|⟨h,h'⟩|⟨h,h'⟩
 all_goals
  go_wp2;refine eA U ?_;clear U kk
 .exact dn.lY trivial (by first|rfl|exact congrArg Value.bool (decide_eq_false (by omega))|exact congrArg Value.bool (decide_eq_true (by omega))) (dn.skip (ur ab HI.out.1 ⟨rfl,rfl,rfl,rfl,rfl,rfl,rfl,rfl⟩ B.out HI.out.2.1 HI.out.2.2))
 .exact dn.lY trivial (by first|rfl|exact congrArg Value.bool (decide_eq_false (by omega))|exact congrArg Value.bool (decide_eq_true (by omega))) (dn.skip (ur ab HI.out.1 ⟨rfl,rfl,rfl,rfl,rfl,rfl,rfl,rfl⟩ B.out HI.out.2.1 HI.out.2.2))
 .refine dn.yS trivial (by first|rfl|exact congrArg Value.bool (decide_eq_false (by omega))|exact congrArg Value.bool (decide_eq_true (by omega))) ?_;refine dn.sc λkk U=>?_;obtain⟨z,hz⟩:∃z:Nat,qb.size=z+1:=⟨qb.size-1,by omega⟩;have am:(0:Int)<=(z:Int):=by omega
  have an:(z:Int)<=(qb.size:Int):=by omega
  have q8:qb.size<=24:=by
   have:=jc HX.out.2.2.1;have e:qb.size=qb.data.toList.length:=by show qb.data.size=_; rw[bt]
   omega
  have ao:IntKind.i64.wrap ((qb.size:Int)-1)=(z:Int):=by simp only[b3]; omega
  have HZ:b0 _:=hz;have u0:=B.out.R4.cell;clear hz;refine dn.vW (Sd:=λa y=>a.defers=[]/\∀l,(l=[12,13,14,15,16]\/l=[12,13,15,14,16]\/l=[12,14,13,15,16])->dn _ (⟨_,a.tmps,.inRegion _ (11::l)::_⟩::_) y _) (last:=11) (tl:=λl=>l=[12,13,14,15,16]\/l=[12,13,15,14,16]\/l=[12,14,13,15,16]) (by kernel_rfl) (OU (by kernel_rfl)) ?_ (λa y l O h=>⟨h.1,h.2 l O⟩);refine dB 0 ?_ ?_<|dB 1 ?_ ?_<|dB 2 ?_ ?_<|dB 3 ?_ ?_<|dB 4 ?_ ?_<|dB 5 ?_ ?_<|dB 6 ?_ ?_<|dB 10 ?_ ?_ ?_
  any_goals(intro y hy; have q0:=jA hy u0; unfold gh; go_simp; refine⟨eU.refl _,?_⟩; with_reducible rfl)
  go_simp;refine dB 7 ?_ ?_<|dB 8 ?_ ?_ ?_
  any_goals(intro y hy; unfold gh; go_simp; refine⟨eU.refl _,?_⟩; with_reducible rfl)
  go_simp;refine dB 9 ?_ ?_ ?_;rotate_left
  .intro y hy; unfold gh; go_simp; refine⟨eU.refl _,?_⟩; with_reducible rfl
  go_simp;refine mF (by kernel_rfl) (λt=>Uf 12 13 14 15 16 (t:=t)) ?_;intro y hy;have B:b0 _:=B.out.low (qJ hy);clear hy u0 ao am an q8;refine⟨rfl,?_,?_,?_⟩
  all_goals
   go_simp;refine B.out.R4.ask (i:=11) m t 20 (qb.extract 0 z) (mE ⟨HX.out.1,HX.out.2.1⟩ B.out.base) (by rw[zy qb z HZ.out]; exact xC HX.out.2.2.1) λw3 u O hs=>?_;obtain⟨aS,cS,rfl,_⟩:=id hs;have B:b0 _:=(B.out.low O).add hs;clear O hs;rw[fF];go_simp
   (iterate 5 (refine dG ?_; go_simp));refine dn.ie U ?_;clear U kk
   have al:jn (fh K m qb t 20) (fh K m (qb.extract 0 z) t 20)=true:=nY λx hx=>by
    rw[qK HN.out.1 HN.out.2 (by omega) (by omega) HX.out.2.2.1]at hx;rw[qK HN.out.1 HN.out.2 (by omega) (by omega) (by rw[zy qb z HZ.out]; exact xC HX.out.2.2.1),zy qb z HZ.out];obtain⟨e,h1,h2,h3⟩:=hx;exact⟨e,h1,KE (by omega) h2,h3⟩
   have l1:=j5 K m qb t 20;have l2:=j5 K m (qb.extract 0 z) t 20;refine fx λkk U y2 O=>?_;have B:b0 _:=B.out.low O;have S1:=B.out.says (.tail _ HX.out.2.2.2);rw[ak.out]at S1;have C:=pK _ _ _ _ y2 S1 (B.out.says (.head _)) (by omega) (by omega);rw[al,<-ak.out]at C;clear O S1;go_wp2_with fail;refine C.mono ?_;clear C;rintro e y3 ⟨rfl,hb⟩;have B:b0 _:=B.out.low (.of hb);clear hb al l1 l2;go_wp2;refine eA U ?_;clear U kk;refine fx λkk U y4 O=>?_;have B:b0 _:=B.out.low O;clear O;go_wp2;refine eA U ?_;clear U kk;exact dn.lY trivial (by first|rfl|exact congrArg _ _|exact congrArg _ _) (dn.skip (ur ab HI.out.1 ⟨rfl,rfl,rfl,rfl,rfl,rfl,rfl,rfl⟩ (B.out.T0 λp hp=>.tail _ hp) HI.out.2.1 HI.out.2.2))
end
end
section
open Go.Conc Go.RowKit Go.Maps
section
variable {Z:iS prog} {W0:World} {Mp:Nat->Prop} {wl:World} {b W A t tb n m:Nat} {K:List nI} {qb:ByteArray}
theorem KW{tm:Array Value}{w:World}{cs:Array Value}{us:List (Value×List Wd)}{aA aD:Option Addr}{la cA B cD:Nat}(ah:kD wl)(h5:5<=wl.heap.size)(hq:dU qb.data.toList=true)(ht:t<=255)(al:tb<=255)(am:1<=n)(an:n<=20)(a0:m<4)(aa:la=(fh K m qb t 20).length)(ai:B=(fh K m qb t n).length)(hI:TY Z W0 Mp wl b W A t tb n K qb (m+1))(hc:WC tm W A t tb n qb m)(ab:tm[26]?=some (.slice aA la cA))(ac:tm[27]?=some (.int .i64 0))(ad:tm[29]?=some (.int .i64 0))(ae:tm[30]?=some (.slice aD B cD))(af:tm[31]?=some (.int .i64 0))(ag:tm[32]?=some (.bool true))(hA:k6 wl w b W K A cs us)(hu:(.slice aA la cA,fh K m qb t 20)∈us)(ao:(.slice aD B cD,fh K m qb t n)∈us)(hv:∀j,j<m->∃v,cs[j]?=some v/\(v,fh K j qb t 20)∈us)(hz:cs.size=4) :
  dn (fi Z W0 Mp) [⟨8,tm,[.code (Tj (sq (dT Tryz.f8))),.inBlock 3,.code (Sf (sq (dT Tryz.f8))),.inLoop (sq (dT Tryz.f8)),.inBlock 2,.code (FU (dT Tryz.f8))]⟩] w []:=by
 obtain⟨g,rfl,hg,ap,aq,ar,au,av,aw,ax⟩:=hc.lit;have ab:=hg _ _ ab;have ac:=hg _ _ ac;have ad:=hg _ _ ad;have ae:=hg _ _ ae;have af:=hg _ _ af;have ag:=hg _ _ ag;have ay:b0 (fh K m qb t n=(fh K m qb t 20).take n):=LH hA.names.2 (by omega) (by omega) hq n (by omega) (by omega);have a3:B=min n la:=by rw[ai,ay.out,List.length_take,aa]
 have a8:la<=20:=by rw[aa]; exact j5 _ _ _ _ _
 have a9:B<=20:=by omega
 have aB:¬((n:Int)<(B:Int)):=by omega
 have aC:¬((la:Int)<(B:Int)):=by omega
 have aj:b0 (B<=la):=by show _<=_; omega
 have ak:((B:Int)<(n:Int)/\¬(B:Int)<(la:Int))\/¬(B:Int)<(n:Int):=by omega
 have HX:b0 _:=And.intro ah (And.intro h5 hq);have HB:b0 _:=And.intro ht (And.intro al (And.intro am an));have HU:b0 _:=And.intro hu ao;have HI:b0 _:=hI;have HV:b0 _:=And.intro hv hz;have O:b0 _:=And.intro aa ai;have U:b0 _:=hA;have aE:(m:Int)<4:=by omega
 have aF:(0:Int)<=(m:Int):=by omega
 clear hc hg ah h5 hq hI hA hv hz aa ai a3 hu ao ht al am an;unfold sC;simp only[ap,aq,ar,au,av,aw,ax,ab,ac,ad,ae,af,ag];clear ap aq ar au av aw ax ab ac ad ae af ag;show dn _ [⟨_,_,.code (.seq (.seq (.region 22 _ false) (.cond _ _ .skip)) (.seq (.seq (.region 24 _ false) (.block 4 (.loop _))) (.seq (.region 29 _ false) _)))::_⟩] _ _;refine dn.seq (fx λkk HK y hl=>?_);have U:b0 _:=U.out.low hl;clear hl;rcases ak with⟨a4,aG⟩|a4
 all_goals
  go_wp2;refine eA HK ?_;clear HK kk;refine dn.lY trivial (by first|rfl|exact congrArg Value.bool (decide_eq_false (by omega))) (dn.skip ?_);refine fx λkk HK y2 hl=>?_;have U:b0 _:=U.out.low hl;clear hl;have SA:=U.out.says HU.out.1;have SD:=U.out.says HU.out.2;have aH:la<=cA:=by rw[O.out.1]at SA⊢; exact(ql.cap SA).1
  have aI:B<=cD:=by rw[O.out.2]at SD⊢; exact(ql.cap SD).1
  have CA:b0 (∀j,j<la->∃b off,aA=some ⟨b,off,none⟩/\y2.cell? ⟨b,off+j,none⟩=some (.string ⟨((fh K m qb t 20).getD j []).toArray⟩)):=λj Y=>by
   rw[O.out.1]at SA Y;have:=ql.str SA j Y;rw[aK,aM Y];exact this
  have CD:b0 (∀j,j<B->∃b off,aD=some ⟨b,off,none⟩/\y2.cell? ⟨b,off+j,none⟩=some (.string ⟨((fh K m qb t 20).getD j []).toArray⟩)):=λj Y=>by
   have a5:j<la:=be Y aj.out;rw[O.out.2]at SD Y;have:=ql.str SD j Y;rw[aK,aM (by rw[<-O.out.1]; exact a5)];simp only[ay.out,List.getElem_take]at this;exact this
  clear SA SD;go_wp2;go_loopw [33] (λi wr=>∃k:Nat,k<=B/\i=.int .i64 k/\Below y2.heap.size y2 wr) (λi _=>B-(intOf i).toNat)
  case atStart=>exact⟨0,bi _,rfl,Below.refl _ _⟩
  case round=>
   obtain⟨k,hk,rfl,hb⟩:=hrel;have HBW:b0 _:=hb;clear hb;by_cases a6:k<B
   .have az:(k:Int)<(B:Int):=by omega
    have a':(k:Int)<(la:Int):=by have:=aj.out; omega
    obtain⟨b1,o1,rfl,c1⟩:=CD.out k a6;obtain⟨b2,o2,rfl,c2⟩:=CA.out k (by have:=aj.out; omega);have d1:=b9 HBW.out c1;have d2:=b9 HBW.out c2;generalize (fh K m qb t 20).getD k []=x at c1 c2 d1 d2;clear c1 c2;go_wp2;go_quiet (fail);go_wp2;go_roundw
    case rel=>exact⟨k+1,by omega,by go_num,gV HBW.out _⟩
    case measure=>simp[intOf]; omega
   .have az:¬(k:Int)<(B:Int):=by omega
    go_wp2;refine eA HK ?_;have U:b0 _:=U.out.low (.of HBW.out);refine fx λaJ a7 y3 hl=>?_;have U:b0 _:=U.out.low hl;obtain⟨v,hv⟩:∃v,cs[m]?=some v:=⟨_,Array.getElem?_eq_getElem (by have:=HV.out.2; omega)⟩;have q0:=U.out.cell hv;have qf:=U.out.soft m;have HS:b0 _:=U.out.store m aA la cA;go_wp2;refine eA a7 ?_;refine LR HX.out.1 HX.out.2.1 HX.out.2.2 HB.out.1 HB.out.2.1 HB.out.2.2.1 HB.out.2.2.2 a0 O.out.1 HI.out ⟨rfl,rfl,rfl,rfl,rfl,rfl,rfl,rfl⟩ rfl HS.out HU.out.1 (λj Y=>?_) (by rw[bs]; exact HV.out.2);rcases(by omega:j=m\/j<m)with rfl|Y
    .exact⟨_,by rw[Array.getElem?_setIfInBounds_self_of_lt (by have:=HV.out.2; omega)],HU.out.1⟩
    .obtain⟨v,h1,h2⟩:=HV.out.1 j Y;exact⟨v,by rw[Array.getElem?_setIfInBounds_ne (by omega)]; exact h1,h2⟩
end
end
section
open Go.Conc Go.RowKit Go.Maps
section
variable {Z:iS prog} {W0:World} {Mp:Nat->Prop} {wl:World} {b W A t tb n:Nat} {K:List nI} {qb:ByteArray}
theorem GX(ah:kD wl)(h5:5<=wl.heap.size)(hq:dU qb.data.toList=true)(ht:t<=255)(ak:tb<=255)(al:1<=n)(am:n<=20)(ai:∀m e,ix m tb qb.data.toList e=true->ix m t qb.data.toList e=true)
  (hn:∀(w:World)(aj:Array Value),o9 wl w->aj[16]?=some (.bool true)->dn (fi Z W0 Mp) [⟨8,aj,[.code .ret]⟩] w []) :
  ∀(d m:Nat),4=m+d->TY Z W0 Mp wl b W A t tb n K qb m:=by
 have Y:b0 _:=And.intro ah (And.intro h5 (And.intro hq (And.intro ai hn)));clear ah h5 hq ai hn;intro d
 induction d with
 |zero=>
  intro m hm w cs us tm hc hA hv hz;obtain rfl:m=4:=by omega
  have B:b0 _:=hA;have HV:b0 _:=hv;clear hA hv hm hz;obtain⟨g,rfl,hg,aa,ab,ac,ad,ae,af,ag⟩:=hc.lit;unfold sC;simp only[aa,ab,ac,ad,ae,af,ag];clear aa ab ac ad ae af ag hc hg;show dn _ [⟨_,_,.code (.seq (.seq (.region 16 _ false) (.cond _ .skip (.exit 2))) _)::_⟩] _ _;refine dn.seq (dn.sr λkk O=>?_)
  (iterate 2 (refine dG ?_; go_simp));refine dn.ie O ?_;clear O kk;refine dn.lY trivial (by first|rfl|simp[iJ]) ?_;refine dn.exit (k':=[.code (FU (dT Tryz.f8))]) rfl ?_;show dn _ [⟨_,_,[.code (.seq (.region 35 _ false) (.seq (.region 36 _ false) (.seq (.region 37 _ false) .ret)))]⟩] _ _;obtain⟨v0,e0,m0⟩:=HV.out 0 (by omega);obtain⟨v2,e2,m2⟩:=HV.out 2 (by omega);obtain⟨v3,e3,m3⟩:=HV.out 3 (by omega);have HM:b0 _:=And.intro e0 (And.intro e2 (And.intro e3 (And.intro m0 (And.intro m2 m3))));have hN:=B.out.names
  have w1:jn (fh K 0 qb t 20) (fh K 2 qb t 20)=true:=nY λx hx=>by
   rw[qK hN.1 hN.2 (by omega) ht Y.out.2.2.1]at hx⊢;obtain⟨e,h1,h2,h3⟩:=hx;exact⟨e,h1,Me h2,h3⟩
  have w2:jn (fh K 2 qb t 20) (fh K 3 qb t 20)=true:=nY λx hx=>by
   rw[qK hN.1 hN.2 (by omega) ht Y.out.2.2.1]at hx⊢;obtain⟨e,h1,h2,h3⟩:=hx;exact⟨e,h1,LK h2,h3⟩
  have l0:=j5 K 0 qb t 20;have l2:=j5 K 2 qb t 20;have l3:=j5 K 3 qb t 20;clear e0 e2 e3 m0 m2 m3 HV hN;refine fx λkk O y U=>?_;have B:b0 _:=B.out.low U;have q0:=B.out.cell HM.out.1;have q1:=B.out.cell HM.out.2.1;have C:=pK v0 v2 _ _ y (B.out.says HM.out.2.2.2.1) (B.out.says HM.out.2.2.2.2.1) (by omega) (by omega);rw[w1]at C;clear U;go_wp2_with fail;refine C.mono ?_;clear C q0 q1;rintro e y2 ⟨rfl,hb⟩;have B:b0 _:=B.out.low (.of hb);clear hb;go_wp2;refine eA O ?_;clear O kk;refine fx λkk O y U=>?_;have B:b0 _:=B.out.low U;have q0:=B.out.cell HM.out.2.1;have q1:=B.out.cell HM.out.2.2.1;have C:=pK v2 v3 _ _ y (B.out.says HM.out.2.2.2.2.1) (B.out.says HM.out.2.2.2.2.2) (by omega) (by omega);rw[w2]at C;clear U;go_wp2_with fail;refine C.mono ?_;clear C q0 q1;rintro e y2 ⟨rfl,hb⟩;have B:b0 _:=B.out.low (.of hb);clear hb;go_wp2;refine eA O ?_;clear O kk;refine fx λkk O y U=>?_;have B:b0 _:=B.out.low U;clear U;go_wp2;refine eA O ?_;exact Y.out.2.2.2.2 _ _ B.out.base rfl
 |succ d ih=>
  intro m hm w cs us tm hc hA hv hz;have an:m<4:=by omega
  have ao:(m:Int)<4:=by omega
  have hN:=hA.names
  have ap:jn (fh K m qb tb 20) (fh K m qb t 20)=true:=nY λx hx=>by
   rw[qK hN.1 hN.2 (by omega) (by omega) Y.out.2.2.1]at hx⊢;obtain⟨e,h1,h2,h3⟩:=hx;exact⟨e,h1,Y.out.2.2.2.1 _ _ h2,h3⟩
  have aq:=j5 K m qb t 20;have lB:=j5 K m qb tb 20;have HI:b0 _:=And.intro (ih (m+1) (by omega)) (And.intro hv hz);have B:b0 _:=hA;clear hA hv hm hz hN ih;obtain⟨g,rfl,hg,aa,ab,ac,ad,ae,af,ag⟩:=hc.lit;unfold sC;simp only[aa,ab,ac,ad,ae,af,ag];clear aa ab ac ad ae af ag hc hg;show dn _ [⟨_,_,.code (.seq (.seq (.region 16 _ false) (.cond _ .skip (.exit 2))) (.seq (.block 3 (.seq (.region 18 _ false) (.seq (.region 19 _ false) (.seq (.region 20 _ false) (.seq (.region 21 _ false) _))))) (.region 17 _ false)))::_⟩] _ _;refine dn.seq (dn.sr λkk O=>?_)
  (iterate 2 (refine dG ?_; go_simp));refine dn.ie O ?_;clear O kk;refine dn.yS trivial (by first|rfl|simp[iJ,ao]) (dn.skip (dn.seq (dn.block ?_)));refine dn.sr λkk O=>?_
  (iterate 3 (refine dG ?_; go_simp));refine I' B.out.R4.cell ?_;go_simp
  (iterate 3 (refine dG ?_; go_simp));refine B.out.R4.ask (i:=7) m t 20 qb (mE ⟨Y.out.1,Y.out.2.1⟩ B.out.base) Y.out.2.2.1 λwA u U hs=>?_;obtain⟨aA,cA,rfl,_⟩:=id hs;have B:b0 _:=(B.out.low U).add hs;clear U hs;rw[fF];go_simp
  (iterate 5 (refine dG ?_; go_simp));refine dn.ie O ?_;clear O kk;refine dn.sr λkk O=>?_
  (iterate 3 (refine dG ?_; go_simp));refine I' B.out.R4.cell ?_;go_simp
  (iterate 3 (refine dG ?_; go_simp));refine B.out.R4.ask (i:=7) m tb 20 qb (mE ⟨Y.out.1,Y.out.2.1⟩ B.out.base) Y.out.2.2.1 λwB u U hs=>?_;obtain⟨aB,cB,rfl,_⟩:=id hs;have B:b0 _:=(B.out.low U).add hs;clear U hs;rw[fF];go_simp
  (iterate 5 (refine dG ?_; go_simp));refine dn.ie O ?_;clear O kk;refine dn.sr λkk O=>?_
  (iterate 3 (refine dG ?_; go_simp));refine I' B.out.R4.cell ?_;go_simp
  (iterate 4 (refine dG ?_; go_simp));refine B.out.R4.ask (i:=8) m t n qb (mE ⟨Y.out.1,Y.out.2.1⟩ B.out.base) Y.out.2.2.1 λwD u U hs=>?_;obtain⟨aD,cD,rfl,_⟩:=id hs;have B:b0 _:=(B.out.low U).add hs;clear U hs;rw[fF];go_simp
  (iterate 5 (refine dG ?_; go_simp));refine dn.ie O ?_;clear O kk;refine fx λkk O y U=>?_;have B:b0 _:=B.out.low U;have C:=pK (.slice aB _ cB) (.slice aA _ cA) _ _ y (B.out.says (.tail _ (.head _))) (B.out.says (.tail _ (.tail _ (.head _)))) (by omega) (by omega);rw[ap]at C;clear U;go_wp2_with fail;refine C.mono ?_;clear C;rintro e y2 ⟨rfl,hb⟩;have B:b0 _:=B.out.low (.of hb);go_wp2;refine eA O ?_;exact KW Y.out.1 Y.out.2.1 Y.out.2.2.1 ht ak al am an rfl rfl HI.out.1 ⟨rfl,rfl,rfl,rfl,rfl,rfl,rfl,rfl⟩ rfl rfl rfl rfl rfl rfl B.out (.tail _ (.tail _ (.head _))) (.head _) (λj hj=>by obtain⟨v,h1,h2⟩:=HI.out.2.1 j hj; exact⟨v,h1,.tail _ (.tail _ (.tail _ h2))⟩) HI.out.2.2
end
end
section
open Go.Conc Go.RowKit Go.Maps
theorem A2(x p:Nat):x % (p*2)=x % p+p*(x / p % 2):=Nat.mod_mul
theorem Qb(t u j:Nat):(t &&& u) / 2 ^ j % 2=if t / 2 ^ j % 2=1/\u / 2 ^ j % 2=1 then 1 else 0:=by
 have h:=bk t u j;simp only[QA]at h;rcases(by omega:t / 2 ^ j % 2=0\/t / 2 ^ j % 2=1)with a|a<;>rcases(by omega:u / 2 ^ j % 2=0\/u / 2 ^ j % 2=1)with b|b<;>simp[a,b]at h⊢ <;> omega
def j6(t u j:Nat):Nat:=t+u-(t &&& u) % 2 ^ j
theorem MP{t u:Nat}(B:t<256):j6 t u 8=t ||| u:=by
 unfold j6;rw[Nat.mod_eq_of_lt (Nat.lt_of_le_of_lt bm B),R6];omega
theorem KN(t u j:Nat):j6 t u (j+1)=if t / 2 ^ j % 2=1/\u / 2 ^ j % 2=1 then j6 t u j-2 ^ j else j6 t u j:=by
 unfold j6;rw[bn,A2,Qb];split
 .rw[Nat.mul_one]; omega
 .rw[Nat.mul_zero,Nat.add_zero]
theorem NC(t u j:Nat)(h:t / 2 ^ j % 2=1/\u / 2 ^ j % 2=1):2 ^ j<=j6 t u j:=by
 unfold j6;have B:(t &&& u) % 2 ^ j<=t:=bd (Nat.mod_le _ _) bm
 have O:2 ^ j<=u:=by
  apply Classical.byContradiction;intro U;have:=Nat.div_eq_of_lt (show u<2 ^ j by omega);rw[this]at h;omega
 omega
section
variable {Z:iS prog} {W0:World} {Mp:Nat->Prop} {wl:World}
theorem IG{la ta:Option Addr}{ls:List Raw}{rs:List Int}{lc rc:Nat}{c fr too tg mo Y:Int}(hW:WT wl)(h5:5<=wl.heap.size)(ac:sw wl la ls)(hT:Ah wl ta rs)(ad:ls.length<=lc)(ae:rs.length<=rc)(af:ls.length<=9223372036854775807)(ag:rs.length<=9223372036854775807)
  (c0 : -9223372036854775808<=c) (c1:c<=9223372036854775807) (f0 : -9223372036854775808<=fr) (f1:fr<=9223372036854775807) (t0 : -9223372036854775808<=too) (t1:too<=9223372036854775807) (g0 : -9223372036854775808<=tg) (g1:tg<=9223372036854775807) (m0 : -9223372036854775808<=mo) (m1:mo<=9223372036854775807) (s0 : -9223372036854775808<=Y) (s1:Y<=9223372036854775807)
  (hn:∀(w:World)(ah:Array Value),o9 wl w->ah[16]?=some (.bool true)->dn (fi Z W0 Mp) [⟨8,ah,[.code .ret]⟩] w []) :
  dn (fi Z W0 Mp) [⟨8,#[.slice la ls.length lc,.slice ta rs.length rc,.int .i64 c,.int .i64 fr,.int .i64 too,.int .i64 tg,.int .i64 mo,.int .i64 Y,bI,bI,bI,bI,bI,bI,bI,bI,bI,bI,bI,bI,bI,bI,bI,bI,bI,bI,bI,bI,bI,bI,bI,bI,bI,bI,bI,bI,bI,bI,bI,bI,bI,bI,bI,bI,bI,bI,bI,bI,bI,bI,bI,bI,bI,bI,bI,bI,bI,bI,bI,bI,bI,bI,bI,bI,bI,bI,bI,bI,bI,bI,bI,bI,bI,bI,bI,bI,bI,bI,bI,bI,bI,bI,bI,bI,bI,bI,bI,bI,bI,bI,bI,bI,bI,bI,bI,bI,bI,bI,bI,bI,bI,bI,bI,bI,bI,bI,bI,bI,bI,bI,bI,bI,bI,bI,bI,bI,bI,bI,bI,bI,bI,bI,bI,bI,bI,bI,bI,bI,bI,bI,bI,bI,bI,bI,bI,bI,bI,bI,bI,bI,bI,bI,bI,bI,bI,bI,bI,bI,bI,bI,bI,bI,bI,bI,bI,bI,bI,bI,bI,bI,bI,bI,bI,bI,bI,bI,bI,bI,bI,bI,bI,bI,bI,bI,bI,bI,bI,bI,bI,bI,bI,bI,bI,bI,bI,bI,bI,bI,bI,bI,bI,bI,bI,bI,bI,bI,bI,bI,bI,bI,bI,bI,bI,bI,bI,bI,bI,bI,bI,bI,bI,bI,bI,bI,bI,bI,bI,bI,bI,bI],[.code (dT Tryz.f8)]⟩] wl []:=by
 have HR:b0 _:=And.intro hW (And.intro h5 (And.intro ac (And.intro hT (And.intro ad (And.intro ae (And.intro af ag))))));have HQ:b0 _:=And.intro c0 (And.intro c1 (And.intro f0 (And.intro f1 (And.intro t0 t1))));have HG:b0 _:=And.intro g0 (And.intro g1 (And.intro m0 (And.intro m1 (And.intro s0 (And.intro s1 hn)))));clear hW h5 ac hT ad ae af ag c0 c1 f0 f1 t0 t1 g0 g1 m0 m1 s0 s1 hn;show dn _ [⟨_,_,[.code (.seq (.region 0 _ false) (.seq (.region 1 _ false) (.seq (.seq (.region 2 _ false) (.cond _ _ .skip)) (.seq (.region 4 _ false) (.seq (.region 5 _ false) (.seq (.region 6 _ false) (.seq (.region 7 _ false) (.seq (.seq (.region 8 _ false) (.block 0 (.loop _))) (.seq (.region 13 _ false) (.seq (.region 14 _ false) (.seq (.seq (.region 15 _ false) (.block 2 (.loop _))) _)))))))))))]⟩] _ _;refine dn.sr λU B=>?_
 (refine dG ?_; go_simp);refine dn.ie B ?_;clear B U;refine dn.sr λU B=>?_
 (iterate 2 (refine dG ?_; go_simp));refine nL.fill (i:=2) la ta ls rs lc rc HR.out.1 HR.out.2.1 HR.out.2.2.1 HR.out.2.2.2.1 HR.out.2.2.2.2.1 HR.out.2.2.2.2.2.1 HR.out.2.2.2.2.2.2.1 HR.out.2.2.2.2.2.2.2 λw b W O he=>?_;have E:b0 (nL wl w b W (qg ls)):=he;have HL:b0 _:=O;clear O he;rw[fF];go_simp
 (refine dG ?_; go_simp);refine dn.ie B ?_;clear B U;refine dn.seq (fx λU B y O=>?_);have E:b0 (nL wl y b W (qg ls)):=E.out.low O;clear O HL;go_wp2;refine eA B ?_;clear B U;refine dn.lY trivial rfl (dn.skip ?_);refine fx λU B y O=>?_;have C:=KR c fr too 1 y HQ.out.1 HQ.out.2.1 HQ.out.2.2.1 HQ.out.2.2.2.1 HQ.out.2.2.2.2.1 HQ.out.2.2.2.2.2 (by omega) (by omega);have E:b0 (nL wl y b W (qg ls)):=E.out.low O;clear O;go_wp2_with fail;refine C.mono ?_;clear C;rintro e w2 ⟨qb,rfl,hq,hb⟩;have E:b0 (nL wl w2 b W (qg ls)):=E.out.low (.of hb);have ak:b0 _:=hq;clear hb hq;go_wp2;refine eA B ?_;clear B U;refine fx λU B y O=>?_;have C:=fQ tg 256 y HG.out.1 HG.out.2.1 (by omega) (by omega);have E:b0 (nL wl y b W (qg ls)):=E.out.low O;clear O;go_wp2_with fail;refine C.mono ?_;clear C;rintro e w2 ⟨rfl,rfl⟩;have ht:=lC tg 256 (by omega);generalize pk tg 256=t at *;go_wp2;refine eA B ?_;clear B U;refine fx λU B y O=>?_;have C:=fQ mo 256 y HG.out.2.2.1 HG.out.2.2.2.1 (by omega) (by omega);have E:b0 (nL wl y b W (qg ls)):=E.out.low O;clear O;go_wp2_with fail;refine C.mono ?_;clear C;rintro e w2 ⟨rfl,rfl⟩;have hu:=lC mo 256 (by omega);generalize pk mo 256=u at *;go_wp2;refine eA B ?_;clear B U;refine fx λU B y O=>?_;have E:b0 (nL wl y b W (qg ls)):=E.out.low O
 have ew:IntKind.i64.wrap ((t:Int)+(u:Int))=((j6 t u 0:Nat):Int):=by
  unfold j6;rw[Nat.pow_zero,Nat.mod_one];simp only[b3];omega
 clear O;go_wp2;refine eA B ?_;clear B U;refine fx λU B y O=>?_;have E:b0 (nL wl y b W (qg ls)):=E.out.low O;clear O ew;go_wp2;go_loopw [21,22] (λq b wr=>∃j:Nat,j<=8/\q=.int .i64 (j6 t u j:Nat)/\b=.int .i64 (2 ^ j:Nat)/\y=wr) (λ_ b _=>512-(intOf b).toNat)
 case atStart=>exact⟨0,bi _,rfl,rfl,rfl⟩
 case round=>
  obtain⟨j,hj,rfl,rfl,rfl⟩:=hrel;have hB:j6 t u j<=510:=by unfold j6; omega
  have HS:b0 _:=KN t u j;have ai:b0 _:=NC t u j;have HP:b0 (2 ^ (j+1)=2 ^ j*2):=bn ..;have aj:1<=2 ^ j:=Nat.one_le_two_pow;by_cases al:j<8
  .have av:2 ^ j<=2 ^ 7:=Nat.pow_le_pow_right (by omega) (by omega);have aw:(t:Int).tdiv ((2 ^ j:Nat):Int)=((t / 2 ^ j:Nat):Int):=by rw[bv (by omega)]; rfl
   have ax:(u:Int).tdiv ((2 ^ j:Nat):Int)=((u / 2 ^ j:Nat):Int):=by rw[bv (by omega)]; rfl
   have ap:t / 2 ^ j<=t:=bl _ _;have aq:u / 2 ^ j<=u:=bl _ _;generalize t / 2 ^ j=d1 at *;generalize u / 2 ^ j=d2 at *;generalize 2 ^ j=p at *;generalize j6 t u j=q at *;have ar:(p:Int)<256:=by omega
   have ay:¬((p:Int)=0):=by omega
   have au:¬((p:Int) = -1):=by omega
   have az:IntKind.i64.wrap ((d1:Nat):Int)=(d1:Int):=by simp only[b3]; omega
   have a0:IntKind.i64.wrap ((d2:Nat):Int)=(d2:Int):=by simp only[b3]; omega
   have a3:IntKind.i64.wrap (2*(p:Int))=((p*2:Nat):Int):=by simp only[b3]; omega
   have aa:(d1:Int).tmod 2=((d1 % 2:Nat):Int):=by rw[bw (by omega)]; rfl
   have ab:(d2:Int).tmod 2=((d2 % 2:Nat):Int):=by rw[bw (by omega)]; rfl
   have hc:(d1 % 2=0)\/(d1 % 2=1/\d2 % 2=0)\/(d1 % 2=1/\d2 % 2=1):=by omega
   rcases hc with h1|⟨h1,h2⟩|⟨h1,h2⟩
   .rw[h1]at aa;have HSq:b0 (j6 t u (j+1)=q):=by have:=HS.out; rw[if_neg (by omega)]at this; exact this
    clear h1 ab;go_wp2;go_roundw
    case rel=>exact⟨j+1,by omega,by rw[HSq.out],by rw[HP.out]; first|rfl|(congr 1; omega),trivial⟩
    case measure=>simp[intOf]; omega
   .rw[h1]at aa;rw[h2]at ab;have HSq:b0 (j6 t u (j+1)=q):=by have:=HS.out; rw[if_neg (by omega)]at this; exact this
    clear h1 h2;go_wp2;go_roundw
    case rel=>exact⟨j+1,by omega,by rw[HSq.out],by rw[HP.out]; first|rfl|(congr 1; omega),trivial⟩
    case measure=>simp[intOf]; omega
   .have a4:p<=q:=ai.out ⟨h1,h2⟩;have a5:IntKind.i64.wrap ((q:Int)-(p:Int))=((q-p:Nat):Int):=by simp only[b3]; omega
    have HSq:b0 (j6 t u (j+1)=q-p):=by have:=HS.out; rw[if_pos ⟨h1,h2⟩]at this; exact this
    rw[h1]at aa;rw[h2]at ab;clear h1 h2;go_wp2;go_roundw
    case rel=>exact⟨j+1,by omega,by rw[HSq.out],by rw[HP.out]; first|rfl|(congr 1; omega),trivial⟩
    case measure=>simp[intOf]; omega
  .obtain rfl:j=8:=by omega
   have hx:¬(((2 ^ 8:Nat):Int)<256):=by decide
   rw[MP ht];have am:t ||| u<=255:=by have:=Nat.or_lt_two_pow (n:=8) (x:=t) (y:=u) (by omega) (by omega); omega
   have HO:b0 (∀(m:Nat)(e:dq),ix m (t ||| u) qb.data.toList e=true->ix m t qb.data.toList e=true):=λm e h=>QU h;generalize (t ||| u)=tb at *;clear hB HS ai HP aj al;go_wp2;refine eA B ?_;refine fx λU B y O=>?_;have C:=fQ Y 20 y HG.out.2.2.2.2.1 HG.out.2.2.2.2.2.1 (by omega) (by omega);have E:b0 (nL wl y b W _):=E.out.low O;go_wp2_with fail;refine C.mono ?_;rintro e w2 ⟨rfl,rfl⟩;have hp:=lC Y 20 (by omega);obtain⟨n,hn⟩:∃n:Nat,n=1+pk Y 20:=⟨_,rfl⟩;have ew:IntKind.i64.wrap (1+((pk Y 20):Int))=(n:Int):=by simp only[b3]; omega
   have an:1<=n:=by omega
   have ao:n<=20:=by omega
   clear hn hp;go_wp2;refine eA B ?_;refine fx λU B y O=>?_;have E:b0 _:=E.out.low O;have HA:b0 _:=k6.made E.out;go_wp2;refine eA B ?_;refine dn.seq (dn.sr λU B=>?_)
   (refine dG ?_; go_simp);refine dn.ie B ?_;refine dn.block (dn.loop ?_);exact GX (mE ⟨HR.out.1.2,HR.out.2.1⟩ (o9.refl _)) HR.out.2.1 ak.out (by omega) am an ao HO.out HG.out.2.2.2.2.2.2 4 0 rfl _ _ [] _ ⟨rfl,rfl,rfl,rfl,rfl,rfl,rfl,rfl⟩ HA.out (λj hj=>absurd hj (by omega)) rfl
end
end
end Go.Proofs.YtocbogeoffeolaaGreatDoor
