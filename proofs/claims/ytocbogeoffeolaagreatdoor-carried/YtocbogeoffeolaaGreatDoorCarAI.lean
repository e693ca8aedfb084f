import Derived.Test.YtocbogeoffeolaaGreatDoorCarAH
set_option linter.all false
set_option maxHeartbeats 8000000
set_option maxRecDepth 1000000
open List renaming getD_eq_getElem?_getD->be,replicate->bf,getElem?_eq_getElem->bg,getElem_mem->bh,take_of_length_le->bi,mem_singleton->bj,pairwise_map->bk,all_eq_true->bl,mem_filter->bm,mem_cons->bn
open Array renaming getElem?_eq_some_iff->bo,getElem?_setIfInBounds->bp,ext_getElem?->bq
open Nat renaming le_trans->br,lt_irrefl->bs,lt_of_lt_of_le->bt,mul_comm->bu,zero_le->bv,le_of_ble_eq_true->bw,le_refl->bx
open ByteArray renaming size_extract->bz,size_append->b0,data_append->b3,size->b4,ext->b5,data_extract->b6
open Go.RowKit renaming Hid->b7
open Go renaming Calls->b8,maxLen->b9,FuncId->b',yielded->bA,cell_later->bB,results->bC,TypeId->bD
open Int renaming tdiv_eq_ediv_of_nonneg->bE,neg_tdiv->bF
open Go.IntKind renaming wrap_i64->bG
open Go.World renaming cell?_alloc_at->bH,block_lt_of_cell?->bI,cell?->bJ
open Go.Region renaming wanted->bK
open Bool renaming and_eq_true->bL
open Go renaming undef->bM
namespace Go.Proofs.YtocbogeoffeolaaGreatDoor
open Go.Proofs.Tryz
section
open Go.Conc Go.RowKit Go.Maps
variable {ops:Array Oper} {rest:List Nat} {xs:List Wd} {c:Nat} {o:Oper} {y:World}
def TA{w:World}(B:y.heap=w.heap)(O:y.os=w.os):lq w y:=⟨O,by rw[B];exact bx _,λk _=>by rw[B]⟩
def WT(w:World):Prop:=NL w/\lK w
def nk{w:World}(h:lK w/\5<=w.heap.size)(B:lq w y):lK y:=Ji h.1 λr O=>B.block r (by omega)
def xY{w:World}(h:WT w)(h5:5<=w.heap.size)(O:lq w y):WT y:=by
 have B:∀j,y.cell? ⟨0,j,none⟩=w.cell? ⟨0,j,none⟩:=λj=>by simp only[bJ];rw[O.block 0 (by omega)]
 exact⟨⟨(B 0).trans h.1.1,(B 1).trans h.1.2.1,(B 2).trans h.1.2.2⟩,nk ⟨h.2,h5⟩ O⟩
structure sx(w0 w:World)(b:Nat)(buf:List dp)(ss:List (List dp))(ts:List (List Wd))(us:List (Value×List Wd)):Prop where
 x:∃F1 F2:Nat->Prop,AW w0 w F1 F2 b buf ss ts/\∀p∈us,Kept w F1 F2 p.1 p.2
section
variable {w0 w w':World} {b:Nat} {buf buf':List dp} {ss ss':List (List dp)} {ts ts':List (List Wd)} {us:List (Value×List Wd)}
def sx.low(h:sx w0 w b buf ss ts us)(B:lq w w'):sx w0 w' b buf ss ts us:=by
 obtain⟨F1,F2,O,U⟩:=h;exact⟨F1,F2,O.same B,λp hp=>(U p hp).step (St.same B)⟩
def sx.of{f:b'}{args:Array Value}{r:Value}(h:sx w0 w b buf ss ts us)(B:∀F1 F2,AW w0 w F1 F2 b buf ss ts->b8 prog f args w λe w'=>e=.returned r/\∃F1' F2',AW w0 w' F1' F2' b buf' ss' ts'/\St w w' F1 F2 F1' F2') :
  b8 prog f args w λe w'=>e=.returned r/\sx w0 w' b buf' ss' ts' us:=by
 obtain⟨F1,F2,O,U⟩:=h;refine(B F1 F2 O).mono ?_;rintro e w' ⟨rfl,F1',F2',k1,k2⟩;exact⟨rfl,F1',F2',k1,λp hp=>(U p hp).step k2⟩
def sx.Ta(h:sx w0 w b buf ss ts us)(s t:ByteArray)(x y:Int)(e:j8 buf ss s.data.toList t.data.toList x y=(c,buf'))(B:s.size<=b9:=by decide)(O:t.size<=b9:=by decide) :
  b8 prog 38 #[.pointer (some ⟨b,0,none⟩),.string s,.string t,.int .i64 x,.int .i64 y] w λe w'=>e=.returned (.int .i64 c)/\sx w0 w' b buf' ss ts us:=
 h.of λF1 F2 k=>by
  have:=k.Ta s t x y B O;rw[e]at this;exact this.mono λ_ _ ⟨h,U,k⟩=>⟨h,U,F2,k⟩
def sx.del(h:sx w0 w b buf ss ts us)(s:ByteArray)(e:lu buf ss s.data.toList=(c,buf'))(B:s.size<=b9:=by decide):b8 prog 37 #[.pointer (some ⟨b,0,none⟩),.string s] w λe w'=>e=.returned (.int .i64 c)/\sx w0 w' b buf' ss ts us:=
 h.of λF1 F2 k=>by
  have:=k.del s B;rw[e]at this;exact this.mono λ_ _ ⟨h,O,k⟩=>⟨h,O,F2,k⟩
def sx.flush(h:sx w0 w b buf ss ts us)(e:dW buf ss=(c,buf',ss')):b8 prog 29 #[.pointer (some ⟨b,0,none⟩)] w λe w'=>e=.returned (.int .i64 c)/\sx w0 w' b buf' ss' ts us:=
 h.of λF1 F2 k=>by
  have:=k.flush;rw[e]at this;exact this.mono λ_ _ ⟨h,B,k⟩=>⟨h,B,F2,k⟩
def sx.merge(h:sx w0 w b buf ss ts us)(n:Int)(e:eZ ss n=(c,ss')):b8 prog 39 #[.pointer (some ⟨b,0,none⟩),.int .i64 n] w λe w'=>e=.returned (.int .i64 c)/\sx w0 w' b buf ss' ts us:=
 h.of λF1 F2 k=>by
  have:=k.merge n;rw[e]at this;exact this.mono λ_ _ ⟨h,B,k⟩=>⟨h,B,F2,k⟩
def sx.observe(h:sx w0 w b buf ss ts us)(s:ByteArray)(e:tO ts s.data.toList=(c,ts'))(B:gG ts<=16777216:=by exact bw (by kernel_rfl))(O:s.size<=b9:=by decide):b8 prog 34 #[.pointer (some ⟨b,0,none⟩),.string s] w λe w'=>e=.returned (.int .i64 c)/\sx w0 w' b buf ss ts' us:=
 h.of λF1 F2 k=>by
  have:=k.observe s B O;rw[e]at this;exact this.mono λ_ _ ⟨h,U,k⟩=>⟨h,F1,U,k⟩
def sx.DO(h:sx w0 w b buf ss ts us)(O:WT w)(s:ByteArray)(most:Int)(e:vr ts s.data.toList most=(xs,0))(U:gG ts<=16777216:=by exact bw (by kernel_rfl))(hs:s.size<=b9:=by decide) :
  b8 prog 35 #[.pointer (some ⟨b,0,none⟩),.string s,.int .i64 most] w λe w'=>∃a n,e=.returned (.tuple #[.slice a xs.length n,.int .i64 (0:Nat)])/\sx w0 w' b buf ss ts ((.slice a xs.length n,xs)::us):=by
 obtain⟨F1,F2,h1,h2⟩:=h;have:=h1.DO O.1 s most U hs;rw[e]at this;refine this.mono ?_;rintro e w' ⟨v,rfl,k1,k2,k3⟩;obtain⟨a,n,rfl,_⟩:=dN k1.1;refine⟨a,n,rfl,F1,F2,k2,λp B=>?_⟩;rcases bn.1 B with rfl|B
 exact k1;exact(h2 p B).step (St.same k3)
def sx.kept(h:sx w0 w b buf ss ts us){v:Value}(B:(v,xs)∈us):∃F1 F2,Kept w F1 F2 v xs:=by
 obtain⟨F1,F2,U,O⟩:=h;exact⟨F1,F2,O _ B⟩
def sx.Tv(h:sx w0 w b buf ss ts us):∃B O F1,sO B O w F1 b buf ss:=by
 obtain⟨F1,F2,U,h2⟩:=h;obtain⟨B,O,hp⟩:=U.Tv;exact⟨B,O,F1,hp⟩
def sx.base(h:sx w0 w b buf ss ts us):lq w0 w:=by
 obtain⟨F1,F2,B,O⟩:=h;exact B.low
end
section
variable {Z:jj prog} {W0:World} {Mp:Nat->Prop} {fn:b'} {tm:Array Value} {os:List OF} {wl:World} {k:List Item} {V:List (Nat×Option (List Value))}
def sx.comp{w0:World}{b:Nat}{buf:List dp}{ss:List (List dp)}{ts:List (List Wd)}{us:List (Value×List Wd)}{i:Nat}{xs:Array Operand}{tys:Array bD}(mode dE most n:Nat)(qb:ByteArray){ls:List Wd}(h:sx w0 wl b buf ss ts us)(h5:5<=w0.heap.size)(O:lK wl)(e:(rG (dP ss buf) mode qb.data.toList dE most).1=ls)
  (hn:∀(w2:World)(a:Option Addr)(c:Nat),sx w0 w2 b buf ss ts ((.slice a n c,ls)::us)->dh (fg Z W0 Mp) (⟨fn,eP o.dst tm (.tuple #[.slice a n c,.int .i64 0]),.inRegion ops rest::k⟩::os) w2 []) (hl:ls.length=n:=by rfl) (hq:eA qb.data.toList=true:=by decide)
  (hi:ops[i]?=some o:=by rfl) (ab:bK o (bA ops tm)=true:=by rfl) (ho:o.op=.call {callee:=.value (.func 17),args:=xs,argTypes:=tys}:=by rfl) (ac:∀x∈xs.toList,dQ (fg Z W0 Mp).fF (fg Z W0 Mp).gl x:=by simp[dQ,Plain])
  (ha:xs.map (iW tm)=#[.pointer (some ⟨b,0,none⟩),.int .i64 (mode:Int),.string qb,.int .i64 (dE:Int),.int .i64 (most:Int)]:=by kernel_rfl) (hm:mode<=3:=by omega) (ht:dE<=255:=by omega) (U:1<=most:=by omega) (aa:most<=20:=by omega):dh (fg Z W0 Mp) (⟨fn,tm,.inRegion ops (i::rest)::k⟩::os) wl []:=by
 obtain⟨F1,F2,h1,h2⟩:=h;obtain⟨vM,vK,_,_,_,B⟩:=h1.Tv;have hI:=B.inv;refine h1.Tg h5 O hq (λw2 u L k1 ad B hs hk=>?_) hi ab ho ac ha hm ht U aa;rw[xb (rM hI) (λe he=>(Ca hI he).1) hm ht U aa hq B hs,e]at hk;obtain⟨a,c,rfl,_⟩:=dN hk.1;rw[hl];refine hn w2 a c ⟨F1,F2,k1,λp B=>?_⟩;rcases bn.1 B with rfl|B
 rw[<-hl];exact hk;exact(h2 p B).step (St.same ad)
def fw{c d:Code}(h:∀O,b7 (O=.code d::k)->∀y,lq wl y->c.wp prog (Fw (fg Z W0 Mp) fn O os V) ⟨tm,[]⟩ y)(B:jE (λo=>EB prog tP rj true o.op) c=true:=by kernel_rfl)(U:(Item.code d::k).all iT=true:=by rfl):dh (fg Z W0 Mp) (⟨fn,tm,.code (.seq c d)::k⟩::os) wl V:=
 dh.seq (dh.ET (nI B) U (.inr nofun) λτ _=>h _ rfl _ ⟨rfl,bx _,λ_ _=>rfl⟩)
def eo{P:Program}{E:Env P}{tmps:Array Value}{w':World}{B:List Item}(O:b7 (B=k))(h:dh E (⟨fn,tmps,k⟩::os) w' V):Fw E fn B os V .normal ⟨tmps,[]⟩ w':=by
 rw[O.out];exact ia h
def Iw{i:Nat}(hi:ops[i]?=some o)(hW:WT wl)(h5:5<=wl.heap.size)(hn:∀w2:World,lq wl w2->dh (fg Z W0 Mp) (⟨fn,eP o.dst tm (.bool true),.inRegion ops rest::k⟩::os) w2 []) :
  dh (fg Z W0 Mp) (⟨32,#[bM,bM,bM,bM,bM,bM,bM,bM,bM,bM,bM,bM,bM,bM,bM,bM,bM,bM,bM,bM,bM,bM,bM,bM,bM,bM,bM,bM,bM,bM,bM,bM,bM,bM,bM,bM,bM,bM,bM,bM,bM,bM,bM,bM,bM,bM,bM,bM,bM,bM,bM,bM,bM,bM,bM,bM,bM,bM,bM,bM,bM,bM,bM,bM,bM,bM,bM,bM,bM,bM,bM,bM,bM,bM,bM,bM,bM,bM,bM,bM,bM,bM,bM,bM,bM,bM,bM,bM,bM,bM,bM,bM,bM,bM,bM,bM,bM,bM,bM,bM,bM,bM,bM,bM,bM,bM,bM,bM,bM,bM,bM,bM,bM,bM,bM,bM,bM,bM,bM,bM,bM,bM,bM,bM,bM,bM,bM,bM,bM,bM,bM,bM,bM,bM,bM,bM,bM,bM,bM,bM,bM,bM,bM,bM,bM,bM,bM,bM,bM,bM,bM,bM,bM,bM],[.code (ed f32)]⟩::⟨fn,tm,.inRegion ops (i::rest)::k⟩::os) wl []:=by
 have HN:b7 _:=And.intro hW (And.intro h5 hn);clear hW h5 hn;show dh _ (⟨_,_,[.code (.seq (.region 0 _ false) (.seq (.region 1 _ false) (.seq (.seq (.region 2 _ false) (.cond _ _ .skip)) (.seq (.region 4 _ false) (.seq (.region 5 _ false) (.seq (.region 6 _ false) (.seq (.region 7 _ false) (.seq (.region 8 _ false) (.seq (.region 9 _ false) (.seq (.region 10 _ false) (.seq (.region 11 _ false) (.seq (.region 12 _ false) (.seq (.region 13 _ false) (.seq (.region 14 _ false) (.seq (.region 15 _ false) (.seq (.region 16 _ false) (.seq (.region 17 _ false) (.seq (.seq (.region 18 _ false) (.cond _ _ .skip)) (.seq (.region 20 _ false) (.seq (.region 21 _ false) (.seq (.region 22 _ false) (.seq (.region 23 _ false) (.seq (.region 24 _ false) (.seq (.region 25 _ false) .ret))))))))))))))))))))))))]⟩::_) _ _;refine dh.sr λkk B=>?_
 (refine dI ?_;go_simp);refine dh.ie B ?_;clear B kk;refine fw λkk B y O=>?_;have C:=TB y;have HL:b7 _:=O;clear O;go_wp2_with fail;refine C.mono ?_;clear C;rintro e w ⟨b,F1,F2,rfl,hA,hb⟩
 have U:b7 (sx wl w b [] [] [] []):=by
  have h0:=HL.out;exact⟨F1,F2,⟨hA.j,λk hk=>br h0.size (hA.T8 k hk),λk hk=>br h0.size (hA.NO k hk),h0.trans hA.low⟩,λp hp=>by cases hp⟩
 clear hA hb HL;go_wp2;refine eo B ?_;clear B kk;refine dh.seq (dh.sr λkk B=>?_)
 (iterate 2 (refine dI ?_;go_simp));refine dh.ie B ?_;clear B kk;refine dh.nW trivial rfl (dh.skip ?_);refine fw λkk B y O=>?_;have C:=(U.out.low O).Ta ⟨#[97]⟩ ⟨#[78,101,119,32,89,111,114,107]⟩ 50 1 t1;clear O;go_wp2_with fail;refine C.mono ?_;clear C;rintro e w ⟨rfl,hA⟩;have U:b7 _:=hA;clear hA;go_wp2;refine eo B ?_;clear B kk;refine fw λkk B y O=>?_;have C:=(U.out.low O).Ta ⟨#[98]⟩ ⟨#[78,101,119,97,114,107]⟩ 70 3 t2;clear O;go_wp2_with fail;refine C.mono ?_;clear C;rintro e w ⟨rfl,hA⟩;have U:b7 _:=hA;clear hA;go_wp2;refine eo B ?_;clear B kk;refine fw λkk B y O=>?_;have C:=(U.out.low O).Ta ⟨#[99]⟩ ⟨#[89,111,114,107]⟩ 60 1 t3;clear O;go_wp2_with fail;refine C.mono ?_;clear C;rintro e w ⟨rfl,hA⟩;have U:b7 _:=hA;clear hA;go_wp2;refine eo B ?_;clear B kk;refine dh.sr λkk B=>?_
 (refine dI ?_;go_simp);refine U.out.comp (i:=1) 0 0 5 2 ⟨#[110,101,119]⟩ HN.out.2.1 (nk ⟨HN.out.1.2,HN.out.2.1⟩ U.out.base) t4 λw a0 c0 hA=>?_;have U:b7 _:=hA;clear hA;rw[fv];go_simp
 (iterate 5 (refine dI ?_;go_simp));refine dh.ie B ?_;clear B kk;refine dh.sr λkk B=>?_
 (refine dI ?_;go_simp);refine U.out.comp (i:=1) 1 0 5 2 ⟨#[89,79,82,75]⟩ HN.out.2.1 (nk ⟨HN.out.1.2,HN.out.2.1⟩ U.out.base) t5 λw a1 c1 hA=>?_;have U:b7 _:=hA;clear hA;rw[fv];go_simp
 (iterate 5 (refine dI ?_;go_simp));refine dh.ie B ?_;clear B kk;refine dh.sr λkk B=>?_
 (refine dI ?_;go_simp);refine U.out.comp (i:=1) 2 2 5 1 ⟨#[110,119,101]⟩ HN.out.2.1 (nk ⟨HN.out.1.2,HN.out.2.1⟩ U.out.base) t6 λw a2 c2 hA=>?_;have U:b7 _:=hA;clear hA;rw[fv];go_simp
 (iterate 5 (refine dI ?_;go_simp));refine dh.ie B ?_;clear B kk;refine fw λkk B y O=>?_;have C:=(U.out.low O).flush t7;clear O;go_wp2_with fail;refine C.mono ?_;clear C;rintro e w ⟨rfl,hA⟩;have U:b7 _:=hA;clear hA;go_wp2;refine eo B ?_;clear B kk;refine fw λkk B y O=>?_;have C:=(U.out.low O).del ⟨#[98]⟩ t8;clear O;go_wp2_with fail;refine C.mono ?_;clear C;rintro e w ⟨rfl,hA⟩;have U:b7 _:=hA;clear hA;go_wp2;refine eo B ?_;clear B kk;refine fw λkk B y O=>?_;have C:=(U.out.low O).flush t9;clear O;go_wp2_with fail;refine C.mono ?_;clear C;rintro e w ⟨rfl,hA⟩;have U:b7 _:=hA;clear hA;go_wp2;refine eo B ?_;clear B kk;refine fw λkk B y O=>?_;obtain⟨vM,vK,F1,hp⟩:=(U.out.low O).Tv;have C:=SH y F1 b [] [[ea,eb,ec],[gb]] 1 hp;rw[t10]at C;have U:b7 _:=U.out.low O;clear hp;clear O;go_wp2_with fail;refine C.mono ?_;clear C;rintro e w ⟨rfl,rfl⟩;go_wp2;refine eo B ?_;clear B kk;refine fw λkk B y O=>?_;have C:=(U.out.low O).merge 0 (Prod.ext t11.1 rfl);clear O;go_wp2_with fail;refine C.mono ?_;clear C;rintro e w ⟨rfl,hA⟩;have U:b7 _:=hA;clear hA;go_wp2;refine eo B ?_;clear B kk;refine fw λkk B y O=>?_;have C:=(U.out.low O).observe ⟨#[116,104,101,32,99,97,116,32,115,97,116]⟩ t12;clear O;go_wp2_with fail;refine C.mono ?_;clear C;rintro e w ⟨rfl,hA⟩;have U:b7 _:=hA;clear hA;go_wp2;refine eo B ?_;clear B kk;refine fw λkk B y O=>?_;have C:=(U.out.low O).observe ⟨#[116,104,101,32,99,97,116,32,114,97,110]⟩ t13;clear O;go_wp2_with fail;refine C.mono ?_;clear C;rintro e w ⟨rfl,hA⟩;have U:b7 _:=hA;clear hA;go_wp2;refine eo B ?_;clear B kk;refine fw λkk B y O=>?_;have A:=U.out.low O;have C:=A.DO (xY HN.out.1 HN.out.2.1 A.base) ⟨#[116,104,101,32,99,97,116]⟩ 2 t14;clear A;clear O;go_wp2_with fail;refine C.mono ?_;clear C;rintro e w ⟨a4,c4,rfl,hA⟩;have U:b7 _:=hA;clear hA;go_wp2;refine eo B ?_;clear B kk;refine dh.seq (fw λkk B y O=>?_);have U:b7 _:=U.out.low O;clear O;go_wp2;refine eo B ?_;clear B kk;refine dh.nW trivial rfl (dh.skip ?_);refine fw λkk B y O=>?_;have U:b7 _:=U.out.low O;obtain⟨F1,F2,h⟩:=U.out.kept (.tail _ (.tail _ (.tail _ (.head _))));have C:=QK _ _ h;simp only[t15,t16,t17]at C;clear h;clear O;go_wp2_with fail;refine C.mono ?_;clear C;rintro e w ⟨rfl,rfl⟩;go_wp2;refine eo B ?_;clear B kk;refine fw λkk B y O=>?_;have U:b7 _:=U.out.low O;obtain⟨F1,F2,h⟩:=U.out.kept (.tail _ (.tail _ (.head _)));have C:=QK _ _ h;simp only[t15,t16,t17]at C;clear h;clear O;go_wp2_with fail;refine C.mono ?_;clear C;rintro e w ⟨rfl,rfl⟩;go_wp2;refine eo B ?_;clear B kk;refine fw λkk B y O=>?_;have U:b7 _:=U.out.low O;obtain⟨F1,F2,h⟩:=U.out.kept (.tail _ (.head _));have C:=Td _ ⟨#[]⟩ h;simp only[t15,t16,t17]at C;clear h;clear O;go_wp2_with fail;refine C.mono ?_;clear C;rintro e w ⟨rfl,rfl⟩;go_wp2;refine eo B ?_;clear B kk;refine fw λkk B y O=>?_;have U:b7 _:=U.out.low O;obtain⟨F1,F2,h⟩:=U.out.kept (.head _);have C:=QK _ _ h;clear h;clear O;go_wp2_with fail;refine C.mono ?_;clear C;rintro e w ⟨rfl,rfl⟩;go_wp2;refine eo B ?_;clear B kk;refine fw λkk B y O=>?_;have U:b7 _:=U.out.low O;obtain⟨vM,vK,F1,hp⟩:=U.out.Tv;have C:=Cp y F1 b [] (eZ [[ea,eb,ec],[gb]] 0).2 hp;rw[t11.2]at C;clear hp;clear O;go_wp2_with fail;refine C.mono ?_;clear C;rintro e w ⟨rfl,rfl⟩;go_wp2;refine eo B ?_;clear B kk;refine fw λkk B y O=>?_;have U:b7 _:=U.out.low O;clear O;go_wp2;refine eo B ?_;clear B kk;refine dh.back (v:=.bool true) (.inr ⟨_,rfl⟩) func32 hi (λτ=>by simp[bC,results32,go_sem]) ?_;exact HN.out.2.2 _ U.out.base
end
def PJ.stay{w w':World}{F1 F2:Nat->Prop}{b:Nat}{buf:List dp}{ss:List (List dp)}{ts:List (List Wd)}(h:PJ w F1 F2 b buf ss ts)(U:w.heap.size<=w'.heap.size)(hb:∀k,F1 k\/F2 k->w'.heap[k]?=w.heap[k]?):PJ w' F1 F2 b buf ss ts:=by
 obtain⟨h1,h2,h3,Bb,vS,B,n,vK,kn,h4,h5⟩:=h;exact⟨λk O=>bt (h1 k O) U,λk O=>bt (h2 k O) U,h3,Bb,vS,B,n,vK,kn,h4.stay λk O=>hb k (.inl O),h5.stay λk O=>hb k (.inr O)⟩
def I1:f32.name≠ "runtime.NumGoroutine":=by
 decide
section
variable {Z:jj prog} {W0:World} {Mp:Nat->Prop} {fn:b'} {tm:Array Value} {os:List OF} {wl:World} {V:List (Nat×Option (List Value))} {k:List Item}
def N2{c:Code}(B:jE (λo=>EB prog tP rj true o.op) c=true)(O:k.all iT=true)(h:∀y0:World,y0.heap=wl.heap->y0.os=wl.os->c.wp prog (Fw (fg Z W0 Mp) fn k os V) ⟨tm,[]⟩ y0):dh (fg Z W0 Mp) (⟨fn,tm,.code c::k⟩::os) wl V:=
 dh.ET (nI B) O (.inr nofun) λτ _=>h _ rfl rfl
end
structure Bc(w:World)(ra:Option Addr)(rs:List Int):Prop where
 cell:∀j(h:j<rs.length),∃b off,ra=some ⟨b,off,none⟩/\w.cell? ⟨b,off+j,none⟩=some (.int .i64 rs[j])
 lo:∀x∈rs,-9223372036854775808<=x
 hi:∀x∈rs,x<=9223372036854775807
variable {i k:Nat}
def lS(k:pw):Nat->Value
 |0=>.string ⟨k.name.toArray⟩|1=>.string ⟨k.text.toArray⟩|2=>.int .i64 k.du|3=>.int .i64 k.dE|_=>.bool k.there
def rF(b:Nat)(K:List pw)(j:Nat):Value:=if j=0 then .pointer (some ⟨b,0,none⟩)else lS (K.getD ((j-1) / 5) jh) ((j-1) % 5)
def mD(b:Nat)(K:List pw):Array Value:=Array.ofFn (n:=61) λj=>rF b K j.val
def mh(b:Nat)(K:List pw)(j:Nat):(mD b K)[j]?=if j<61 then some (rF b K j)else none:=by
 unfold mD;rw[Array.getElem?_ofFn];split<;>rfl
def KA(b:Nat)(K:List pw):(mD b K).size=61:=by unfold mD;simp
def Pe{b:Nat}{K:List pw}(B:K.length=12)(O:k<12)(hi:i<5):(mD b K)[1+5*k+i]?=some (lS (K[k]'(by omega)) i):=by
 rw[mh,if_pos (by omega)];unfold rF;rw[if_neg (by omega),show(1+5*k+i-1) / 5=k by omega,show(1+5*k+i-1) % 5=i by omega,be,bg _];rfl
def FT{b:Nat}{K:List pw}(U:K.length=12){j:Nat}(hk:k<12)(kn:pw)(B:∀i,i<5->j≠1+5*k+i):rF b (K.set k kn) j=rF b K j:=by
 unfold rF;split;rfl;have O:(j-1) / 5≠k:=λe=>B ((j-1) % 5) (by omega) (by omega);rw[be,be,List.getElem?_set_ne (by omega)]
def qF{b:Nat}{K:List pw}(B:K.length=12)(O:k<12)(hi:i<5)(kn:pw):rF b (K.set k kn) (1+5*k+i)=lS kn i:=by
 unfold rF;rw[if_neg (by omega),show(1+5*k+i-1) / 5=k by omega,show(1+5*k+i-1) % 5=i by omega,be,List.getElem?_set_self (by omega)];rfl
def Sm{b:Nat}{K:List pw}(B:K.length=12)(O:k<12)(kn:pw) :
  ((((((mD b K).setIfInBounds (1+5*k) (lS kn 0)).setIfInBounds (1+5*k+1) (lS kn 1)).setIfInBounds (1+5*k+2) (lS kn 2)).setIfInBounds (1+5*k+3) (lS kn 3)).setIfInBounds (1+5*k+4) (lS kn 4))=mD b (K.set k kn):=by
 apply bq;intro j;simp only[bp,Array.size_setIfInBounds,KA,mh];by_cases U:1+5*k+4=j;subst U;simp only[if_true];rw[if_pos (by omega),if_pos (by omega),qF B O (by omega)];rw[if_neg U];by_cases h3:1+5*k+3=j;subst h3;simp only[if_true];rw[if_pos (by omega),if_pos (by omega),qF B O (by omega)];rw[if_neg h3];by_cases h2:1+5*k+2=j;subst h2;simp only[if_true];rw[if_pos (by omega),if_pos (by omega),qF B O (by omega)];rw[if_neg h2];by_cases h1:1+5*k+1=j;subst h1;simp only[if_true];rw[if_pos (by omega),if_pos (by omega),qF B O (by omega)];rw[if_neg h1];by_cases h0:1+5*k=j;subst h0;simp only[if_true];rw[show 1+5*k=1+5*k+0 from rfl,qF B O (by omega)];rw[if_neg h0,FT B O kn λi hi=>by omega]
def SA{b:Nat}{K:List pw}(U:K.length=12)(hk:k<12) :
  (mD b K).setIfInBounds (1+5*k+4) (.bool false)=mD b (K.set k {K.getD k jh with there:=false}):=by
 have B:K.getD k jh=K[k]'(by omega):=by rw[be,bg _];rfl
 apply bq;intro j;simp only[bp,KA,mh];by_cases h4:1+5*k+4=j;subst h4;simp only[if_true];rw[if_pos (by omega),if_pos (by omega),qF U hk (by omega)];rfl;rw[if_neg h4];split;by_cases O:∃i,i<4/\j=1+5*k+i;obtain⟨i,hi,rfl⟩:=O;rw[qF U hk (by omega),B];have:=Pe (b:=b) U hk (show i<5 by omega);rw[mh,if_pos (by omega)]at this;rw[this];rcases(by omega:i=0\/i=1\/i=2\/i=3)with rfl|rfl|rfl|rfl<;>rfl
 rw[FT U hk _ λi hi e=>?_];by_cases h:i<4;exact O ⟨i,h,e⟩;exact h4 (by omega);rfl
structure WB(w0 w:World)(F1 F2:Nat->Prop)(b W:Nat)(K:List pw):Prop where
 blk:w.heap[W]?=some (.cells (mD b K) 39 (0,0))
 a1:¬F1 W
 a2:¬F2 W
 hi:w0.heap.size<=W
section
variable {w0 w w':World} {F1 F2:Nat->Prop} {b W:Nat} {buf:List dp} {ss:List (List dp)} {ts:List (List Wd)} {K:List pw}
def WB.lt(h:WB w0 w F1 F2 b W K):W<w.heap.size:=(bo.1 h.blk).1
def WB.low(h:WB w0 w F1 F2 b W K)(B:lq w w'):WB w0 w' F1 F2 b W K:=⟨(B.block W h.lt).trans h.blk,h.a1,h.a2,h.hi⟩
def WB.step{F1' F2':Nat->Prop}(h:WB w0 w F1 F2 b W K)(st:St w w' F1 F2 F1' F2'):WB w0 w' F1' F2' b W K:=by
 have:=h.lt;refine⟨(st.block W h.lt h.a1 h.a2).trans h.blk,λO=>?_,λO=>?_,h.hi⟩;rcases st.f1 W O with B|B
 exact h.a1 B;omega;rcases st.f2 W O with B|B
 exact h.a2 B;omega
def AW.other(h:AW w0 w F1 F2 b buf ss ts)(h1:¬F1 W)(h2:¬F2 W)(hi:w0.heap.size<=W)(U:w.heap.size<=w'.heap.size)(O:w'.os=w.os)(hb:∀k,k<w.heap.size->k≠W->w'.heap[k]?=w.heap[k]?):AW w0 w' F1 F2 b buf ss ts:=by
 refine⟨h.j.stay U λk B=>hb k (B.elim (h.j.Oh k) (h.j.P8 k)) λe=>?_,h.T8,h.NO,⟨O.trans h.low.os,br h.low.size U,λk B=>(hb k (bt B h.low.size) (by omega)).trans (h.low.block k B)⟩⟩;subst e;exact B.elim h1 h2
def tA(h:lY w w'):lq w w':=by
 obtain⟨τ,B⟩:=h;exact⟨B.os,B.size,B.block⟩
end
section
variable {w0 w w':World} {F1 F2:Nat->Prop} {b W:Nat} {buf:List dp} {ss:List (List dp)} {ts:List (List Wd)} {K:List pw}
def Vb{k:Nat}(h:k<12):pk (k:Int) 12=k:=by
 unfold pk;omega
def Sg(hA:AW w0 w F1 F2 b buf ss ts)(hB:WB w0 w F1 F2 b W K)(hS:Sk K buf ss)(x:Raw)(hx:x.Ok)(aa:x.du<0) :
  b8 prog 43 #[.pointer (some ⟨W,0,none⟩),ki x] w λe w'=>e=.returned (.bool true)/\∃F1' buf',AW w0 w' F1' F2 b buf' ss ts/\WB w0 w' F1' F2 b W (rh K x)/\Sk (rh K x) buf' ss:=by
 have ad:=hS.del x aa;have ab:=hS.len;have ac:=kD x.name 12 (by omega);have U:=SA (b:=b) ab ac;have ak:rh K x=K.set (pk x.name 12) {K.getD (pk x.name 12) jh with there:=false}:=by unfold rh;rw[if_pos aa]
 rw[<-ak]at U;generalize rh K x=K' at *;obtain⟨xn,xt,xw,xg⟩:=x;obtain⟨n0,n1,t0,t1,q0,q1,g0,g1⟩:=hx;simp only at n0 n1 t0 t1 q0 q1 g0 g1 aa ad ac U⊢;unfold ki;simp only;obtain⟨wa,ae⟩:∃wa,wa=w.alloc (.cells #[.int .i64 xn,.int .i64 xt,.int .i64 xw,.int .i64 xg] 48):=⟨_,rfl⟩;have ai:eK w wa:=by rw[ae];exact eK.alloc _ _
 have al:wa.heap[w.heap.size]?=some (.cells #[.int .i64 xn,.int .i64 xt,.int .i64 xw,.int .i64 xg] 48 (0,0)):=by rw[ae];exact qu _ _
 have d0:=dn al;have HA:b7 _:=hA.same (.of ai);have HB:b7 _:=hB.low (.of ai);have hp:=gH xn 12 wa n0 n1 (by omega) (by omega);obtain⟨k,hk⟩:∃k,k=pk xn 12:=⟨_,rfl⟩;rw[<-hk]at hp ac U ad
 have HN:b7 (∀y,b8 prog 23 #[.int .i64 (k:Int)] y λe w'=>e=.returned (.string ⟨(tr k).toArray⟩)/\y=w'):=λy=>by
  have:=vR (k:Int) y (by omega) (by omega);rw[Vb ac]at this;exact this
 have HX:b7 _:=And.intro ad U;have HL:b7 _:=And.intro ab ac;clear hA hB hS ad U ai al hk ab ak;go_enter func43,ntmps43;go_wp2_with fail;rw[<-ae];refine hp.mono ?_;rintro e w1 ⟨rfl,rfl⟩;clear hp ae;go_wp2_with fail;have HU:b7 (∀y,lY wa y->y.cell? ⟨W,0,none⟩=some (.pointer (some ⟨b,0,none⟩))):=λy hy=>lg hy (by rw[dn HB.out.blk,mh];rfl);refine ib (Sd:=λa y=>nH _ _ _ [6,7] a y) (last:=6) (tl:=[7]) (by kernel_rfl) ?_ (λa y h _=>h);refine dH 0 ?_ ?_<|dH 1 ?_ ?_<|dH 2 ?_ ?_<|dH 3 ?_ ?_<|dH 4 ?_ ?_ ?_
 any_goals(intro y hy;have q0:=HU.out y hy;unfold fT;go_simp;refine⟨eK.refl _,?_⟩;with_reducible rfl)
 go_simp;refine dH 5 ?_ ?_ ?_;rotate_left
 .intro y hy;unfold fT;go_simp;refine⟨rfl,(HN.out y).mono ?_⟩;rintro e y2 ⟨rfl,rfl⟩;refine⟨_,rfl,eK.refl _,?_⟩;with_reducible rfl
 go_simp;refine oA (by kernel_rfl) (λt=>ym (by kernel_rfl) (by kernel_rfl) _ _) ?_;intro y hy;have am:b7 _:=HA.out.same (tA hy);have an:b7 _:=HB.out.low (tA hy);clear hy HA HB HU HN d0;refine lO rfl rfl ?_;unfold fT;go_simp;refine⟨rfl,(am.out.del ⟨(tr k).toArray⟩ (by unfold b9;simp[tr,b4])).mono ?_⟩;rintro e y2 ⟨rfl,F1',ao,st⟩;have O:b7 _:=an.out.step st;have aj:b7 _:=ao;clear ao st am an;refine⟨_,rfl,?_⟩;refine lO rfl rfl ?_;unfold fT;go_simp;refine pV ?_;change b7 (AW w0 y2 F1' F2 b (lu buf ss (tr k)).2 ss ts)at aj;have ag:K.getD k jh=K[k]'(by have:=HL.out;omega):=by rw[be,bg (by have:=HL.out;omega)];rfl
 have c4:y2.cell? ⟨W,1+k*5+4,none⟩=some (.bool (K.getD k jh).there):=by
  have:=Pe (b:=b) HL.out.1 HL.out.2 (show 4<5 by omega);rw[bu 5 k]at this;rw[dn O.out.blk,this,ag];rfl
 have f4:=dO O.out.blk (1+k*5+4);obtain⟨y3,af⟩:∃y3,y2.setCell ⟨W,1+k*5+4,none⟩ (.bool false)=y3:=⟨_,rfl⟩
 have ah:b7 (∃F1' buf',AW w0 y3 F1' F2 b buf' ss ts/\WB w0 y3 F1' F2 b W K'/\Sk K' buf' ss):=by
  refine⟨F1',_,aj.out.other O.out.a1 O.out.a2 O.out.hi ?_ ?_ ?_,⟨?_,O.out.a1,O.out.a2,O.out.hi⟩,HX.out.1.2⟩;rw[<-af];simp;rw[<-af];rfl;intro j _ hj;rw[<-af,Below.heap_setCell _ _ _ _ hj];rw[<-af,heap_set O.out.blk,bu k 5,HX.out.2]
 have B:=HX.out.1.1;clear aj O HX ag
 cases ht:(K.getD k jh).there with
 |true=>
  rw[ht]at B c4;simp only[if_true]at B;rw[B];clear B ht;go_wp2;go_ret;exact⟨rfl,ah.out⟩
 |false=>
  rw[ht]at B c4;simp only[Bool.false_eq_true,if_false]at B;rw[B];clear B ht;go_wp2;go_ret;exact⟨rfl,ah.out⟩
end
section
variable {w0 w w':World} {F1 F2:Nat->Prop} {b W:Nat} {buf:List dp} {ss:List (List dp)} {ts:List (List Wd)} {K:List pw}
def SD(hA:AW w0 w F1 F2 b buf ss ts)(hB:WB w0 w F1 F2 b W K)(hS:Sk K buf ss)(x:Raw)(hx:x.Ok)(ab:¬x.du<0) :
  b8 prog 43 #[.pointer (some ⟨W,0,none⟩),ki x] w λe w'=>e=.returned (.bool true)/\∃F1' buf',AW w0 w' F1' F2 b buf' ss ts/\WB w0 w' F1' F2 b W (rh K x)/\Sk (rh K x) buf' ss:=by
 have ah:=hS.Ta x ab;have ac:=hS.len;have ae:=kD x.name 12 (by omega);have O:=Sm (b:=b) ac ae (kC x);have aw:rh K x=K.set (pk x.name 12) (kC x):=by unfold rh;rw[if_neg ab]
 have ax:=(KX (kD x.text 258 (by omega))).2.2;have hC:=λy=>zq x hx y;unfold K2 at hC;rw[<-aw]at O;generalize rh K x=K' at *;have ay:(kC x).there=true:=rfl;have ai:(kC x).text.length<=20:=ax;have aj:(kC x).name.length<=20:=by show[UInt8.ofNat (97+pk x.name 12)].length<=20;simp
 generalize kC x=kn at *;obtain⟨kN,kT,kW,kG,kB⟩:=kn;simp only at ay ai aj ah hC;subst ay;simp only[lS]at O;obtain⟨xn,xt,xw,xg⟩:=x;obtain⟨n0,n1,t0,t1,q0,q1,g0,g1⟩:=hx;simp only at n0 n1 t0 t1 q0 q1 g0 g1 ab ae O hC;unfold ki at hC⊢;simp only at hC⊢;obtain⟨wa,af⟩:∃wa,wa=w.alloc (.cells #[.int .i64 xn,.int .i64 xt,.int .i64 xw,.int .i64 xg] 48):=⟨_,rfl⟩;have ak:eK w wa:=by rw[af];exact eK.alloc _ _
 have az:wa.heap[w.heap.size]?=some (.cells #[.int .i64 xn,.int .i64 xt,.int .i64 xw,.int .i64 xg] 48 (0,0)):=by rw[af];exact qu _ _
 have d0:=dn az;have HA:b7 _:=hA.same (.of ak);have HB:b7 _:=hB.low (.of ak);have hp:=gH xn 12 wa n0 n1 (by omega) (by omega);obtain⟨k,hk⟩:∃k,k=pk xn 12:=⟨_,rfl⟩;rw[<-hk]at hp ae O;have HX:b7 _:=And.intro ah O;have HL:b7 _:=And.intro ac (And.intro ae (And.intro ai aj));have HC:b7 _:=hC;obtain⟨sn,al⟩:∃sn:ByteArray,sn=⟨kN.toArray⟩:=⟨_,rfl⟩;obtain⟨st,am⟩:∃st:ByteArray,st=⟨kT.toArray⟩:=⟨_,rfl⟩;rw[<-al,<-am]at HC HX;have HT:b7 _:=And.intro al am;clear hA hB hS ah O ak az hk ac aw ax ai aj hC al am;go_enter func43,ntmps43;go_wp2_with fail;rw[<-af];refine hp.mono ?_;rintro e w1 ⟨rfl,rfl⟩;clear hp af;go_wp2_with fail;refine(HC.out _).mono ?_;rintro e w1 ⟨rfl,an⟩;have HA:b7 _:=HA.out.same (.of an);have HB:b7 _:=HB.out.low (.of an);clear an d0 HC;go_wp2_with fail;obtain⟨wb,ag⟩:∃wb,w1.alloc (.cells #[.string sn,.string st,.int .i64 kW,.int .i64 kG,.bool true] 36)=wb:=⟨_,rfl⟩;rw[ag];have ao:eK w1 wb:=by rw[<-ag];exact eK.alloc _ _
 have ap:wb.heap[w1.heap.size]?=some (.cells #[.string sn,.string st,.int .i64 kW,.int .i64 kG,.bool true] 36 (0,0)):=by rw[<-ag];exact qu _ _
 have aq:b7 (¬F1 w1.heap.size/\¬F2 w1.heap.size):=⟨λhf=>absurd (HA.out.j.Oh _ hf) (bs _),λhf=>absurd (HA.out.j.P8 _ hf) (bs _)⟩;have HA:b7 _:=HA.out.same (.of ao);have HB:b7 _:=HB.out.low (.of ao);have HE:b7 (∀y,lY wb y->y.cell? ⟨W,0,none⟩=some (.pointer (some ⟨b,0,none⟩))/\y.heap[w1.heap.size]?=some (.cells #[.string sn,.string st,.int .i64 kW,.int .i64 kG,.bool true] 36 (0,0))):=λy U=>⟨lg U (by rw[dn HB.out.blk,mh];rfl),((tA U).block _ (bo.1 ap).1).trans ap⟩;clear ag ao ap;refine ib (Sd:=λa y=>nH _ _ _ [12,13] a y) (last:=12) (tl:=[13]) (by kernel_rfl) ?_ (λa y h _=>h);refine dH 0 ?_ ?_<|dH 1 ?_ ?_<|dH 2 ?_ ?_<|dH 3 ?_ ?_<|dH 4 ?_ ?_<|dH 5 ?_ ?_<|dH 6 ?_ ?_<|dH 7 ?_ ?_<|dH 8 ?_ ?_<|dH 9 ?_ ?_<|dH 10 ?_ ?_<|dH 11 ?_ ?_ ?_
 any_goals(intro y U;have q0:=(HE.out y U).1;have q1:=dn (HE.out y U).2;unfold fT;go_simp;refine⟨eK.refl _,?_⟩;with_reducible rfl)
 go_simp;refine oA (by kernel_rfl) (λt=>ym (by kernel_rfl) (by kernel_rfl) _ _) ?_;intro y U;have a5:b7 _:=HA.out.same (tA U);have a6:b7 _:=HB.out.low (tA U);have ar:b7 _:=(HE.out y U).2;clear U HA HB HE;refine lO rfl rfl ?_;unfold fT;go_simp;refine⟨rfl,(a5.out.Ta sn st kW kG ?_ ?_).mono ?_⟩;rw[HT.out.1];have:=HL.out.2.2.2;unfold b9;show kN.toArray.size<=_;simp;omega
 .rw[HT.out.2];have:=HL.out.2.2.1;unfold b9;show kT.toArray.size<=_;simp;omega
 rintro e y2 ⟨rfl,F1',a7,au⟩;have a8:b7 _:=a6.out.step au;have a9:b7 _:=a7;have av:b7 (y2.heap[w1.heap.size]?=some (.cells #[.string sn,.string st,.int .i64 kW,.int .i64 kG,.bool true] 36 (0,0))):=(au.block _ (bo.1 ar.out).1 aq.out.1 aq.out.2).trans ar.out;clear a7 au a5 a6 ar aq;refine⟨_,rfl,?_⟩;refine lO rfl rfl ?_;unfold fT;go_simp;refine pV ?_;have ad:(j8 buf ss sn.data.toList st.data.toList kW kG).1=0:=by rw[HT.out.1,HT.out.2];exact HX.out.1.1
 have a':b7 (Sk K' (j8 buf ss sn.data.toList st.data.toList kW kG).2 ss):=by show Sk _ _ _;rw[HT.out.1,HT.out.2];exact HX.out.1.2
 rw[ad];clear ad;generalize (j8 buf ss sn.data.toList st.data.toList kW kG).2=aC at *;go_wp2_with fail;have HM:b7 (∀y,lY y2 y->y.heap[w1.heap.size]?=_):=λy U=>((tA U).block _ (bo.1 av.out).1).trans av.out;refine ib (Sd:=λa y=>nH _ _ _ [6] a y) (last:=6) (tl:=[]) (by kernel_rfl) ?_ (λa y h _=>h);refine dH 0 ?_ ?_<|dH 1 ?_ ?_<|dH 2 ?_ ?_<|dH 3 ?_ ?_<|dH 4 ?_ ?_<|dH 5 ?_ ?_ ?_
 any_goals(intro y U;have q0:=dn (HM.out y U);have q2:(k:Int)<12:=by omega
           unfold fT;go_simp;refine⟨eK.refl _,?_⟩;with_reducible rfl)
 go_simp;refine oA (by kernel_rfl) (λt=>Eg (by kernel_rfl) _ _) ?_;intro y U;have aA:b7 _:=a9.out.same (tA U);have B:b7 _:=a8.out.low (tA U);clear U a9 a8 av HM;refine lO rfl rfl ?_;have aa:=λi (hi:i<5)=>Pe (b:=b) HL.out.1 HL.out.2.1 hi;rw[bu 5 k]at aa;have c0:y.cell? ⟨W,1+k*5,none⟩=some (lS (K[k]'(by have:=HL.out;omega)) 0):=by rw[dn B.out.blk];exact aa 0 (by omega)
 have c1:y.cell? ⟨W,1+k*5+1,none⟩=some (lS (K[k]'(by have:=HL.out;omega)) 1):=by rw[dn B.out.blk];exact aa 1 (by omega)
 have c2:y.cell? ⟨W,1+k*5+2,none⟩=some (lS (K[k]'(by have:=HL.out;omega)) 2):=by rw[dn B.out.blk];exact aa 2 (by omega)
 have c3:y.cell? ⟨W,1+k*5+3,none⟩=some (lS (K[k]'(by have:=HL.out;omega)) 3):=by rw[dn B.out.blk];exact aa 3 (by omega)
 have c4:y.cell? ⟨W,1+k*5+4,none⟩=some (lS (K[k]'(by have:=HL.out;omega)) 4):=by rw[dn B.out.blk];exact aa 4 (by omega)
 have f0:=dO B.out.blk;clear aa;unfold fT;go_simp;refine pV ?_;have S:=Ky (o:=1+k*5) B.out.blk (.string sn) (.string st) (.int .i64 kW) (.int .i64 kG) (.bool true);clear c0 c1 c2 c3 c4 f0;generalize ((((y.setCell ⟨W,1+k*5,none⟩ (.string sn)).setCell ⟨W,1+k*5+1,none⟩ (.string st)).setCell ⟨W,1+k*5+2,none⟩ (.int .i64 kW)).setCell ⟨W,1+k*5+3,none⟩ (.int .i64 kG)).setCell ⟨W,1+k*5+4,none⟩ (.bool true)=y5 at *
 have aB:b7 (∃F1' buf',AW w0 y5 F1' F2 b buf' ss ts/\WB w0 y5 F1' F2 b W K'/\Sk K' buf' ss):=by
  refine⟨F1',_,aA.out.other B.out.a1 B.out.a2 B.out.hi (by rw[S.size];exact bx _) S.os (λj _ hj=>S.other j hj),⟨?_,B.out.a1,B.out.a2,B.out.hi⟩,a'.out⟩;rw[S.blk,bu k 5,<-HX.out.2,HT.out.1,HT.out.2]
 clear S aA B a' HX HT HL;go_wp2;go_ret;exact⟨rfl,aB.out⟩
def Qb(O:AW w0 w F1 F2 b buf ss ts)(U:WB w0 w F1 F2 b W K)(hS:Sk K buf ss)(x:Raw)(hx:x.Ok) :
  b8 prog 43 #[.pointer (some ⟨W,0,none⟩),ki x] w λe w'=>e=.returned (.bool true)/\∃F1' buf',AW w0 w' F1' F2 b buf' ss ts/\WB w0 w' F1' F2 b W (rh K x)/\Sk (rh K x) buf' ss:=by
 by_cases B:x.du<0;exact Sg O U hS x hx B;exact SD O U hS x hx B
end
section
variable {w0 w w':World} {F1 F2:Nat->Prop} {b W:Nat} {buf:List dp} {ss:List (List dp)} {ts:List (List Wd)} {K:List pw}
def JE(hA:AW w0 w F1 F2 b buf ss ts)(hB:WB w0 w F1 F2 b W K)(hS:Sk K buf ss)(c:Int)(c0 : -9223372036854775808<=c)(c1:c<=9223372036854775807)(hz:¬pk c 3=0) :
  b8 prog 44 #[.pointer (some ⟨W,0,none⟩),.int .i64 c] w λe w'=>e=.returned (.bool true)/\∃F1' buf' ss',AW w0 w' F1' F2 b buf' ss' ts/\WB w0 w' F1' F2 b W K/\Sk K buf' ss':=by
 have u0:w.cell? ⟨W,0,none⟩=some (.pointer (some ⟨b,0,none⟩)):=by rw[dn hB.blk,mh];rfl
 have hp:=gH c 3 w c0 c1 (by omega) (by omega);have ak:=kD c 3 (by omega);have hC:=hA.iB;have hF:=hA.flush;have B:=hS.flush;have ai:=hS.inv.qg;have ad:=B.1.inv.qg;generalize (dW buf ss).2.1=aj at *;generalize (dW buf ss).2.2=ae at *;generalize (dW buf ss).1=cd at *;obtain⟨B,O⟩:=B;generalize pk c 3=k at *;have al:¬(k:Int)=0:=by omega
 have HB:b7 _:=hB;have af:b7 _:=B;generalize hn:ss.length=n at *;generalize aa:ae.length=n2 at *;have ag:b7 _:=aa;clear hA hB hS B hn aa;go_enter func44,ntmps44;go_wp2_with fail;refine hC.mono ?_;rintro e w1 ⟨rfl,rfl⟩;clear hC;go_wp2_with fail;refine hp.mono ?_;rintro e w1 ⟨rfl,rfl⟩;clear hp;go_wp2_with fail;refine hF.mono ?_;rintro e y2 ⟨rfl,F1',U,ab⟩;have ac:b7 _:=HB.out.step ab;have ah:b7 _:=U;have hC:=U.iB;rw[ag.out]at hC;have u1:y2.cell? ⟨W,0,none⟩=some (.pointer (some ⟨b,0,none⟩)):=by rw[dn ac.out.blk,mh];rfl
 clear hF U ab HB u0;go_wp2_with fail;refine hC.mono ?_;rintro e w1 ⟨rfl,rfl⟩;clear hC;rcases O with⟨rfl,rfl|⟨rfl,rfl⟩⟩|⟨rfl|rfl,rfl⟩
 all_goals
  go_wp2;go_ret;exact⟨rfl,F1',_,_,ah.out,ac.out,af.out⟩
def JN(hA:AW w0 w F1 F2 b buf ss ts)(hB:WB w0 w F1 F2 b W K)(hS:Sk K buf ss)(c:Int)(c0 : -9223372036854775808<=c)(c1:c<=9223372036854775807)(hz:pk c 3=0) :
  b8 prog 44 #[.pointer (some ⟨W,0,none⟩),.int .i64 c] w λe w'=>e=.returned (.bool true)/\∃F1' buf' ss',AW w0 w' F1' F2 b buf' ss' ts/\WB w0 w' F1' F2 b W K/\Sk K buf' ss':=by
 have u0:w.cell? ⟨W,0,none⟩=some (.pointer (some ⟨b,0,none⟩)):=by rw[dn hB.blk,mh];rfl
 have hp:=gH c 3 w c0 c1 (by omega) (by omega);obtain⟨d,hd⟩:∃d,c.tdiv 3=d:=⟨_,rfl⟩
 have ab : -9223372036854775808<=d/\d<=9223372036854775807:=by
  by_cases h0:0<=c;have:=bE (a:=c) (b:=3) h0;omega;have:=bE (a:=-c) (b:=3) (by omega);rw[bF]at this;omega
 have al:IntKind.i64.wrap d=d:=by simp only[bG];omega
 have HP:b7 (∀y,b8 prog 15 #[.int .i64 d,.int .i64 7] y λe w'=>e=.returned (.int .i64 (pk d 7:Nat))/\y=w'):=λy=>gH d 7 y ab.1 ab.2 (by omega) (by omega);have hC:=hA.iB;have B:=hS.merge (pk d 7:Nat);have HF:b7 (∀y,lq w y->b8 prog 39 #[.pointer (some ⟨b,0,none⟩),.int .i64 (pk d 7:Nat)] y λe w'=>e=.returned (.int .i64 (eZ ss (pk d 7:Nat)).1)/\∃F1',AW w0 w' F1' F2 b buf (eZ ss (pk d 7:Nat)).2 ts/\St y w' F1 F2 F1' F2):=λy O=>(hA.same O).merge _;have ak:=hS.inv.qg;have af:=B.1.inv.qg;generalize (eZ ss (pk d 7:Nat)).2=ag at *;generalize (eZ ss (pk d 7:Nat)).1=cd at *;obtain⟨B,U⟩:=B;generalize ((pk d 7:Nat):Int)=dk at *;rw[hz]at hp;have HB:b7 _:=hB;have ah:b7 _:=B;generalize hn:ss.length=n at *;generalize ac:ag.length=n2 at *;have ai:b7 _:=ac;clear hA hB hS B hn ac hz;go_enter func44,ntmps44;go_wp2_with fail;refine hC.mono ?_;rintro e w1 ⟨rfl,rfl⟩;clear hC;go_wp2_with fail;refine hp.mono ?_;rintro e w1 ⟨rfl,rfl⟩;clear hp;go_wp2_with fail;refine ib (Sd:=λa y=>nH _ _ _ [7,8] a y) (last:=7) (tl:=[8]) (by kernel_rfl) ?_ (λa y h _=>h);refine dH 0 ?_ ?_<|dH 1 ?_ ?_<|dH 2 ?_ ?_<|dH 3 ?_ ?_<|dH 4 ?_ ?_ ?_
 any_goals(intro y O;have q0:=lg O u0;unfold fT;go_simp;refine⟨eK.refl _,?_⟩;with_reducible rfl)
 go_simp;refine dH 5 ?_ ?_ ?_;rotate_left
 .intro y O;unfold fT;go_simp;refine⟨eK.refl _,?_⟩;with_reducible rfl
 go_simp;refine dH 6 ?_ ?_ ?_;rotate_left
 .intro y O;unfold fT;go_simp;refine⟨rfl,(HP.out y).mono ?_⟩;rintro e y2 ⟨rfl,rfl⟩;refine⟨_,rfl,eK.refl _,?_⟩;with_reducible rfl
 go_simp;refine oA (by kernel_rfl) (λt=>ym (by kernel_rfl) (by kernel_rfl) _ _) ?_;intro y O;have hF:=HF.out y (tA O);have HB:b7 _:=HB.out.low (tA O);clear O u0 HF HP;refine lO rfl rfl ?_;unfold fT;go_simp;refine⟨rfl,hF.mono ?_⟩;rintro e y2 ⟨rfl,F1',aa,ad⟩;have ae:b7 _:=HB.out.step ad;have aj:b7 _:=aa;have hC:=aa.iB;rw[ai.out]at hC;have u1:y2.cell? ⟨W,0,none⟩=some (.pointer (some ⟨b,0,none⟩)):=by rw[dn ae.out.blk,mh];rfl
 clear hF aa ad HB;refine⟨_,rfl,?_⟩;refine lO rfl rfl ?_;unfold fT;go_simp;refine pV ?_;go_wp2_with fail;refine hC.mono ?_;rintro e w1 ⟨rfl,rfl⟩;clear hC;rcases U with⟨rfl,rfl|rfl⟩|⟨rfl,rfl⟩
 all_goals
  go_wp2;go_ret;exact⟨rfl,F1',_,_,aj.out,ae.out,ah.out⟩
def MS(B:AW w0 w F1 F2 b buf ss ts)(O:WB w0 w F1 F2 b W K)(U:Sk K buf ss)(c:Int)(c0 : -9223372036854775808<=c)(c1:c<=9223372036854775807) :
  b8 prog 44 #[.pointer (some ⟨W,0,none⟩),.int .i64 c] w λe w'=>e=.returned (.bool true)/\∃F1' buf' ss',AW w0 w' F1' F2 b buf' ss' ts/\WB w0 w' F1' F2 b W K/\Sk K buf' ss':=by
 by_cases hz:pk c 3=0;exact JN B O U c c0 c1 hz;exact JE B O U c c0 c1 hz
end
variable {ls:List Raw} {la:Option Addr} {w:World}
def xl:Tryz.f21.name≠ "runtime.NumGoroutine":=by
 decide
def AW.base{wl y0:World}{F1 F2:Nat->Prop}{b:Nat}{buf:List dp}{ss:List (List dp)}{ts:List (List Wd)}(h:AW y0 w F1 F2 b buf ss ts)(B:lq wl y0):AW wl w F1 F2 b buf ss ts:=
 ⟨h.j,λk O=>br B.size (h.T8 k O),λk O=>br B.size (h.NO k O),B.trans h.low⟩
section
variable {Z:jj prog} {W0:World} {Mp:Nat->Prop} {fn:b'} {tm:Array Value} {os:List OF} {wl:World} {k:List Item}
def wC{i:Nat}(hi:ops[i]?=some o)(hW:WT wl)(h5:5<=wl.heap.size)
  (hn:∀(w2:World)(F1 F2:Nat->Prop)(b W:Nat),AW wl w2 F1 F2 b [] [] []->WB wl w2 F1 F2 b W (bf 12 jh)->dh (fg Z W0 Mp) (⟨fn,eP o.dst tm (.pointer (some ⟨W,0,none⟩)),.inRegion ops rest::k⟩::os) w2 []) :
  dh (fg Z W0 Mp) (⟨21,#[bM,bM,bM,bM,bM,bM,bM,bM,bM,bM,bM,bM,bM,bM],[.code (ed Tryz.f21)]⟩::⟨fn,tm,.inRegion ops (i::rest)::k⟩::os) wl []:=by
 have HN:b7 _:=And.intro hW (And.intro h5 hn);clear hW h5 hn;show dh _ (⟨_,_,[.code (.seq (.region 0 _ false) (.seq (.region 1 _ false) (.seq (.region 2 _ false) (.seq (.seq (.region 3 _ false) (.cond _ _ .skip)) (.seq (.region 5 _ false) .ret)))))]⟩::_) _ _;refine dh.sr λU B=>?_
 (refine dI ?_;go_simp);refine dh.ie B ?_;clear B U;refine dh.sr λU B=>?_;refine dh.qp (#[bM,bM,bM,bM,bM,bM,bM,bM,bM,bM,bM,bM,bM,bM,bM,bM,bM,bM,bM,bM,bM,bM,bM,bM,bM,bM,bM,bM,bM,bM,bM,bM,bM,bM,bM,bM,bM,bM,bM,bM,bM,bM,bM,bM,bM,bM,bM,bM,bM,bM,bM,bM,bM,bM,bM,bM,bM,bM,bM,bM,bM,bM,bM,bM,bM,bM,bM,bM,bM,bM,bM,bM,bM,bM,bM,bM,bM,bM,bM,bM,bM,bM,bM,bM,bM,bM,bM,bM,bM,bM,bM,bM,bM,bM,bM,bM,bM,bM,bM,bM,bM,bM,bM,bM,bM,bM,bM,bM,bM,bM,bM,bM,bM,bM,bM,bM,bM,bM,bM,bM,bM,bM,bM,bM,bM,bM,bM,bM,bM,bM,bM,bM,bM,bM,bM,bM,bM,bM,bM,bM,bM,bM,bM,bM,bM,bM,bM,bM,bM,bM,bM,bM,bM,bM]:Array Value) (i:=0) (gP:=f32) (c:=ed f32) rfl rfl func32 (by kernel_rfl) I1 rfl (by simp[dQ]) (by kernel_rfl) ?_;refine Iw rfl HN.out.1 HN.out.2.1 λw1 O=>?_;have aa:b7 _:=O;clear O;rw[fv];go_simp
 (refine dI ?_;go_simp);refine dh.ie B ?_;clear B U;refine fw λU B y0 hl=>?_;have C:=TB y0;have HL:b7 (lq wl y0):=aa.out.trans hl;clear hl;go_wp2_with fail;refine C.mono ?_;clear C;rintro e w2 ⟨b,F1,F2,rfl,hA,hb⟩;have HA:b7 (AW wl w2 F1 F2 b [] [] []):=hA.base HL.out;clear hA hb;go_wp2;refine eo B ?_;clear B U;refine dh.seq (fw λU B y1 hl=>?_);have HA:b7 _:=HA.out.same hl;clear hl;go_wp2;refine eo B ?_;clear B U;refine dh.nW trivial rfl (dh.skip (fw λU B y2 hl=>?_));have HA:b7 _:=HA.out.same hl;clear hl;go_wp2;refine eo B ?_;clear B U;refine dh.back (v:=.pointer (some ⟨y2.heap.size,0,none⟩)) (.inr ⟨_,rfl⟩) func21 hi (λτ=>by simp[bC,results21,go_sem]) ?_;refine HN.out.2.2 _ F1 F2 b _ (HA.out.same (.of (eK.alloc _ _))) ⟨(qu _ _).trans ?_,λhf=>absurd (HA.out.j.Oh _ hf) (bs _),λhf=>absurd (HA.out.j.P8 _ hf) (bs _),HA.out.low.size⟩;kernel_rfl
end
structure tn(w:World)(la:Option Addr)(ls:List Raw):Prop where
 cell:∀j(h:j<ls.length),∃b off,la=some ⟨b,off,none⟩/\w.cell? ⟨b,off+j*4,none⟩=some (.int .i64 ls[j].name)/\w.cell? ⟨b,off+j*4+1,none⟩=some (.int .i64 ls[j].text)/\w.cell? ⟨b,off+j*4+2,none⟩=some (.int .i64 ls[j].du)/\w.cell? ⟨b,off+j*4+3,none⟩=some (.int .i64 ls[j].dE)
 ok:∀x∈ls,x.Ok
def nB{a:Addr}{v:Value}(B:lq w y)(h:w.cell? a=some v):y.cell? a=some v:=by
 rw[<-h];exact World.cell?_of_block (B.block _ (bI w a h))
def tn.low(h:tn w la ls)(B:lq w y):tn y la ls:=⟨λj O=>by
 obtain⟨b,off,e,U,h2,h3,h4⟩:=h.cell j O
 exact⟨b,off,e,nB B U,nB B h2,nB B h3,nB B h4⟩,h.ok⟩
def Bc.low{ls:List Int}(h:Bc w la ls)(B:lq w y):Bc y la ls:=⟨λj O=>by
 obtain⟨b,off,e,U⟩:=h.cell j O
 exact⟨b,off,e,nB B U⟩,h.lo,h.hi⟩
def mo(ls:List Raw)(c:Nat):List pw:=(ls.take c).foldl rh (bf 12 jh)
def yP(ls:List Raw):List pw:=mo ls 80
def GS(ls:List Raw)(c:Nat)(h:c<ls.length):mo ls (c+1)=rh (mo ls c) ls[c]:=by
 unfold mo;rw[List.take_succ_eq_append_getElem h,List.foldl_append];rfl
def GX:Tryz.f14.name≠ "runtime.NumGoroutine":=by
 decide
section
variable {Z:jj prog} {W0:World} {Mp:Nat->Prop} {fn:b'} {tm:Array Value} {os:List OF} {wl:World} {k:List Item}
def EM{i:Nat}{ta:Option Addr}{rs:List Int}{lc rc:Nat}(hi:ops[i]?=some o)(hW:WT wl)(h5:5<=wl.heap.size)(hL:tn wl la ls)(hT:Bc wl ta rs)(ae:ls.length<=lc)(af:rs.length<=rc)(ag:ls.length<=9223372036854775807)(ah:rs.length<=9223372036854775807)
  (hn:∀(w2:World)(F1 F2:Nat->Prop)(b W:Nat)(buf:List dp)(ss:List (List dp)),AW wl w2 F1 F2 b buf ss []->WB wl w2 F1 F2 b W (yP ls)->Sk (yP ls) buf ss->dh (fg Z W0 Mp) (⟨fn,eP o.dst tm (.pointer (some ⟨W,0,none⟩)),.inRegion ops rest::k⟩::os) w2 []) :
  dh (fg Z W0 Mp) (⟨14,#[.slice la ls.length lc,.slice ta rs.length rc,bM,bM,bM,bM,bM,bM,bM,bM,bM,bM,bM,bM,bM,bM,bM,bM,bM,bM,bM,bM,bM,bM,bM,bM,bM,bM,bM,bM,bM,bM,bM,bM,bM,bM,bM,bM,bM,bM,bM,bM,bM,bM,bM,bM,bM,bM,bM,bM,bM],[.code (ed Tryz.f14)]⟩::⟨fn,tm,.inRegion ops (i::rest)::k⟩::os) wl []:=by
 have HN:b7 _:=And.intro hW (And.intro h5 hn);have HR:b7 _:=And.intro hL (And.intro hT (And.intro ae (And.intro af (And.intro ag ah))));clear hW h5 hn hL hT ae af ag ah;show dh _ (⟨_,_,[.code (.seq (.region 0 _ false) (.seq (.region 1 _ false) (.seq (.seq (.region 2 _ false) (.cond _ _ .skip)) (.seq (.seq (.region 4 _ false) (.block 0 _)) (.seq (.region 14 _ false) .ret)))))]⟩::_) _ _;refine dh.sr λkk B=>?_
 (refine dI ?_;go_simp);refine dh.ie B ?_;clear B kk;refine dh.sr λkk B=>?_;refine dh.qp (#[bM,bM,bM,bM,bM,bM,bM,bM,bM,bM,bM,bM,bM,bM]:Array Value) (i:=0) (gP:=Tryz.f21) (c:=ed Tryz.f21) rfl rfl func21 (by kernel_rfl) xl rfl (by simp[dQ]) (by kernel_rfl) ?_;refine wC rfl HN.out.1 HN.out.2.1 λw1 F1 F2 b W O U=>?_;have HA:b7 _:=O;have HB:b7 _:=U;clear O U;rw[fv];go_simp
 (refine dI ?_;go_simp);refine dh.ie B ?_;clear B kk;refine dh.seq (fw λkk B y1 hl=>?_);have HA:b7 _:=HA.out.same hl;have HB:b7 _:=HB.out.low hl;clear hl;go_wp2;refine eo B ?_;clear B kk;refine dh.nW trivial rfl (dh.skip (fw λkk B y2 hl=>?_));have HA:b7 _:=HA.out.same hl;have HB:b7 _:=HB.out.low hl;clear hl;have ae:=HR.out.2.2.1;have af:=HR.out.2.2.2.1;have ag:=HR.out.2.2.2.2.1;have ah:=HR.out.2.2.2.2.2;go_wp2;go_loopw [6] (λi wr=>∃(c:Nat)(F1':Nat->Prop)(buf:List dp)(ss:List (List dp)),c<=80/\c<=ls.length/\i=.int .i64 (c:Nat)/\AW wl wr F1' F2 b buf ss []/\WB wl wr F1' F2 b W (mo ls c)/\Sk (mo ls c) buf ss) (λi _=>ls.length-(intOf i).toNat)
 case atStart=>exact⟨0,F1,[],[],bv _,bv _,rfl,HA.out,HB.out,Sk.new⟩
 case round=>
  obtain⟨c,F1',buf,ss,ar,jP,rfl,O,U,hS⟩:=hrel;have aa:b7 _:=O;have ac:b7 _:=U;have ad:b7 _:=hS;clear O U hS HA HB;by_cases h1:c<ls.length
  .have ak:(c:Int)<(ls.length:Int):=by omega
   by_cases h2:c<80
   .have al:(c:Int)<80:=by omega
    obtain⟨lb,lo,rfl,c0,c1,c2,c3⟩:=(HR.out.1.low aa.out.low).cell c h1;have C:=Qb aa.out ac.out ad.out ls[c] (HR.out.1.ok _ (bh h1));rw[<-GS ls c h1]at C;unfold ki at C;generalize ls[c].name=xn at *;generalize ls[c].text=xt at *;generalize ls[c].du=xw at *;generalize ls[c].dE=xg at *;clear aa ac ad;go_wp2_with fail;refine C.mono ?_;clear C;rintro e w2 ⟨rfl,F3,buf2,O,U,hS⟩;have HA3:b7 _:=O;have HB3:b7 _:=U;have HS3:b7 _:=hS;clear O U hS c0 c1 c2 c3;by_cases h3:c<rs.length
    .have am:(c:Int)<(rs.length:Int):=by omega
     obtain⟨tb,au,rfl,d0⟩:=(HR.out.2.1.low HA3.out.low).cell c h3;have an:=HR.out.2.1.lo rs[c] (bh h3);have ao:=HR.out.2.1.hi rs[c] (bh h3);generalize rs[c]=x at *;have C:b8 prog 15 #[.int .i64 x,.int .i64 4] w2 λe w'=>e=.returned (.int .i64 (pk x 4:Nat))/\w2=w':=gH x 4 w2 an ao (by omega) (by omega);by_cases hz:pk x 4=0
     .rw[hz]at C;obtain⟨d,hd⟩:∃d,x.tdiv 4=d:=⟨_,rfl⟩
      have ai : -9223372036854775808<=d/\d<=9223372036854775807:=by
       by_cases h0:0<=x;have:=bE (a:=x) (b:=4) h0;omega;have:=bE (a:=-x) (b:=4) (by omega);rw[bF]at this;omega
      have ap:IntKind.i64.wrap d=d:=by simp only[bG];omega
      have D:=MS HA3.out HB3.out HS3.out d ai.1 ai.2;clear hz HA3 HB3 HS3 ai;go_wp2_with fail;refine C.mono ?_;clear C;rintro e w3 ⟨rfl,rfl⟩;go_wp2_with fail;refine D.mono ?_;clear D;rintro e w3 ⟨rfl,F4,buf3,ss3,O,U,hS⟩;have HA4:b7 _:=O;have HB4:b7 _:=U;have HS4:b7 _:=hS;clear O U hS d0 hd ap;go_wp2;go_roundw
      case rel=>exact⟨c+1,F4,buf3,ss3,by omega,by omega,by go_num,HA4.out,HB4.out,HS4.out⟩
      case measure=>simp[intOf];omega
     generalize pk x 4=pz at *;have av:¬(pz:Int)=0:=by omega
     go_wp2_with fail;refine C.mono ?_;clear C;rintro e w3 ⟨rfl,rfl⟩;go_wp2;go_roundw
     case rel=>exact⟨c+1,F3,buf2,ss,by omega,by omega,by go_num,HA3.out,HB3.out,HS3.out⟩
     case measure=>simp[intOf];omega
    have am:¬(c:Int)<(rs.length:Int):=by omega
    go_wp2;go_roundw
    case rel=>exact⟨c+1,F3,buf2,ss,by omega,by omega,by go_num,HA3.out,HB3.out,HS3.out⟩
    case measure=>simp[intOf];omega
   have al:¬(c:Int)<80:=by omega
   have ab:b7 (mo ls c=yP ls):=by
    show mo ls c=mo ls 80;rw[show c=80 by omega]
   go_wp2;refine eo B ?_;refine dh.seq ?_;refine kY λaq aj=>?_;refine dh.region ?_
   (iterate 2 (refine dI ?_;go_simp));refine dh.inRegion ?_;rw[aj.out];refine dh.back (v:=.pointer (some ⟨W,0,none⟩)) (.inr ⟨_,rfl⟩) func14 hi (λτ=>by simp[bC,results14,go_sem]) ?_;exact HN.out.2.2 _ F1' F2 b W buf ss aa.out (ab.out▸ac.out) (ab.out▸ad.out)
  have ak:¬(c:Int)<(ls.length:Int):=by omega
  have ab:b7 (mo ls c=yP ls):=by
   show mo ls c=mo ls 80;unfold mo;rw[bi (by omega),bi (by omega)]
  go_wp2;refine eo B ?_;refine dh.seq ?_;refine kY λaq aj=>?_;refine dh.region ?_
  (iterate 2 (refine dI ?_;go_simp));refine dh.inRegion ?_;rw[aj.out];refine dh.back (v:=.pointer (some ⟨W,0,none⟩)) (.inr ⟨_,rfl⟩) func14 hi (λτ=>by simp[bC,results14,go_sem]) ?_;exact HN.out.2.2 _ F1' F2 b W buf ss aa.out (ab.out▸ac.out) (ab.out▸ad.out)
end
variable {ss:List (List dp)} {buf:List dp} {K:List pw}
def Uk(K:List pw):List dp:=(K.filter λk=>k.there).map AU
def DM(h:Sk K buf ss):((Uk K).map dp.name).Nodup:=by
 unfold Uk;rw[List.map_map];show(List.map ..).Pairwise _;rw[bk,List.pairwise_filter,List.pairwise_iff_getElem];intro i j hi B U h1 h2 e;have O:K[i].name=K[j].name:=e;rw[(h.x9 i hi h1).1,(h.x9 j B h2).1]at O;have:=Kq (by rw[<-h.len];exact hi) (by rw[<-h.len];exact B) O;omega
def IA{e:dp}:e∈Uk K↔∃i,∃h:i<K.length,K[i].there=true/\e=AU K[i]:=by
 unfold Uk;rw[List.mem_map];constructor;rintro⟨a,O,rfl⟩;obtain⟨B,U⟩:=bm.1 O;obtain⟨i,hi,rfl⟩:=List.mem_iff_getElem.1 B;exact⟨i,hi,U,rfl⟩;rintro⟨i,hi,B,rfl⟩;exact⟨K[i],bm.2 ⟨bh hi,B⟩,rfl⟩
def rQ{l:List dp}(h:(l.map dp.name).Nodup):l.Nodup:=by
 unfold List.Nodup at h⊢;rw[bk]at h;exact h.imp λh e=>h (by rw[e])
def Sk.perm(h:Sk K buf ss):(dP ss buf).Perm (Uk K):=by
 rw[List.perm_ext_iff_of_nodup (rQ (rM h.inv)) (rQ (DM h))];intro e;rw[h.there e,IA]
def uc.low{w w':World}{s n:Nat}{v:Value}{xs:List Value}(h:uc w s v n xs)(U:lq w w'):uc w' s v n xs:=h.later λa u B=>by
 have O:=bI w a B;simp only[bJ]at B⊢;rw[U.block _ O];exact B
def Cw(va vb:Value)(xs:List Wd)(w:World)(ha:uc w 1 va xs.length (dl xs))(hb:uc w 1 vb xs.length (dl xs))(hx:xs.length<=1000000) :
  b8 prog 19 #[va,vb] w λe w'=>e=.returned (.bool true)/\Below w.heap.size w w':=by
 obtain⟨aa,ca,rfl,ac,O,_,hA⟩:=ha;obtain⟨ab,cb,rfl,ad,U,_,hB⟩:=hb;have HA:b7 (∀j(h:j<xs.length),∃b off,aa=some ⟨b,off,none⟩/\w.cell? ⟨b,off+j,none⟩=some (.string ⟨xs[j].toArray⟩)):=λj h=>hA j _ (G0 xs j h);have HB:b7 (∀j(h:j<xs.length),∃b off,ab=some ⟨b,off,none⟩/\w.cell? ⟨b,off+j,none⟩=some (.string ⟨xs[j].toArray⟩)):=λj h=>hB j _ (G0 xs j h);clear hA hB O U;go_enter func19,ntmps19;go_wp2;go_loopw [5] (λi wr=>∃n:Nat,n<=xs.length/\i=.int .i64 n/\Below _ w wr) (λi _=>xs.length-(intOf i).toNat)
 case atStart=>exact⟨0,bv _,rfl,Below.refl ..⟩
 case round=>
  obtain⟨n,hn,rfl,hb⟩:=hrel;have HBW:b7 _:=hb;by_cases B:n<xs.length
  .obtain⟨b1,o1,rfl,c1⟩:=HA.out n B;obtain⟨b2,o2,rfl,c2⟩:=HB.out n B;have d1:=bB HBW.out c1;have d2:=bB HBW.out c2;go_wp2;go_quiet (fail);go_wp2;go_roundw
   case rel=>exact⟨n+1,by omega,by go_num,iO HBW.out _⟩
   case measure=>simp[intOf];omega
  go_wp2;go_ret;exact⟨rfl,HBW.out⟩
def GV{q:ByteArray}(B:q.size<=24)(O:∀c∈q.data.toList,oP c=true):eA q.data.toList=true:=by
 unfold eA;simp only[bL,decide_eq_true_eq,bl];exact⟨B,O⟩
def vw{q:Wd}(h:eA q=true):q.length<=24/\∀c∈q,oP c=true:=by
 unfold eA at h;simp only[bL,decide_eq_true_eq,bl]at h;exact h
def ext_mem{s:ByteArray}{a b:Nat}{c:UInt8}(h:c∈(s.extract a b).data.toList):c∈s.data.toList:=by
 have e:(s.extract a b).data.toList=(s.data.toList.drop a).take (b-a):=by simp[b6]
 rw[e]at h;exact List.mem_of_mem_drop (List.mem_of_mem_take h)
def M8(c fr too ch:Int)(w:World)(c0 : -9223372036854775808<=c)(c1:c<=9223372036854775807)(f0 : -9223372036854775808<=fr)(f1:fr<=9223372036854775807)(t0 : -9223372036854775808<=too)(t1:too<=9223372036854775807)(h0 : -9223372036854775808<=ch)(h1:ch<=9223372036854775807) :
  b8 prog 16 #[.int .i64 c,.int .i64 fr,.int .i64 too,.int .i64 ch] w λe w'=>∃q:ByteArray,e=.returned (.string q)/\eA q.data.toList=true/\Below w.heap.size w w':=by
 have C:=Cb c w c0 c1;obtain⟨x1,_,x3⟩:=KX (kD c 258 (by omega));obtain⟨s,hs⟩:∃s:ByteArray,s=⟨(Bi (pk c 258)).toArray⟩:=⟨_,rfl⟩;have aj:s.size<=20:=by rw[hs];show(Bi (pk c 258)).toArray.size<=20;simpa using x3
 have ah:b7 (∀d∈s.data.toList,oP d=true):=by rw[hs];exact(vw x1).2
 rw[<-hs]at C;clear hs x1 x3;have A:=λy=>gH fr (s.size+1) y f0 f1 (by omega) (by omega);have ha:=kD fr (s.size+1) (by omega);generalize pk fr (s.size+1)=a at *;have B:=λy=>gH too (s.size-a+1) y t0 t1 (by omega) (by omega);have hb:=kD too (s.size-a+1) (by omega);generalize pk too (s.size-a+1)=b at *;have e1:((s.size+1:Nat):Int)=(s.size:Int)+1:=by omega
 have e2:((s.size-a+1:Nat):Int)=(s.size:Int)-(a:Int)+1:=by omega
 rw[e1]at A;rw[e2]at B;have ab:b7 _:=A;have ac:b7 _:=B;clear A B e1 e2;have ai:min (a+b) s.size=a+b:=by omega
 have HQ:b7 (eA (s.extract a (a+b)).data.toList=true):=GV (by rw[bz];omega) λd U=>ah.out d (ext_mem U);by_cases hz:ch.tmod 3=0
 .by_cases af:0<b
  .have ag:0<(b:Int):=by omega
   obtain⟨d,U⟩:∃d,ch.tdiv 3=d:=⟨_,rfl⟩
   have ae : -9223372036854775808<=d/\d<=9223372036854775807:=by
    by_cases h0:0<=ch;have:=bE (a:=ch) (b:=3) h0;omega;have:=bE (a:=-ch) (b:=3) (by omega);rw[bF]at this;omega
   have ak:IntKind.i64.wrap d=d:=by simp only[bG];omega
   have D:=λy=>gH d b y ae.1 ae.2 af (by omega);have hk:=kD d b af;generalize pk d b=k at *;have HD:b7 _:=D;clear D ae;go_enter func16,ntmps16;go_wp2_with fail;refine C.mono ?_;clear C;rintro e w1 ⟨rfl,O⟩;have aa:b7 _:=O;clear O;go_wp2_with fail;refine(ab.out w1).mono ?_;rintro e w2 ⟨rfl,rfl⟩;go_wp2_with fail;refine(ac.out w1).mono ?_;rintro e w2 ⟨rfl,rfl⟩;go_wp2_with fail;refine(HD.out w1).mono ?_;rintro e w2 ⟨rfl,rfl⟩;obtain⟨s2,ad⟩:∃s2,s2=s.extract a (a+b):=⟨_,rfl⟩;have al:s2.size=b:=by rw[ad,bz];omega
   rw[<-ad];rw[<-ad]at HQ;clear ad HD ab ac;have am:(k:Int)+1<=(b:Int):=by omega
   have an:min k s2.size=k:=by omega
   have ao:min k b=k:=by omega
   go_wp2;go_quiet (fail);go_wp2;go_ret;refine⟨_,rfl,GV ?_ λd U=>?_,iO aa.out _⟩;simp only[b0,bz];show _+1+_<=24;omega;simp only[b3,Array.toList_append,List.mem_append]at U;rcases U with(U|U)|U
   exact(vw HQ.out).2 d (ext_mem U);have:d=88:=by simpa using U
   rw[this];decide;exact(vw HQ.out).2 d (ext_mem U)
  have ag:¬0<(b:Int):=by omega
  go_enter func16,ntmps16;go_wp2_with fail;refine C.mono ?_;clear C;rintro e w1 ⟨rfl,O⟩;have aa:b7 _:=O;clear O;go_wp2_with fail;refine(ab.out w1).mono ?_;rintro e w2 ⟨rfl,rfl⟩;go_wp2_with fail;refine(ac.out w1).mono ?_;rintro e w2 ⟨rfl,rfl⟩;go_wp2;go_ret;exact⟨_,rfl,HQ.out,aa.out⟩
 go_enter func16,ntmps16;go_wp2_with fail;refine C.mono ?_;clear C;rintro e w1 ⟨rfl,O⟩;have aa:b7 _:=O;clear O;go_wp2_with fail;refine(ab.out w1).mono ?_;rintro e w2 ⟨rfl,rfl⟩;go_wp2_with fail;refine(ac.out w1).mono ?_;rintro e w2 ⟨rfl,rfl⟩;go_wp2;go_ret;exact⟨_,rfl,HQ.out,aa.out⟩
def TN(w0 w:World)(b W:Nat)(K:List pw):Prop:=5<=w0.heap.size/\∃(F1 F2:Nat->Prop)(buf:List dp)(ss:List (List dp)),AW w0 w F1 F2 b buf ss []/\WB w0 w F1 F2 b W K/\Sk K buf ss
def lH(K:List pw)(mode:Nat)(B:ByteArray)(dE most:Nat):List Wd:=(rG (Uk K) mode B.data.toList dE most).1
def nF(w:World)(v:Value)(xs:List Wd):Prop:=uc w 1 v xs.length (dl xs)
def nF.low{w w':World}{v:Value}{xs:List Wd}(h:nF w v xs)(B:lq w w'):nF w' v xs:=uc.low h B
def BV(l:List dp)(ok:Nat->Bool):∀(n:Nat)(t:List Nat),(q9 l ok n t).length<=n
 |0,_=>by simp[q9]
 |n+1,t=>by
  unfold q9;split;simp;exact Nat.succ_le_succ (BV l ok n _)
def zZ(K:List pw)(mode:Nat)(B:ByteArray)(dE most:Nat):(lH K mode B dE most).length<=most:=by
 unfold lH rG;split;simp;split;simp only[List.length_map];exact BV ..;simp
section
variable {Z:jj prog} {W0:World} {Mp:Nat->Prop} {fn:b'} {tm:Array Value} {os:List OF} {wl w0:World} {k:List Item} {b W:Nat} {K:List pw} {ops:Array Oper} {i:Nat} {rest:List Nat} {o:Oper} {xs:Array Operand} {tys:Array bD}
def TN.fill(la ta:Option Addr)(ls:List Raw)(rs:List Int)(lc rc:Nat)(hW:WT wl)(h5:5<=wl.heap.size)(hL:tn wl la ls)(hT:Bc wl ta rs)(B:ls.length<=lc)(O:rs.length<=rc)(U:ls.length<=9223372036854775807)(aa:rs.length<=9223372036854775807)
  (hn:∀(w2:World)(b W:Nat),lq wl w2->TN wl w2 b W (yP ls)->dh (fg Z W0 Mp) (⟨fn,eP o.dst tm (.pointer (some ⟨W,0,none⟩)),.inRegion ops rest::k⟩::os) w2 [])
  (hi:ops[i]?=some o:=by rfl) (ab:bK o (bA ops tm)=true:=by rfl) (ho:o.op=.call {callee:=.value (.func 14),args:=xs,argTypes:=tys}:=by rfl) (ac:∀x∈xs.toList,dQ (fg Z W0 Mp).fF (fg Z W0 Mp).gl x:=by simp[dQ,Plain]) (ha:xs.map (iW tm)=#[.slice la ls.length lc,.slice ta rs.length rc]:=by kernel_rfl) :
  dh (fg Z W0 Mp) (⟨fn,tm,.inRegion ops (i::rest)::k⟩::os) wl []:=by
 have ad:xs.size=2:=by have:=congrArg Array.size ha;simpa using this
 refine dh.qp _ (gP:=Tryz.f14) (c:=ed Tryz.f14) hi ab func14 (by kernel_rfl) GX ho ac ?_ (EM hi hW h5 hL hT B O U aa λw2 F1 F2 b W buf ss h1 h2 h3=>hn w2 b W h1.low ⟨h5,F1,F2,buf,ss,h1,h2,h3⟩);rw[ha,ad];kernel_rfl
end
section
variable {w0 w w':World} {F1 F2 F1' F2' G1 G2:Nat->Prop} {b c:Nat} {buf buf':List dp} {ss ss' xs:List (List dp)} {ts ts':List (List Wd)}
def AW.Vu(B:AW w0 w G1 G2 c buf' xs ts')(hA:AW w0 w' F1' F2' b buf ss ts)(st:St w w' F1 F2 F1' F2')(U:∀k,F1 k\/F2 k->¬(G1 k\/G2 k)):AW w0 w' G1 G2 c buf' xs ts':=
 ⟨B.j.stay st.size λk O=>st.block k (O.elim (B.j.Oh k) (B.j.P8 k)) (λh=>U k (.inl h) O) (λh=>U k (.inr h) O),B.T8,B.NO,hA.low⟩
def St.apart(U:AW w0 w G1 G2 c buf' xs ts')(st:St w w' F1 F2 F1' F2')(hd:∀k,F1 k\/F2 k->¬(G1 k\/G2 k)):∀k,F1' k\/F2' k->¬(G1 k\/G2 k):=by
 intro k hk O;have aa:=O.elim (U.j.Oh k) (U.j.P8 k);rcases hk with h|h
 rcases st.f1 k h with B|B
 exact hd k (.inl B) O;omega;rcases st.f2 k h with B|B
 exact hd k (.inr B) O;omega
def AW.load(h:AW w0 w F1 F2 b buf ss ts)(s:ByteArray)(B:s.size<=b9):b8 prog 25 #[.pointer (some ⟨b,0,none⟩),.string s] w λe w'=>e=.returned (.int .i64 (gC buf ss s.data.toList).1)/\∃F1',AW w0 w' F1' F2 b buf (gC buf ss s.data.toList).2 ts/\St w w' F1 F2 F1' F2:=
 h.Nf λU vK O=>(UY w F1 b buf ss s O B).mono λ_ _ h=>h
def AW.JV(h:AW w0 w F1 F2 b buf ss ts)(n:Int):b8 prog 26 #[.pointer (some ⟨b,0,none⟩),.int .i64 n] w λe w'=>e=.returned (.tuple #[.string ⟨(iV ss n).1.toArray⟩,.int .i64 (iV ss n).2])/\w=w':=by
 obtain⟨O,U,B⟩:=h.Tv;exact SH w F1 b buf ss n B
end
structure NP(w:World)(W b:Nat)(F1 F2 G1 G2:Nat->Prop):Prop where
 x:∃cs t,w.heap[W]?=some (.cells cs t (0,0))/\cs[0]?=some (.pointer (some ⟨b,0,none⟩))
 a1:¬F1 W
 a2:¬F2 W
 a3:¬G1 W
 a4:¬G2 W
def NP.lt{w:World}{W b:Nat}{F1 F2 G1 G2:Nat->Prop}(h:NP w W b F1 F2 G1 G2):W<w.heap.size:=by
 obtain⟨cs,t,B,_⟩:=h.x;exact(bo.1 B).1
def NP.cell{w:World}{W b:Nat}{F1 F2 G1 G2:Nat->Prop}(h:NP w W b F1 F2 G1 G2):w.cell? ⟨W,0,none⟩=some (.pointer (some ⟨b,0,none⟩)):=by
 obtain⟨cs,t,B,O⟩:=h.x;rw[dn B];exact O
def NP.step{w w':World}{W b:Nat}{F1 F2 F1' F2' G1 G2:Nat->Prop}(h:NP w W b F1 F2 G1 G2)(st:St w w' F1 F2 F1' F2'):NP w' W b F1' F2' G1 G2:=by
 have U:=h.lt;refine⟨?_,λO=>?_,λO=>?_,h.a3,h.a4⟩;rw[st.block W U h.a1 h.a2];exact h.x;rcases st.f1 W O with B|B
 exact h.a1 B;omega;rcases st.f2 W O with B|B
 exact h.a2 B;omega
def NP.flip{w:World}{W b:Nat}{F1 F2 G1 G2:Nat->Prop}(h:NP w W b F1 F2 G1 G2):NP w W b G1 G2 F1 F2:=⟨h.x,h.a3,h.a4,h.a1,h.a2⟩
structure mR(w0 w:World)(b W c X:Nat)(K:List pw)(buf:List dp)(ss xs:List (List dp)):Prop where
 x:∃(F1 F2 G1 G2:Nat->Prop),AW w0 w F1 F2 b buf ss []/\AW w0 w G1 G2 c [] xs []/\(∀k,F1 k\/F2 k->¬(G1 k\/G2 k))/\NP w W b F1 F2 G1 G2/\NP w X c F1 F2 G1 G2
 sk:Sk K buf ss
section
variable {w0 w w':World} {b W c X:Nat} {K:List pw} {buf:List dp} {ss xs:List (List dp)}
def mR.low(h:mR w0 w b W c X K buf ss xs)(B:lq w w'):mR w0 w' b W c X K buf ss xs:=by
 obtain⟨⟨F1,F2,G1,G2,O,U,h3,h4,h5⟩,hs⟩:=h;exact⟨⟨F1,F2,G1,G2,O.same B,U.same B,h3,h4.step (St.same B),h5.step (St.same B)⟩,hs⟩
def mR.BS(h:mR w0 w b W c X K buf ss xs):w.cell? ⟨W,0,none⟩=some (.pointer (some ⟨b,0,none⟩)):=by
 obtain⟨⟨F1,F2,G1,G2,O,U,h3,B,h5⟩,hs⟩:=h;exact B.cell
def mR.K7(h:mR w0 w b W c X K buf ss xs):w.cell? ⟨X,0,none⟩=some (.pointer (some ⟨c,0,none⟩)):=by
 obtain⟨⟨F1,F2,G1,G2,B,O,U,h4,h5⟩,hs⟩:=h;exact h5.cell
def mR.base(h:mR w0 w b W c X K buf ss xs):lq w0 w:=by
 obtain⟨⟨F1,F2,G1,G2,B,O,U,h4,h5⟩,hs⟩:=h;exact B.low
def mR.flush(h:mR w0 w b W c X K buf ss xs):b8 prog 29 #[.pointer (some ⟨b,0,none⟩)] w λe w'=>e=.returned (.int .i64 (dW buf ss).1)/\mR w0 w' b W c X K (dW buf ss).2.1 (dW buf ss).2.2 xs:=by
 obtain⟨⟨F1,F2,G1,G2,h1,B,O,h4,h5⟩,hs⟩:=h;refine h1.flush.mono ?_;rintro e w' ⟨rfl,F1',U,st⟩;exact⟨rfl,⟨F1',F2,G1,G2,U,B.Vu U st O,St.apart B st O,h4.step st,h5.step st⟩,hs.flush.1⟩
def mR.iB(h:mR w0 w b W c X K buf ss xs):b8 prog 30 #[.pointer (some ⟨b,0,none⟩)] w λe w'=>e=.returned (.int .i64 ss.length)/\w=w':=by
 obtain⟨⟨F1,F2,G1,G2,B,O,U,h4,h5⟩,hs⟩:=h;exact B.iB
def mR.UP(h:mR w0 w b W c X K buf ss xs)(n:Int):b8 prog 26 #[.pointer (some ⟨b,0,none⟩),.int .i64 n] w λe w'=>e=.returned (.tuple #[.string ⟨(iV ss n).1.toArray⟩,.int .i64 (iV ss n).2])/\w=w':=by
 obtain⟨⟨F1,F2,G1,G2,B,O,U,h4,h5⟩,hs⟩:=h;exact B.JV n
def mR.UE(h:mR w0 w b W c X K buf ss xs)(n:Int):b8 prog 26 #[.pointer (some ⟨c,0,none⟩),.int .i64 n] w λe w'=>e=.returned (.tuple #[.string ⟨(iV xs n).1.toArray⟩,.int .i64 (iV xs n).2])/\w=w':=by
 obtain⟨⟨F1,F2,G1,G2,O,B,U,h4,h5⟩,hs⟩:=h;exact B.JV n
def mR.load(h:mR w0 w b W c X K buf ss xs)(s:ByteArray)(hz:s.size<=b9):b8 prog 25 #[.pointer (some ⟨c,0,none⟩),.string s] w λe w'=>e=.returned (.int .i64 (gC [] xs s.data.toList).1)/\mR w0 w' b W c X K buf ss (gC [] xs s.data.toList).2:=by
 obtain⟨⟨F1,F2,G1,G2,h1,h2,h3,h4,h5⟩,hs⟩:=h;refine(h2.load s hz).mono ?_;rintro e w' ⟨rfl,O,h6,st⟩;have B:=λk U hf=>h3 k hf U;have h7:=St.apart h1 st B;exact⟨rfl,⟨F1,F2,O,G2,h1.Vu h6 st B,h6,λk hf U=>h7 k U hf,(h4.flip.step st).flip,(h5.flip.step st).flip⟩,hs⟩
end
def mR.of{wl w1 w:World}{b W c X:Nat}{K K':List pw}{ss:List (List dp)}{F1 F2 G1 G2:Nat->Prop}(O:AW wl w1 F1 F2 b buf ss [])(U:WB wl w1 F1 F2 b W K)(h3:Sk K buf ss)(B:AW w1 w G1 G2 c [] [] [])(h5:WB w1 w G1 G2 c X K'):mR wl w b W c X K buf ss []:=by
 have hW:=U.lt;refine⟨⟨F1,F2,G1,G2,O.same B.low,B.base O.low,λk hf hg=>?_,⟨⟨_,_,(U.low B.low).blk,by rw[mh];rfl⟩,U.a1,U.a2,λh=>absurd (B.T8 _ h) (by omega),λh=>absurd (B.NO _ h) (by omega)⟩,⟨⟨_,_,h5.blk,by rw[mh];rfl⟩,λh=>absurd (O.j.Oh _ h) (by have:=h5.hi;omega),λh=>absurd (O.j.P8 _ h) (by have:=h5.hi;omega),h5.a1,h5.a2⟩⟩,h3⟩;have:=hf.elim (O.j.Oh k) (O.j.P8 k);have:=hg.elim (B.T8 k) (B.NO k);omega
section
variable {Z:jj prog} {W0:World} {Mp:Nat->Prop} {fn:b'} {tm:Array Value} {os:List OF} {wl w0:World} {k:List Item} {b:Nat} {K:List pw} {ops:Array Oper} {i:Nat} {rest:List Nat} {o:Oper} {xs:Array Operand} {tys:Array bD} {F1 F2:Nat->Prop} {buf:List dp} {ss:List (List dp)}
def AW.Tw(mode dE most:Nat)(qb:ByteArray)(R:List dp)(h:AW w0 wl F1 F2 b buf ss [])(h5:5<=w0.heap.size)(hR:(dP ss buf).Perm R)(aa:(R.map dp.name).Nodup)(hg:∀e∈R,e.gone=false)(B:lK wl)(hq:eA qb.data.toList=true)
  (hn:∀(w2:World)(u:Value),lq wl w2->AW w0 w2 F1 F2 b buf ss []->Kept w2 F1 F2 u (rG R mode qb.data.toList dE most).1->dh (fg Z W0 Mp) (⟨fn,eP o.dst tm (.tuple #[u,.int .i64 0]),.inRegion ops rest::k⟩::os) w2 [])
  (hi:ops[i]?=some o:=by rfl) (ab:bK o (bA ops tm)=true:=by rfl) (ho:o.op=.call {callee:=.value (.func 17),args:=xs,argTypes:=tys}:=by rfl) (ac:∀x∈xs.toList,dQ (fg Z W0 Mp).fF (fg Z W0 Mp).gl x:=by simp[dQ,Plain])
  (ha:xs.map (iW tm)=#[.pointer (some ⟨b,0,none⟩),.int .i64 (mode:Int),.string qb,.int .i64 (dE:Int),.int .i64 (most:Int)]:=by kernel_rfl) (hm:mode<=3:=by omega) (ht:dE<=255:=by omega) (O:1<=most:=by omega) (U:most<=20:=by omega) :
  dh (fg Z W0 Mp) (⟨fn,tm,.inRegion ops (i::rest)::k⟩::os) wl []:=by
 refine h.Tg h5 B hq (λw2 u L k1 hl hp hs hk=>hn w2 u hl k1 ?_) hi ab ho ac ha hm ht O U;rw[<-xb aa hg hm ht O U hq (hp.trans (hR.filter _)) hs];exact hk
variable {W c X:Nat} {zs:Array Operand} {xs':List (List dp)}
def mR.UD(mode dE most:Nat)(O:ByteArray)(h:mR w0 wl b W c X K buf ss xs')(h5:5<=w0.heap.size)(B:lK wl)(hq:eA O.data.toList=true)
  (hn:∀(w2:World)(u:Value),lq wl w2->mR w0 w2 b W c X K buf ss xs'->nF w2 u (lH K mode O dE most)->dh (fg Z W0 Mp) (⟨fn,eP o.dst tm (.tuple #[u,.int .i64 0]),.inRegion ops rest::k⟩::os) w2 [])
  (hi:ops[i]?=some o:=by rfl) (U:bK o (bA ops tm)=true:=by rfl) (ho:o.op=.call {callee:=.value (.func 17),args:=zs,argTypes:=tys}:=by rfl) (aa:∀x∈zs.toList,dQ (fg Z W0 Mp).fF (fg Z W0 Mp).gl x:=by simp[dQ,Plain])
  (ha:zs.map (iW tm)=#[.pointer (some ⟨b,0,none⟩),.int .i64 (mode:Int),.string O,.int .i64 (dE:Int),.int .i64 (most:Int)]:=by kernel_rfl) (hm:mode<=3:=by omega) (ht:dE<=255:=by omega) (ab:1<=most:=by omega) (ac:most<=20:=by omega) :
  dh (fg Z W0 Mp) (⟨fn,tm,.inRegion ops (i::rest)::k⟩::os) wl []:=by
 have H:=h;obtain⟨⟨F1,F2,G1,G2,h1,h2,h3,h4,h6⟩,hs⟩:=h;exact h1.Tw mode dE most O _ h5 hs.perm (DM hs) (λe he=>by obtain⟨j,_,_,rfl⟩:=IA.1 he;rfl) B hq (λw2 u hl _ hk=>hn w2 u hl (H.low hl) (uc.jk hk.1)) hi U ho aa ha hm ht ab ac
def mR.UF(mode dE most:Nat)(O:ByteArray)(h:mR w0 wl b W c X K [] ss xs')(hp:(eu xs').Perm (eu ss))(h5:5<=w0.heap.size)(B:lK wl)(hq:eA O.data.toList=true)
  (hn:∀(w2:World)(u:Value),lq wl w2->mR w0 w2 b W c X K [] ss xs'->nF w2 u (lH K mode O dE most)->dh (fg Z W0 Mp) (⟨fn,eP o.dst tm (.tuple #[u,.int .i64 0]),.inRegion ops rest::k⟩::os) w2 [])
  (hi:ops[i]?=some o:=by rfl) (U:bK o (bA ops tm)=true:=by rfl) (ho:o.op=.call {callee:=.value (.func 17),args:=zs,argTypes:=tys}:=by rfl) (aa:∀x∈zs.toList,dQ (fg Z W0 Mp).fF (fg Z W0 Mp).gl x:=by simp[dQ,Plain])
  (ha:zs.map (iW tm)=#[.pointer (some ⟨c,0,none⟩),.int .i64 (mode:Int),.string O,.int .i64 (dE:Int),.int .i64 (most:Int)]:=by kernel_rfl) (hm:mode<=3:=by omega) (ht:dE<=255:=by omega) (ab:1<=most:=by omega) (ac:most<=20:=by omega) :
  dh (fg Z W0 Mp) (⟨fn,tm,.inRegion ops (i::rest)::k⟩::os) wl []:=by
 have H:=h;obtain⟨⟨F1,F2,G1,G2,h1,h2,h3,h4,h6⟩,hs⟩:=h;exact h2.Tw mode dE most O _ h5 ((Kk hp).trans hs.perm) (DM hs) (λe he=>by obtain⟨j,_,_,rfl⟩:=IA.1 he;rfl) B hq (λw2 u hl _ hk=>hn w2 u hl (H.low hl) (uc.jk hk.1)) hi U ho aa ha hm ht ab ac
end
def L7(tm:Array Value)(n:Nat)(h:tm.size=n):tm.toList=(List.range n).map λi=>tm.getD i bM:=by
 apply List.ext_getElem;simp[h];intro i B O;simp at B;simp[B]
def oz{tm:Array Value}{i:Nat}{v:Value}(h:tm[i]?=some v):tm.getD i bM=v:=by
 rw[Array.getD_eq_getD_getElem?,h];rfl
variable {tm:Array Value} {at' by' fr q0 too:Int} {W X:Nat}
def Am(g:Nat->Value):Array Value:=#[g 0,g 1,g 2,g 3,g 4,g 5,g 6,g 7,g 8,g 9,g 10,g 11,g 12,g 13,g 14,g 15,g 16,g 17,g 18,g 19,g 20,g 21,g 22,g 23,g 24,g 25,g 26,g 27,g 28,g 29,g 30,g 31,g 32,g 33,g 34,g 35,g 36,g 37,g 38,g 39,g 40,g 41,g 42,g 43,g 44,g 45,g 46,g 47,g 48,g 49,g 50,g 51,g 52,g 53,g 54,g 55,g 56,g 57,g 58,g 59,g 60,g 61,g 62,g 63,g 64,g 65,g 66,g 67,g 68,g 69,g 70,g 71,g 72,g 73,g 74,g 75,g 76,g 77,g 78,g 79,g 80,g 81,g 82,g 83,g 84,g 85,g 86,g 87,g 88,g 89,g 90,g 91,g 92,g 93,g 94,g 95,g 96,g 97,g 98,g 99,g 100,g 101,g 102,g 103,g 104,g 105,g 106,g 107,g 108,g 109,g 110,g 111,g 112,g 113,g 114,g 115,g 116,g 117,g 118,g 119,g 120,g 121,g 122,g 123,g 124,g 125,g 126,g 127,g 128,g 129,g 130,g 131,g 132,g 133,g 134,g 135,g 136,g 137,g 138,g 139,g 140,g 141,g 142,g 143,g 144,g 145,g 146,g 147,g 148,g 149,g 150,g 151,g 152,g 153,g 154,g 155,g 156,g 157,g 158,g 159,g 160,g 161,g 162,g 163,g 164,g 165,g 166,g 167,g 168,g 169,g 170,g 171,g 172,g 173,g 174,g 175,g 176,g 177,g 178,g 179,g 180,g 181,g 182,g 183,g 184,g 185,g 186,g 187,g 188,g 189,g 190,g 191,g 192,g 193,g 194,g 195,g 196,g 197,g 198,g 199,g 200,g 201,g 202,g 203,g 204,g 205,g 206,g 207,g 208,g 209,g 210,g 211,g 212,g 213,g 214,g 215,g 216,g 217,g 218,g 219,g 220,g 221,g 222,g 223,g 224,g 225,g 226,g 227,g 228,g 229,g 230,g 231,g 232,g 233,g 234,g 235,g 236,g 237,g 238,g 239,g 240,g 241,g 242,g 243,g 244,g 245,g 246,g 247,g 248,g 249,g 250,g 251,g 252,g 253,g 254,g 255,g 256,g 257,g 258,g 259,g 260,g 261,g 262,g 263,g 264,g 265,g 266,g 267,g 268,g 269,g 270,g 271,g 272,g 273,g 274,g 275,g 276,g 277,g 278,g 279,g 280,g 281,g 282,g 283,g 284,g 285,g 286,g 287,g 288,g 289,g 290,g 291,g 292,g 293,g 294,g 295,g 296,g 297,g 298,g 299,g 300,g 301,g 302,g 303,g 304,g 305,g 306,g 307,g 308,g 309,g 310,g 311,g 312,g 313,g 314,g 315,g 316,g 317,g 318,g 319,g 320,g 321,g 322,g 323,g 324,g 325,g 326,g 327,g 328,g 329,g 330,g 331,g 332,g 333,g 334]
def Nv(tm:Array Value)(h:tm.size=335):tm=Am λi=>tm.getD i bM:=by
 apply Array.toList_inj.1;rw[L7 tm 335 h];rfl
structure CF(tm:Array Value)(W X:Nat)(q0 fr too at' by':Int):Prop where
 size:tm.size=335
 s4:tm[4]?=some (.int .i64 q0)
 s5:tm[5]?=some (.int .i64 fr)
 s6:tm[6]?=some (.int .i64 too)
 s7:tm[7]?=some (.int .i64 at')
 s8:tm[8]?=some (.int .i64 by')
 Wl:tm[19]?=some (.pointer (some ⟨W,0,none⟩))
 Wm:tm[20]?=some (.pointer (some ⟨X,0,none⟩))
def CF.lit(h:CF tm W X q0 fr too at' by'):∃g:Nat->Value,tm=Am g/\(∀i v,tm[i]?=some v->g i=v)/\g 4=.int .i64 q0/\g 5=.int .i64 fr/\g 6=.int .i64 too/\g 7=.int .i64 at'/\g 8=.int .i64 by'/\g 19=.pointer (some ⟨W,0,none⟩)/\g 20=.pointer (some ⟨X,0,none⟩):=
 ⟨_,Nv tm h.size,λ_ _ B=>oz B,oz h.s4,oz h.s5,oz h.s6,oz h.s7,oz h.s8,oz h.Wl,oz h.Wm⟩
structure CX(wl:World)(q0 fr too at' by':Int):Prop where
 UK:lK wl
 h5:5<=wl.heap.size
 c0 : -9223372036854775808<=q0
 c1:q0<=9223372036854775807
 f0 : -9223372036854775808<=fr
 f1:fr<=9223372036854775807
 t0 : -9223372036854775808<=too
 t1:too<=9223372036854775807
 a0 : -9223372036854775808<=at'
 a1:at'<=9223372036854775807
 y0 : -9223372036854775808<=by'
 y1:by'<=9223372036854775807
def VD(c:Code):Code:=match c with
 |.seq _ (.seq _ (.seq _ (.seq _ (.seq _ (.seq _ (.seq _ (.seq _ (.seq _ (.seq _ (.seq _ (.seq _ (.seq _ (.seq _ (.seq _ (.seq _ (.seq _ (.seq _ (.seq _ y))))))))))))))))))=>y|_=>.skip
section
variable {Z:jj prog} {W0:World} {Mp:Nat->Prop} {wl:World}
def FW{w:World}{b c:Nat}{K:List pw}{ss xs:List (List dp)}(hc:CF tm W X q0 fr too at' by')(hX:CX wl q0 fr too at' by')(hT:mR wl w b W c X K [] ss xs)(hp:(eu xs).Perm (eu ss))
  (hn:∀(w:World)(aa:Array Value),lq wl w->aa[18]?=some (.bool true)->dh (fg Z W0 Mp) [⟨9,aa,[.code .ret]⟩] w []) :
  dh (fg Z W0 Mp) [⟨9,tm,[.code (VD (ed f9))]⟩] w []:=by
 obtain⟨g,rfl,hg,h4,ab,h6,h7,h8,ac,ad⟩:=hc.lit;have HX:b7 _:=hX;have HN:b7 _:=hn;have O:b7 _:=hT;have HP:b7 _:=hp;clear hc hg hT hp hX hn;unfold Am;simp only[h4,ab,h6,h7,h8,ac,ad];clear h4 ab h6 h7 h8 ac ad;show dh _ [⟨_,_,[.code (.seq (.region 43 _ false) (.seq (.region 44 _ false) (.seq (.region 45 _ false) (.seq (.region 46 _ false) (.seq (.region 47 _ false) (.seq (.region 48 _ false) (.seq (.region 49 _ false) (.seq (.region 50 _ false) .ret))))))))]⟩] _ _;refine fw λkk U y B=>?_;have C:=M8 q0 fr too 1 y HX.out.c0 HX.out.c1 HX.out.f0 HX.out.f1 HX.out.t0 HX.out.t1 (by omega) (by omega);have O:b7 (mR wl y b W c X K [] ss xs):=O.out.low B;clear B;go_wp2_with fail;refine C.mono ?_;clear C;rintro e w2 ⟨qb,rfl,hq,hb⟩;have O:b7 (mR wl w2 b W c X K [] ss xs):=O.out.low (.of hb);have HQ:b7 _:=hq;clear hb hq;go_wp2;refine eo U ?_;clear U kk;generalize w2=w at *;refine dh.sr λkk U=>?_
 (iterate 3 (refine dI ?_;go_simp));refine yC rfl (by rfl) (by kernel_rfl) λτ=>?_;have q:(tp w τ).cell? _=_:=O.out.BS;unfold fT;go_simp;simp only[iG];refine dh.rR τ ?_;clear q
 (refine dI ?_;go_simp);refine mR.UD (i:=5) 0 0 20 qb O.out HX.out.h5 (nk ⟨HX.out.UK,HX.out.h5⟩ O.out.base) HQ.out λw2 u1 B hT hs=>?_;have O:b7 _:=hT;have S1:b7 _:=hs;clear B hT hs;rw[fv];go_simp
 (iterate 5 (refine dI ?_;go_simp));refine dh.ie U ?_;clear U kk;generalize w2=w at *;refine dh.sr λkk U=>?_
 (iterate 3 (refine dI ?_;go_simp));refine yC rfl (by rfl) (by kernel_rfl) λτ=>?_;have q:(tp w τ).cell? _=_:=O.out.K7;unfold fT;go_simp;simp only[iG];refine dh.rR τ ?_;clear q
 (refine dI ?_;go_simp);refine mR.UF (i:=5) 0 0 20 qb O.out HP.out HX.out.h5 (nk ⟨HX.out.UK,HX.out.h5⟩ O.out.base) HQ.out λw2 u2 B hT hs=>?_;have O:b7 _:=hT;have S2:b7 _:=hs;have S1:b7 (nF w2 u1 (lH K 0 qb 0 20)):=S1.out.low B;clear B hT hs;rw[fv];go_simp
 (iterate 5 (refine dI ?_;go_simp));refine dh.ie U ?_;clear U kk;generalize w2=w at *;refine dh.sr λkk U=>?_
 (iterate 3 (refine dI ?_;go_simp));refine yC rfl (by rfl) (by kernel_rfl) λτ=>?_;have q:(tp w τ).cell? _=_:=O.out.BS;unfold fT;go_simp;simp only[iG];refine dh.rR τ ?_;clear q
 (refine dI ?_;go_simp);refine mR.UD (i:=5) 3 0 20 qb O.out HX.out.h5 (nk ⟨HX.out.UK,HX.out.h5⟩ O.out.base) HQ.out λw2 u3 B hT hs=>?_;have O:b7 _:=hT;have S3:b7 _:=hs;have S1:b7 (nF w2 u1 (lH K 0 qb 0 20)):=S1.out.low B;have S2:b7 (nF w2 u2 (lH K 0 qb 0 20)):=S2.out.low B;clear B hT hs;rw[fv];go_simp
 (iterate 5 (refine dI ?_;go_simp));refine dh.ie U ?_;clear U kk;generalize w2=w at *;refine dh.sr λkk U=>?_
 (iterate 3 (refine dI ?_;go_simp));refine yC rfl (by rfl) (by kernel_rfl) λτ=>?_;have q:(tp w τ).cell? _=_:=O.out.K7;unfold fT;go_simp;simp only[iG];refine dh.rR τ ?_;clear q
 (refine dI ?_;go_simp);refine mR.UF (i:=5) 3 0 20 qb O.out HP.out HX.out.h5 (nk ⟨HX.out.UK,HX.out.h5⟩ O.out.base) HQ.out λw2 u4 B hT hs=>?_;have O:b7 _:=hT;have S4:b7 _:=hs;have S1:b7 (nF w2 u1 (lH K 0 qb 0 20)):=S1.out.low B;have S2:b7 (nF w2 u2 (lH K 0 qb 0 20)):=S2.out.low B;have S3:b7 (nF w2 u3 (lH K 3 qb 0 20)):=S3.out.low B;clear B hT hs;rw[fv];go_simp
 (iterate 5 (refine dI ?_;go_simp));refine dh.ie U ?_;clear U kk;generalize w2=w at *;refine fw λkk U y B=>?_;have C:=Cw u1 u2 _ y (S1.out.low B) (S2.out.low B) (by have:=zZ K 0 qb 0 20;omega);have HL:b7 (lq wl y):=O.out.base.trans B;have S3:b7 (nF y u3 (lH K 3 qb 0 20)):=S3.out.low B;have S4:b7 (nF y u4 (lH K 3 qb 0 20)):=S4.out.low B;clear B S1 S2 O HP;go_wp2_with fail;refine C.mono ?_;clear C;rintro e w3 ⟨rfl,hb⟩;have HL:b7 (lq wl w3):=HL.out.trans (.of hb);have S3:b7 (nF w3 u3 (lH K 3 qb 0 20)):=S3.out.low (.of hb);have S4:b7 (nF w3 u4 (lH K 3 qb 0 20)):=S4.out.low (.of hb);clear hb;go_wp2;refine eo U ?_;clear U kk;refine fw λkk U y B=>?_;have C:=Cw u3 u4 _ y (S3.out.low B) (S4.out.low B) (by have:=zZ K 3 qb 0 20;omega);have HL:b7 (lq wl y):=HL.out.trans B;clear B S3 S4;go_wp2_with fail;refine C.mono ?_;clear C;rintro e w4 ⟨rfl,hb⟩;have HL:b7 (lq wl w4):=HL.out.trans (.of hb);clear hb;go_wp2;refine eo U ?_;clear U kk;refine fw λkk U y B=>?_;have HL:b7 (lq wl y):=HL.out.trans B;clear B;go_wp2;refine eo U ?_;exact HN.out _ _ HL.out rfl
end
def V0(c:Code):Code:=match c with
 |.seq _ (.seq _ (.seq _ (.seq _ (.seq _ (.seq _ (.seq _ (.seq _ (.seq _ (.seq _ (.seq _ (.seq _ (.seq _ (.seq _ y)))))))))))))=>y|_=>.skip
section
variable {Z:jj prog} {W0:World} {Mp:Nat->Prop} {wl:World}
def Gv{tm:Array Value}{w:World}{b W c X:Nat}{K:List pw}{buf:List dp}{ss:List (List dp)}{q0 fr too at' by':Int}(hc:CF tm W X q0 fr too at' by')(hX:CX wl q0 fr too at' by')(hT:mR wl w b W c X K buf ss [])
  (hn:∀(w:World)(af:Array Value)(k:List Item),k.all iT=true->lq wl w->af[18]?=some (.bool true)->dh (fg Z W0 Mp) [⟨9,af,.code .ret::k⟩] w []) :
  dh (fg Z W0 Mp) [⟨9,tm,[.code (V0 (ed f9))]⟩] w []:=by
 obtain⟨g,rfl,hg,h4,am,h6,h7,h8,an,ao⟩:=hc.lit;have HX:b7 _:=hX;have ap:b7 _:=hn;have HT:b7 _:=hT;clear hc hg hT hX hn;unfold Am;simp only[h4,am,h6,h7,h8,an,ao];clear h4 am h6 h7 h8 an ao;show dh _ [⟨_,_,[.code (.seq (.region 17 _ false) (.seq (.region 18 _ false) (.seq (.region 19 _ false) (.seq (.seq (.region 20 _ false) (.block 0 (.loop _))) (.seq (.seq (.region 41 _ false) (.cond _ (.seq (.region 42 _ false) .ret) .skip)) _)))))]⟩] _ _;refine fw λkk HK y hl=>?_;have HT:b7 (mR wl y b W c X K buf ss []):=HT.out.low hl;have C:=HT.out.flush;have u0:=HT.out.BS;clear hl;go_wp2_with fail;refine C.mono ?_;clear C u0;rintro e w2 ⟨rfl,hT⟩;have HT:b7 _:=hT;have aE:b7 _:=GJ buf ss;generalize (dW buf ss).2.1=aa at *;generalize (dW buf ss).2.2=ag at *;clear hT;go_wp2;refine eo HK ?_;clear HK kk;refine fw λkk HK y hl=>?_;have HT:b7 (mR wl y b W c X K aa ag []):=HT.out.low hl;have C:=HT.out.flush;have u0:=HT.out.BS;clear hl;go_wp2_with fail;refine C.mono ?_;clear C u0;rintro e w3 ⟨rfl,hT⟩;have HT:b7 _:=hT;generalize (dW aa ag).2.1=U at *;generalize (dW aa ag).2.2=B at *;generalize (dW aa ag).1=full at *;clear hT;go_wp2;refine eo HK ?_;clear HK kk;refine fw λkk HK y hl=>?_;have HT:b7 (mR wl y b W c X K U B []):=HT.out.low hl;have C:=HT.out.iB;have u0:=HT.out.BS;clear hl;go_wp2_with fail;refine C.mono ?_;clear C u0;rintro e w4 ⟨rfl,rfl⟩;have h6:=HT.out.sk.inv.qg;have HN:b7 (∃n,n=B.length):=⟨_,rfl⟩;go_wp2;refine eo HK ?_;clear HK kk;refine fw λkk HK y hl=>?_;have HT:b7 (mR wl y b W c X K U B []):=HT.out.low hl;clear hl;go_wp2;go_loopw [33] (λiv wr=>∃(i:Nat)(xs:List (List dp)),i<=B.length/\iv=.int .i64 i/\xs.length=i/\(eu xs).Perm (eu (B.take i))/\mR wl wr b W c X K U B xs) (λi _=>B.length-(intOf i).toNat)
 case atStart=>exact⟨0,[],bv _,rfl,rfl,by simp,HT.out⟩
 case round=>
  obtain⟨i,xs,hi,rfl,aq,ar,hT⟩:=hrel;have HT:b7 _:=hT;have HP:b7 _:=And.intro aq ar;clear hT aq ar;by_cases au:i<B.length
  .have aT:(i:Int)<(B.length:Int):=by omega
   have aV:(i:Int)<6:=by omega
   obtain⟨O,ab⟩:∃O:ByteArray,O=⟨(dK (B.getD i [])).toArray⟩:=⟨_,rfl⟩;have ah:O.data.toList=dK (B.getD i []):=by rw[ab]
   have ac:B.getD i []∈B:=by rw[be,bg au];exact bh _
   have ai:=HT.out.sk.inv.iB _ ac;have aj:(B.getD i []).length<=12:=uo ai.nodup (HT.out.sk.B4 _ ac);have aW:O.size<=4000:=by have:=tM ai aj;rw[ab];show(dK (B.getD i [])).toArray.size<=_;simpa using this
   have aX:1<=O.size:=by rw[ab];show 1<=(dK (B.getD i [])).toArray.size;simp[dK]
   obtain⟨l,av,aw,ax⟩:=MN HT.out.sk.inv au HP.out.1 HP.out.2 aj;have ay:iV B (i:Int)=(dK (B.getD i []),0):=by unfold iV;rw[if_neg (by omega)];rfl
   have C1:b8 prog 26 #[.pointer (some ⟨b,0,none⟩),.int .i64 (i:Int)] wr λe w'=>e=.returned (.tuple #[.string O,.int .i64 0])/\wr=w':=by
    have:=HT.out.UP (i:Int);rw[ay]at this;rw[ab];exact this
   have C2:b8 prog 25 #[.pointer (some ⟨c,0,none⟩),.string O] wr λe w'=>e=.returned (.int .i64 0)/\mR wl w' b W c X K U B (xs++[l]):=by
    have:=HT.out.load O (by unfold b9;omega);rw[ah,av]at this;exact this
   have az:b7 (∀y,mR wl y b W c X K U B (xs++[l])->b8 prog 26 #[.pointer (some ⟨c,0,none⟩),.int .i64 (i:Int)] y λe w'=>e=.returned (.tuple #[.string O,.int .i64 0])/\y=w'):=λy hy=>by
    have:=hy.UE (i:Int)
    have aF:iV (xs++[l]) (i:Int)=(dK l,0):=by
     unfold iV;have:=HP.out.1;rw[if_neg (by simp;omega),be,Int.toNat_natCast,List.getElem?_append_right (by omega),this];simp
    rw[aF,aw]at this;rw[ab];exact this
   have a5:b7 ((xs++[l]).length=i+1/\(eu (xs++[l])).Perm (eu (B.take (i+1)))):=⟨by rw[List.length_append,HP.out.1];rfl,ax⟩;have aY:O.toList.isEmpty=false:=by rw[ByteArray.toList_eq,ah];rfl
   have aU:(O.toList==[])=false:=by rw[ByteArray.toList_eq,ah];rfl
   have u0:=HT.out.BS;have u1:=HT.out.K7;clear ah ab ac ai aj av aw ax ay HP;go_wp2_with fail;refine C1.mono ?_;clear C1;rintro e w5 ⟨rfl,rfl⟩;go_wp2_with fail;refine C2.mono ?_;clear C2 u0 u1 HT;rintro e w6 ⟨rfl,hT⟩;have HT:b7 _:=hT;have C3:=az.out w6 hT;have u1:=hT.K7;generalize xs++[l]=ak at *;clear hT az;go_wp2_with fail;refine C3.mono ?_;clear C3 u1;rintro e w7 ⟨rfl,rfl⟩;have C4:=gH at' O.size w6 HX.out.a0 HX.out.a1 (by omega) (by omega);have hk:=kD at' O.size (by omega);generalize pk at' O.size=k at *;go_wp2_with fail;refine C4.mono ?_;clear C4;rintro e w8 ⟨rfl,rfl⟩;have a6:b7 (∀y,b8 prog 15 #[.int .i64 by',.int .i64 255] y λe w'=>e=.returned (.int .i64 (pk by' 255:Nat))/\y=w'):=λy=>gH by' 255 y HX.out.y0 HX.out.y1 (by omega) (by omega);have hd:=kD by' 255 (by omega);generalize pk by' 255=d at *
   have aG:¬(9223372036854775807<O.size+1):=by omega
   have aZ:(k:Int)<(O.size:Int):=by omega
   have aH:(k:Int)<=(O.size:Int):=by omega
   have aI:(k:Int)+1<=(O.size:Int):=by omega
   have aJ:(1:Int)<=(O.size:Int):=by omega
   have aK:(O.size:Int)-1<=(O.size:Int):=by omega
   have aL:IntKind.i64.wrap ((O.size:Int)-1)=(O.size:Int)-1:=by simp only[bG];omega
   have aM:IntKind.i64.wrap ((k:Int)+1)=(k:Int)+1:=by simp only[bG];omega
   have aN:IntKind.i64.wrap (1+(d:Int))=1+(d:Int):=by simp only[bG];omega
   go_wp2_with fail;refine jN (by kernel_rfl) ?_;refine dy 0 ?_ ?_<|dy 1 ?_ ?_<|dy 2 ?_ ?_<|dy 3 ?_ ?_<|dy 4 ?_ ?_<|dy 5 ?_ ?_<|dy 6 ?_ ?_ ?_
   any_goals(intro y hy;unfold fT;go_simp;refine⟨eK.refl _,?_⟩;with_reducible rfl)
   go_simp;refine dy 7 ?_ ?_<|dy 8 ?_ ?_<|dy 9 ?_ ?_<|dy 10 ?_ ?_<|dy 11 ?_ ?_<|dy 12 ?_ ?_<|dy 13 ?_ ?_ ?_
   any_goals(intro y hy;unfold fT;go_simp;refine⟨eK.refl _,?_⟩;with_reducible rfl)
   go_simp;refine dy 14 ?_ ?_ ?_;rotate_left
   .intro y hy;unfold fT;go_simp;refine⟨rfl,(a6.out y).mono ?_⟩;rintro e y2 ⟨rfl,rfl⟩;refine⟨_,rfl,eK.refl _,?_⟩;with_reducible rfl
   go_simp;refine dy 15 ?_ ?_<|dy 16 ?_ ?_<|dy 17 ?_ ?_<|dy 21 ?_ ?_<|dy 22 ?_ ?_<|dy 23 ?_ ?_<|dy 24 ?_ ?_ ?_
   any_goals(intro y hy;unfold fT;go_simp;refine⟨eK.refl _,?_⟩;with_reducible rfl)
   go_simp;obtain⟨z,hz⟩:∃z,bits BinOp.xor IntKind.u8 ((O[k].toNat:Nat):Int) (IntKind.u8.wrap (1+(d:Int)))=IntKind.u8.wrap z:=⟨_,rfl⟩;rw[hz];have z1:(O.extract 0 k).size<=4000:=by rw[bz];omega
   have z2:(O.extract (k+1) O.size).size<=4000:=by rw[bz];omega
   have z3:(O.extract 0 (O.size-1)).size<=4000:=by rw[bz];omega
   have z4:(O++⟨#[0]⟩:ByteArray).size<=4001:=by rw[b0];show O.size+1<=_;omega
   generalize O.extract 0 k=x1 at *;generalize O.extract (k+1) O.size=x2 at *;generalize O.extract 0 (O.size-1)=x3 at *;generalize (O++⟨#[0]⟩:ByteArray)=x4 at *;have j1:¬(9223372036854775807<x1.size+1):=by omega
   have j2:¬(9223372036854775807<x1.size+1+x2.size):=by omega
   clear hz aL aM aN aH aI aJ aK a6;refine Du (rs:=[18]) (by kernel_rfl) (by simp) ?_;intro iz ad;simp only[bj]at ad;subst ad;refine yi (λg=>(.slice (some ⟨g,0,none⟩) 1 1:Value)) (λg y=>y.cell? ⟨g,0,none⟩=some (.int .u8 (IntKind.u8.wrap z))) rfl (eY _) (λg=>(dR _ _)) (by rfl) ?_ ?_
   .intro y hy;unfold fT;go_simp;exact⟨eK.alloc _ _,rfl,by rw[bH _ _ _ _ rfl];rfl⟩
   intro gb;refine dy 19 ?_ ?_ ?_ (hC:=((eY _).and (dR _ _)));rotate_left
   .intro y hy;have q:=BO hy.2;unfold fT;go_simp;refine⟨eK.refl _,?_⟩;with_reducible rfl
   go_simp;refine dy 20 ?_ ?_ (dy 25 ?_ ?_ ?_ (hC:=((eY _).and (dR _ _)))) (hC:=((eY _).and (dR _ _)))
   any_goals(intro y hy;unfold fT;go_simp;refine⟨eK.refl _,?_⟩;with_reducible rfl)
   go_simp;have z5:(x1++⟨#[u8 z]⟩++x2:ByteArray).size<=8001:=by rw[b0,b0];show x1.size+1+x2.size<=_;omega
   generalize (x1++⟨#[u8 z]⟩++x2:ByteArray)=x5 at *;refine Du (rs:=[26]) (by kernel_rfl) (by simp) ?_;intro iz ad;simp only[bj]at ad;subst ad;refine yi (λg=>.slice (some ⟨g,0,none⟩) 3 3) (λg y=>(y.cell? ⟨g,0,none⟩=some (.string x4)/\y.cell? ⟨g,1,none⟩=some (.string x3))/\y.cell? ⟨g,2,none⟩=some (.string x5)) rfl ((eY _).and (dR _ _)) (λg=>((dR _ _).and (dR _ _)).and (dR _ _)) (by rfl) ?_ ?_
   .intro y hy;unfold fT;go_simp;exact⟨eK.alloc _ _,rfl,⟨by rw[bH _ _ _ _ rfl];rfl,by rw[bH _ _ _ _ rfl];rfl⟩,by rw[bH _ _ _ _ rfl];rfl⟩
   intro gg;refine dy 27 ?_ ?_ ?_ (hC:=((eY _).and (dR _ _)).and (((dR _ _).and (dR _ _)).and (dR _ _)))
   any_goals(intro y hy;unfold fT;go_simp;refine⟨eK.refl _,?_⟩;with_reducible rfl)
   refine sP (by kernel_rfl) ?_ _;intro w9 hy;have HT:b7 (mR wl w9 b W c X K U B ak):=HT.out.low (.of hy.1.1)
   have a7:b7 (∀j,j<3->∃tb:ByteArray,tb.size<=8001/\w9.cell? ⟨gg,j,none⟩=some (.string tb)):=λj hj=>by
    rcases(by omega:j=0\/j=1\/j=2)with rfl|rfl|rfl
    exact⟨_,by omega,hy.2.1.1⟩;exact⟨_,by omega,hy.2.1.2⟩;exact⟨_,by omega,hy.2.2⟩
   clear hy z1 z2 z3 z4 z5 j1 j2 aG hd;go_simp;go_wp2;generalize wr=wo at *;go_loopw [41] (λjv wx=>∃j:Nat,j<=3/\jv=.int .i64 j/\lq w9 wx) (λj _=>3-(intOf j).toNat)
   case atStart=>exact⟨0,by omega,rfl,lq.refl _⟩
   case round=>
    obtain⟨j,hj,rfl,a8⟩:=hrel;have HL:b7 _:=a8;clear a8;by_cases aO:j<3
    .have a9:(j:Int)<3:=by omega
     obtain⟨tb,ba,a'⟩:=a7.out j aO;have cj:=nB HL.out a';clear a';go_wp2_with fail;refine(TB wr).mono ?_;rintro e bc ⟨b1,G1,G2,rfl,hA,hb⟩;have aA:=bB hb cj;have C:=hA.load tb (by unfold b9;omega);have HC:b7 _:=cj;clear cj hb hA;have aB:=O7 tb.data.toList;rcases aB with h1|⟨l1,h1,h2⟩
     .rw[h1]at C;clear h1;go_wp2_with fail;refine C.mono ?_;clear C aA;rintro e al ⟨rfl,G3,hA,st⟩;have C:=hA.JV 0;rw[show iV [] 0=([],6)from rfl]at C;have HL:b7 (lq w9 al):=HL.out.trans hA.low;clear hA st HC;go_wp2_with fail;refine C.mono ?_;clear C;rintro e aP ⟨rfl,rfl⟩;go_wp2;exact⟨⟨j+1,by omega,by go_num,HL.out⟩,by simp[intOf];omega⟩
     rw[h1]at C;clear h1;go_wp2_with fail;refine C.mono ?_;clear C aA;rintro e al ⟨rfl,G3,hA,st⟩;have C:=hA.JV 0;rw[show iV [l1] 0=(dK l1,0)from rfl,h2]at C;rw[show(⟨tb.data.toList.toArray⟩:ByteArray)=tb from b5 (by simp)]at C;have bd:=nB hA.low HC.out;have HL:b7 (lq w9 al):=HL.out.trans hA.low;clear hA st HC h2;go_wp2_with fail;refine C.mono ?_;clear C;rintro e aP ⟨rfl,rfl⟩;go_wp2;exact⟨⟨j+1,by omega,by go_num,HL.out⟩,by simp[intOf];omega⟩
    obtain rfl:j=3:=by omega
    have a9:¬(3:Int)<3:=by omega
    have HT:b7 (mR wl wr b W c X K U B ak):=HT.out.low HL.out;clear HL a7;go_wp2;exact⟨⟨i+1,ak,by omega,by go_num,a5.out.1,a5.out.2,HT.out⟩,by simp[intOf];omega⟩
  have aC:i=B.length:=by omega
  have aQ:¬(i:Int)<(B.length:Int):=by omega
  have HQ:b7 ((eu xs).Perm (eu B)):=by
   have:=HP.out.2;rw[aC,List.take_length]at this;exact this
  clear aC HP;go_wp2;refine eo HK ?_;clear HK aQ;rcases aE.out with hf|⟨hf,aD⟩
  .subst hf;refine dh.seq (fw λk2 ae y2 hl=>?_);have HL:b7 (lq wl y2):=HT.out.base.trans hl;clear hl HT HQ;go_wp2;refine eo ae ?_;clear ae;refine dh.zB trivial rfl ?_;refine fw λk3 aR y3 hl=>?_;have HL:b7 (lq wl y3):=HL.out.trans hl;clear hl;go_wp2;refine eo aR ?_;exact ap.out _ _ _ rfl HL.out rfl
  subst hf;subst aD;refine dh.seq (fw λk2 ae y2 hl=>?_);have HT:b7 (mR wl y2 b W c X K [] B xs):=HT.out.low hl;clear hl;go_wp2;refine eo ae ?_;clear ae;refine dh.nW trivial rfl (dh.skip ?_);exact FW ⟨rfl,rfl,rfl,rfl,rfl,rfl,rfl,rfl⟩ HX.out HT.out HQ.out λw af hl aS=>ap.out w af [] rfl hl aS
end
variable {e:dp}
def Oo(h:tC e):(rG [e] (0:Nat) (⟨#[]⟩:ByteArray).data.toList (0:Nat) (20:Nat)).1=[fN e]:=by
 have B:rp 0 0 [] e=true:=by simp[rp,oZ,kw,rk,dX]
 have O:=uB (l:=[e]) (S:=[e]) (mode:=0) (dE:=0) (most:=20) (q:=[]) (by simp) (by simp) (by simp[B]);unfold rG;rw[if_neg (by omega),if_pos (by decide)];exact O
def Rh(e:dp):Array Value:=#[.string ⟨e.name.toArray⟩,.string ⟨e.text.toArray⟩,.int .i64 e.du,.int .i64 e.dE,.bool true]
structure AO(w2 w:World)(d Y M:Nat)(cs:Array Value)(ys:List (List dp)):Prop where
 x:∃(H1 H2:Nat->Prop),AW w2 w H1 H2 d [] ys []/\WB w2 w H1 H2 d Y (bf 12 jh)/\¬H1 M/\¬H2 M
 m:w.heap[M]?=some (.cells cs 36 (0,0))
section
variable {w2 w w':World} {d Y M:Nat} {cs:Array Value} {ys:List (List dp)}
def AO.lt(h:AO w2 w d Y M cs ys):M<w.heap.size:=(bo.1 h.m).1
def AO.low(h:AO w2 w d Y M cs ys)(B:lq w w'):AO w2 w' d Y M cs ys:=by
 have:=h.lt;obtain⟨⟨O,U,h1,h2,h3⟩,h4⟩:=h;exact⟨⟨O,U,h1.same B,h2.low B,h3⟩,(B.block _ this).trans h4⟩
def AO.cell(h:AO w2 w d Y M cs ys):w.cell? ⟨Y,0,none⟩=some (.pointer (some ⟨d,0,none⟩)):=by
 obtain⟨⟨O,U,h1,B,h3⟩,h4⟩:=h;rw[dn B.blk,mh];rfl
def AO.at(h:AO w2 w d Y M cs ys)(i:Nat):w.cell? ⟨M,i,none⟩=cs[i]?:=dn h.m i
def AO.load(h:AO w2 w d Y M cs ys)(s:ByteArray)(U:s.size<=b9):b8 prog 25 #[.pointer (some ⟨d,0,none⟩),.string s] w λe w'=>e=.returned (.int .i64 (gC [] ys s.data.toList).1)/\AO w2 w' d Y M cs (gC [] ys s.data.toList).2:=by
 have hm:=h.lt;obtain⟨⟨H1,H2,h1,h2,B⟩,h4⟩:=h;refine(h1.load s U).mono ?_;rintro e w' ⟨rfl,H3,h5,st⟩;refine⟨rfl,⟨H3,H2,h5,h2.step st,λhf=>?_,B.2⟩,(st.block _ hm B.1 B.2).trans h4⟩;rcases st.f1 M hf with O|O
 exact B.1 O;omega
def AO.JV(h:AO w2 w d Y M cs ys)(n:Int):b8 prog 26 #[.pointer (some ⟨d,0,none⟩),.int .i64 n] w λe w'=>e=.returned (.tuple #[.string ⟨(iV ys n).1.toArray⟩,.int .i64 (iV ys n).2])/\w=w':=by
 obtain⟨⟨O,U,B,h2,h3⟩,h4⟩:=h;exact B.JV n
end
section
variable {Z:jj prog} {W0:World} {Mp:Nat->Prop} {fn:b'} {tm:Array Value} {os:List OF} {wl:World} {k:List Item} {ops:Array Oper} {i:Nat} {rest:List Nat} {o:Oper} {tys:Array bD}
def BL(O:WT wl)(h5:5<=wl.heap.size)
  (U:∀(w2:World)(F1 F2:Nat->Prop)(b W:Nat),AW wl w2 F1 F2 b [] [] []->WB wl w2 F1 F2 b W (bf 12 jh)->dh (fg Z W0 Mp) (⟨fn,eP o.dst tm (.pointer (some ⟨W,0,none⟩)),.inRegion ops rest::k⟩::os) w2 [])
  (hi:ops[i]?=some o:=by rfl) (B:bK o (bA ops tm)=true:=by rfl) (ho:o.op=.call {callee:=.value (.func 21),args:=#[],argTypes:=tys}:=by rfl) :
  dh (fg Z W0 Mp) (⟨fn,tm,.inRegion ops (i::rest)::k⟩::os) wl []:=
 dh.qp _ (gP:=Tryz.f21) (c:=ed Tryz.f21) hi B func21 (by kernel_rfl) xl ho (by simp) (by kernel_rfl) (wC hi O h5 U)
end
def V6(c:Code):Code:=match c with
 |.seq _ (.seq _ (.seq _ (.seq _ (.seq _ (.seq _ (.seq _ (.seq _ y)))))))=>y|_=>.skip
section
variable {Z:jj prog} {W0:World} {Mp:Nat->Prop} {wl:World}
def wE{tm:Array Value}{w2 w:World}{b W c X d Y M:Nat}{K:List pw}{buf:List dp}{ss:List (List dp)}{ab:ByteArray}(hc:CF tm W X q0 fr too at' by')(ad:tm[21]?=some (.pointer (some ⟨Y,0,none⟩)))(ae:tm[22]?=some (.pointer (some ⟨M,0,none⟩)))(af:tm[23]?=some (.string ab))(hX:CX wl q0 fr too at' by')
  (hT:mR wl w2 b W c X K buf ss []) (hY:AO w2 w d Y M (Rh e) []) (hE:tC e) (ah:ab.data.toList=[]\/(gq ab.data.toList=true/\ab.data.toList≠e.name)) (au:ab.size<=8)
  (hn:∀(w:World)(ai:Array Value)(k:List Item),k.all iT=true->lq wl w->ai[18]?=some (.bool true)->dh (fg Z W0 Mp) [⟨9,ai,.code .ret::k⟩] w []) :
  dh (fg Z W0 Mp) [⟨9,tm,[.code (V6 (ed f9))]⟩] w []:=by
 obtain⟨g,rfl,hg,h4,aj,h6,h7,h8,ak,al⟩:=hc.lit;replace ad:=hg _ _ ad;replace ae:=hg _ _ ae;replace af:=hg _ _ af;have HX:b7 _:=hX;have av:b7 _:=hn;have HT:b7 _:=hT;have O:b7 _:=hY;have HE:b7 _:=And.intro hE ah;clear hc hg hT hY hE ah hX hn;unfold Am;simp only[h4,aj,h6,h7,h8,ak,al,ad,ae,af];clear h4 aj h6 h7 h8 ak al ad ae af;show dh _ [⟨_,_,[.code (.seq (.region 10 _ false) (.seq (.region 11 _ false) (.seq (.region 12 _ false) (.seq (.region 13 _ false) (.seq (.region 14 _ false) (.seq (.seq (.region 15 _ false) (.cond _ _ .skip)) _))))))]⟩] _ _;refine fw λkk U y B=>?_;have O:b7 (AO w2 y d Y M (Rh e) []):=O.out.low B;have C:=GY e HE.out.1 ab y au;unfold MB at C;have o0:y.cell? ⟨M,0,none⟩=some (.string ⟨e.name.toArray⟩):=O.out.at 0;have o1:y.cell? ⟨M,1,none⟩=some (.string ⟨e.text.toArray⟩):=O.out.at 1;have o2:y.cell? ⟨M,2,none⟩=some (.int .i64 e.du):=O.out.at 2;have o3:y.cell? ⟨M,3,none⟩=some (.int .i64 e.dE):=O.out.at 3;have o4:y.cell? ⟨M,4,none⟩=some (.bool true):=O.out.at 4;clear B;go_wp2_with fail;refine C.mono ?_;clear C o0 o1 o2 o3 o4;rintro en w3 ⟨rfl,hb⟩;have O:b7 (AO w2 w3 d Y M (Rh e) []):=O.out.low (.of hb);obtain⟨pb,ac⟩:∃pb:ByteArray,pb=⟨(dK (Cn e ab.data.toList)).toArray⟩:=⟨_,rfl⟩
 have HP:b7 (pb.data.toList=dK (Cn e ab.data.toList)/\pb.size<=4000):=by
  refine⟨by rw[ac],?_⟩;have:=tM (QH HE.out.1 HE.out.2) (by unfold Cn;split<;>simp);rw[ac];show(dK (Cn e ab.data.toList)).toArray.size<=_;simpa using this
 rw[<-ac];obtain⟨l,am,an,ao⟩:=EZ HE.out.1 HE.out.2;have ag:b7 (gC [] [] pb.data.toList=(0,[l])/\(⟨(dK l).toArray⟩:ByteArray)=pb/\dP [l] []=[e]):=⟨by rw[HP.out.1];exact am,by rw[ac,an],ao⟩;clear hb ac am an ao;go_wp2;refine eo U ?_;clear U kk;refine fw λkk U y B=>?_;have hY:=O.out.low B;have u0:=hY.cell;have C:=hY.load pb (by have:=HP.out.2;unfold b9;omega);rw[ag.out.1]at C;clear B hY;go_wp2_with fail;refine C.mono ?_;clear C u0;rintro en w4 ⟨rfl,hY⟩;have O:b7 _:=hY;clear hY;go_wp2;refine eo U ?_;clear U kk;refine fw λkk U y B=>?_;have O:b7 (AO w2 y d Y M (Rh e) [l]):=O.out.low B;have u0:=O.out.cell;have C:=O.out.JV 0;rw[show iV [l] 0=(dK l,0)from rfl,ag.out.2.1]at C;clear B;go_wp2_with fail;refine C.mono ?_;clear C u0;rintro en w5 ⟨rfl,rfl⟩;go_wp2;refine eo U ?_;clear U kk;refine dh.sr λkk U=>?_
 (iterate 3 (refine dI ?_;go_simp));refine yC rfl (by rfl) (by kernel_rfl) λτ=>?_;have q:(tp y τ).cell? _=_:=O.out.cell;unfold fT;go_simp;simp only[iG];refine dh.rR τ ?_;clear q;obtain⟨⟨H1,H2,hA,hB,aw,ax⟩,hm⟩:=O.out;refine AW.Tw (i:=4) 0 0 20 ⟨#[]⟩ [e] hA (br HX.out.h5 HT.out.base.size) (by rw[ag.out.2.2]) (by simp) (by simp[HE.out.1.1]) (nk ⟨HX.out.UK,HX.out.h5⟩ (HT.out.base.trans hA.low)) (by decide) λw6 u B ap hk=>?_;have aa:b7 (lq w2 w6):=ap.low;have aq:b7 (Kept w6 H1 H2 u [fN e]):=by rw[<-Oo HE.out.1];exact hk
 have HM:b7 (w6.heap[M]?=some (.cells (Rh e) 36 (0,0))):=(B.block _ (bo.1 hm).1).trans hm;clear B hA hB aw ax hm ap hk O;rw[fv];go_simp
 (iterate 5 (refine dI ?_;go_simp));refine dh.ie U ?_;clear U kk;refine fw λkk U y B=>?_;have hM:=(B.block _ (bo.1 HM.out).1).trans HM.out;have o0:y.cell? ⟨M,0,none⟩=some (.string ⟨e.name.toArray⟩):=dn hM 0;have o1:y.cell? ⟨M,1,none⟩=some (.string ⟨e.text.toArray⟩):=dn hM 1;have o2:y.cell? ⟨M,2,none⟩=some (.int .i64 e.du):=dn hM 2;have o3:y.cell? ⟨M,3,none⟩=some (.int .i64 e.dE):=dn hM 3;have o4:y.cell? ⟨M,4,none⟩=some (.bool true):=dn hM 4;have ay:=uL HE.out.1;have C:=MP e true y (by omega) (by omega) HE.out.1.2.2.2.2.1 HE.out.1.2.2.2.2.2.1;unfold MB at C;have ar:b7 (Kept y H1 H2 u [fN e]):=aq.out.step (St.same B);have aa:b7 (lq w2 y):=aa.out.trans B;clear B hM HM aq ay;go_wp2_with fail;refine C.mono ?_;clear C o0 o1 o2 o3 o4;rintro en w7 ⟨rfl,hb⟩;have C:=Td (fN e) ⟨#[]⟩ (ar.out.step (St.same (.of hb)));have aa:b7 (lq w2 w7):=aa.out.trans (.of hb);clear hb ar;go_wp2_with fail;refine C.mono ?_;clear C;rintro en w8 ⟨rfl,rfl⟩;go_wp2;refine eo U ?_;clear U kk;refine dh.seq (fw λkk U y B=>?_);have aa:b7 (lq w2 y):=aa.out.trans B;clear B;go_wp2;refine eo U ?_;clear U kk;refine dh.nW trivial rfl (dh.skip ?_);exact Gv ⟨rfl,rfl,rfl,rfl,rfl,rfl,rfl,rfl⟩ HX.out (HT.out.low aa.out) av.out
end
section
variable {Z:jj prog} {W0:World} {Mp:Nat->Prop} {wl:World}
def Dn{la ta:Option Addr}{ls:List Raw}{rs:List Int}{lc rc:Nat}{own:Raw}{gn:Int}(hW:WT wl)(h5:5<=wl.heap.size)(ad:tn wl la ls)(hT:Bc wl ta rs)(ae:ls.length<=lc)(af:rs.length<=rc)(ag:ls.length<=9223372036854775807)(ah:rs.length<=9223372036854775807)(ab:own.Ok)
  (ai : -9223372036854775808<=gn) (aj:gn<=9223372036854775807) (hX:CX wl q0 fr too at' by')
  (hn:∀(w:World)(ak:Array Value)(k:List Item),k.all iT=true->lq wl w->ak[18]?=some (.bool true)->dh (fg Z W0 Mp) [⟨9,ak,.code .ret::k⟩] w []) :
  dh (fg Z W0 Mp) [⟨9,#[.slice la ls.length lc,.slice ta rs.length rc,ki own,.int .i64 gn,.int .i64 q0,.int .i64 fr,.int .i64 too,.int .i64 at',.int .i64 by',bM,bM,bM,bM,bM,bM,bM,bM,bM,bM,bM,bM,bM,bM,bM,bM,bM,bM,bM,bM,bM,bM,bM,bM,bM,bM,bM,bM,bM,bM,bM,bM,bM,bM,bM,bM,bM,bM,bM,bM,bM,bM,bM,bM,bM,bM,bM,bM,bM,bM,bM,bM,bM,bM,bM,bM,bM,bM,bM,bM,bM,bM,bM,bM,bM,bM,bM,bM,bM,bM,bM,bM,bM,bM,bM,bM,bM,bM,bM,bM,bM,bM,bM,bM,bM,bM,bM,bM,bM,bM,bM,bM,bM,bM,bM,bM,bM,bM,bM,bM,bM,bM,bM,bM,bM,bM,bM,bM,bM,bM,bM,bM,bM,bM,bM,bM,bM,bM,bM,bM,bM,bM,bM,bM,bM,bM,bM,bM,bM,bM,bM,bM,bM,bM,bM,bM,bM,bM,bM,bM,bM,bM,bM,bM,bM,bM,bM,bM,bM,bM,bM,bM,bM,bM,bM,bM,bM,bM,bM,bM,bM,bM,bM,bM,bM,bM,bM,bM,bM,bM,bM,bM,bM,bM,bM,bM,bM,bM,bM,bM,bM,bM,bM,bM,bM,bM,bM,bM,bM,bM,bM,bM,bM,bM,bM,bM,bM,bM,bM,bM,bM,bM,bM,bM,bM,bM,bM,bM,bM,bM,bM,bM,bM,bM,bM,bM,bM,bM,bM,bM,bM,bM,bM,bM,bM,bM,bM,bM,bM,bM,bM,bM,bM,bM,bM,bM,bM,bM,bM,bM,bM,bM,bM,bM,bM,bM,bM,bM,bM,bM,bM,bM,bM,bM,bM,bM,bM,bM,bM,bM,bM,bM,bM,bM,bM,bM,bM,bM,bM,bM,bM,bM,bM,bM,bM,bM,bM,bM,bM,bM,bM,bM,bM,bM,bM,bM,bM,bM,bM,bM,bM,bM,bM,bM,bM,bM,bM,bM,bM,bM,bM,bM,bM,bM,bM,bM,bM,bM,bM,bM,bM,bM,bM,bM,bM,bM,bM,bM,bM,bM,bM,bM,bM,bM,bM,bM],[.code (ed f9)]⟩] wl []:=by
 have HR:b7 _:=And.intro hW (And.intro h5 (And.intro ad (And.intro hT (And.intro ae (And.intro af (And.intro ag (And.intro ah ab)))))));have HX:b7 _:=hX;have al:b7 _:=hn;have HG:b7 _:=And.intro ai aj;clear hW h5 ad hT ae af ag ah ab ai aj hX hn;show dh _ [⟨_,_,[.code (.seq (.region 0 _ false) (.seq (.region 1 _ false) (.seq (.region 2 _ false) (.seq (.region 3 _ false) (.seq (.seq (.region 4 _ false) (.cond _ _ .skip)) (.seq (.region 6 _ false) (.seq (.region 7 _ false) (.seq (.seq (.region 8 _ false) (.cond _ (.region 9 _ false) .skip)) (.seq (.region 10 _ false) (.seq (.region 11 _ false) (.seq (.region 12 _ false) (.seq (.region 13 _ false) (.seq (.region 14 _ false) (.seq (.seq (.region 15 _ false) (.cond _ _ .skip)) _))))))))))))))]⟩] _ _;obtain⟨oN,oT,oW,oG⟩:=own;unfold ki;simp only;refine fw λkk B y O=>?_;have am:b7 _:=O;clear O;go_wp2;refine eo B ?_;clear B kk;have HO:b7 ((y.alloc (.cells #[.int .i64 oN,.int .i64 oT,.int .i64 oW,.int .i64 oG] 48)).heap[y.heap.size]?=some (.cells #[.int .i64 oN,.int .i64 oT,.int .i64 oW,.int .i64 oG] 48 (0,0))):=qu _ _;have HL:b7 (lq wl (y.alloc (.cells #[.int .i64 oN,.int .i64 oT,.int .i64 oW,.int .i64 oG] 48))):=am.out.trans (.of (eK.alloc _ _));generalize y.alloc (.cells #[.int .i64 oN,.int .i64 oT,.int .i64 oW,.int .i64 oG] 48)=y0 at *;generalize y.heap.size=OB at *;clear am;refine dh.sr λkk B=>?_
 (iterate 2 (refine dI ?_;go_simp));refine TN.fill (i:=2) la ta ls rs lc rc (xY HR.out.1 HR.out.2.1 HL.out) (br HR.out.2.1 HL.out.size) (HR.out.2.2.1.low HL.out) (HR.out.2.2.2.1.low HL.out) HR.out.2.2.2.2.1 HR.out.2.2.2.2.2.1 HR.out.2.2.2.2.2.2.1 HR.out.2.2.2.2.2.2.2.1 λw1 b W O he=>?_;obtain⟨av,F1,F2,buf,ss,hA,hB,hS⟩:=he;have HA:b7 (AW wl w1 F1 F2 b buf ss []):=hA.base HL.out;have HB:b7 (WB wl w1 F1 F2 b W (yP ls)):=⟨hB.blk,hB.a1,hB.a2,br HL.out.size hB.hi⟩;have HS:b7 _:=hS;have HO:b7 (w1.heap[OB]?=some (.cells #[.int .i64 oN,.int .i64 oT,.int .i64 oW,.int .i64 oG] 48 (0,0))):=(O.block _ (bo.1 HO.out).1).trans HO.out;have HL:b7 (lq wl w1):=HL.out.trans O;clear O av hA hB hS;rw[fv];go_simp
 (refine dI ?_;go_simp);refine dh.ie B ?_;clear B kk;refine dh.sr λkk B=>?_;refine BL (i:=0) (xY HR.out.1 HR.out.2.1 HL.out) (br HR.out.2.1 HL.out.size) λw2 G1 G2 c X aa an=>?_;have HO:b7 (w2.heap[OB]?=some (.cells #[.int .i64 oN,.int .i64 oT,.int .i64 oW,.int .i64 oG] 48 (0,0))):=(aa.low.block _ (bo.1 HO.out).1).trans HO.out;have HL:b7 (lq wl w2):=HL.out.trans aa.low;have HT:b7 (mR wl w2 b W c X (yP ls) buf ss []):=mR.of HA.out HB.out HS.out aa an;clear aa an HA HB HS;rw[fv];go_simp
 (refine dI ?_;go_simp);refine dh.ie B ?_;clear B kk;refine dh.sr λkk B=>?_;refine BL (i:=0) (xY HR.out.1 HR.out.2.1 HL.out) (br HR.out.2.1 HL.out.size) λw3 H1 H2 d Y ac ao=>?_;have HO:b7 (w3.heap[OB]?=some (.cells #[.int .i64 oN,.int .i64 oT,.int .i64 oW,.int .i64 oG] 48 (0,0))):=(ac.low.block _ (bo.1 HO.out).1).trans HO.out;have U:b7 (AW w2 w3 H1 H2 d [] [] []/\WB w2 w3 H1 H2 d Y (bf 12 jh)):=⟨ac,ao⟩;have H5:b7 (5<=w2.heap.size):=br HR.out.2.1 HL.out.size;clear ac ao;rw[fv];go_simp
 (refine dI ?_;go_simp);refine dh.ie B ?_;clear B kk;refine dh.seq (fw λkk B y4 O=>?_);have U:b7 (AW w2 y4 H1 H2 d [] [] []/\WB w2 y4 H1 H2 d Y (bf 12 jh)):=⟨U.out.1.same O,U.out.2.low O⟩;have HO:b7 (y4.heap[OB]?=some (.cells #[.int .i64 oN,.int .i64 oT,.int .i64 oW,.int .i64 oG] 48 (0,0))):=(O.block _ (bo.1 HO.out).1).trans HO.out;clear O;go_wp2;refine eo B ?_;clear B kk;refine dh.nW trivial rfl (dh.skip ?_);obtain⟨e,he⟩:∃e:dp,e=AU (kC ⟨oN,oT,oW,oG⟩):=⟨_,rfl⟩;have ap:e.name=tr (pk oN 12):=by rw[he];rfl
 have HE:b7 (tC e/\e.name.length=1):=by
  refine⟨?_,by rw[ap];rfl⟩;obtain⟨x1,x2,x3⟩:=KX (kD oT 258 (by omega));have hg:=kD oG 256 (by omega);rw[he];refine⟨rfl,FE (kD oN 12 (by omega)),x1,x2,?_,?_,?_,?_⟩;show(0:Int)<=((oW.natAbs % 1000001:Nat):Int);omega;show((oW.natAbs % 1000001:Nat):Int)<=1000000;omega;show(0:Int)<=((pk oG 256:Nat):Int);omega;show((pk oG 256:Nat):Int)<=255;omega
 have HC:b7 (∀y,b8 prog 22 #[.agg #[.int .i64 oN,.int .i64 oT,.int .i64 oW,.int .i64 oG]] y λen w'=>en=.returned (.agg #[.string ⟨e.name.toArray⟩,.string ⟨e.text.toArray⟩,.int .i64 e.du,.int .i64 e.dE,.bool true])/\eK y w'):=λy=>by
  rw[he];exact zq ⟨oN,oT,oW,oG⟩ HR.out.2.2.2.2.2.2.2.2 y
 clear he ap;refine fw λkk B y5 O=>?_;have U:b7 (AW w2 y5 H1 H2 d [] [] []/\WB w2 y5 H1 H2 d Y (bf 12 jh)):=⟨U.out.1.same O,U.out.2.low O⟩;have hO:=(O.block _ (bo.1 HO.out).1).trans HO.out;have o0:y5.cell? ⟨OB,0,none⟩=some (.int .i64 oN):=by rw[dn hO];rfl
 have o1:y5.cell? ⟨OB,1,none⟩=some (.int .i64 oT):=by rw[dn hO];rfl
 have o2:y5.cell? ⟨OB,2,none⟩=some (.int .i64 oW):=by rw[dn hO];rfl
 have o3:y5.cell? ⟨OB,3,none⟩=some (.int .i64 oG):=by rw[dn hO];rfl
 clear O HO hO;go_wp2_with fail;refine(HC.out _).mono ?_;clear HC o0 o1 o2 o3;rintro en w6 ⟨rfl,hb⟩;have U:b7 (AW w2 w6 H1 H2 d [] [] []/\WB w2 w6 H1 H2 d Y (bf 12 jh)):=⟨U.out.1.same (.of hb),U.out.2.low (.of hb)⟩;clear hb;go_wp2;have U:b7 (AO w2 (w6.alloc (.cells #[.string ⟨e.name.toArray⟩,.string ⟨e.text.toArray⟩,.int .i64 e.du,.int .i64 e.dE,.bool true] 36)) d Y w6.heap.size (Rh e) []):=⟨⟨H1,H2,U.out.1.same (.of (eK.alloc _ _)),U.out.2.low (.of (eK.alloc _ _)),λh=>bs _ (U.out.1.j.Oh _ h),λh=>bs _ (U.out.1.j.P8 _ h)⟩,qu _ _⟩;generalize w6.alloc (.cells #[.string ⟨e.name.toArray⟩,.string ⟨e.text.toArray⟩,.int .i64 e.du,.int .i64 e.dE,.bool true] 36)=w7 at *;generalize w6.heap.size=M at *;refine eo B ?_;clear B kk;refine dh.sr λkk B=>?_
 (refine dI ?_;go_simp);refine dh.ie B ?_;clear B kk;by_cases hz:gn.tmod 2=0
 .obtain⟨dq,ay⟩:∃dq,gn.tdiv 2=dq:=⟨_,rfl⟩
  have aq : -9223372036854775808<=dq/\dq<=9223372036854775807:=by
   have hg:=HG.out;by_cases h0:0<=gn;have:=bE (a:=gn) (b:=2) h0;omega;have:=bE (a:=-gn) (b:=2) (by omega);rw[bF]at this;omega
  have az:IntKind.i64.wrap dq=dq:=by simp only[bG];omega
  refine dh.seq (fw λkk B y8 O=>?_);have U:b7 (AO w2 y8 d Y M (Rh e) []):=U.out.low O;clear O;go_wp2;refine eo B ?_;clear B kk;refine dh.zB trivial rfl ?_;refine kY λkk B=>?_;refine N2 (by kernel_rfl) (by rw[B.out];rfl) λy9 hy ar=>?_;have U:b7 (AO w2 y9 d Y M (Rh e) []):=U.out.low (TA hy ar);have C:=vR dq y9 aq.1 aq.2;have aw:=kD dq 12 (by omega);clear hy ar;go_wp2_with fail;refine C.mono ?_;clear C;rintro en w9 ⟨rfl,rfl⟩
  have au:b7 ((gq ((⟨#[122]⟩:ByteArray)++⟨(tr (pk dq 12)).toArray⟩).data.toList=true/\((⟨#[122]⟩:ByteArray)++⟨(tr (pk dq 12)).toArray⟩).data.toList≠e.name)/\((⟨#[122]⟩:ByteArray)++⟨(tr (pk dq 12)).toArray⟩).size<=8):=by
   have e1:((⟨#[122]⟩:ByteArray)++⟨(tr (pk dq 12)).toArray⟩).data.toList=122::tr (pk dq 12):=by simp[b3]
   rw[e1];refine⟨⟨?_,λh=>?_⟩,by rw[b0];show 1+1<=8;omega⟩;have:=FE aw;simp only[gq,tr,List.all_cons,List.all_nil,Bool.and_true,List.length_cons,List.length_nil,bL]at this⊢;exact⟨⟨⟨by decide,this.1.1⟩,rfl⟩,rfl⟩;have:=congrArg List.length h;rw[HE.out.2]at this;simp[tr]at this
  go_wp2;refine eo B ?_;clear B kk;exact wE ⟨rfl,rfl,rfl,rfl,rfl,rfl,rfl,rfl⟩ rfl rfl rfl HX.out HT.out U.out HE.out.1 (.inr au.out.1) au.out.2 al.out
 have ax:(gn.tmod 2==0)=false:=by rw[beq_eq_false_iff_ne];exact hz
 refine dh.seq (fw λkk B y8 O=>?_);have U:b7 (AO w2 y8 d Y M (Rh e) []):=U.out.low O;clear O;go_wp2;refine eo B ?_;clear B kk;refine dh.nW trivial (by first|rfl|simp[iW,ax]) (dh.skip ?_);exact wE ⟨rfl,rfl,rfl,rfl,rfl,rfl,rfl,rfl⟩ rfl rfl rfl HX.out HT.out U.out HE.out.1 (.inl rfl) (by decide) al.out
end
end
end Go.Proofs.YtocbogeoffeolaaGreatDoor
